import PyProof.Rows.All
import KE.KDictOf
import KE.KFromBytes
import KE.KIntText
import KE.KLam
import KE.KNestM
import KE.KPairRows
import KE.KRevIter
import KE.KRevSl
import KE.KSortTup
import KE.KTryMore
import KE.RegKIsAll
import Wide.FinOn
import Lean
import PySem.Challenge.RW_coverroll_k53_whole_any_order
set_option Elab.async false
set_option linter.all false
set_option compiler.extract_closed false
set_option maxRecDepth 100000
set_option maxHeartbeats 4000000
namespace PySem.W.Fast
def tw18038640877705228778:=0
def tw6567457704241270634:=0
def tw2192840259226316331:=0
def tw5612423516500696843:=0
def tw16778735718107572664:=0
def tw9489096096137578776:=0
def tw908564191761032184:=0
def tw2317543710902767192:=0
def tw9443142507090116473:=0
def tw6083613934741652601:=0
def tw14018988438451676526:=0
def tw18052399480826487790:=0
def tw7829059996389462223:=0
def tw5666884858486800093:=0
def tw5963505536132127677:=0
def tw5326917870977701821:=0
def tw1110229715711951901:=0
def tw5155512154380614066:=0
def tw5391765789339640818:=0
def tw4282464550391483762:=0
def tw12083663476367502355:=0
def tw13409972992873042067:=0
def tw13352547651720544979:=0
def tw7605120973882094080:=0
def tw10475529453001189568:=0
def tw16011124396738271616:=0
def tw9258005697141611200:=0
def tw7125522141915758176:=0
def tw16951835875482729409:=0
def tw1955736342088775126:=0
def tw1011409565468644695:=0
def tw17573957514286909892:=0
def tw5668656671049405380:=0
def tw1670487213761406309:=0
def tw11685225287105237317:=0
def tw583227100644123429:=0
def tw7389897778420232282:=0
def tw1512679586208202267:=0
def tw9080747879513722139:=0
def tw424664108986553339:=0
def tw12203700260895728507:=0
def tw4782573109646394280:=0
def tw15450736416319941544:=0
def tw18410273408456847273:=0
def tw11179929996478247017:=0
def tw7607840829328444542:=0
def tw8394770320258787486:=0
def tw5373333237893449151:=0
def tw14364099531810254847:=0
def tw13425539521096267679:=0
def tw1289396397418737740:=0
def tw9119475517609711757:=0
def tw14982859794998224333:=0
def tw15436333043466954509:=0
def tw4972231971422848834:=0
def tw5479078888410102146:=0
def tw5833861944196632226:=0
def tw499684982812731586:=0
def tw2819708860058890946:=0
def tw10500922239591442371:=0
def tw9852663093426402275:=0
def tw1379585763018565219:=0
def tw16091700278439641328:=0
def tw12784503271092183280:=0
def tw10091302918049979313:=0
def tw13292252899602133937:=0
def tw17477497269093466161:=0
def tw16449612654312982438:=0
def tw8720794421818094694:=0
def tw7049989980961152263:=0
def tw4328721723690341959:=0
def tw16893253417154613300:=0
def tw323703341132276532:=0
def tw6164162000744266837:=0
def tw3325001227280747221:=0
def tw10646809980405491253:=0
def tw4843735873085217247:=0
def tw14059632769576047810:=0
def tw7926678316137805997:=0
def tw6003132952468488711:=0
def tw17920187586301188108:=0
def tw339326578033528384:=0
def tw3039530764133643196:=0
def tw8897677562004897693:=0
def tw5906424465834675853:=0
def tw2724277797975527464:=0
def tw16334214670595713759:=0
def tw7846719345922741240:=0
def tw15961195969104483768:=0
def tw9871619319375901259:=0
def tw11879810229937518976:=0
def tw4786668084822393152:=0
def tw5401991492582856491:=0
def tw8477355759647904487:=0
def tw3866756244048103776:=0
def tw12126037239891872670:=0
def tw11039493769464959548:=0
def tw12722378053246259150:=0
def tw739938259779889492:=0
def tw2538224420378658085:=0
def tw221598120655739471:=0
def tw6257222438724774868:=0
def tw13273948903878238065:=0
def tw4377185564125227438:=0
def tw13438703566474148843:=0
def tw6377526283948174053:=0
def tw6552676713145908199:=0
def tw17185618186616711863:=0
def tw8683719362240024633:=0
def tw1253959325900565705:=0
def tw2894738631058296140:=0
def tw8930803505590695601:=0
def tw18110037826177472931:=0
def tw16579514485948153094:=0
def tw2521214550217656202:=0
def tw13561760090786818471:=0
def tw3115113580988780857:=0
def tw4820875186642841294:=0
def tw3311404074805714035:=0
def tw16291160087755803693:=0
def tw4652937414697590690:=0
def tw16091753146329419946:=0
def tw5453575662544380029:=0
def tw17648437352257774248:=0
def tw172465279627469086:=0
def tw16960384383413566122:=0
def tw16486716010695809529:=0
def tw7997913023776555876:=0
def tw10463796860526389497:=0
def tw954798737026269442:=0
def tw17564548836282164952:=0
def tw10420715087564583647:=0
def tw17620953024694853083:=0
def tw418959871277135092:=0
def tw12380098339025552998:=0
def tw12615528811357689329:=0
def tw12047534555458574863:=0
def tw10056994957671955850:=0
def tw10473218517455407484:=0
def tw5044722134637142153:=0
def tw6756886210381567401:=0
def tw11355708644011950229:=0
def tw13046418769328530671:=0
def tw13232392144045591681:=0
def tw6477104163499291578:=0
def tw7236022515893068588:=0
def tw15182579265580590379:=0
def tw14971710911021790208:=0
def tw14467675513876145137:=0
def tw6291610207460502312:=0
def tw7281069851489638262:=0
def tw1046882091970257470:=0
def tw11891589860478805155:=0
def tw3960027931792635045:=0
def tw14872571069377646076:=0
def tw11844007328608977726:=0
def tw2791489330745782998:=0
def tw16690309581270310610:=0
def tw9516772905151249769:=0
def tw3386532296307432990:=0
def tw16005004880381020969:=0
def tw13237121417849651635:=0
def tw17155322964212436639:=0
def tw14601114201235930454:=0
def tw18398137346580348089:=0
def tw716088292713363442:=0
def tw7156101258476839333:=0
def tw11286539137058674218:=0
def tw11005781992141056632:=0
def tw17519930715853531153:=0
def tw7954184353103945185:=0
def tw10540727608797716925:=0
def tw6006407164251304330:=0
def tw192444028306859919:=0
def tw621756006265176292:=0
def tw6526097272131919288:=0
def tw2623541908751040075:=0
def tw14273373820693200601:=0
def tw58952035730034395:=0
def tw16645824443820289715:=0
def tw6555192591448194429:=0
def tw8182578957910095332:=0
def tw9030404694204863440:=0
def tw14847875286938415020:=0
def tw18120322483139640784:=0
def tw15032996228941700847:=0
def tw17129760656486887810:=0
def tw16127633065809066193:=0
def tw1036644365927923924:=0
def tw5605748220179417542:=0
def tw17245154251883230432:=0
def tw15575128385397211348:=0
def tw8094539699161225385:=0
def tw15466688023982823189:=0
def tw4043721522430087264:=0
def tw14092426192794410714:=0
def tw1637372163898132965:=0
def tw5712963179531774953:=0
def tw11690323816522581049:=0
def tw11905458141705006878:=0
def tw9118144869834662096:=0
def tw10210773388569255183:=0
def tw2941662088780194008:=0
def tw12032891864238639668:=0
def tw12298743000437498734:=0
def tw4972119006509027255:=0
def tw17202958312640131545:=0
def tw8982920455889449548:=0
def tw18130941170333665568:=0
def tw2972943621220283488:=0
def tw1892089141663191040:=0
def tw10879815896789650947:=0
def tw13624484109778744054:=0
def tw4689948360515724001:=0
def tw8740355763244494044:=0
def tw7923373146793250460:=0
def tw5276505940790998381:=0
def tw7606577823320479011:=0
def tw17960087009617285198:=0
def tw6722213971498945468:=0
def tw2272219606010078263:=0
def tw4586954038332712844:=0
def tw18027412891837084721:=0
def tw7685183817917028602:=0
def tw14073584436252400813:=0
def tw10187148492726576683:=0
def tw16541096339724872699:=0
def tw6050425888830202364:=0
def tw663519724123049436:=0
def tw17761426840083431626:=0
def tw2830227249277326528:=0
def tw16944778298943225495:=0
def tw14527827988580698117:=0
def tw11898942582339220267:=0
def tw12869223934428972718:=0
def tw9270304943420517185:=0
def tw4931227839211522586:=0
def tw8846190916809162105:=0
def tw6302983219421231284:=0
def tw3952572958924149172:=0
def tw11133307990282927060:=0
def tw845943898359349821:=0
def tw5224355828841539479:=0
def tw17218619746053523010:=0
def tw13649450999386777211:=0
def tw1405516233924126987:=0
def tw13486233370414005653:=0
def tw17895093092318918318:=0
def tw2883161010149237596:=0
def tw3967257337018724261:=0
def tw2931777771630284297:=0
def tw9101579066363949308:=0
def tw14225616556521291334:=0
def tw3848428173640460725:=0
def tw9982402058594011828:=0
def tw7732700994033569826:=0
def tw4394606025650775456:=0
def tw13201628042983194470:=0
def tw3121030984838830965:=0
def tw3452249868089261720:=0
def tw10086431876713111693:=0
def tw8509028834496931535:=0
def tw1978786213264293887:=0
def tw5071123641552218347:=0
def tw1774728445126265510:=0
def tw7101240653017085741:=0
def tw5908558313837506538:=0
def tw11059154111096759430:=0
def tw15922832720706168892:=0
def tw17451663313682536330:=0
def tw17253805311087152075:=0
def tw14761647948222432026:=0
def tw7236135156953511894:=0
def tw15738656331467749482:=0
def tw1427333708631511531:=0
def tw5885604764343006496:=0
def tw5265440385169348854:=0
def tw13786249412893238772:=0
def tw5605642414104832613:=0
def tw16507346353766419908:=0
def tw6673644497605250123:=0
def tw7961238413470913924:=0
def tw1536670915872208933:=0
def tw14723959402011904499:=0
def tw17224918197122097923:=0
def tw7387679234684447065:=0
def tw15460426963113565986:=0
def tw8039409447904224704:=0
def tw9960001039444608755:=0
def tw15199629410845056916:=0
def tw3264589352787361241:=0
def tw8728398981637145812:=0
def tw18419506248791054799:=0
def tw7999445416610841108:=0
def tw17509036556313335116:=0
def tw14199928937712544282:=0
def tw15291831590780212181:=0
def tw1096408017811208160:=0
def tw4532785022880813705:=0
def tw7344760456682712437:=0
def tw1667916302487835789:=0
def tw13145402393715164016:=0
def tw14892169176718196398:=0
def tw2415419795348378021:=0
def tw11321506132657434682:=0
def tw10757576229336110667:=0
def tw8891550311461321815:=0
def tw15824497166356650968:=0
def tw16339162991828268179:=0
def tw14113587549311511149:=0
def tw13298940771964418292:=0
def tw5144339394478018266:=0
def tw8901747926024923178:=0
def tw12170767295125243450:=0
def tw4313145191719978490:=0
def tw774924271225585615:=0
def tw6390675184029620852:=0
def tw13078824660630125960:=0
def tw13121271622915400725:=0
def tw8508416130840266038:=0
def tw4762481507490605852:=0
def tw15871382454566715940:=0
def tw15289314485750417485:=0
def tw9556475962853062855:=0
def tw14088814081087966400:=0
def tw12440507997238119218:=0
def tw2061993909059958776:=0
def tw17389733340520351635:=0
def tw11417387426043110976:=0
def tw9712894434956820533:=0
def tw16938548113726208122:=0
def tw2955262340687626500:=0
def tw9626100400403564648:=0
def tw9608209461273424926:=0
def tw6277719451652421320:=0
def tw18254489923398484489:=0
def tw16422953681888207292:=0
def tw16389030046817275196:=0
def tw17208673653590744783:=0
def tw1380931182871321036:=0
def tw17719639558516271834:=0
def tw711287746481523500:=0
def tw6012740434044557242:=0
def tw14426316862566223222:=0
def tw7959520236912699749:=0
def tw4446039404320200987:=0
def tw6525882361727267334:=0
def tw3992473099028131690:=0
def tw1987407959592307435:=0
def tw14476194528863991464:=0
def tw16497288863742803721:=0
def tw16129432239093408814:=0
def tw820998249887139796:=0
def tw198050329920173978:=0
def tw1102238615601987514:=0
def tw10478977356578460864:=0
def tw8384477551834796106:=0
def tw2703438355022561619:=0
def tw15971737174869404711:=0
def tw12494464808171515860:=0
def tw969987834450375770:=0
def tw230583474754056860:=0
def tw15371658957973246701:=0
def tw16793468463222971946:=0
def tw5366421712786468654:=0
def tw8873155150442431927:=0
def tw8704530113062524480:=0
def tw11957914209369511367:=0
def tw16123346729006796874:=0
def tw15927787442464371276:=0
def tw12615164132833783754:=0
def tw17197963055752794626:=0
def tw14306928251754917073:=0
def tw13220134125715312926:=0
def tw10921973554013450324:=0
def tw17992362699573425567:=0
def tw5985990355570554057:=0
def tw4949751917476881494:=0
def tw13805474604698283413:=0
def tw12033544124843840308:=0
def tw5448456701053104950:=0
def tw7309058893848787604:=0
def tw6218395078256702473:=0
def tw17179006430948665083:=0
def tw4762227575141459467:=0
def tw16261696745975105569:=0
def tw15381095588290117162:=0
def tw14912601484486631373:=0
def tw13484702345396384566:=0
def tw1287589724729057725:=0
def tw16851883546883598094:=0
def tw706610265176445956:=0
def tw1518562712231065975:=0
def tw13592514102830651304:=0
def tw12049005166079686381:=0
def tw9755734542312656550:=0
def tw7710338499209023064:=0
def tw16568849873871348461:=0
def tw14344443549228236918:=0
def tw12901403390593518634:=0
def tw16888887923560555308:=0
def tw12589011568005971691:=0
def tw1212010748466386238:=0
def tw30792229012918566:=0
def tw2689350892875998292:=0
def tw16161048482843453610:=0
def tw1423652650940061059:=0
def tw6180835948386608862:=0
def tw3199315099144793661:=0
def tw6886494819286452827:=0
def tw9183200919620180355:=0
def tw3138245122786950605:=0
def tw12405245422479135665:=0
def tw4274819122507362760:=0
def tw874539814372239401:=0
def tw8653647380186745002:=0
def tw5708036331671584601:=0
def tw420209382286371496:=0
def tw6151859377838897828:=0
def tw10749526937860729864:=0
def tw9934339077767620155:=0
def tw4757223555011738901:=0
def tw2784275450335973486:=0
def tw13596812744294260906:=0
def tw16418604708062958537:=0
def tw3191895457868414774:=0
def tw15798189259175055386:=0
def tw10808421804679532271:=0
def tw4473971237951887032:=0
def tw409079623020668053:=0
def tw17647363890249921108:=0
def tw1039465903233937269:=0
def tw2406297788643679569:=0
def tw11931110886353366686:=0
def tw11513531258414869023:=0
def tw9088339126920866283:=0
def tw12033581325189542577:=0
def tw5428271505581911842:=0
def tw2271243894413483997:=0
def tw2130023378501405183:=0
def tw15562750477449582258:=0
def tw12641447306306811987:=0
def tw11578906379909958617:=0
def tw5952293938774647697:=0
def tw8758060637166854136:=0
def tw6017874668993715550:=0
def tw2472616908608079259:=0
def tw17102782870317816933:=0
def tw14397672016435214989:=0
def tw1032931533954937598:=0
def tw10195430044542396478:=0
def tw9795553522386413284:=0
def tw9288531583373520170:=0
def tw13077875868778648403:=0
def tw5944693781641039624:=0
def tw2413370138327990507:=0
def tw2170496661895327667:=0
def tw8785081227647883273:=0
def tw6184817973012695191:=0
def tw13983022565446044713:=0
def tw12685504084601272887:=0
def tw13030293036925258072:=0
def tw8533037264791768924:=0
def tw523745754880708786:=0
def tw1174613688301939889:=0
def tw4233332205111659345:=0
def tw15833647848872288460:=0
def tw15578514964484152228:=0
def tw1533570113636491495:=0
def tw1300348085558509265:=0
def tw4886309576396342198:=0
def tw14481335219630199221:=0
def tw12678601708639900520:=0
def tw9686596588270206168:=0
def tw4652081660681234896:=0
def tw3487762899552537535:=0
def tw7557971675578098897:=0
def tw4899433588847518360:=0
def tw7131647558838798933:=0
def tw5098314871713060597:=0
def tw11876392759321008006:=0
def tw3708145779815293425:=0
def tw2908396153251007737:=0
def tw2893279510360141994:=0
def tw10569501225276599318:=0
def tw202599135071078550:=0
def tw15083254879170478255:=0
def tw13220477632723388054:=0
def tw13317134042723671892:=0
def tw17944923499492560365:=0
def tw11663326380973460535:=0
def tw7587730446103985258:=0
def tw14567457742545940116:=0
def tw2061884946228206008:=0
def tw14116653562426478452:=0
def tw7431143684568113957:=0
def tw3674289196195664750:=0
def tw14847050527197374505:=0
def tw15850786190681750778:=0
def tw10999617644551949388:=0
def tw18210870004473324402:=0
def tw8968729910204253830:=0
def tw8477883701041000802:=0
def tw13688522748152628153:=0
def tw10559205297363139754:=0
def tw9386487963649836242:=0
def tw8806432596412928273:=0
def tw2377936210203211317:=0
def tw17430577398275437081:=0
def tw6402073018392565981:=0
def tw17127988469225855645:=0
def tw13643665621362621217:=0
def tw5484934207127162664:=0
def tw16775596312184378785:=0
def tw1385595607720166021:=0
def tw2801723763189123066:=0
def tw14925546307505705894:=0
def tw14306341556161849987:=0
def tw7014739545311373877:=0
def tw5118820863789587072:=0
def tw15016611636849165640:=0
def tw5793939332321652184:=0
def tw3754405373884733565:=0
def tw16823073945567318444:=0
def tw1467220055998531297:=0
def tw15538360103598824283:=0
def tw3580339282703912874:=0
def tw551463375719056331:=0
def tw9521938991093439072:=0
def tw5137540010153300157:=0
def tw4006461217897010815:=0
def tw1866233812686480150:=0
def tw10026843677304944261:=0
def tw8929340173166709231:=0
def tw6590489449339534825:=0
def tw17669049977331195899:=0
def tw1743788837397061501:=0
def tw16055164004971885870:=0
def tw1427592796327839522:=0
def tw12800478003660083084:=0
def tw8873739468056996875:=0
def tw8840673807728184690:=0
def tw8701651819748895126:=0
def tw8182190353964576956:=0
def tw5998714749303970901:=0
def tw5575953432517880546:=0
def tw5434664294811113573:=0
def tw5312065323226577959:=0
def tw4945568620288909394:=0
def tw4682627057518364903:=0
def tw4560430637206242537:=0
def tw3561864094849973865:=0
def tw3373142451329015390:=0
def tw313475913157592400:=0
def tw2854840794272807548:=0
def tw2626263634976974692:=0
def tw232412826014100969:=0
def tw18216310334703823298:=0
def tw1778864173325316416:=0
def tw16921061100146202489:=0
def tw16754808869342913781:=0
def tw16616990242678835483:=0
def tw16406120415890028466:=0
def tw16254581951619210838:=0
def tw16080658453694020348:=0
def tw15194212369033710178:=0
def tw1472684824243120699:=0
def tw14651261452915590804:=0
def tw13342876278882009701:=0
def tw12592326754384517773:=0
def tw1249362198791433083:=0
def tw12409284865365303301:=0
def tw12406779192654664901:=0
def tw11702681625526335114:=0
def tw10380320787654022787:=0
def tw2651445816218830136:=0
def tw17979047636191022044:=0
def tw4495895513201687701:=0
def tw13123481892344552031:=0
def tw11710553734493654481:=0
def tw1476605402171462986:=0
def tw16626572978744253908:=0
def tw14182984290897887179:=0
def tw13054874344051993:=0
def tw7839947250488336456:=0
def tw7446535621942344186:=0
def tw4228178677374733113:=0
def tw3337971356907629625:=0
def tw9295827031271724011:=0
def tw18403133017877728215:=0
def tw1109625539725165055:=0
def tw8437131453483098073:=0
def tw8569980754478811209:=0
def tw718194988983880947:=0
def tw6084687448033406619:=0
def tw1853804940152141540:=0
def tw8047832650322449356:=0
def tw8042476966848826320:=0
def tw6220415424308720111:=0
def tw6810386028995535768:=0
def tw18018099898411590953:=0
def tw9285814922931331429:=0
def tw7772600608152035410:=0
def tw7540679772499243562:=0
def tw7461449019546145074:=0
def tw6905811094896342806:=0
def tw6093663074908727971:=0
def tw5669784607207280340:=0
def tw561190894605845367:=0
def tw2232582515145682585:=0
def tw2142495659265550539:=0
def tw18332406000995089944:=0
def tw17803922897218282489:=0
def tw17237162244298410009:=0
def tw17124822709831469498:=0
def tw16729914094726322146:=0
def tw16004826692703178498:=0
def tw15630634216980016778:=0
def tw15279750373373339520:=0
def tw14890852521231486495:=0
def tw14148636697391582131:=0
def tw13852753050402564728:=0
def tw13716038181446129491:=0
def tw13554955331970803074:=0
def tw12469739667987882799:=0
def tw11423851994747476869:=0
def tw10310375924763465482:=0
def tw10038623840868888863:=0
def tw9961720983479216643:=0
def tw9923127175370235437:=0
def tw9766843198633801540:=0
def tw9420399075487488197:=0
def tw3243863285329408265:=0
def tw267976523301583139:=0
def tw18411093960598803940:=0
def tw17823912426729957795:=0
def tw17204777827835289696:=0
def tw17174996922065793362:=0
def tw16514352684886167779:=0
def tw1577541133385233953:=0
def tw12095204816912541718:=0
def tw9656543286911045224:=0
def tw9800467499881591046:=0
def tw9765274210334055714:=0
def tw8133606034770013301:=0
def tw3155700392002532978:=0
def tw5735800587358335555:=0
def tw3128204158792433586:=0
def tw16674808993107332745:=0
def tw14906700893972333301:=0
def tw14601315735208025377:=0
def tw2390862262166089553:=0
def tw3728334537844044271:=0
def tw12875965062481287710:=0
def tw1896700473032389866:=0
def tw8760194430102146683:=0
def tw7117253039406334458:=0
def tw3255182500782959289:=0
def tw9441404255438538408:=0
def tw4841088984644341772:=0
def tw9726176613639273467:=0
def tw587267936833987755:=0
def tw4160504822789162991:=0
def tw3458682300715536004:=0
def tw11857625976966096498:=0
def tw10414153158079167373:=0
def tw9206265927363273886:=0
def tw9351891264634634488:=0
def tw12420210812107767938:=0
def tw18346575189330824050:=0
def tw8731508942037269602:=0
def tw148245870515992716:=0
def tw15705875782236869238:=0
def tw9724071986036671972:=0
def tw6918647052057908556:=0
def tw12944493966609251732:=0
def tw10874754982811804745:=0
def tw5720745941635525374:=0
def tw4164944048057521710:=0
def tw17761883033325903673:=0
def tw7905620492658170793:=0
def tw3902514322528408789:=0
def tw8109985848221312909:=0
def tw630280607518352733:=0
def tw6191165858005991813:=0
def tw6076476623892170282:=0
def tw4687843561749013296:=0
def tw8662129233991896842:=0
def tw6603910627529562256:=0
def tw4042276919569690543:=0
def tw3188887128937083540:=0
def tw15659230340509491545:=0
def tw13595919798567823184:=0
def tw12809618657311997843:=0
def tw693773892586767159:=0
def tw6493886093874696349:=0
end PySem.W.Fast
set_option maxHeartbeats 0 in
open_top Zhd for PySem.Challenge.rw_coverroll_k53_whole_any_order
set_option tactic.hygienic false
local macro_rules|`(tactic|ac_nf)=>`(tactic|decide +kernel)
open PySem.W renaming Frag -> zAa, nsIn -> zAI, findIn -> zAK, keepIn -> zAN, fnOf -> zAQ, emptyDict -> zAR, instObj -> zBb, kitOne -> zBh, codeIn -> zBi, kia_one -> zBl, isFn -> zBK, methodCall_KW -> zBM, callWith_K -> zBV, specialIn -> zCc, plainGet -> zCj, makesIn -> zCp, hasDictIn -> zCt, cellsFrom_some -> zCv
open List renaming length_map -> zAb, mem_cons_of_mem -> zAd, getElem?_eq_getElem -> zAe, length_cons -> zAf, mem_cons_self -> zAg, size_toArray -> zAh, length_append -> zAj, getElem?_eq_some_iff -> zAl, mem_singleton -> zAm, mem_cons -> zAn, length_take -> zAo, map_append -> zAp, getD_eq_getElem?_getD -> zAq, mem_append -> zAs, map_cons -> zAw, getElem?_map -> zAy, take_length -> zAB, mem_of_getElem? -> zAC, mem_map -> zAD, length_filter_le -> zAE, mem_append_right -> zAF, pairwise_iff_getElem -> zAH, mem_filter -> zAJ, append_nil -> zAL, pairwise_cons -> zAM, range -> zAO, nodup_iff_pairwise_ne -> zAS, take_add_one -> zAT, length_singleton -> zAU, take_zero -> zAV, getElem_of_mem -> zAW, getElem_map -> zAX, map_nil -> zAY, append_assoc -> zAZ, not_mem_nil -> zBc, filter_cons -> zBd, length_range -> zBe, filter_cons_of_pos -> zBf, filter_cons_of_neg -> zBg, filterMap_cons -> zBk, length_drop -> zBm, getElem?_append_right -> zBp, map_map -> zBq, nodup_cons -> zBt, filter_nil -> zBu, getElem_mem -> zBw, mem_map_of_mem -> zBy, getElem?_append_left -> zBB, drop_eq_getElem_cons -> zBC, take_sublist -> zBF, pairwise_map -> zBG, mem_range -> zBH, lookup_cons -> zBI, drop_length -> zBJ, filter_append -> zBL, length_replicate -> zBN, getElem?_toArray -> zBO, mem_of_mem_take -> zBQ, length_erase_of_mem -> zBT, find?_cons -> zBX, take_of_length_le -> zBZ, length_pos_of_mem -> zCb, nodup_append -> zCf, getElem?_eq_none -> zCi, mem_erase_of_ne -> zCk, mem_iff_getElem -> zCl, all_cons -> zCm, lookup -> zCn, getElem?_eq_none_iff -> zCo, length_nil -> zCq, reverse_cons -> zCu, zipWith_cons_cons -> zCw, any_cons -> zCx, cons_append -> zCy, mem_flatten -> zCA
open PySem.Heap renaming get?_push_of_some -> zAc, lt_size -> zAr, get?_push_size -> zAv, SameBut -> zBo, size_push -> zBR, get?_update_other -> zBY, get?_update_self -> zCh
open Nat renaming le_refl -> zAi, zero_le -> zAu, ne_of_lt -> zAx, le_trans -> zAz, lt_of_lt_of_le -> zAG, lt_irrefl -> zBn, lt_trichotomy -> zBr, ne_of_gt -> zBz, le_succ -> zBD, not_lt_zero -> zBE, lt_succ_self -> zBS, succ_le_succ -> zBU, lt_of_le_of_lt -> zBW, lt_succ_of_lt -> zCd, le_of_lt -> zCg
open Bool renaming false_ne_true -> zAk, and_eq_true -> zAt, false_eq_true -> zBj, eq_false_iff -> zBs, not_eq_true' -> zBx, false_and -> zCr, and_false -> zCs
open Array renaming length_toList -> zAA, getElem?_eq_getElem -> zBa, getElem?_toList -> zBv, perm_iff_toList_perm -> zBA, getD -> zBP, getElem?_eq_none -> zCa, size_append -> zCe, toList_inj -> zCz
open Option renaming map_eq_some_iff -> zAP, map_some -> zCB
open PySem renaming wpAny_bind -> zCC, wpAny_pure -> zCD, sizeLine_eq -> zCE, bootBuiltins -> zCF, FuncData -> zCG, mainGlobals -> zCH
namespace L2
open PySem PySem.Spec PyProof.Rows
abbrev Fl:=Sum Int Str
def Ts:Fl->Value->Bool
 |.inl k,v=>Value.isInt k v
 |.inr x,v=>Value.isStrOf x v
def SE (w:World):Fl->Int
 |.inl k=>hashInt k
 |.inr x=>hashStr w x
theorem Cf:∀ {k} {v},Ts k v=true->(∃ i t,k=Sum.inl i/\v=Value.int i t)\/(∃ x t,k=Sum.inr x/\v=Value.str x t)
 |.inl i,v,h=>by
  obtain⟨t,e⟩:=Value.isInt_shape (k:=i) (v:=v) h;exact .inl ⟨i,t,rfl,e⟩
 |.inr x,v,h=>by
  obtain⟨t,e⟩:=Value.isStrOf_shape (x:=x) (v:=v) h;exact .inr ⟨x,t,rfl,e⟩
def P8 (i:Int) (t:Tok):Ts (.inl i) (.int i t)=true:=by simp [Ts,Value.isInt]
def T0 (x:Str) (t:Tok):Ts (.inr x) (.str x t)=true:=by simp [Ts,Value.isStrOf]
def JH (a b:Int):decide ((Sum.inl a:Fl)=Sum.inl b)=(a==b):=by
 by_cases e:a=b
 .subst e;simp
 .have h:¬ (Sum.inl a:Fl)=Sum.inl b:=λq=>e (Sum.inl.inj q)
  rw[decide_eq_false h];exact (beq_eq_false_iff_ne.mpr e).symm
def KO (a b:Str):decide ((Sum.inr a:Fl)=Sum.inr b)=decide (a=b):=by
 by_cases e:a=b
 .subst e;simp
 .have h:¬ (Sum.inr a:Fl)=Sum.inr b:=λq=>e (Sum.inr.inj q)
  rw[decide_eq_false h,decide_eq_false e]
def IU (a:Int) (b:Str):decide ((Sum.inl a:Fl)=Sum.inr b)=false:=decide_eq_false (λq=>nomatch q)
def KL (a:Str) (b:Int):decide ((Sum.inr a:Fl)=Sum.inl b)=false:=decide_eq_false (λq=>nomatch q)
def Ck (prog:Program) (w:World):PySem.KeyKind prog w Fl where
 is:=Ts
 hash:=SE w
 inj:=λv a b ha hb=>by
  rcases Cf ha with ⟨i,t,rfl,rfl⟩|⟨x,t,rfl,rfl⟩
  .rcases Cf hb with ⟨j,u,rfl,e⟩|⟨y,u,rfl,e⟩
   .injection e with e1 _;rw[e1]
   .exact nomatch e
  .rcases Cf hb with ⟨j,u,rfl,e⟩|⟨y,u,rfl,e⟩
   .exact nomatch e
   .injection e with e1 _;rw[e1]
 byValue:=λk v h=>by
  rcases Cf h with ⟨i,t,rfl,rfl⟩|⟨x,t,rfl,rfl⟩ <;> rfl
 pyHash:=λhv h=>by
  rcases Cf hv with ⟨i,t,rfl,rfl⟩|⟨x,t,rfl,rfl⟩
  .exact wpAny_pyHash_int h
  .exact wpAny_pyHash_str h
 eqBool:=λhu hv h=>by
  rcases Cf hu with ⟨i,t,rfl,rfl⟩|⟨x,t,rfl,rfl⟩
  .rcases Cf hv with ⟨j,u,rfl,rfl⟩|⟨y,u,rfl,rfl⟩
   .rw[JH] at h;exact wpAny_eqBool_int h
   .rw[IU] at h;exact SeqAt.EqAt.int_str i t y u _ _ _ _ h
  .rcases Cf hv with ⟨j,u,rfl,rfl⟩|⟨y,u,rfl,rfl⟩
   .rw[KL] at h;exact SeqAt.EqAt.str_int x t j u _ _ _ _ h
   .rw[KO] at h;exact wpAny_eqBool_str h
 «strs» := λk x t v h=>by
  rcases Cf h with ⟨i,u,rfl,e⟩|⟨y,u,rfl,e⟩
  .exact nomatch e
  .injection e with e1 _
   subst e1;cases v <;> rfl
def Wb (prog:Program) (w:World) (i:Int) (t:Tok):(Ck prog w).is (.inl i) (.int i t)=true:=P8 i t
def Yr (prog:Program) (w:World) (x:Str) (t:Tok):(Ck prog w).is (.inr x) (.str x t)=true:=T0 x t
inductive V where
 |non|bl (b:Bool)|int (i:Int)|str (x:Str)|byt (b:Array UInt8)|flt (b:UInt64)|ref (a:Addr)|ty (n:String)
 deriving DecidableEq
def Ht:V->Value->Prop
 |.non,u=>u=Value.none
 |.bl b,u=>u=Value.bool b
 |.int i,u=>∃ t,u=Value.int i t
 |.str x,u=>∃ t,u=Value.str x t
 |.byt b,u=>∃ t,u=Value.bytes b t
 |.flt b,u=>∃ t,u=Value.float b t
 |.ref a,u=>u=Value.ref a
 |.ty n,u=>u=Value.type n
abbrev Fz:List V->List Value->Prop:=Paired Ht
def Fz.length {xs:List V} {us:List Value} (r:Fz xs us):xs.length=us.length:=Paired.length r
theorem Fz.get:∀ {xs} {us} {i:Nat} {x},Fz xs us->xs[i]?=some x->∃ u,us[i]?=some u/\Ht x u
 |_,_,_,_,.nil,e=>by simp at e
 |_,_,0,_,.cons r _,e=>by simp at e;subst e;exact⟨_,rfl,r⟩
 |_,_,i+1,x,.cons _ t,e=>by
  obtain⟨u,h1,g⟩:=Fz.get (i:=i) (x:=x) t (by simpa using e);exact⟨u,by simpa using h1,g⟩
theorem Fz.set {x:V} {u:Value} (r:Ht x u):∀ {xs} {us} (i:Nat),Fz xs us->Fz (xs.set i x) (us.set i u)
 |_,_,_,.nil=>.nil
 |_,_,0,.cons _ t=>.cons r t
 |_,_,i+1,.cons q t=>.cons q (Fz.set r i t)
theorem Fz.append:∀ {xs ys} {us g},Fz xs us->Fz ys g->Fz (xs++ys) (us++g)
 |_,_,_,_,.nil,s=>s
 |_,_,_,_,.cons r t,s=>.cons r (Fz.append t s)
theorem Fz.take:∀ {xs} {us} (n:Nat),Fz xs us->Fz (xs.take n) (us.take n)
 |_,_,0,_=>.nil
 |_,_,_+1,.nil=>.nil
 |_,_,n+1,.cons r t=>.cons r (Fz.take n t)
theorem Fz.drop:∀ {xs} {us} (n:Nat),Fz xs us->Fz (xs.drop n) (us.drop n)
 |_,_,0,r=>r
 |_,_,_+1,.nil=>.nil
 |_,_,n+1,.cons _ t=>Fz.drop n t
def Fz.none_of:∀ {xs} {us} {i:Nat},Fz xs us->xs[i]?=none->us[i]?=none:=λ{xs us i} r e=>by
 have h1:=r.length;have g:xs.length<=i:=zCo.mp e;exact zCo.mpr (by lia)
def WG:Option V->Option Value->Prop
 |some v,some u=>Ht v u
 |none,none=>True
 |_,_=>False
def KV {κ:Type}:List (κ×V)->List (κ×Value)->Prop:=Paired λ(p:κ×V) (q:κ×Value)=>p.1=q.1/\Ht p.2 q.2
def kV:Fl->V
 |.inl i=>.int i
 |.inr x=>.str x
inductive HO where
 |lst (xs:List V)
 |tup (xs:List V)
 |dK (kvs:List (Fl×V))|dT (kvs:List (List Fl×V))
 |set (S:Int->Bool) (n:Nat)
 |ins (C dx:Addr) (fs:List (Str×V))
 |own (x:Addr)
 |xd (fs:List (Str×V))
 |met (f x:Addr)
 |rng (lo hi:Int)
 |frz (o:Obj) (u:HO)
 |tbl (ps:Array Value)
 |ext (φ:Heap->Prop)
abbrev Hp:=Addr->Option HO
def upd (H:Hp) (a:Addr) (o:HO):Hp:=λb=>if b=a then some o else H b
def Aa {a:Addr} {o:HO}:upd H a o a=some o:=by unfold upd;rw[if_pos rfl]
def Ag {a b:Addr} {o:HO} (h:b≠a):upd H a o b=H b:=by unfold upd;rw[if_neg h]
def Uc {a:Addr} {o u:HO}:upd (upd H a o) a u=upd H a u:=by
 funext b;unfold upd;split <;> rfl
def Ar {H:Hp} {a b:Addr} {o u:HO} (h:H a=some o) (h':H b=some u) (d:o≠u):a≠b:=by
 intro e;subst e;rw[h] at h';exact d (Option.some.inj h')
def Ae {H:Hp} {a b:Addr} {o:HO} (h:H a=some o) (h':H b=none):a≠b:=by
 intro e;subst e;rw[h] at h';cases h'
section
variable (P:Program) (w:World)
def VQ (H:Hp) (h:Heap) (a:Addr):HO->Prop
 |.lst xs=>xs.length<=sizeLine/\∃ (its:List Value) (n:Nat),Fz xs its/\h.get? a=some { cls:=.type "list",data:=.seq its.toArray n }
 |.tup xs=>xs.length<=sizeLine/\∃ its:List Value,Fz xs its/\IsTup h a its.toArray
 |.dK kvs=>kvs.length<=sizeLine/\(a==sysModules)=false/\∃ vs,KV kvs vs/\h.DictOf (Ck P w) a vs
 |.dT kvs=>kvs.length<=sizeLine/\(a==sysModules)=false/\∃ xs:List (List Fl×Addr×Value),
   Paired (λ(p:List Fl×V) (q:List Fl×Addr×Value)=>p.1=q.1/\H q.2.1=some (.tup (p.1.map kV))/\Ht p.2 q.2.2) kvs xs /\
   ∃ o es ep,h.get? a=some o/\o.ExactDict/\o.data=.dict es ep/\es.toList=xs.map (entryOfKey (tupleKind (Ck P w)))/\(xs.map (·.1)).Nodup
 |.set S n=>h.SetOf (intKind P w) a S n
 |.ins C dx fs=>H dx=some (.own a)/\fs.length<=1000/\dx≠a/\h.get? a=some (zBb C dx) /\
   ∃ mA,h.Ns1 dx mA/\(∀ f,WG (fs.lookup f) (mA f))/\PySem.Within mA (fs.map (·.1))
 |.own _=>∃ o,h.get? a=some o
 |.xd fs=>∃ mA,h.Ns1 a mA/\∀ f,WG (fs.lookup f) (mA f)
 |.rng lo hi=>∃ t u v,h.get? a=some { cls:=.type "range",data:=.fields #[.int lo t,.int hi u,.int 1 v] }
 |.frz o u=>h.get? a=some o/\VQ H h a u
 |.tbl ps=>h.get? a=some { cls:=.none,data:=.fields ps }
 |.met f x=>h.get? a=some (PySem.W.methodObj (.ref f) (.ref x))
 |.ext φ=>φ h/\(∃ o,h.get? a=some o)/\∀ h1 h2:Heap,φ h1->(∀ o,h1.get? a=some o->h2.get? a=some o)->φ h2
def WJ (H:Hp) (h:Heap):Prop:=∀ a o,H a=some o->VQ P w H h a o
end
section
variable {P:Program} {w:World} {H H':Hp} {h h':Heap} {a:Addr} {o:HO}
def VQ.lt (x:VQ P w H h a o):a<h.objs.size:=by
 cases o with
 |lst xs=>obtain⟨_,_,_,_,e⟩:=x;exact zAr e
 |tup xs=>obtain⟨_,_,_,p⟩:=x;exact p.lt
 |dK g=>obtain⟨_,_,_,_,o,_,_,e,_⟩:=x;exact zAr e
 |dT g=>obtain⟨_,_,_,_,o,_,_,e,_⟩:=x;exact zAr e
 |set S n=>obtain⟨o,_,_,_,e,_⟩:=x;exact zAr e
 |ins C dx fs=>obtain⟨_,_,_,e,_⟩:=x;exact zAr e
 |own y=>obtain⟨_,e⟩:=x;exact zAr e
 |xd fs=>obtain⟨_,⟨_,_,_,e,_⟩,_⟩:=x;exact zAr e
 |rng lo hi=>obtain⟨_,_,_,e⟩:=x;exact zAr e
 |frz j u=>obtain⟨e,_⟩:=x;exact zAr e
 |tbl ps=>exact zAr (show h.get? a=some _ from x)
 |met f y=>exact zAr (show h.get? a=some _ from x)
 |ext φ=>obtain⟨_,⟨_,e⟩,_⟩:=x;exact zAr e
theorem Paired.mapP {α β:Type} {F G:α->β->Prop}:∀ {l₁:List α} {g},Paired F l₁ g->(∀ a b,F a b->G a b)->Paired G l₁ g
 |_,_,.nil,_=>.nil
 |_,_,.cons r t,f=>.cons (f _ _ r) (Paired.mapP t f)
def VQ.stay (x:VQ P w H h a o) (k:∀ b u,(b=a\/H b=some (.own a))->h.get? b=some u->h'.get? b=some u)
  (L:∀ b,H b=some (.own a)->H' b=some (.own a)) (M:∀ b xs,H b=some (.tup xs)->H' b=some (.tup xs)):VQ P w H' h' a o:=by
 induction o with
 |lst xs=>obtain⟨z,j,n,r,e⟩:=x;exact⟨z,j,n,r,k _ _ (.inl rfl) e⟩
 |tup xs=>obtain⟨z,j,r,g,e,c⟩:=x;exact⟨z,j,r,g,k _ _ (.inl rfl) e,c⟩
 |dK B=>obtain⟨z,y,vs,r,g,es,ep,e,c⟩:=x;exact⟨z,y,vs,r,g,es,ep,k _ _ (.inl rfl) e,c⟩
 |dT B=>
  obtain⟨z,y,xs,r,g,es,ep,e,c⟩:=x;exact⟨z,y,xs,Paired.mapP r λp q z=>⟨z.1,M _ _ z.2.1,z.2.2⟩,g,es,ep,k _ _ (.inl rfl) e,c⟩
 |set S n=>obtain⟨g,es,ep,t,e,c⟩:=x;exact⟨g,es,ep,t,k _ _ (.inl rfl) e,c⟩
 |ins C dx fs=>
  obtain⟨d,z,ne,e,mA,⟨F,es,ep,e2,c⟩,r⟩:=x;exact⟨L _ d,z,ne,k _ _ (.inl rfl) e,mA,⟨F,es,ep,k _ _ (.inr d) e2,c⟩,r⟩
 |own y=>obtain⟨g,e⟩:=x;exact⟨g,k _ _ (.inl rfl) e⟩
 |xd fs=>obtain⟨mA,⟨F,es,ep,e,c⟩,r⟩:=x;exact⟨mA,⟨F,es,ep,k _ _ (.inl rfl) e,c⟩,r⟩
 |rng lo hi=>obtain⟨t,u,v,e⟩:=x;exact⟨t,u,v,k _ _ (.inl rfl) e⟩
 |frz g u ih=>obtain⟨e,q⟩:=x;exact⟨k _ _ (.inl rfl) e,ih q⟩
 |tbl ps=>
  have e:h.get? a=some { cls:=.none,data:=.fields ps }:=x;show h'.get? a=some { cls:=.none,data:=.fields ps };exact k a _ (.inl rfl) e
 |met f y=>
  have e:h.get? a=some (PySem.W.methodObj (.ref f) (.ref y)):=x;show h'.get? a=some (PySem.W.methodObj (.ref f) (.ref y));exact k a _ (.inl rfl) e
 |ext φ=>obtain⟨p,⟨o,e⟩,st⟩:=x;exact⟨st _ _ p λo q=>k _ _ (.inl rfl) q,⟨o,k _ _ (.inl rfl) e⟩,st⟩
def WJ.lt (x:WJ P w H h) (e:H a=some o):a<h.objs.size:=(x a o e).lt
def WJ.fresh (x:WJ P w H h) (e:h.objs.size<=a):H a=none:=by
 cases q:H a with
 |none=>rfl
 |some u=>exact absurd (zAG (x.lt q) e) (zBn _)
def WJ.kept (x:WJ P w H h) (k:∀ b u,h.get? b=some u->h'.get? b=some u):WJ P w H h':=λa o e=>
 (x a o e).stay (λb u _ q=>k b u q) (λ_ q=>q) λ_ _ q=>q
def WJ.laid (x:WJ P w H h) (k:∀ b u,h.get? b=some u->h'.get? b=some u) (B:h.objs.size<=a) (g:VQ P w (upd H a o) h' a o):WJ P w (upd H a o) h':=λb u e=>by
 have z:=x.fresh B;by_cases j:b=a
 .subst j;rw[Aa] at e;cases e;exact g
 .rw[Ag j] at e
  exact (x b u e).stay (λc v _ q=>k c v q) (λc q=>by rw[Ag (Ae q z)];exact q) λc xs q=>by rw[Ag (Ae q z)];exact q
end
def Rd (H:Hp) (a:Addr) (u:HO):Prop:=H a=some u\/∃ o,H a=some (.frz o u)
def Rd.ok {w:World} {h:Heap} {a:Addr} {u:HO} (r:Rd H a u) (x:WJ P w H h):VQ P w H h a u:=by
 rcases r with r|⟨o,r⟩
 .exact x a u r
 .obtain⟨_,q⟩:=x a _ r
  exact q
def NY:Option HO->Prop
 |some (.lst _)=>True
 |some (.dK _)=>True
 |some (.dT _)=>True
 |some (.set _ _)=>True
 |some (.ins _ _ _)=>True
 |some (.ext _)=>True
 |_=>False
section
variable {P:Program} {w:World} {H:Hp} {h h':Heap} {x e:Addr} {o':HO}
def WJ.write (ok:WJ P w H h) (L:NY (H x)) (Y:e=x\/H e=some (.own x)) (k:∀ b u,b≠e->h.get? b=some u->h'.get? b=some u) (U:∃ u,h'.get? e=some u)
  (S:VQ P w (upd H x o') h' x o'):WJ P w (upd H x o') h':=λb u q=>by
 have j:∀ c y,H c=some (.own y)->c≠x:=λc y r z=>by subst z;rw[r] at L;exact L
 have B:∀ c xs,H c=some (.tup xs)->c≠x:=λc xs r z=>by subst z;rw[r] at L;exact L
 by_cases F:b=x
 .subst F;rw[Aa] at q;cases q;exact S
 .rw[Ag F] at q
  by_cases g:b=e
  .have Z:H b=some (.own x):=by
    rcases Y with z|z
    .exact absurd (g.trans z) F
    .rw[g];exact z
   rw[q] at Z;cases Z;obtain⟨v,hv⟩:=U;exact⟨v,by rw[g];exact hv⟩
  .refine (ok b u q).stay (λc v M r=>k c v ?_ r) (λc r=>by rw[Ag (j c b r)];exact r) λc xs r=>by rw[Ag (B c xs r)];exact r
   rcases M with rfl|M
   .exact g
   .rintro rfl
    rcases Y with z|z
    .exact j c b M z
    .rw[M] at z;cases z;exact F rfl
end
structure Un (fs ex:List Addr) (H H':Hp) (h h':Heap):Prop where
 keep:∀ b o,h.get? b=some o->H b=none->b∉fs->b∉ex->h'.get? b=some o
 slot:∀ b o,h.get? b=some o->H b=none->b∈fs->b∉ex->∃ sl,h'.get? b=some { o with slots:=sl }
 free:∀ b o,h.get? b=some o->H b=none->b∉ex->H' b=none
 there:∀ b o,h.get? b=some o->b∉ex->∃ o',h'.get? b=some o'
 tups:∀ b xs,H b=some (.tup xs)->H' b=some (.tup xs)
 frzs:∀ b o u,H b=some (.frz o u)->H' b=some (.frz o u)
 tbls:∀ b ps,H b=some (.tbl ps)->∃ more,H' b=some (.tbl (ps++more))
section
variable {fs ex:List Addr} {H H1:Hp} {h h1 h':Heap} {a x e:Addr} {o:HO}
def Un.any (u:Un fs ex H H1 h h1) {b:Addr} (q:h.get? b=some ob) (n:H b=none) (j:b∉ex):∃ z,h1.get? b=some { ob with slots:=z }:=by
 by_cases g:b∈fs
 .exact u.slot b ob q n g j
 .exact⟨ob.slots,u.keep b ob q n g j⟩
def Un.kept (k:∀ b u,h.get? b=some u->h'.get? b=some u):Un fs ex H H h h':=
 ⟨λb g q _ _ _=>k b g q,λb g q _ _ _=>⟨g.slots,k b g q⟩,λ_ _ _ n _=>n,λb g q _=>⟨g,k b g q⟩,λ_ _ q=>q,λ_ _ _ q=>q,λ_ ps q=>⟨#[],by rw[q];simp⟩⟩
def Un.refl:Un fs ex H H h h:=Un.kept λ_ _ q=>q
def Un.laid (k:∀ b u,h.get? b=some u->h'.get? b=some u) (j:h.objs.size<=a) (g:H a=none):Un fs ex H (upd H a o) h h' where
 keep:=λb u q _ _ _=>k b u q
 slot:=λb u q _ _ _=>⟨u.slots,k b u q⟩
 free:=λb u q n _=>by rw[Ag (zAx (zAG (zAr q) j))];exact n
 there:=λb u q _=>⟨u,k b u q⟩
 tups:=λb xs q=>by rw[Ag (Ae q g)];exact q
 frzs:=λb u xs q=>by rw[Ag (Ae q g)];exact q
 tbls:=λb ps q=>⟨#[],by rw[Ag (Ae q g),q];simp⟩
def Un.write (j:NY (H x)) (S:e=x\/H e=some (.own x)) (k:∀ b u,b≠e->h.get? b=some u->h'.get? b=some u) (B:∃ u,h'.get? e=some u):Un fs ex H (upd H x o) h h':=by
 have M:∀ b,H b=none->b≠x:=λb n z=>by subst z;rw[n] at j;exact j
 have L:∀ b,H b=none->b≠e:=λb n z=>by
  subst z;rcases S with r|r
  .exact M b n r
  .rw[n] at r;cases r
 have F:∀ b u,H b=some u->¬ NY (some u)->b≠x:=λb u q U z=>by subst z;rw[q] at j;exact U j
 refine⟨λb u q n _ _=>k b u (L b n) q,λb u q n _ _=>⟨u.slots,k b u (L b n) q⟩,λb u q n _=>by rw[Ag (M b n)];exact n,λb u q _=>?_,
  λb xs q=>by rw[Ag (F b _ q λz=>z)];exact q,λb u xs q=>by rw[Ag (F b _ q λz=>z)];exact q,λb ps q=>⟨#[],by rw[Ag (F b _ q λz=>z),q];simp⟩⟩
 by_cases g:b=e
 .subst g;exact B
 .exact⟨u,k b u g q⟩
end
def QY (h:Heap) (H:Hp):List Addr:=(zAO h.objs.size).filter λa=>(H a).isSome
def Rh (h:Heap) (H:Hp):Heap:=PySem.W.hideAll h (QY h H)
def R0 (h:Heap) (H:Hp):(Rh h H).objs.size=h.objs.size:=PySem.W.hideAll_size _ _
def V7 {h:Heap} {b:Addr} {o:Obj} (e:h.get? b=some o) (n:H b=none):(Rh h H).get? b=some o:=
 PySem.W.hideAll_get _ e λg=>by
  have q:(H b).isSome=true:=(zAJ.mp g).2;rw[n] at q;simp at q
def FZ {h:Heap} {b:Addr} {o:Obj} (e:(Rh h H).get? b=some o):h.get? b=some o/\H b=none:=by
 have g:h.get? b=some o:=PySem.W.of_hideAll (QY h H) e;refine⟨g,?_⟩;cases q:H b with
 |none=>rfl
 |some x=>
  have j:b∈QY h H:=zAJ.mpr ⟨zBH.mpr (zAr g),by simp [q]⟩;have z:(Rh h H).get? b=none:=PySem.W.hideAll_none (QY h H) j;rw[z] at e;cases e
structure Mod (K:zAa) (mg:Str->Option Value) (base:Heap):Prop where
 kin:K.In base
 glob:base.Ns zCH mg
 blt:∃ mb,base.Ns builtinsNs mb/\∀ x:Str,x ≠ "__name__"->mb x=zCF x
 nolimit:base.NoLimit
structure Cx where
 prog:Program
 w:World
 K:zAa
 mg:Str->Option Value
 base:Heap
 A:Around
 N:List Str
 s₀:Shared
 H₀:Hp
 env:Env
 outer:List Env
 stack:List Env
 ex:List Addr
 fn:Str->Bool
 calm:Bool
 pn:List (Addr×Obj)
 xe:Value->Shared->Prop
def O7 (l:List Env):List Addr:=l.filterMap (·.frame)
abbrev Cx.fs (X:Cx):List Addr:=O7 X.outer
def RL (sc:Scope) (x:Str):Prop:=sc.names.lookup x=some .local\/sc.names.lookup x=some .cell\/sc.names.lookup x=some .free
def LV (sc:Scope) (x:Str):Prop:=sc.names.lookup x=some .local\/sc.names.lookup x=some .cell
def RP (env:Env) (h:Heap) (m:Str->Option Value) (x:Str) (u:Value):Prop:=
 (env.kindOf x=some .local/\m x=some u)\/((env.kindOf x=some .cell\/env.kindOf x=some .free)/\∃ c,env.cells.lookup x=some c/\h.IsCell c (some u))
structure Cx.Ok (X:Cx):Prop where
 mod:Mod X.K X.mg X.base
 kind:X.env.scope.kind=.function
 glob:X.env.globals=zCH
 blt:X.env.builtins=builtinsNs
 above:X.s₀.heap.objs.size<=X.env.locals
 inj:∀ x y c,X.env.cells.lookup x=some c->X.env.cells.lookup y=some c->x=y
 has:∀ x,(X.env.kindOf x=some .cell\/X.env.kindOf x=some .free)->∃ c,X.env.cells.lookup x=some c
 cab:∀ x c,X.fn x=true->X.env.cells.lookup x=some c->X.s₀.heap.objs.size<=c
 hd:X.calm=true->X.A.handled=none
 frames:X.A.frames=some X.stack
 stk:X.stack=X.outer\/(X.stack=X.env::X.outer/\X.env.frame=some X.env.locals)
 exf:∀ b∈X.ex,b≠X.env.locals/\∀ x c,X.env.cells.lookup x=some c->c≠b
 bs:∀ b o,X.base.get? b=some o->X.s₀.heap.get? b=some o/\X.H₀ b=none
 bsz:X.base.objs.size<=X.s₀.heap.objs.size
 noex:∀ b o,X.base.get? b=some o->b∉X.ex
 exfs:∀ b∈X.ex,b∉X.fs
 funs:X.s₀.heap.FunFrames X.base X.outer
 frf:∀ b∈X.fs,X.H₀ b=none
structure Dm (X:Cx) (pins:List (Addr×Obj)) (σ:List (Option V)) (H:Hp) (s:Shared):Prop where
 ok:X.Ok
 os:s.os=X.s₀.os
 bare:AllBare s.gens
 base:Un X.fs X.ex X.H₀ H X.s₀.heap s.heap
 loc:∃ m,s.heap.Ns X.env.locals m/\∀ (i:Nat) (x:Str) (v:V),X.N[i]?=some x->σ[i]?=some (some v)->RL X.env.scope x->∃ u,Ht v u/\RP X.env s.heap m x u
 cell:∀ x c,X.env.cells.lookup x=some c->∃ v,s.heap.IsCell c v
 free:H X.env.locals=none
 freeC:∀ x c,X.env.cells.lookup x=some c->H c=none
 pin:∀ p∈X.pn++pins,s.heap.get? p.1=some p.2/\H p.1=none/\p.1≠X.env.locals/\p.1∉X.fs/\∀ v,p.2.data≠.cell v
 hok:WJ X.prog X.w H s.heap
 len:σ.length=X.N.length
section
variable {X:Cx} {pins:List (Addr×Obj)} {σ:List (Option V)} {H H':Hp} {s:Shared} {h':Heap}
def Cx.Ok.nofr (ok:X.Ok) {b:Addr} {o:Obj} (e:X.base.get? b=some o):b∉X.fs:=λg=>by
 have:=(ok.funs.mem g).1;rw[e] at this;cases this
def Dm.bs (I:Dm X pins σ H s):∀ b o,X.base.get? b=some o->s.heap.get? b=some o/\H b=none:=λb o e=>
 ⟨I.base.keep b o (I.ok.bs b o e).1 (I.ok.bs b o e).2 (I.ok.nofr e) (I.ok.noex b o e),I.base.free b o (I.ok.bs b o e).1 (I.ok.bs b o e).2 (I.ok.noex b o e)⟩
def Dm.bk (I:Dm X pins σ H s):∀ b o,X.base.get? b=some o->s.heap.get? b=some o:=λb o e=>(I.bs b o e).1
def Dm.mod (I:Dm X pins σ H s):Mod X.K X.mg X.base:=I.ok.mod
def Dm.kIn (I:Dm X pins σ H s):X.K.In s.heap:=I.ok.mod.kin.keeps I.bk
def Dm.lt (I:Dm X pins σ H s):X.env.locals<s.heap.objs.size:=let ⟨_,hn,_⟩:=I.loc;hn.lt
def Dm.sz (I:Dm X pins σ H s):X.s₀.heap.objs.size<=s.heap.objs.size:=zAz I.ok.above (zCg I.lt)
def Dm.nofs (I:Dm X pins σ H s) {a:Addr} (h:s.heap.objs.size<=a):a∉X.fs:=λj=>by
 obtain⟨_,o,g,_⟩:=I.ok.funs.mem j;exact absurd (zAG (zAr g) (zAz I.sz h)) (zBn _)
def Dm.cne (I:Dm X pins σ H s):∀ x c,X.env.cells.lookup x=some c->c≠X.env.locals:=λx c e z=>by
 obtain⟨v,o,q,B⟩:=I.cell x c e;obtain⟨m,⟨o',es,ep,j,g,_⟩,_⟩:=I.loc;rw[z,j] at q;cases q;rw[g] at B;cases B
def Dm.funs (I:Dm X pins σ H s):s.heap.FunFrames X.base X.outer:=by
 have all:∀ (l:List Env),(∀ b∈O7 l,b∈X.fs)->X.s₀.heap.FunFrames X.base l->s.heap.FunFrames X.base l:=by
  intro l
  induction l with
  |nil=>intro _ _;trivial
  |cons F r ih=>
   intro B hl;obtain⟨Y,⟨L,o,j,M,S,U⟩,hr⟩:=hl;have q:L∈X.fs:=B L (by unfold O7;rw[zBk,j];exact zAg);obtain⟨Z,e⟩:=I.base.slot L o S (I.ok.frf L q) q λz=>I.ok.exfs L z q;exact⟨Y,⟨L,_,j,M,e,U⟩,ih (λb g=>B b (by unfold O7;rw[zBk,j];exact zAd _ g)) hr⟩
 exact all X.outer (λ_ g=>g) I.ok.funs
def Dm.stack (I:Dm X pins σ H s):s.heap.FunFrames X.base X.stack:=by
 rcases I.ok.stk with e|⟨e,g⟩
 .rw[e];exact I.funs
 .rw[e]
  obtain⟨m,j,_⟩:=I.loc;refine .cons (by rw[I.ok.kind];decide) g j ?_ I.funs;exact Heap.get?_none_of_le (zAz I.ok.bsz I.ok.above)
def Dm.stkSub (I:Dm X pins σ H s):∀ b∈O7 X.stack,b∈X.env.locals::X.fs:=λb g=>by
 rcases I.ok.stk with e|⟨e,j⟩
 .rw[e] at g;exact zAd _ g
 .rw[e] at g
  unfold O7 at g;rw[zBk,j] at g;exact g
def Dm.stkFree (I:Dm X pins σ H s):∀ b∈O7 X.stack,H b=none:=λb g=>by
 rcases zAn.mp (I.stkSub b g) with e|g
 .rw[e];exact I.free
 .obtain⟨_,o,j,_⟩:=I.ok.funs.mem g
  exact I.base.free b o j (I.ok.frf b g) λz=>I.ok.exfs b z g
def Dm.step {g':Array GenState} {t':Nat} {d':Drawn} {ch:List Addr} (I:Dm X pins σ H s)
  (F:∀ b∈ch,(b∈X.ex\/X.s₀.heap.objs.size<=b)/\b≠X.env.locals/\(∀ x c,X.env.cells.lookup x=some c->c≠b)/\∀ p∈X.pn++pins,p.1≠b)
  (keep:∀ b o,b≠X.env.locals->b∉X.fs->b∉ch->s.heap.get? b=some o->H b=none->h'.get? b=some o)
  (slot:∀ b o,b≠X.env.locals->b∈X.fs->b∉ch->s.heap.get? b=some o->H b=none->∃ sl,h'.get? b=some { o with slots:=sl }) (free:∀ b o,b∉ch->s.heap.get? b=some o->H b=none->H' b=none)
  (there:∀ b o,b∉ch->s.heap.get? b=some o->∃ o',h'.get? b=some o')
  (tups:∀ b xs,H b=some (.tup xs)->H' b=some (.tup xs)) (frzs:∀ b o u,H b=some (.frz o u)->H' b=some (.frz o u)) (tbls:∀ b ps,H b=some (.tbl ps)->∃ more,H' b=some (.tbl (ps++more)))
  (ns:∀ m,s.heap.Ns X.env.locals m->h'.Ns X.env.locals m) (hok:WJ X.prog X.w H' h') (hg:AllBare g') :
  Dm X pins σ H' { s with heap:=h',gens:=g',drawn:=d',toks:=t' }:=by
 have U:∀ b o,X.s₀.heap.get? b=some o->b≠X.env.locals:=λb o e=>zAx (zAG (zAr e) I.ok.above);have L:∀ b o,X.s₀.heap.get? b=some o->b∉X.ex->b∉ch:=λb o e g M=>by
  rcases (F b M).1 with z|z
  .exact g z
  .exact absurd (zAG (zAr e) z) (zBn _)
 have j:∀ x c,X.env.cells.lookup x=some c->∀ v,s.heap.IsCell c v->h'.IsCell c v:=λx c e v ⟨o,S,Z⟩=>by
  have B:c∉ch:=λz=>(F c z).2.2.1 x c e rfl;by_cases hc:c∈X.fs
  .obtain⟨sl,q⟩:=slot c o (I.cne x c e) hc B S (I.freeC x c e)
   exact⟨_,q,Z⟩
  .exact⟨o,keep c o (I.cne x c e) hc B S (I.freeC x c e),Z⟩
 refine⟨I.ok,I.os,hg,⟨λb o e n M g=>?_,λb o e n M g=>?_,λb o e n g=>?_,λb o e g=>?_,λb xs e=>tups b xs (I.base.tups b xs e),λb o xs e=>frzs b o xs (I.base.frzs b o xs e),λb ps e=>?_⟩,?_,λx c e=>?_,?_,λx c e=>?_,λp hp=>?_,hok,I.len⟩
 .exact keep b o (U b o e) M (L b o e g) (I.base.keep b o e n M g) (I.base.free b o e n g)
 .obtain⟨sl,e1⟩:=I.base.slot b o e n M g
  obtain⟨Y,e2⟩:=slot b _ (U b o e) M (L b o e g) e1 (I.base.free b o e n g);exact⟨Y,e2⟩
 .obtain⟨o',e1⟩:=I.base.there b o e g
  exact free b o' (L b o e g) e1 (I.base.free b o e n g)
 .obtain⟨o',e1⟩:=I.base.there b o e g
  exact there b o' (L b o e g) e1
 .obtain⟨m1,e1⟩:=I.base.tbls b ps e
  obtain⟨m2,e2⟩:=tbls b _ e1;exact⟨m1++m2,by rw[e2,Array.append_assoc]⟩
 .obtain⟨m,hn,hl⟩:=I.loc
  refine⟨m,ns m hn,λi x v e1 e2 e3=>?_⟩;obtain⟨u,r,l⟩:=hl i x v e1 e2 e3;refine⟨u,r,?_⟩;rcases l with l|⟨k,c,e,z⟩
  .exact .inl l
  .exact .inr ⟨k,c,e,j x c e _ z⟩
 .obtain⟨v,z⟩:=I.cell x c e
  exact⟨v,j x c e v z⟩
 .obtain⟨m,⟨o,_,_,S,_⟩,_⟩:=I.loc
  exact free _ o (λz=>(F _ z).2.1 rfl) S I.free
 .obtain⟨v,o,S,Z⟩:=I.cell x c e
  exact free c o (λz=>(F c z).2.2.1 x c e rfl) S (I.freeC x c e)
 .obtain⟨e,n,ne,nf,d⟩:=I.pin p hp
  have B:p.1∉ch:=λz=>(F p.1 z).2.2.2 p hp rfl;exact⟨keep p.1 p.2 ne nf B e n,free p.1 p.2 B e n,ne,nf,d⟩
def Dm.un {t':Nat} (I:Dm X pins σ H s) (u:Un X.fs [] H H' s.heap h') (F:WJ X.prog X.w H' h'):Dm X pins σ H' { s with heap:=h',toks:=t' }:=by
 obtain⟨m,⟨o,es,ep,L,r⟩,_⟩:=id I.loc;obtain⟨Y,M⟩:=u.any L I.free (by simp);exact I.step (g':=s.gens) (d':=s.drawn) (ch:=[]) (λ_ z=>nomatch z) (λb o _ q _ e n=>u.keep b o e n q (by simp)) (λb o _ q _ e n=>u.slot b o e n q (by simp)) (λb o _ e n=>u.free b o e n (by simp)) (λb o _ e=>u.there b o e (by simp)) u.tups u.frzs u.tbls (λZ U=>by
  obtain⟨o',B,j,g,S⟩:=U;rw[L] at g;cases g;exact⟨_,B,j,M,S⟩) F I.bare
def Dm.call {g':Array GenState} {t':Nat} {d':Drawn} {ch:List Addr} (I:Dm X pins σ H s) (u:Un (O7 X.stack) ch H H' s.heap h') (M:WJ X.prog X.w H' h') (Y:AllBare g')
  (j:∀ b∈ch,(b∈X.ex\/X.s₀.heap.objs.size<=b)/\b≠X.env.locals/\(∀ x c,X.env.cells.lookup x=some c->c≠b)/\∀ p∈X.pn++pins,p.1≠b) :
  Dm X pins σ H' { s with heap:=h',gens:=g',drawn:=d',toks:=t' }:=by
 obtain⟨m,⟨o,es,ep,S,r⟩,_⟩:=id I.loc;obtain⟨sl,F⟩:=u.any S I.free λz=>(j _ z).2.1 rfl;exact I.step (ch:=ch) j (λb o F U g e n=>u.keep b o e n (λz=>(zAn.mp (I.stkSub b z)).elim F U) g) (λb o _ _ g e n=>u.any e n g) (λb o g e n=>u.free b o e n g) (λb o g e=>u.there b o e g) u.tups u.frzs u.tbls (λm' hm=>by
  obtain⟨o',L,B,q,Z⟩:=hm;rw[S] at q;cases q;exact⟨_,L,B,F,Z⟩) M Y
def Dm.turned {t':Nat} {it:Addr} (I:Dm X pins σ H s) (k:∀ b o,b≠it->s.heap.get? b=some o->h'.get? b=some o) (L:H it=none) (B:it≠X.env.locals)
  (h1:it∈X.ex\/X.s₀.heap.objs.size<=it) (S:∀ x c,X.env.cells.lookup x=some c->c≠it) (Y:∀ p∈X.pn++pins,p.1≠it):Dm X pins σ H { s with heap:=h',toks:=t' }:=by
 have j:∀ b u,H b=some u->b≠it:=λb u e z=>by rw[z,L] at e;cases e
 refine I.step (g':=s.gens) (d':=s.drawn) (ch:=[it]) (λb F=>?_) (λb o _ _ g e _=>k b o (λz=>g (by simp [z])) e) (λb o _ _ g e _=>⟨o.slots,k b o (λz=>g (by simp [z])) e⟩) (λ_ _ _ _ n=>n)
  (λb o g e=>⟨o,k b o (λz=>g (by simp [z])) e⟩) (λ_ _ e=>e) (λ_ _ _ e=>e) (λb ps e=>⟨#[],by rw[e];simp⟩) (λm U=>?_) (λb u e=>?_) I.bare
 .have e:b=it:=by simpa using F
  subst e;exact⟨h1,B,S,Y⟩
 .obtain⟨o,es,ep,M,r⟩:=U
  exact⟨o,es,ep,k _ o (Ne.symm B) M,r⟩
 .refine (I.hok b u e).stay (λc v g q=>k c v ?_ q) (λ_ q=>q) λ_ _ q=>q
  rcases g with z|z
  .rw[z];exact j b u e
  .exact j c _ z
def Dm.tok (I:Dm X pins σ H s) (t:Nat):Dm X pins σ H { s with toks:=t }:=I.un (h':=s.heap) (t':=t) Un.refl I.hok
def Dm.kept {t':Nat} (I:Dm X pins σ H s) (k:∀ b u,s.heap.get? b=some u->h'.get? b=some u):Dm X pins σ H { s with heap:=h',toks:=t' }:=I.un (Un.kept k) (I.hok.kept k)
def Dm.laid {a:Addr} {o:HO} {t':Nat} (I:Dm X pins σ H s) (k:∀ b u,s.heap.get? b=some u->h'.get? b=some u) (g:s.heap.objs.size<=a) (j:VQ X.prog X.w (upd H a o) h' a o) :
  Dm X pins σ (upd H a o) { s with heap:=h',toks:=t' }:=I.un (Un.laid k g (I.hok.fresh g)) (I.hok.laid k g j)
def Dm.write {x e:Addr} {o:HO} {t':Nat} (I:Dm X pins σ H s) (q:NY (H x)) (z:e=x\/H e=some (.own x)) (k:∀ b u,b≠e->s.heap.get? b=some u->h'.get? b=some u) (g:∃ u,h'.get? e=some u)
  (j:VQ X.prog X.w (upd H x o) h' x o):Dm X pins σ (upd H x o) { s with heap:=h',toks:=t' }:=I.un (Un.write q z k g) (I.hok.write q z k g j)
def Dm.pins_of (I:Dm X pins σ H s) (h:∀ p∈g,s.heap.get? p.1=some p.2/\H p.1=none/\p.1≠X.env.locals/\p.1∉X.fs/\∀ v,p.2.data≠.cell v):Dm X g σ H s:=
 ⟨I.ok,I.os,I.bare,I.base,I.loc,I.cell,I.free,I.freeC,λp j=>(zAs.mp j).elim (λz=>I.pin p (List.mem_append_left _ z)) (h p),I.hok,I.len⟩
def Wu {N:List Str} (g:N.Nodup) {i j:Nat} {x:Str} (a:N[i]?=some x) (b:N[j]?=some x):i=j:=by
 obtain⟨h1,e1⟩:=zAl.mp a;obtain⟨q,e2⟩:=zAl.mp b;exact (List.getElem_inj g).mp (e1.trans e2.symm)
def Tq {M:Model} {A:Around} {E:Value->Shared->Prop} {i:Nat} {x:Str} {v:V} {u:Value} {Q:Unit->Shared->Prop} (I:Dm X pins σ H s) (hN:X.N.Nodup) (hi:X.N[i]?=some x) (L:LV X.env.scope x) (r:Ht v u)
  (h:∀ s',Dm X pins (σ.set i (some v)) H s'->(∃ a,zBo a s.heap s'.heap/\(a=X.env.locals\/X.env.cells.lookup x=some a))->Q () s') (hf:X.fn x=true\/X.env.scope.names.lookup x=some .local:=by first|exact .inl rfl|exact .inr rfl|assumption):wpAny M A (storeName X.env x u) Q E s:=by
 obtain⟨m,hn,hl⟩:=id I.loc;have ae:(X.env.scope.kind == .class||(X.env.scope.kind == .module&&X.env.locals != X.env.globals))=false:=by rw[I.ok.kind];rfl
 have ab:i<σ.length:=by rw[I.len];exact (zAl.mp hi).1
 have cne:=I.cne;have B:∀ {a:Addr} {h':Heap},(∃ o,s.heap.get? a=some o/\H a=none)->zBo a s.heap h'->WJ X.prog X.w H h':=λ{a h'} ha g b ob e=>by
  obtain⟨_,_,S⟩:=ha;refine (I.hok b ob e).stay (λc w' F q=>(g.2 c ?_).trans q) (λ_ q=>q) λ_ _ q=>q;rintro rfl;rcases F with rfl|F
  .rw[S] at e;cases e
  .rw[S] at F;cases F
 rcases L with U|U
 .refine wpAny_storeName_local U hn (λh' ag g=>?_) ae
  obtain⟨oL,_,_,ah,_⟩:=id hn;refine h _ ⟨I.ok,I.os,I.bare,⟨λb o e n Z L=>?_,λb o e n Z L=>?_,I.base.free,λb o e L=>?_,I.base.tups,I.base.frzs,I.base.tbls⟩,⟨_,ag,λj y v' e1 e2 e3=>?_⟩,λy c e=>?_,I.free,I.freeC,λp hp=>?_,B ⟨oL,ah,I.free⟩ g,by simpa using I.len⟩ ⟨_,g,.inl rfl⟩
  .exact (g.2 b (zAx (zAG (zAr e) I.ok.above))).trans (I.base.keep b o e n Z L)
  .obtain⟨sl,e1⟩:=I.base.slot b o e n Z L
   exact⟨sl,(g.2 b (zAx (zAG (zAr e) I.ok.above))).trans e1⟩
  .obtain⟨o',e1⟩:=I.base.there b o e L
   exact⟨o',(g.2 b (zAx (zAG (zAr e) I.ok.above))).trans e1⟩
  .by_cases hj:j=i
   .subst hj
    rw[hi] at e1;cases e1;rw[List.getElem?_set_self ab] at e2;cases e2;exact⟨u,r,.inl ⟨U,by simp⟩⟩
   .rw[List.getElem?_set_ne (Ne.symm hj)] at e2
    obtain⟨u',r',q⟩:=hl j y v' e1 e2 e3;refine⟨u',r',?_⟩;rcases q with ⟨k,e⟩|⟨k,c,e,z⟩
    .refine .inl ⟨k,?_⟩
     have:y≠x:=λe=>hj (Wu hN e1 (e▸hi));simp [this,e]
    .exact .inr ⟨k,c,e,z.sameBut g (cne y c e)⟩
  .obtain⟨w',z⟩:=I.cell y c e
   exact⟨w',z.sameBut g (cne y c e)⟩
  .obtain⟨e,n,ne,nf,d⟩:=I.pin p hp
   exact⟨(g.2 p.1 ne).trans e,n,ne,nf,d⟩
 .have Y:X.fn x=true:=by
   rcases hf with z|z
   .exact z
   .rw[z] at U;cases U
  obtain⟨c,F⟩:=I.ok.has x (.inl U);obtain⟨w',z⟩:=I.cell x c F;refine wpAny_storeName_cell I.ok.kind U F z (λh' af g=>?_);obtain⟨oc,aa,ac⟩:=id z;refine h { s with heap:=h' } ⟨I.ok,I.os,I.bare,⟨λb o e n Z L=>?_,λb o e n Z L=>?_,I.base.free,λb o e L=>?_,I.base.tups,I.base.frzs,I.base.tbls⟩,⟨m,hn.sameBut g (Ne.symm (cne x c F)),λj y v' e1 e2 e3=>?_⟩,λy c' e=>?_,I.free,I.freeC,λp hp=>?_,B ⟨oc,aa,I.freeC x c F⟩ g,by simpa using I.len⟩ ⟨c,g,.inr F⟩
  .exact (g.2 b (zAx (zAG (zAr e) (I.ok.cab x c Y F)))).trans (I.base.keep b o e n Z L)
  .obtain⟨sl,e1⟩:=I.base.slot b o e n Z L
   exact⟨sl,(g.2 b (zAx (zAG (zAr e) (I.ok.cab x c Y F)))).trans e1⟩
  .obtain⟨o',e1⟩:=I.base.there b o e L
   exact⟨o',(g.2 b (zAx (zAG (zAr e) (I.ok.cab x c Y F)))).trans e1⟩
  .by_cases hj:j=i
   .subst hj
    rw[hi] at e1;cases e1;rw[List.getElem?_set_self ab] at e2;cases e2;exact⟨u,r,.inr ⟨.inl U,c,F,af⟩⟩
   .rw[List.getElem?_set_ne (Ne.symm hj)] at e2
    obtain⟨u',r',q⟩:=hl j y v' e1 e2 e3;refine⟨u',r',?_⟩;rcases q with q|⟨k,c',e,z'⟩
    .exact .inl q
    .refine .inr ⟨k,c',e,z'.sameBut g ?_⟩
     rintro rfl;exact hj (Wu hN e1 (I.ok.inj _ _ _ e F▸hi))
  .by_cases ad:c'=c
   .subst ad;exact⟨_,af⟩
   .obtain⟨w2,z2⟩:=I.cell y c' e
    exact⟨w2,z2.sameBut g ad⟩
  .obtain⟨e,n,ne,nf,d⟩:=I.pin p hp
   refine⟨(g.2 p.1 ?_).trans e,n,ne,nf,d⟩;intro q;rw[q,aa] at e;have q':oc=p.2:=Option.some.inj e;exact d w' (by rw[<- q'];exact ac)
def Wz {M:Model} {A:Around} {E:Value->Shared->Prop} {i:Nat} {x:Str} {v:V} {u:Value} {Q:Unit->Shared->Prop} (I:Dm X pins σ H s) (z:X.N.Nodup) (hi:X.N[i]?=some x) (g:LV X.env.scope x) (r:Ht v u)
  (h:∀ s',Dm X pins (σ.set i (some v)) H s'->Q () s') (q:X.fn x=true\/X.env.scope.names.lookup x=some .local:=by first|exact .inl rfl|exact .inr rfl|assumption):wpAny M A (storeName X.env x u) Q E s:=
 Tq I z hi g r (λs' j _=>h s' j) q
def Dm.call' {s':Shared} {ch:List Addr} (I:Dm X pins σ H s) (q:s'.os=s.os) (u:Un (O7 X.stack) ch H H' s.heap s'.heap) (j:WJ X.prog X.w H' s'.heap) (z:AllBare s'.gens)
  (g:∀ b∈ch,(b∈X.ex\/X.s₀.heap.objs.size<=b)/\b≠X.env.locals/\(∀ x c,X.env.cells.lookup x=some c->c≠b)/\∀ p∈X.pn++pins,p.1≠b):Dm X pins σ H' s':=by
 obtain⟨h',g',d',t',o'⟩:=s';have e:o'=s.os:=q;subst e;exact I.call (g':=g') (t':=t') (d':=d') u j z g
end
abbrev XK:=Value->Option Addr->Hp->Prop
abbrev St:=List (Option V)
abbrev VK:=V->Hp->Prop
abbrev TE:=St->Hp->VK->Prop
abbrev TT:=St->Hp->(Bool->Hp->Prop)->Prop
abbrev TA:=St->Hp->(List V->Hp->Prop)->Prop
structure Mn where
 nx:St->Hp->Prop
 rt:VK
 bk:St->Hp->Prop:=λ_ _=>False
 ct:St->Hp->Prop:=λ_ _=>False
abbrev TS:=Mn->St->Hp->Prop
def EP (X:Cx) (pins:List (Addr×Obj)) (σ:St) (Q:VK) (u:Value) (s':Shared):Prop:=∃ v H',Dm X pins σ H' s'/\Ht v u/\Q v H'
def TP (X:Cx) (pins:List (Addr×Obj)) (σ:St) (Q:Bool->Hp->Prop) (b:Bool) (s':Shared):Prop:=∃ H',Dm X pins σ H' s'/\Q b H'
def AP (X:Cx) (pins:List (Addr×Obj)) (σ:St) (Q:List V->Hp->Prop) (us:List Value) (s':Shared):Prop:=∃ vs H',Dm X pins σ H' s'/\Fz vs us/\Q vs H'
def SP (X:Cx) (pins:List (Addr×Obj)) (D:Mn) (f:Flow) (s':Shared):Prop:=
 match f with
 |.next=>∃ σ' H',Dm X pins σ' H' s'/\D.nx σ' H'
 |.brk=>∃ σ' H',Dm X pins σ' H' s'/\D.bk σ' H'
 |.cont=>∃ σ' H',Dm X pins σ' H' s'/\D.ct σ' H'
 |.ret u=>∃ v σ' H',Dm X pins σ' H' s'/\Ht v u/\D.rt v H'
def PE (X:Cx) (e:Expr) (t:TE):Prop:=
 ∀ (pins:List (Addr×Obj)) (s:Shared) (σ:St) (H:Hp) (Q:VK),Dm X pins σ H s->t σ H Q->wpAny (model X.prog X.w) X.A (eval e X.env) (EP X pins σ Q) X.xe s
def PT (X:Cx) (e:Expr) (t:TT):Prop:=
 ∀ (pins:List (Addr×Obj)) (s:Shared) (σ:St) (H:Hp) (Q:Bool->Hp->Prop),Dm X pins σ H s->t σ H Q->wpAny (model X.prog X.w) X.A (isTrue e X.env (eval e X.env)) (TP X pins σ Q) X.xe s
def PW (X:Cx) (e:Expr) (t:TT):Prop:=
 ∀ (whole:Sem Value) (pins:List (Addr×Obj)) (s:Shared) (σ:St) (H:Hp) (Q:Bool->Hp->Prop),Dm X pins σ H s->t σ H Q->wpAny (model X.prog X.w) X.A (isTrue e X.env whole) (TP X pins σ Q) X.xe s
def PW.pt {X:Cx} {e:Expr} {t:TT} (h:PW X e t):PT X e t:=h _
def PA (X:Cx) (es:List Expr) (t:TA):Prop:=
 ∀ (pos:Pos) (pins:List (Addr×Obj)) (s:Shared) (σ:St) (H:Hp) (Q:List V->Hp->Prop),Dm X pins σ H s->t σ H Q->wpAny (model X.prog X.w) X.A (spliced (backTo pos (starEach es X.env))) (AP X pins σ Q) X.xe s
def PS (X:Cx) (st:Stmt) (t:TS):Prop:=
 ∀ (pins:List (Addr×Obj)) (s:Shared) (σ:St) (H:Hp) (D:Mn),Dm X pins σ H s->t D σ H->wpAny (model X.prog X.w) X.A (exec st X.env) (SP X pins D) X.xe s
def PSs (X:Cx) (st:List Stmt) (t:TS):Prop:=
 ∀ (pins:List (Addr×Obj)) (s:Shared) (σ:St) (H:Hp) (D:Mn),Dm X pins σ H s->t D σ H->wpAny (model X.prog X.w) X.A (execs st X.env) (SP X pins D) X.xe s
def Bt {α:Type} {t} {Q g:α->Shared->Prop} {M} {A} {E:Value->Shared->Prop} {s} (h:wpAny M A t Q E s) (j:∀ a s,Q a s->g a s):wpAny M A t g E s:=wpAny_mono h j λ_ _ x=>x
section
variable {X:Cx}
def VM {a b} {ta tb} (Y:PE X a ta) (F:PE X b tb) {pins} {s} {σ} {H} {R:V->V->Hp->Prop} (I:Dm X pins σ H s) (h:ta σ H λx H1=>tb σ H1 λy g=>R x y g)
  {α:Type} {Q:α->Shared->Prop} {f:Value->Value->Sem α}
  (M:∀ v u j x y g,Dm X pins σ g j->Ht x v->Ht y u->R x y g->wpAny (model X.prog X.w) X.A (f v u) Q X.xe j) :
  wpAny (model X.prog X.w) X.A (eval a X.env) (λv U=>wpAny (model X.prog X.w) X.A (eval b X.env) (λu B=>wpAny (model X.prog X.w) X.A (f v u) Q X.xe B) X.xe U) X.xe s:=by
 refine Bt (Y pins s σ H _ I h) λv z ⟨x,H1,S,r1,L⟩=>?_;refine Bt (F pins z σ H1 _ S L) λu j ⟨y,g,Z,r2,q⟩=>?_;exact M v u j x y g Z r1 r2 q
def Q5 (i:Nat):TE:=λσ H Q=>∃ v,σ[i]?=some (some v)/\Q v H
def tC (v:V):TE:=λ_ H Q=>Q v H
def JG {i:Nat} {x:Str} (S:X.N[i]?=some x) (L:RL X.env.scope x) (z:(x==("__debug__" : Str))=false:=by decide) (hcd:(x==("__classdict__" : Str))=false:=by decide):PE X (.Name x pos) (Q5 i):=by
 intro pins s σ H Q I h;obtain⟨v,e,h⟩:=h;obtain⟨m,F,hl⟩:=I.loc;obtain⟨u,r,l⟩:=hl i x v S e L;have j:EP X pins σ Q u s:=⟨v,H,I,r,h⟩;rcases l with ⟨q,M⟩|⟨q,c,B,g⟩
 .exact wpAny_Name (wpAny_loadName_local I.ok.kind q F M j) z
 .rcases q with q|q
  .exact wpAny_Name (wpAny_loadName_cell I.ok.kind q B g j) z
  .exact wpAny_Name (wpAny_loadName_free I.ok.kind q B g j hcd) z
def Ad {i j pos}:PE X (.Constant (.int i) j pos) (tC (.int i)):=λ_ _ _ H _ I h=>wpAny_Constant_int ⟨.int i,H,I.tok _,⟨_,rfl⟩,h⟩
def Dd {b j pos}:PE X (.Constant (.bool b) j pos) (tC (.bl b)):=λ_ _ _ H _ I h=>Constant_bool ⟨.bl b,H,I,rfl,h⟩
def Ep {j pos}:PE X (.Constant .none j pos) (tC .non):=λ_ _ _ H _ I h=>Constant_none ⟨.non,H,I,rfl,h⟩
def Az {x j pos}:PE X (.Constant (.str x) j pos) (tC (.str x)):=λ_ _ _ H _ I h=>Calls.Constant_str ⟨.str x,H,I.tok _,⟨_,rfl⟩,h⟩
def Gl (X:Cx) (x:Str):Prop:=X.env.kindOf x=some .globalImplicit
def Hq {E:Value->Shared->Prop} {s:Shared} {x:Str} {u:Value} {Q:Value->Shared->Prop} (I:Dm X pins σ H s) (q:Gl X x) (j:X.mg x=some u) (h:Q u s)
  (g:(x==("__debug__" : Str))=false:=by decide):wpAny (model X.prog X.w) X.A (eval (.Name x pos) X.env) Q E s:=
 Calls.Name_function_global I.ok.kind q (Calls.loadGlobal_global (by rw[I.ok.glob];exact I.mod.glob.keeps I.bk) j h) g
def Ev {E:Value->Shared->Prop} {s:Shared} {x:Str} {u:Value} {Q:Value->Shared->Prop} (I:Dm X pins σ H s) (q:Gl X x) (B:X.mg x=none) (z:zCF x=some u) (h:Q u s)
  (g:x ≠ "__name__":=by decide) (hd:(x==("__debug__" : Str))=false:=by decide):wpAny (model X.prog X.w) X.A (eval (.Name x pos) X.env) Q E s:=by
 obtain⟨F,h1,j⟩:=I.mod.blt;exact Calls.Name_function_global I.ok.kind q (Calls.loadGlobal_builtin (by rw[I.ok.glob];exact I.mod.glob.keeps I.bk) B (by rw[I.ok.blt];exact h1.keeps I.bk) ((j x g).trans z) h) hd
def Ol {x:Str} {v:V} {u:Value} (q:Gl X x) (j:X.mg x=some u) (r:Ht v u) (g:(x==("__debug__" : Str))=false:=by decide):PE X (.Name x pos) (tC v):=
 λ_ _ _ H _ I h=>Hq I q j ⟨v,H,I,r,h⟩ g
def FT {x:Str} {v:V} {u:Value} (q:Gl X x) (j:X.mg x=none) (g:zCF x=some u) (r:Ht v u) (z:x ≠ "__name__":=by decide) (hd:(x==("__debug__" : Str))=false:=by decide):PE X (.Name x pos) (tC v):=
 λ_ _ _ H _ I h=>Ev I q j g ⟨v,H,I,r,h⟩ z hd
variable {a b:Expr} {ta tb:TE} {pos:Pos}
def PC (X:Cx) (op:CmpOp) (a b:Expr) (t:TE):Prop:=
 ∀ (pins:List (Addr×Obj)) (s:Shared) (σ:St) (H:Hp) (Q:VK),Dm X pins σ H s->t σ H Q ->
  wpAny (model X.prog X.w) X.A (eval a X.env) (λv s₁=>wpAny (model X.prog X.w) X.A (eval b X.env) (λu s₂=>wpAny (model X.prog X.w) X.A (compareOp op v u) (EP X pins σ Q) X.xe s₂) X.xe s₁) X.xe s
def tB (t:TE):TT:=λσ H Q=>t σ H λx H1=>∃ c,x=.bl c/\Q c H1
def LG {op:CmpOp} {t:TE} (h:PC X op a b t) (h1:behindInMarks op b=false:=by first|exact nobehind _ (by decide) (by decide)|rfl):PE X (.Compare a [op] [b] pos) t:=λpins s σ H Q I g=>wpAny_Compare1 (h pins s σ H Q I g) h1
def LU {op} {t} (h:PC X op a b t) (h1:behindInMarks op b=false:=by first|exact nobehind _ (by decide) (by decide)|rfl):PT X (.Compare a [op] [b] pos) (tB t):=by
 intro pins s σ H Q I g;refine wpAny_isTrue_Compare1 (Bt (h pins s σ H _ I g) λv L h1=>Bt h1 λu S z=>Bt z λc M ⟨x,H1,B,F,j⟩=>?_) h1;obtain⟨d,rfl,q⟩:=j;cases F;exact wpAny_truthy_bool ⟨H1,B,q⟩
def Bg {e} {t} (h:PE X e t) (z:∀ g,isTrue e X.env g=(do let v <- g;standAt e.pos;holding [v] (truthy v)):=by intro _;rfl):PT X e (tB t):=by
 intro pins s σ H Q I j;refine isTrue_plain (Bt (h pins s σ H _ I j) λv M ⟨x,H1,F,L,B⟩=>?_) (z _);obtain⟨d,rfl,q⟩:=B;cases L;exact wpAny_truthy_bool ⟨H1,F,q⟩
variable {tA tB':TT} {rest:List Expr}
def SX (t u:TT):TT:=λσ H Q=>t σ H λc H1=>if c=true then u σ H1 Q else Q false H1
def UY (t u:TT):TT:=λσ H Q=>t σ H λc H1=>if c=true then Q true H1 else u σ H1 Q
def RW (t:TT):TT:=λσ H Q=>t σ H λc H1=>Q (!c) H1
def Lj (g:PT X a tA):PW X (.BoolOp .And [a] pos) tA:=by
 intro q pins s σ H Q I h;refine isTrue_and (Bt (g pins s σ H Q I h) λc j e=>?_);cases c with
 |true=>exact isTrue_and_nil e
 |false=>exact e
def Dx (g:PT X a tA):PW X (.BoolOp .Or [a] pos) tA:=by
 intro q pins s σ H Q I h;refine isTrue_or (Bt (g pins s σ H Q I h) λc j e=>?_);cases c with
 |false=>exact isTrue_or_nil e
 |true=>exact e
def Pu (F:PT X a tA) (z:PW X (.BoolOp .And (b::rest) pos) tB'):PW X (.BoolOp .And (a::b::rest) pos) (SX tA tB'):=by
 intro B pins s σ H Q I h;refine isTrue_and (Bt (F pins s σ H _ I h) λc q ⟨H1,j,g⟩=>?_);cases c with
 |true=>exact z B pins q σ H1 Q j g
 |false=>exact⟨H1,j,g⟩
def Eb (F:PT X a tA) (z:PW X (.BoolOp .Or (b::rest) pos) tB'):PW X (.BoolOp .Or (a::b::rest) pos) (UY tA tB'):=by
 intro B pins s σ H Q I h;refine isTrue_or (Bt (F pins s σ H _ I h) λc q ⟨H1,j,g⟩=>?_);cases c with
 |true=>exact⟨H1,j,g⟩
 |false=>exact z B pins q σ H1 Q j g
def Bp (g:PT X a tA):PT X (.UnaryOp .Not a pos) (RW tA):=by
 intro pins s σ H Q I h;exact isTrue_not (g pins s σ H (λc H1=>Q (!c) H1) I h)
def PY (ta tb:TE):TE:=λσ H Q=>ta σ H λx H1=>∃ c,x=.bl c/\if c=true then tb σ H1 Q else Q (.bl false) H1
def SJ (ta tb:TE):TE:=λσ H Q=>ta σ H λx H1=>∃ c,x=.bl c/\if c=true then Q (.bl true) H1 else tb σ H1 Q
def OS (ta:TE):TE:=λσ H Q=>ta σ H λx H1=>∃ c,x=.bl c/\Q (.bl (!c)) H1
def Kc {op} {t:TE} (h:PE X a t):PE X (.BoolOp op [a] pos) t:=λpins s σ H Q I g=>BoolOp_one (h pins s σ H Q I g)
def Mb (B:PE X a ta) (z:PE X (.BoolOp .And (b::rest) pos) tb):PE X (.BoolOp .And (a::b::rest) pos) (PY ta tb):=by
 intro pins s σ H Q I h;refine BoolOp_and (Bt (B pins s σ H _ I h) λv q ⟨x,H1,j,F,g⟩=>?_);obtain⟨c,rfl,g⟩:=g;cases F;refine wpAny_truthy_bool ?_;cases c with
 |true=>exact z pins q σ H1 Q j g
 |false=>exact⟨.bl false,H1,j,rfl,g⟩
def OO (B:PE X a ta) (z:PE X (.BoolOp .Or (b::rest) pos) tb):PE X (.BoolOp .Or (a::b::rest) pos) (SJ ta tb):=by
 intro pins s σ H Q I h;refine BoolOp_or (Bt (B pins s σ H _ I h) λv q ⟨x,H1,j,F,g⟩=>?_);obtain⟨c,rfl,g⟩:=g;cases F;refine wpAny_truthy_bool ?_;cases c with
 |false=>exact z pins q σ H1 Q j g
 |true=>exact⟨.bl true,H1,j,rfl,g⟩
def A1 (q:PE X a ta):PE X (.UnaryOp .Not a pos) (OS ta):=by
 intro pins s σ H Q I h;refine UnaryOp_ (Bt (q pins s σ H _ I h) λv B ⟨x,H1,j,z,g⟩=>?_);obtain⟨c,rfl,g⟩:=g;cases z;exact not_of (wpAny_truthy_bool ⟨.bl (!c),H1,j,rfl,g⟩)
def VB (t:TT) (ta tb:TE):TE:=λσ H Q=>t σ H λc H1=>if c=true then ta σ H1 Q else tb σ H1 Q
def Je {c} (B:PT X c tA) (F:PE X a ta) (z:PE X b tb):PE X (.IfExp c a b pos) (VB tA ta tb):=by
 intro pins s σ H Q I h;refine wpAny_IfExp (Bt (B pins s σ H _ I h) λd g ⟨H1,q,j⟩=>?_);cases d with
 |true=>exact F pins g σ H1 Q q j
 |false=>exact z pins g σ H1 Q q j
end
def Dl (K:zAa) (H:Hp) (a:Addr) (xs:List V):Prop:=
 Rd H a (.lst xs) \/
  ∃ (o:Obj) (its:Array Value) (n:Nat),K.lookup a=some o/\o.cls=.type "list"/\o.dict=none/\o.data=.seq its n/\its.size<=sizeLine/\Fz xs its.toList
def Jy (K:zAa) (H:Hp) (a:Addr) (xs:List V):Prop:=
 Rd H a (.tup xs) \/
  ∃ (o:Obj) (its:Array Value) (n:Nat),K.lookup a=some o/\o.cls=.type "tuple"/\o.data=.seq its n/\its.size<=sizeLine/\Fz xs its.toList
def SM:Value->Option V
 |.none=>some .non
 |.bool b=>some (.bl b)
 |.int i _=>some (.int i)
 |.str x _=>some (.str x)
 |.bytes b _=>some (.byt b)
 |.float b _=>some (.flt b)
 |.ref a=>some (.ref a)
 |.type n=>some (.ty n)
 |_=>none
def Ht.abs {x:V} {u:Value} (r:Ht x u):SM u=some x:=by
 cases x with
 |non=>cases r;rfl
 |bl _=>cases r;rfl
 |int _=>obtain⟨t,rfl⟩:=r;rfl
 |str _=>obtain⟨t,rfl⟩:=r;rfl
 |byt _=>obtain⟨t,rfl⟩:=r;rfl
 |flt _=>obtain⟨t,rfl⟩:=r;rfl
 |ref _=>cases r;rfl
 |ty _=>cases r;rfl
def Ht.inj {x y:V} {u:Value} (r:Ht x u) (q:Ht y u):x=y:=Option.some.inj (r.abs.symm.trans q.abs)
theorem Fz.inj:∀ {xs ys} {us},Fz xs us->Fz ys us->xs=ys
 |_,_,_,.nil,.nil=>rfl
 |_,_,_,.cons r t,.cons g j=>by rw[r.inj g,Fz.inj t j]
section
variable {X:Cx} {pins:List (Addr×Obj)} {σ:St} {H:Hp} {s:Shared} {a:Addr} {xs ys:List V}
def Dl.of {K} (h:H a=some (.lst xs)):Dl K H a xs:=.inl (.inl h)
def Jy.of {K} (h:H a=some (.tup xs)):Jy K H a xs:=.inl (.inl h)
def Dm.list (I:Dm X pins σ H s) (h:Dl X.K H a xs):∃ g:List Value,Fz xs g/\PlainL s.heap a g.toArray/\xs.length<=sizeLine:=by
 rcases h with h|⟨o,g,n,F,q,B,j,L,r⟩
 .obtain⟨z,g,n,r,e⟩:=h.ok I.hok
  exact⟨g,r,⟨_,n,e,rfl,rfl,rfl⟩,z⟩
 .refine⟨g.toList,r,⟨o,n,I.kIn a o F,q,B,by simpa using j⟩,?_⟩
  have e:=r.length;simp only [zAA] at e
  lia
def Dm.tuple (I:Dm X pins σ H s) (h:Jy X.K H a xs):∃ g:List Value,Fz xs g/\IsTup s.heap a g.toArray/\xs.length<=sizeLine:=by
 rcases h with h|⟨o,g,n,B,q,j,F,r⟩
 .obtain⟨z,g,r,p⟩:=h.ok I.hok
  exact⟨g,r,p,z⟩
 .refine⟨g.toList,r,⟨o,I.kIn a o B,q,n,by simpa using j⟩,?_⟩
  have e:=r.length;simp only [zAA] at e
  lia
def Dm.list_inj (I:Dm X pins σ H s) (h:Dl X.K H a xs) (h':Dl X.K H a ys):xs=ys:=by
 obtain⟨g,r,⟨o,n,e,_,_,d⟩,_⟩:=I.list h;obtain⟨its',B,⟨o',F,q,_,_,j⟩,_⟩:=I.list h';rw[e] at q;cases q;rw[d] at j;injection j with z _;have:g=its':=by simpa using congrArg Array.toList z
 subst this;exact r.inj B
def Dm.tuple_inj (I:Dm X pins σ H s) (h:Jy X.K H a xs) (h':Jy X.K H a ys):xs=ys:=by
 obtain⟨g,r,⟨o,e,_,n,d⟩,_⟩:=I.tuple h;obtain⟨its',B,⟨o',q,_,F,j⟩,_⟩:=I.tuple h';rw[e] at q;cases q;rw[d] at j;injection j with z _;have:g=its':=by simpa using congrArg Array.toList z
 subst this;exact r.inj B
end
abbrev Cx.wish (X:Cx) (E:Value->Shared->Prop):Cx:={ X with xe:=E }
abbrev Cx.nox (X:Cx):Cx:=X.wish λ_ _=>False
def Cx.Ok.wish {X:Cx} (ok:X.Ok) (E:Value->Shared->Prop):(X.wish E).Ok:=
 ⟨ok.mod,ok.kind,ok.glob,ok.blt,ok.above,ok.inj,ok.has,ok.cab,ok.hd,ok.frames,ok.stk,ok.exf,ok.bs,ok.bsz,ok.noex,ok.exfs,ok.funs,ok.frf⟩
def Cx.Ok.unwish {X:Cx} {E:Value->Shared->Prop} (ok:(X.wish E).Ok):X.Ok:=
 ⟨ok.mod,ok.kind,ok.glob,ok.blt,ok.above,ok.inj,ok.has,ok.cab,ok.hd,ok.frames,ok.stk,ok.exf,ok.bs,ok.bsz,ok.noex,ok.exfs,ok.funs,ok.frf⟩
section
variable {X:Cx} {pins:List (Addr×Obj)} {σ:St} {H:Hp} {s:Shared} {E:Value->Shared->Prop}
def Dm.wish (I:Dm X pins σ H s) (E:Value->Shared->Prop):Dm (X.wish E) pins σ H s:=⟨I.ok.wish E,I.os,I.bare,I.base,I.loc,I.cell,I.free,I.freeC,I.pin,I.hok,I.len⟩
def Dm.unwish (I:Dm (X.wish E) pins σ H s):Dm X pins σ H s:=⟨I.ok.unwish,I.os,I.bare,I.base,I.loc,I.cell,I.free,I.freeC,I.pin,I.hok,I.len⟩
def SP.unwish {D:Mn} {f:Flow} {s':Shared} (h:SP (X.wish E) pins D f s'):SP X pins D f s':=by
 cases f with
 |next=>obtain⟨g,H',I,q⟩:=h;exact⟨g,H',I.unwish,q⟩
 |brk=>obtain⟨g,H',I,q⟩:=h;exact⟨g,H',I.unwish,q⟩
 |cont=>obtain⟨g,H',I,q⟩:=h;exact⟨g,H',I.unwish,q⟩
 |ret u=>obtain⟨v,g,H',I,r,q⟩:=h;exact⟨v,g,H',I.unwish,r,q⟩
def PSs.nox {st} {t} (h:PSs X.nox st t):PSs X st t:=λpins s σ H D I g=>
 wpAny_mono (h pins s σ H D (I.wish _) g) (λ_ _ q=>q.unwish) λ_ _ z=>False.elim z
end
section
variable {X:Cx} {st:Stmt} {rest:List Stmt} {t u:TS} {e:Expr} {te:TE} {pos:Pos}
def MM:TS:=λD σ H=>D.nx σ H
def N5 (t u:TS):TS:=λD σ H=>t { D with nx:=u D } σ H
def Al:PSs X [] MM:=λ_ _ σ H _ I h=>wpAny_execs_nil ⟨σ,H,I,h⟩
def Ab (h1:PS X st t) (B:PSs X rest u):PSs X (st::rest) (N5 t u):=by
 intro pins s σ H D I h;refine wpAny_execs_cons (Bt (h1 pins s σ H { D with nx:=u D } I h) λf g q=>?_);cases f with
 |next=>
  obtain⟨j,H',z,q⟩:=q;exact B pins g j H' D z q
 |ret v=>exact q
 |brk=>exact q
 |cont=>exact q
def Ac (h1:PS X st t):PSs X [st] t:=by
 intro pins s σ H D I h;refine wpAny_execs_cons (Bt (h1 pins s σ H D I h) λf g q=>?_);cases f with
 |next=>exact wpAny_execs_nil q
 |ret v=>exact q
 |brk=>exact q
 |cont=>exact q
def Dm.quiet {s:Shared} (I:Dm X pins σ H s):interactive X.env=false:=by simp [interactive,I.ok.kind]
def OQ (te:TE):TS:=λD σ H=>te σ H λ_ H1=>D.nx σ H1
def Bc (j:PE X e te) (g:swapsWith e none pos.line X.env=pure false:=by rfl):PS X (.Expr e pos) (OQ te):=by
 intro pins s σ H D I h;exact wpAny_Expr_any (Bt (j pins s σ H _ I h) λv B ⟨x,H1,z,F,q⟩=>⟨σ,H1,z,q⟩) I.quiet g
def SG (te:TE):TS:=λD σ H=>te σ H D.rt
def Ai (g:PE X e te):PS X (.Return (some e) pos) (SG te):=by
 intro pins s σ H D I h;exact wpAny_Return_some (Bt (g pins s σ H _ I h) λv B ⟨x,H1,q,z,j⟩=>⟨x,σ,H1,q,z,j⟩)
def RI (c:TT) (t u:TS):TS:=λD σ H=>c σ H λb H1=>if b=true then t D σ H1 else u D σ H1
def Au {c} {a b} {tc} (B:PT X c tc) (F:PSs X a t) (z:PSs X b u):PS X (.If c a b pos) (RI tc t u):=by
 intro pins s σ H D I h;refine wpAny_If (Bt (B pins s σ H _ I h) λd g ⟨H1,q,j⟩=>?_);cases d with
 |true=>exact F pins g σ H1 D q j
 |false=>exact z pins g σ H1 D q j
def JR:TS:=λ_ _ _=>False
def Bs:PS X st JR:=λ_ _ _ _ _ _ h=>h.elim
end
abbrev TG:=V->St->Hp->(St->Hp->Prop)->Prop
abbrev LY:=List V->St->Hp->(St->Hp->Prop)->Prop
def PG (X:Cx) (target:Expr) (t:TG):Prop:=
 ∀ (pins:List (Addr×Obj)) (s:Shared) (σ:St) (H:Hp) (v:V) (u:Value) (Q:St->Hp->Prop),Dm X pins σ H s->Ht v u->t v σ H Q ->
  wpAny (model X.prog X.w) X.A (assign target X.env u) (λ_ s'=>∃ σ' H',Dm X pins σ' H' s'/\Q σ' H') X.xe s
def OJ (X:Cx) (ts:List Expr) (t:LY):Prop:=
 ∀ (pins:List (Addr×Obj)) (s:Shared) (σ:St) (H:Hp) (vs:List V) (us:List Value) (Q:St->Hp->Prop),Dm X pins σ H s->Fz vs us->t vs σ H Q ->
  wpAny (model X.prog X.w) X.A (assignInOrder ((assignEach ts X.env).map (·.2)) us) (λ_ s'=>∃ σ' H',Dm X pins σ' H' s'/\Q σ' H') X.xe s
abbrev MS:=V->V->V->Hp->(Hp->Prop)->Prop
def NZ (X:Cx) (t:MS):Prop:=
 ∀ (pins:List (Addr×Obj)) (s:Shared) (σ:St) (H:Hp) (o i v:V) (ov iv u:Value) (Q:Hp->Prop),Dm X pins σ H s->Ht o ov->Ht i iv->Ht v u->t o i v H Q ->
  wpAny (model X.prog X.w) X.A (setItem ov iv u) (λ_ s'=>∃ H',Dm X pins σ H' s'/\Q H') X.xe s
section
variable {X:Cx} {pos:Pos}
def Cg (i:Nat):TG:=λv σ H Q=>Q (σ.set i (some v)) H
def Uf {i:Nat} {x:Str} (z:X.N.Nodup) (hi:X.N[i]?=some x) (g:LV X.env.scope x) (q:X.fn x=true\/X.env.scope.names.lookup x=some .local:=by first|exact .inl rfl|exact .inr rfl|assumption):PG X (.Name x pos) (Cg i):=by
 intro pins s σ H v u Q I r h;exact wpAny_assign_Name (Wz I z hi g r (λs' j=>⟨_,H,j,h⟩) q)
def V2:LY:=λvs σ H Q=>vs=[]/\Q σ H
def Gw (t:TG) (u:LY):LY:=λvs σ H Q=>∃ v r,vs=v::r/\t v σ H λσ' H'=>u r σ' H' Q
def Cs:OJ X [] V2:=by
 intro pins s σ H vs g Q I r h;obtain⟨e,h⟩:=h;subst e;cases r;exact assignInOrder_nil ⟨σ,H,I,h⟩
def As {e} {es} {t} {u} (h1:PG X e t) (z:OJ X es u)
  (j:(assignEach (e::es) X.env).map (·.2)=assign e X.env::(assignEach es X.env).map (·.2):=by rfl):OJ X (e::es) (Gw t u):=by
 intro pins s σ H vs S Q I r h;obtain⟨v,M,e1,h⟩:=h;subst e1;cases r with
 |cons r F=>
  rw[j];refine assignInOrder_cons (Bt (h1 pins s σ H _ _ _ I r h) λ_ g ⟨L,H1,B,q⟩=>?_);exact z pins g L H1 _ _ Q B F q
def Zq (K:zAa) (n:Nat) (t:LY):TG:=λv σ H Q=>∃ a xs,v=.ref a/\Jy K H a xs/\xs.length=n/\t xs σ H Q
def KF {es:List Expr} {k:Nat} {t:LY} {n:Nat} (z:X.calm=true) (h:OJ X es t)
  (B:(assignEach es X.env).length=n:=by rfl) (hst:(assignEach es X.env).findIdx? (·.1)=none:=by rfl):PG X (.Tuple es k pos) (Zq X.K n t):=by
 intro pins s σ H v u Q I r g;obtain⟨a,xs,e1,S,hl,g⟩:=g;subst e1;cases r;obtain⟨q,j,L,U⟩:=I.tuple S;refine assign_Tuple_tuple (I.ok.hd z) L (by simp [B,<- hl,j.length]) hst λh' F=>?_;have M:Dm X pins σ H { s with heap:=h' }:=I.kept (t':=s.toks) λb o e=>F b o (zAx (zAr e)) e;exact h pins _ σ H xs _ Q M (by simpa using j) g
def UB (to ti:TE) (t:MS):TG:=λv σ H Q=>to σ H λo H1=>ti σ H1 λi H2=>t o i v H2 λH3=>Q σ H3
def KA {o i} {to q} {t} (B:PE X o to) (hi:PE X i q) (Z:NZ X t)
  (ha:∀ v,assign (.Subscript o i pos) X.env v=(do
   let g <- holding [v] (eval o X.env)
   let j <- holding [v,g] (eval i X.env)
   standAt pos
   holding [v,g,j] (setItem g j v)
   release [v,g,j] []):=by intro _;rfl):PG X (.Subscript o i pos) (UB to q t):=by
 intro pins s σ H v u Q I r h;rw[ha];refine zCC (wpAny_holding (Bt (B pins s σ H _ I h) λg Y ⟨x,H1,F,r1,z⟩=>?_));refine zCC (wpAny_holding (Bt (hi pins Y σ H1 _ F z) λj S ⟨y,H2,U,r2,M⟩=>?_));refine zCC (wpAny_standAt (zCC (wpAny_holding (Bt (Z pins S σ H2 x y v g j u _ U r1 r2 r M) λ_ s3 ⟨H3,L,q3⟩=>?_))));exact wpAny_release ⟨σ,H3,L,q3⟩
def BX (te:TE) (g:TG):TS:=λD σ H=>te σ H λx H1=>g x σ H1 D.nx
def B0 {tg e} {te} {g} (B:PE X e te) (L:PG X tg g) (z:swapsWithSole [tg] e pos.line X.env=pure false:=by rfl) (hw:swappedStores [tg] e X.env=pure none:=by rfl)
  (h1:(assignEach [tg] X.env).map (·.2)=[assign tg X.env]:=by rfl):PS X (.Assign [tg] e pos) (BX te g):=by
 intro pins s σ H D I h;refine wpAny_Assign_stores (Bt (B pins s σ H _ I h) λv j ⟨x,H1,M,S,F⟩=>?_) z hw;rw[h1];exact Bt (L pins j σ H1 x v _ M S F) λ_ U q=>q
def Mm {i:Nat} {x} {e} {te} {pos'} (F:X.N.Nodup) (hi:X.N[i]?=some x) (z:LV X.env.scope x) (j:PE X e te) (g:swapsWith e (some (.Name x pos')) pos.line X.env=pure false:=by rfl) (hf:X.fn x=true\/X.env.scope.names.lookup x=some .local:=by first|exact .inl rfl|exact .inr rfl|assumption) :
  PS X (.Assign [.Name x pos'] e pos) (BX te (Cg i)):=by
 intro pins s σ H D I h;refine wpAny_Assign_Name (Bt (j pins s σ H _ I h) λv S ⟨y,H1,B,M,q⟩=>?_) g;exact Wz B F hi z M (λU L=>⟨_,H1,L,q⟩) hf
end
structure It where
 go:Nat->Hp->Prop
 yld:Nat->Hp->V->Hp->Prop
 stop:Nat->Hp->Prop
def Hs (X:Cx) (pins:List (Addr×Obj)) (H:Hp) (b:Addr):Prop:=
 H b=none/\b≠X.env.locals/\b∉X.fs/\(b∈X.ex\/X.s₀.heap.objs.size<=b)/\(∀ x c,X.env.cells.lookup x=some c->c≠b)/\∀ p∈X.pn++pins,p.1≠b
def Dm.fpOk {X:Cx} {H H':Hp} {s:Shared} {b:Addr} (I:Dm X pins σ H s) (g:s.heap.objs.size<=b) (B:H' b=none):Hs X pins H' b:=by
 refine⟨B,zBz (zAG I.lt g),I.nofs g,.inr (zAz I.sz g),λx c e z=>?_,λp j z=>?_⟩
 .obtain⟨v,q⟩:=I.cell x c e
  exact absurd (zAG q.lt (by rw[z];exact g)) (zBn _)
 .exact absurd (zAG (zAr (I.pin p j).1) (by rw[z];exact g)) (zBn _)
structure Ug (P:Program) (w:World) (K:zAa) (tg:Expr) (J:It) (fp:List Addr) (it:Addr) (tn:Nat->Heap->Prop):Prop where
 mem:it∈fp
 obj:∀ i h,tn i h->∀ b∈fp,∃ o,h.get? b=some o/\∀ v,o.data≠.cell v
 keep:∀ i h h',tn i h->(∀ b∈fp,∀ o,h.get? b=some o->h'.get? b=some o)->tn i h'
 item:∀ (X:Cx),X.prog=P->X.w=w->X.K=K->X.calm=true->∀ (i:Nat) (pins:List (Addr×Obj)) (s:Shared) (σ:St) (H:Hp) (E:Value->Shared->Prop),Dm X pins σ H s->(∀ b∈fp,Hs X pins H b)->tn i s.heap->J.go i H ->
  wpAny (model P w) X.A (pyNext (.ref it)) (λr s1=>∃ u,r=some u /\
   wpAny (model P w) X.A (letOwnedTupleGo tg (.ref it) u) (λ_ s2=>∃ x H',Dm X pins σ H' s2/\Ht x u/\J.yld i H x H'/\tn (i+1) s2.heap/\∀ b∈fp,H' b=none) E s1) E s
 done:∀ (X:Cx),X.prog=P->X.w=w->X.K=K->X.calm=true->∀ (i:Nat) (pins:List (Addr×Obj)) (s:Shared) (σ:St) (H:Hp) (E:Value->Shared->Prop),Dm X pins σ H s->(∀ b∈fp,Hs X pins H b)->tn i s.heap->J.stop i H ->
  wpAny (model P w) X.A (pyNext (.ref it)) (λr s1=>r=none/\Dm X pins σ H s1) E s
 self:∀ (A:Around) (i:Nat) (s:Shared) (Q:Value->Shared->Prop) (E:Value->Shared->Prop),tn i s.heap->Q (.ref it) s->wpAny (model P w) A (pyIter (.ref it)) Q E s
abbrev TI:=St->Hp->(It->Hp->Prop)->Prop
def SI (X:Cx) (pins:List (Addr×Obj)) (σ:St) (tg:Expr) (R:It->Hp->Prop) (itv:Value) (s2:Shared):Prop:=
 ∃ (it:Addr) (fp:List Addr) (tn:Nat->Heap->Prop) (J:It) (H':Hp),itv=.ref it/\Dm X pins σ H' s2/\Ug X.prog X.w X.K tg J fp it tn/\tn 0 s2.heap/\(∀ b∈fp,Hs X pins H' b)/\R J H'
def PI (X:Cx) (tg iter:Expr) (wi:TI):Prop:=
 ∀ (pins:List (Addr×Obj)) (s:Shared) (σ:St) (H:Hp) (R:It->Hp->Prop),Dm X pins σ H s->wi σ H R ->
  wpAny (model X.prog X.w) X.A (eval iter X.env) (λv s1=>wpAny (model X.prog X.w) X.A (pyIter v) (SI X pins σ tg R) X.xe s1) X.xe s
def Xy {M} {A} {E:Value->Shared->Prop} {s} {tg} {it} {u} {o} {n} {vs} {Q:Unit->Shared->Prop} (ho:s.heap.get? it=some o) (hc:o.cls=.type n) (hd:o.data=.fields vs)
  (hn:["enumerate","zip","dict_itemiterator","dict_reverseitemiterator","odict_iterator","itertools.zip_longest","itertools.pairwise"].contains n=false) (hQ:Q () s):wpAny M A (letOwnedTupleGo tg (.ref it) u) Q E s:=by
 unfold letOwnedTupleGo;cases tg <;> first
  |exact zCD hQ
  | (cases u <;> first
    |exact zCD hQ
    | (refine zCC (wpAny_load ho ?_)
       rw[hc,hd];show wpAny M A (if (["enumerate","zip","dict_itemiterator","dict_reverseitemiterator","odict_iterator","itertools.zip_longest","itertools.pairwise"].contains n&&vs[0]?==some (rawInt _))=true then _ else _) Q E s;rw[if_neg (by intro h;rw[hn,zCr] at h;cases h)];exact zCD hQ))
def V3 (K:zAa) (a:Addr):It:=
 ⟨λi H=>∃ xs x,Dl K H a xs/\xs[i]?=some x,λi H x H'=>H'=H/\∀ xs,Dl K H a xs->xs[i]?=some x,λi H=>∃ xs,Dl K H a xs/\xs.length<=i⟩
def R7 (lo:Int) (n:Nat):It:=⟨λi _=>i<n,λi H x H'=>H'=H/\x=.int (lo+i),λi _=>n<=i⟩
def O5 {P} {w} {K} {tg} (a it:Addr):Ug P w K tg (V3 K a) [it] it (λi h=>h.IsListIter it a i) where
 mem:=by simp
 obj:=λi h st b g=>by
  have e:b=it:=by simpa using g
  subst e;obtain⟨o,e,c,d⟩:=st;exact⟨o,e,λv z=>by rw[d] at z;cases z⟩
 keep:=λi h h' st k=>st.at λo e=>k it (by simp) o e
 item:=by
  intro X M F L hc i pins s σ H E I q st hg;subst M F L;obtain⟨xs,x,B,hx⟩:=hg;obtain⟨Z,S,p,hz⟩:=I.list B;obtain⟨u,hu,ru⟩:=S.get hx;obtain⟨f0,f1,f2,U,f4,Y⟩:=q it (by simp);refine wpAny_pyNext_list_item st p.isList (x:=u) (by simpa using hu) λh' j sb=>?_;have I1:Dm X pins σ H { s with heap:=h' }:=I.turned (t':=s.toks) (λb o g e=>(sb.2 b g).trans e) f0 f1 U f4 Y;obtain⟨o,e,c,d⟩:=id j;exact⟨u,rfl,Xy (s:={ s with heap:=h' }) e c d (by decide) ⟨x,H,I1,ru,⟨rfl,λys hy=>by rw[I.list_inj hy B];exact hx⟩,j,λb g=>(q b g).1⟩⟩
 done:=by
  intro X M F L hc i pins s σ H E I q st hg;subst M F L;obtain⟨xs,B,hx⟩:=hg;obtain⟨Z,S,p,hz⟩:=I.list B;obtain⟨f0,f1,f2,U,f4,Y⟩:=q it (by simp);have hl:=S.length;exact wpAny_pyNext_list_end (I.ok.hd hc) st p.isList (by simp;lia) λh' eb=>⟨rfl,I.turned (t':=s.toks) (λb o g e=>eb b o g e) f0 f1 U f4 Y⟩
 self:=λ_ _ _ _ _ st h=>wpAny_pyIter_listiter st h
def Qq {P} {w} {K} {tg} (it:Addr) (lo:Int) (n:Nat):Ug P w K tg (R7 lo n) [it] it (λi h=>IsRangeIter h it (lo+(i:Nat)*1) ((n:Int)-(i:Nat)) 1) where
 mem:=by simp
 obj:=λi h st b g=>by
  have e:b=it:=by simpa using g
  subst e;exact⟨_,st,λv z=>by
   have z':Data.fields _=Data.cell v:=z;cases z'⟩
 keep:=λi h h' st k=>k it (by simp) _ st
 item:=by
  intro X S B F L i pins s σ H E I q st U;subst S B F;obtain⟨f0,f1,f2,M,Y,Z⟩:=q it (by simp);have W:=Walks.range (prog:=X.prog) (w:=X.w) (I.ok.hd L) it lo 1 n;refine W.item i s _ _ U st λv h' tk hv j kk=>?_;obtain⟨t,rfl⟩:=hv;have I1:Dm X pins σ H { s with heap:=h',toks:=tk }:=I.turned (λb o g e=>kk b o (by simpa using g) e) f0 f1 M Y Z;refine⟨_,rfl,Xy (s:={ s with heap:=h',toks:=tk }) (n:="range_iterator") j rfl rfl (by decide) ⟨.int (lo+i),H,I1,⟨t,?_⟩,⟨rfl,rfl⟩,j,λb g=>(q b g).1⟩⟩;rw[Int.mul_one]
 done:=by
  intro X S B F L i pins s σ H E I q st U;subst S B F;obtain⟨f0,f1,f2,M,Y,Z⟩:=q it (by simp);exact wpAny_pyNext_range_end (I.ok.hd L) st (by have:n<=i:=U;lia) λh' eb=>⟨rfl,I.turned (t':=s.toks) (λb o g e=>eb b o g e) f0 f1 M Y Z⟩
 self:=λ_ _ _ _ _ st h=>wpAny_pyIter_rangeiter st h
section
variable {X:Cx} {tg:Expr}
def CY (K:zAa) (tl:TE):TI:=λσ H R=>tl σ H λx H1=>∃ a,x=.ref a/\(∃ xs,Dl K H1 a xs)/\R (V3 K a) H1
def GC {l} {tl} (hl:PE X l tl):PI X tg l (CY X.K tl):=by
 intro pins s σ H R I h;refine Bt (hl pins s σ H _ I h) λv g ⟨x,H1,j,M,B⟩=>?_;obtain⟨a,e,⟨xs,L⟩,q⟩:=B;subst e;cases M;obtain⟨F,S,p,U⟩:=j.list L;refine wpAny_pyIter_list p.isList ?_;refine⟨g.heap.objs.size,[g.heap.objs.size],_,_,H1,rfl,j.kept (t':=g.toks) λb o e=>zAc _ e,O5 a _,⟨_,zAv _ rfl,rfl,rfl⟩,λb z=>?_,q⟩;have e:b=g.heap.objs.size:=by simpa using z
 subst e;exact j.fpOk (zAi _) (j.hok.fresh (zAi _))
def CK {s:Shared} {R:It->Hp->Prop} {E:Value->Shared->Prop} {lo hi:Int} {t u v:Tok} {tk:Nat} (I:Dm X pins σ H s) (h1 : -(2^62)<=lo) (z:lo<2^62) (F : -(2^62)<=hi) (B:hi<2^62)
  (q:R (R7 lo (hi-lo).toNat) H):wpAny (model X.prog X.w) X.A (pyIter (.ref s.heap.objs.size)) (SI X pins σ tg R) E { s with heap:=s.heap.push { cls:=.type "range",data:=.fields #[.int lo t,.int hi u,.int 1 v] },toks:=tk }:=by
 refine wpAny_pyIter_range (IsRange.new ..) (small_one h1 z F B) ?_;have g:Dm X pins σ H { s with heap:=s.heap.push { cls:=.type "range",data:=.fields #[.int lo t,.int hi u,.int 1 v] },toks:=tk }:=I.kept λb o e=>zAc _ e;refine⟨(s.heap.push { cls:=.type "range",data:=.fields #[.int lo t,.int hi u,.int 1 v] }).objs.size,[(s.heap.push { cls:=.type "range",data:=.fields #[.int lo t,.int hi u,.int 1 v] }).objs.size],_,_,H,rfl,
  g.kept (t':=tk) λb o e=>zAc _ e,Qq _ lo (hi-lo).toNat,?_,λb j=>?_,q⟩
 .have e1:lo+((0:Nat):Int)*1=lo:=by simp
  have e2:(((hi-lo).toNat:Nat):Int)-((0:Nat):Int)=Builtin.Range.rangeSize lo hi 1:=by rw[rangeSize_one];split <;> lia
  show IsRangeIter _ _ (lo+((0:Nat):Int)*1) ((((hi-lo).toNat:Nat):Int)-((0:Nat):Int)) 1;rw[e1,e2];exact zAv _ rfl
 .have e:b=(s.heap.push { cls:=.type "range",data:=.fields #[.int lo t,.int hi u,.int 1 v] }).objs.size:=by simpa using j
  subst e;exact g.fpOk (zAi _) (g.hok.fresh (zAi _))
def MF (ta:TA):TI:=λσ H R=>ta σ H λvs H1=>∃ j:Int,vs=[.int j]/\-(2^62)<=j/\j<2^62/\R (R7 0 j.toNat) H1
def Er {a:Expr} {p pos:Pos} (F:Gl X "range") (U:X.mg "range"=none) (M:PA X [a] ta) (B:starEach [a] X.env=[(false,eval a X.env)]:=by rfl):PI X tg (.Call (.Name "range" p) [a] [] pos) (MF ta):=by
 intro pins s σ H R I h;refine Call_ (Ev I F U boot_range (PyProof.Rows.callWith_type1 (Bt (M pos pins s σ H _ I h) λus Z ⟨vs,H1,L,Y,g⟩=>?_) B rfl));obtain⟨j,e,g,z,q⟩:=g;subst e;cases Y with
 |cons r S=>
  cases S
  obtain⟨t,rfl⟩:=r;exact call_range_1 (CK L (by lia) (by lia) g z (by simpa using q))
def SZ (wi:TI) (g:TG) (tb:TS):TS:=λD σ H=>wi σ H λJ H1=>∃ W:Nat->Nat->St->Hp->Prop,(∃ m,W 0 m σ H1)/\∀ i m σ H,W i m σ H ->
 (J.stop i H/\D.nx σ H)\/(J.go i H/\∃ N:St->Hp->Prop,(∀ σ' H',N σ' H'->∃ m',m'<m/\W (i+1) m' σ' H')/\∀ x H',J.yld i H x H'->g x σ H' λσ2 H2=>tb { D with nx:=N,ct:=N,bk:=D.nx } σ2 H2)
def Pr (fp:List Addr) (h:Heap):List (Addr×Obj):=fp.filterMap λb=>(h.get? b).map λo=>(b,o)
def Ho {h:Heap} {b:Addr} {o:Obj} (g:b∈fp) (e:h.get? b=some o):(b,o)∈Pr fp h:=List.mem_filterMap.mpr ⟨b,g,by rw[e];rfl⟩
def T5 {h:Heap} {p:Addr×Obj} (j:p∈Pr fp h):p.1∈fp/\h.get? p.1=some p.2:=by
 obtain⟨b,g,e⟩:=List.mem_filterMap.mp j;cases q:h.get? b with
 |none=>rw[q] at e;cases e
 |some o=>
  rw[q] at e;have z:(b,o)=p:=Option.some.inj e;subst z;exact⟨g,q⟩
def Dm.pinned {s:Shared} (I:Dm X pins σ H s) (q:∀ b∈fp,Hs X pins H b) (B:∀ b∈fp,∃ o,s.heap.get? b=some o/\∀ v,o.data≠.cell v):Dm X (pins++Pr fp s.heap) σ H s:=
 I.pins_of λp L=>(zAs.mp L).elim (λz=>I.pin p (zAF _ z)) λz=>by
  obtain⟨g,e⟩:=T5 z;obtain⟨f0,f1,F,_⟩:=q p.1 g;obtain⟨o,j,d⟩:=B p.1 g;rw[e] at j;cases j;exact⟨e,f0,f1,F,d⟩
def Dm.unpinned {pins pl:List (Addr×Obj)} {s:Shared} (I:Dm X (pins++pl) σ H s):Dm X pins σ H s:=I.pins_of λp g=>I.pin p (zAF _ (List.mem_append_left _ g))
def Bk {g:TG} (hp:PassesOwn (model X.prog X.w) X.A X.env X.xe) (hc:X.calm=true) (hi:PI X tg iter wi) (hg:PG X tg g) (F:PSs X body tb)
  (hs:∀ x,foldedSetIterable iter X.env x=pure x:=by intro _;rfl):PS X (.For tg iter body [] pos) (SZ wi g tb):=by
 intro pins s σ H D I h;refine wpAny_For (Bt (hi pins s σ H _ I h) λv s1 h1=>Bt h1 λaf s2 h2=>?_) hs;obtain⟨it,fp,tn,J,H2,e,I2,T,ae,f2,W,⟨m0,w0⟩,aa⟩:=h2;subst e;have B:∀ {H':Hp},(∀ b∈fp,H' b=none)->∀ b∈fp,Hs X pins H' b:=λhn b F=>⟨hn b F,(f2 b F).2⟩;refine codeAny_forLoop_any (λn s'=>∃ i σ' H',Dm X pins σ' H' s'/\tn i s'.heap/\(∀ b∈fp,H' b=none)/\W i n σ' H') ?_ m0 ⟨0,σ,H2,I2,ae,λb F=>(f2 b F).1,w0⟩;rintro n s3 ⟨i,σ3,H3,I3,U,ab,w3⟩;rcases aa i n σ3 H3 w3 with ⟨Y,qn⟩|⟨go,N,hN,step⟩
 .refine wpAny_passesOwn hp (Bt (T.done X rfl rfl rfl hc i pins s3 σ3 H3 X.xe I3 (B ab) U Y) λr s4 ⟨hr,I4⟩=>?_)
  subst hr;exact wpAny_execs_nil ⟨σ3,H3,I4,qn⟩
 .refine wpAny_passesOwn hp (Bt (T.item X rfl rfl rfl hc i pins s3 σ3 H3 X.xe I3 (B ab) U go) λr s4 ⟨u,hr,h4⟩=>?_)
  subst hr;refine wpAny_passesOwn hp (Bt h4 λ_ s5 ⟨x,H5,I5,r5,y5,S,ad⟩=>?_);have ac:=I5.pinned (B ad) (T.obj _ _ S);refine wpAny_passesOwn hp (Bt (hg _ s5 σ3 H5 x u _ ac r5 (step x H5 y5)) λ_ s6 ⟨σ6,H6,I6,q6⟩=>?_);refine wpAny_passesOwn hp (Bt (F _ s6 σ6 H6 _ I6 q6) λf s7 M=>?_);have z:∀ {j:St} {q:Hp},Dm X (pins++Pr fp s5.heap) j q s7->N j q->∃ m,m<n/\∃ i σ' H',Dm X pins σ' H' s7/\tn i s7.heap/\(∀ b∈fp,H' b=none)/\W i m σ' H':=λ{j q} L Z=>by
   obtain⟨m',hm,w7⟩:=hN j q Z;refine⟨m',hm,i+1,j,q,L.unpinned,T.keep _ _ _ S λb F o e=>(L.pin (b,o) (zAF _ (zAF _ (Ho F e)))).1,λb F=>?_,w7⟩;obtain⟨o,e,d⟩:=T.obj _ _ S b F;exact (L.pin (b,o) (zAF _ (zAF _ (Ho F e)))).2.1
  cases f with
  |next=>obtain⟨j,q,L,Z⟩:=M;exact z L Z
  |cont=>obtain⟨j,q,L,Z⟩:=M;exact z L Z
  |brk=>obtain⟨j,q,L,M⟩:=M;exact⟨j,q,L.unpinned,M⟩
  |ret v=>obtain⟨x7,j,q,L,r7,M⟩:=M;exact⟨x7,j,q,L.unpinned,r7,M⟩
end
def Cp {K:zAa} {a:Addr} {xs:List V} {g:TG} {tb:TS} {D:Mn} {σ:St} {H:Hp} (j:Nat->St->Hp->Prop) (Y:j 0 σ H) (hl:∀ i σ H,i<=xs.length->j i σ H->Dl K H a xs)
  (S:∀ i x σ H,xs[i]?=some x->j i σ H->g x σ H λF L=>tb { D with nx:=j (i+1),ct:=j (i+1),bk:=D.nx } F L) (hd:∀ σ H,j xs.length σ H->D.nx σ H) :
  ∃ W:Nat->Nat->St->Hp->Prop,(∃ m,W 0 m σ H)/\∀ i m σ H,W i m σ H ->
   ((V3 K a).stop i H/\D.nx σ H)\/((V3 K a).go i H/\∃ N:St->Hp->Prop,(∀ B H',N B H'->∃ M,M<m/\W (i+1) M B H')/\∀ x H',(V3 K a).yld i H x H'->g x σ H' λF L=>tb { D with nx:=N,ct:=N,bk:=D.nx } F L):=by
 refine⟨λi m σ H=>m=xs.length-i/\i<=xs.length/\j i σ H,⟨xs.length,by simp,zAu _,Y⟩,?_⟩;rintro i m σ H ⟨rfl,hi,p⟩;have q:=hl i σ H hi p;by_cases z:i<xs.length
 .refine .inr ⟨⟨xs,xs[i],q,by simp [z]⟩,j (i+1),λB H' U=>⟨xs.length-(i+1),by lia,rfl,z,U⟩,λx H' y=>?_⟩
  obtain⟨e,y⟩:=y;subst e;exact S i x σ _ (y xs q) p
 .have e:i=xs.length:=by lia
  subst e;exact .inl ⟨⟨xs,q,zAi _⟩,hd σ H p⟩
def Ji {lo:Int} {n:Nat} {g:TG} {tb:TS} {D:Mn} {σ:St} {H:Hp} (q:Nat->St->Hp->Prop) (U:q 0 σ H)
  (M:∀ i σ H,i<n->q i σ H->g (.int (lo+i)) σ H λB F=>tb { D with nx:=q (i+1),ct:=q (i+1),bk:=D.nx } B F) (hd:∀ σ H,q n σ H->D.nx σ H) :
  ∃ W:Nat->Nat->St->Hp->Prop,(∃ m,W 0 m σ H)/\∀ i m σ H,W i m σ H ->
   ((R7 lo n).stop i H/\D.nx σ H)\/((R7 lo n).go i H/\∃ N:St->Hp->Prop,(∀ z H',N z H'->∃ L,L<m/\W (i+1) L z H')/\∀ x H',(R7 lo n).yld i H x H'->g x σ H' λB F=>tb { D with nx:=N,ct:=N,bk:=D.nx } B F):=by
 refine⟨λi m σ H=>m=n-i/\i<=n/\q i σ H,⟨n,by simp,zAu _,U⟩,?_⟩;rintro i m σ H ⟨rfl,hi,p⟩;by_cases j:i<n
 .refine .inr ⟨j,q (i+1),λz H' S=>⟨n-(i+1),by lia,rfl,j,S⟩,λx H' y=>?_⟩
  obtain⟨e,y⟩:=y;subst e y;exact M i σ _ j p
 .have e:i=n:=by lia
  subst e;exact .inl ⟨zAi _,hd σ H p⟩
abbrev R2:=V->V->Hp->VK->Prop
def Kq (X:Cx) (f:Value->Value->Sem Value) (r:R2):Prop:=
 ∀ (pins:List (Addr×Obj)) (s:Shared) (σ:St) (H:Hp) (x y:V) (v u:Value) (Q:VK),Dm X pins σ H s->Ht x v->Ht y u->r x y H Q ->
  wpAny (model X.prog X.w) X.A (f v u) (EP X pins σ Q) X.xe s
def SF (X:Cx) (f:Value->Sem Value) (r:V->Hp->VK->Prop):Prop:=
 ∀ (pins:List (Addr×Obj)) (s:Shared) (σ:St) (H:Hp) (x:V) (v:Value) (Q:VK),Dm X pins σ H s->Ht x v->r x H Q ->
  wpAny (model X.prog X.w) X.A (f v) (EP X pins σ Q) X.xe s
def Fn (X:Cx) (f:Value) (r:List V->Hp->VK->Prop):Prop:=
 ∀ (pins:List (Addr×Obj)) (s:Shared) (σ:St) (H:Hp) (xs:List V) (us:List Value) (Q:VK),Dm X pins σ H s->Fz xs us->r xs H Q ->
  wpAny (model X.prog X.w) X.A (call f us) (EP X pins σ Q) X.xe s
def SK (X:Cx) (r:V->Hp->(Bool->Hp->Prop)->Prop):Prop:=
 ∀ (pins:List (Addr×Obj)) (s:Shared) (σ:St) (H:Hp) (x:V) (v:Value) (Q:Bool->Hp->Prop),Dm X pins σ H s->Ht x v->r x H Q ->
  wpAny (model X.prog X.w) X.A (truthy v) (TP X pins σ Q) X.xe s
def LB (r:R2) (ta tb:TE):TE:=λσ H Q=>ta σ H λx H1=>tb σ H1 λy H2=>r x y H2 Q
def UV (r:V->Hp->VK->Prop) (ta:TE):TE:=λσ H Q=>ta σ H λx H1=>r x H1 Q
def rI (C:Int->Int->Prop) (g:Int->Int->V):R2:=λx y H Q=>∃ i j,x=.int i/\y=.int j/\C i j/\Q (g i j) H
def HG (g:Int->Int->V):R2:=λx y H Q=>∃ i j,x=.int i/\y=.int j/\Q (g i j) H
def rU (g:Int->V):V->Hp->VK->Prop:=λx H Q=>∃ i,x=.int i/\Q (g i) H
section
variable {X:Cx} {a b:Expr} {ta tb:TE} {pos:Pos}
def IQ (Y:PE X a ta) (F:PE X b tb) {s:Shared} {R:V->V->Hp->Prop} (I:Dm X pins σ H s)
  (h:ta σ H λx H1=>tb σ H1 λy g=>R x y g) {Q:Value->Shared->Prop} {f:Value->Value->Sem Value}
  (M:∀ v u j x y g,Dm X pins σ g j->Ht x v->Ht y u->R x y g->wpAny (model X.prog X.w) X.A (f v u) Q X.xe j) :
  wpAny (model X.prog X.w) X.A (eval a X.env) (λv U=>wpAny (model X.prog X.w) X.A (eval b X.env) (λu B=>wpAny (model X.prog X.w) X.A (f v u) Q X.xe B) X.xe U) X.xe s:=by
 refine Bt (Y pins s σ H _ I h) λv z ⟨x,H1,S,r1,L⟩=>?_;refine Bt (F pins z σ H1 _ S L) λu j ⟨y,g,Z,r2,q⟩=>?_;exact M v u j x y g Z r1 r2 q
def Aj {op:Operator} {r:R2} (z:Kq X (binaryOp op) r) (F:PE X a ta) (g:PE X b tb):PE X (.BinOp a op b pos) (LB r ta tb):=by
 intro pins s σ H Q I h;exact wpAny_BinOp (IQ F g I h λv u B x y L M j S q=>z pins B σ L x y v u Q M j S q)
def Sl {op:UnaryOp} {r:V->Hp->VK->Prop} (q:SF X (unaryOp op) r) (B:PE X a ta):PE X (.UnaryOp op a pos) (UV r ta):=by
 intro pins s σ H Q I h;exact UnaryOp_ (Bt (B pins s σ H _ I h) λv g ⟨x,H1,z,F,j⟩=>q pins g σ H1 x v Q z F j)
def QX {f:Value->Value->Sem Value} {C:Int->Int->Prop} {g:Int->Int->Int}
  (z:∀ (i j:Int) (t u:Tok) (s:Shared) (Q:Value->Shared->Prop) (E:Value->Shared->Prop),C i j->Q (.int (g i j) s.toks) { s with toks:=s.toks+1 }->wpAny (model X.prog X.w) X.A (f (.int i t) (.int j u)) Q E s) :
  Kq X f (rI C λi j=>.int (g i j)):=by
 intro pins s σ H x y v u Q I B M h;obtain⟨i,j,rfl,rfl,F,q⟩:=h;obtain⟨t,rfl⟩:=B;obtain⟨L,rfl⟩:=M;exact z i j t L s _ _ F ⟨.int (g i j),H,I.tok _,⟨_,rfl⟩,q⟩
def NK {f:Value->Value->Sem Value} {g:Int->Int->Int}
  (z:∀ (i j:Int) (t u:Tok) (s:Shared) (Q:Value->Shared->Prop) (E:Value->Shared->Prop),Q (.int (g i j) s.toks) { s with toks:=s.toks+1 }->wpAny (model X.prog X.w) X.A (f (.int i t) (.int j u)) Q E s) :
  Kq X f (HG λi j=>.int (g i j)):=by
 intro pins s σ H x y v u Q I B L h;obtain⟨i,j,rfl,rfl,q⟩:=h;obtain⟨t,rfl⟩:=B;obtain⟨F,rfl⟩:=L;exact z i j t F s _ _ ⟨.int (g i j),H,I.tok _,⟨_,rfl⟩,q⟩
def EG {f:Value->Value->Sem Value} {g:Int->Int->Bool}
  (z:∀ (i j:Int) (t u:Tok) (s:Shared) (Q:Value->Shared->Prop) (E:Value->Shared->Prop),Q (.bool (g i j)) s->wpAny (model X.prog X.w) X.A (f (.int i t) (.int j u)) Q E s) :
  Kq X f (HG λi j=>.bl (g i j)):=by
 intro pins s σ H x y v u Q I B L h;obtain⟨i,j,rfl,rfl,q⟩:=h;obtain⟨t,rfl⟩:=B;obtain⟨F,rfl⟩:=L;exact z i j t F s _ _ ⟨.bl (g i j),H,I,rfl,q⟩
def RM (i j:Int):Prop:=0<j/\j<1073741824
def RZ (i j:Int):Prop:=0<=j/\j<=1000000/\i.natAbs<2^64
def XJ (i j:Int):Prop:=(-(2^64)<i/\i<2^64)\/(-(2^64)<j/\j<2^64)
def XJ.ok {i j:Int} (h:XJ i j):IntMulOk i j:=by
 rcases h with ⟨h1,g⟩|⟨h1,g⟩
 .exact .of_left (intBits_le_64 h1 g)
 .exact .of_right (intBits_le_64 h1 g)
def Bd:Kq X (binaryOp .Add) (HG λi j=>.int (i+j)):=NK λ_ _ _ _ _ _ _ q=>add_int q
def Il:Kq X (binaryOp .Sub) (HG λi j=>.int (i-j)):=NK λ_ _ _ _ _ _ _ q=>sub_int q
def El:Kq X (binaryOp .Mult) (rI XJ λi j=>.int (i*j)):=QX λ_ _ _ _ _ _ _ g q=>mul_int q g.ok
def Bm:Kq X (binaryOp .FloorDiv) (rI RM λi j=>.int (i/j)):=QX λi j _ _ _ _ _ g q=>by
 have h1:(0:Int)<j:=g.1;have z:j<1073741824:=g.2;exact floordiv_int (by lia) (by rw[Int.fdiv_eq_ediv_of_nonneg i (by lia)];exact q) (.inl (PyProof.noPylong_small (by lia)))
def Ax:Kq X (binaryOp .Mod) (rI (λ_ j=>0<j) λi j=>.int (i%j)):=QX λi j _ _ _ _ _ g q=>by
 have h1:(0:Int)<j:=g;exact mod_int' (by lia) (by rw[Int.fmod_eq_emod_of_nonneg i (by lia)];exact q)
def A6:Kq X (binaryOp .Pow) (rI RZ λi j=>.int (i^j.toNat)):=QX λ_ _ _ _ _ _ _ g q=>pow_int_small g.1 g.2.1 g.2.2 q
def VL {f:Value->Sem Value} {g:Int->Int}
  (j:∀ (i:Int) (t:Tok) (s:Shared) (Q:Value->Shared->Prop) (E:Value->Shared->Prop),Q (.int (g i) s.toks) { s with toks:=s.toks+1 }->wpAny (model X.prog X.w) X.A (f (.int i t)) Q E s) :
  SF X f (rU λi=>.int (g i)):=by
 intro pins s σ H x v Q I z h;obtain⟨i,rfl,q⟩:=h;obtain⟨t,rfl⟩:=z;exact j i t s _ _ ⟨.int (g i),H,I.tok _,⟨_,rfl⟩,q⟩
def Mw:SF X (unaryOp .USub) (rU λi=>.int (-i)):=VL λ_ _ _ _ _ q=>neg_int q
end
def QU:V->V->Bool
 |.non,.non=>true|.non,.int _=>true|.int _,.non=>true|.non,.bl _=>true|.bl _,.non=>true|.non,.str _=>true|.str _,.non=>true
 |.int _,.int _=>true|.bl _,.bl _=>true|.str _,.str _=>true|.byt _,.byt _=>true
 |.int _,.str _=>true|.str _,.int _=>true|.bl _,.str _=>true|.str _,.bl _=>true
 |_,_=>false
def UX:R2:=λx y H Q=>QU x y=true/\Q (.bl (decide (x=y))) H
def VF:R2:=λx y H Q=>QU x y=true/\Q (.bl (!decide (x=y))) H
def M5 {i j:Int}:decide (V.int i=V.int j)=(i==j):=by
 rw[Bool.eq_iff_iff];simp
def Z7 {i j:Bool}:decide (V.bl i=V.bl j)=(i==j):=by
 rw[Bool.eq_iff_iff];simp
def K0 {i j:Str}:decide (V.str i=V.str j)=(i==j):=by
 rw[Bool.eq_iff_iff];simp
def E4 {i j:Array UInt8}:decide (V.byt i=V.byt j)=(i.toList==j.toList):=by
 rw[Bool.eq_iff_iff];cases i;cases j;simp
section
variable {X:Cx} {a b c:Expr} {ta tb tc:TE} {pos:Pos}
def Bl {s:Shared} {Q:VK} {k g:Bool} (I:Dm X pins σ H s) (q:Q (.bl k) H) (e:k=g):EP X pins σ Q (.bool g) s:=by
 subst e;exact⟨.bl k,H,I,rfl,q⟩
def Bv:Kq X (compareOp .Eq) UX:=by
 intro pins s σ H x y v u Q I F g h;obtain⟨B,q⟩:=h;cases x with
 |non=>
  cases F
  cases y with
  |non=>cases g;exact PySem.EqNone.eq_none_none (Bl I q (by simp))
  |bl j=>cases g;exact PySem.EqNone.eq_none_bool (Bl I q (by simp))
  |int j=>obtain⟨z,rfl⟩:=g;exact PySem.EqNone.eq_none_int (Bl I q (by simp))
  |str j=>obtain⟨z,rfl⟩:=g;exact PySem.EqNone.eq_none_str (Bl I q (by simp))
  |_=>exact absurd (show false=true from B) zAk
 |bl i=>
  cases F
  cases y with
  |non=>cases g;exact PySem.EqNone.eq_bool_none (Bl I q (by simp))
  |bl j=>cases g;exact eq_bool (Bl I q Z7)
  |str j=>obtain⟨z,rfl⟩:=g;exact PySem.EqMixed.eq_bool_str (Bl I q (by simp))
  |_=>exact absurd (show false=true from B) zAk
 |int i=>
  obtain⟨t,rfl⟩:=F;cases y with
  |non=>cases g;exact PySem.EqNone.eq_int_none (Bl I q (by simp))
  |int j=>obtain⟨z,rfl⟩:=g;exact eq_int (Bl I q M5)
  |str j=>obtain⟨z,rfl⟩:=g;exact PySem.EqMixed.eq_int_str (Bl I q (by simp))
  |_=>exact absurd (show false=true from B) zAk
 |str i=>
  obtain⟨t,rfl⟩:=F;cases y with
  |non=>cases g;exact PySem.EqNone.eq_str_none (Bl I q (by simp))
  |bl j=>cases g;exact PySem.EqMixed.eq_str_bool (Bl I q (by simp))
  |int j=>obtain⟨z,rfl⟩:=g;exact PySem.EqMixed.eq_str_int (Bl I q (by simp))
  |str j=>obtain⟨z,rfl⟩:=g;exact eq_str (Bl I q K0)
  |_=>exact absurd (show false=true from B) zAk
 |byt i=>
  obtain⟨t,rfl⟩:=F;cases y with
  |byt j=>obtain⟨z,rfl⟩:=g;exact PySem.W.eq_bytes (Bl I q E4)
  |_=>exact absurd (show false=true from B) zAk
 |_=>cases y <;> exact absurd (show false=true from B) zAk
def GQ:Kq X (compareOp .NotEq) VF:=by
 intro pins s σ H x y v u Q I F g h;obtain⟨B,q⟩:=h;cases x with
 |non=>
  cases F
  cases y with
  |non=>cases g;exact PySem.EqNone.ne_none_none (Bl I q (by simp))
  |bl j=>cases g;exact PySem.EqNone.ne_none_bool (Bl I q (by simp))
  |int j=>obtain⟨z,rfl⟩:=g;exact PySem.EqNone.ne_none_int (Bl I q (by simp))
  |str j=>obtain⟨z,rfl⟩:=g;exact PySem.EqNone.ne_none_str (Bl I q (by simp))
  |_=>exact absurd (show false=true from B) zAk
 |bl i=>
  cases F
  cases y with
  |non=>cases g;exact PySem.EqNone.ne_bool_none (Bl I q (by simp))
  |bl j=>cases g;exact ne_bool (Bl I q (congrArg not Z7))
  |str j=>obtain⟨z,rfl⟩:=g;exact PySem.EqMixed.ne_bool_str (Bl I q (by simp))
  |_=>exact absurd (show false=true from B) zAk
 |int i=>
  obtain⟨t,rfl⟩:=F;cases y with
  |non=>cases g;exact PySem.EqNone.ne_int_none (Bl I q (by simp))
  |int j=>obtain⟨z,rfl⟩:=g;exact ne_int (Bl I q (congrArg not M5))
  |str j=>obtain⟨z,rfl⟩:=g;exact PySem.EqMixed.ne_int_str (Bl I q (by simp))
  |_=>exact absurd (show false=true from B) zAk
 |str i=>
  obtain⟨t,rfl⟩:=F;cases y with
  |non=>cases g;exact PySem.EqNone.ne_str_none (Bl I q (by simp))
  |bl j=>cases g;exact PySem.EqMixed.ne_str_bool (Bl I q (by simp))
  |int j=>obtain⟨z,rfl⟩:=g;exact PySem.EqMixed.ne_str_int (Bl I q (by simp))
  |str j=>obtain⟨z,rfl⟩:=g;exact ne_str (Bl I q (congrArg not K0))
  |_=>exact absurd (show false=true from B) zAk
 |byt i=>
  obtain⟨t,rfl⟩:=F;cases y with
  |byt j=>obtain⟨z,rfl⟩:=g;exact PySem.W.ne_bytes (Bl I q (congrArg not E4))
  |_=>exact absurd (show false=true from B) zAk
 |_=>cases y <;> exact absurd (show false=true from B) zAk
def Gx:Kq X (compareOp .Lt) (HG λi j=>.bl (decide (i<j))):=EG λ_ _ _ _ _ _ _ q=>lt_int q
def Gk:Kq X (compareOp .LtE) (HG λi j=>.bl (decide (i<=j))):=EG λ_ _ _ _ _ _ _ q=>le_int q
def Ng:Kq X (compareOp .Gt) (HG λi j=>.bl (decide (j<i))):=EG λ_ _ _ _ _ _ _ q=>gt_int q
def MR:Kq X (compareOp .GtE) (HG λi j=>.bl (decide (j<=i))):=EG λ_ _ _ _ _ _ _ q=>ge_int q
def Mi:Kq X (compareOp .Is) (λx y H Q=>y=.non/\Q (.bl (decide (x=.non))) H):=by
 intro pins s σ H x y v u Q I g j h;obtain⟨rfl,q⟩:=h;cases j;refine is_none_gen (Bl I q ?_);cases x <;> first
  |(cases g;rfl)
  |(obtain⟨t,rfl⟩:=g;rfl)
def Vg:Kq X (compareOp .IsNot) (λx y H Q=>y=.non/\Q (.bl (!decide (x=.non))) H):=by
 intro pins s σ H x y v u Q I g j h;obtain⟨rfl,q⟩:=h;cases j;refine isnot_none_gen (Bl I q ?_);cases x <;> first
  |(cases g;rfl)
  |(obtain⟨t,rfl⟩:=g;rfl)
def An (b:Expr) {op:CmpOp} (h:op≠.In:=by decide) (h2:op≠.NotIn:=by decide):behindInMarks op b=false:=by
 have e1:(op==CmpOp.In)=false:=by cases op <;> first|rfl|exact absurd rfl h
 have e2:(op==CmpOp.NotIn)=false:=by cases op <;> first|rfl|exact absurd rfl h2
 cases b <;> simp [behindInMarks,e1,e2]
def Ez {op:CmpOp} {r:R2} (z:Kq X (compareOp op) r) (F:PE X a ta) (g:PE X b tb) (L:behindInMarks op b=false):PE X (.Compare a [op] [b] pos) (LB r ta tb):=by
 intro pins s σ H Q I h;exact wpAny_Compare1 (IQ F g I h λv u B x y M S j U q=>z pins B σ M x y v u Q S j U q) L
def NE (t:TE):TT:=λσ H Q=>t σ H λx H'=>∃ k,x=.bl k/\Q k H'
def Ak {op:CmpOp} {r:R2} (M:Kq X (compareOp op) r) (Y:PE X a ta) (q:PE X b tb) (Z:behindInMarks op b=false):PT X (.Compare a [op] [b] pos) (NE (LB r ta tb)):=by
 intro pins s σ H Q I h;refine wpAny_isTrue_Compare1 (Bt (Y pins s σ H _ I h) λv j ⟨x,H1,U,r1,F⟩=>Bt (q pins j σ H1 _ U F) λu S ⟨y,H2,L,r2,g⟩=>
  Bt (M pins S σ H2 x y v u _ L r1 r2 g) λc s3 ⟨z,H3,I3,r3,k,e,B⟩=>?_) Z
 subst e;cases r3;exact wpAny_truthy_bool ⟨H3,I3,B⟩
def LH (r r':R2) (ta tb tc:TE):TE:=λσ H Q=>ta σ H λx H1=>tb σ H1 λy H2=>r x y H2 λz H3=>∃ k,z=.bl k /\
 (if k=true then tc σ H3 λw' H4=>r' y w' H4 Q else Q (.bl false) H3)
def Iq {op g:CmpOp} {r B:R2} (ho:Kq X (compareOp op) r) (j:Kq X (compareOp g) B) (ha:PE X a ta) (hb:PE X b tb) (hc:PE X c tc)
  (hm:lastMarks [op,g] [b,c]=false:=by with_unfolding_all rfl):PE X (.Compare a [op,g] [b,c] pos) (LH r B ta tb tc):=by
 intro pins s σ H Q I h;refine Compare_chain (Bt (ha pins s σ H _ I h) λv s1 ⟨x,H1,I1,r1,Z⟩=>chain_link (Bt (hb pins s1 σ H1 _ I1 Z) λu s2 ⟨y,H2,I2,F,q2⟩=>
  Bt (ho pins s2 σ H2 x y v u _ I2 r1 F q2) λd s3 ⟨z,M,q,r3,k,e,L⟩=>?_)) hm
 subst e;cases r3;refine wpAny_truthy_bool ?_;cases k with
 |false=>exact ite_ff ⟨.bl false,M,q,rfl,L⟩
 |true=>exact ite_tt (chain_last (Bt (hc pins s3 σ M _ q L) λw' s4 ⟨z',Y,U,r4,S⟩=>j pins s4 σ Y y z' u w' Q U F r4 S))
def OH (K:zAa) (x:V) (H:Hp) (k:Bool):Prop:=
 match x with
 |.non=>k=false
 |.bl b=>k=b
 |.int i=>k=(i != 0)
 |.str y=>y.length<=sizeLine/\k=((y.length:Int) != 0)
 |.byt y=>y.size<=sizeLine/\k=((y.size:Int) != 0)
 |.ref p=>(∃ xs,Dl K H p xs/\k = !xs.isEmpty)\/(∃ xs,Jy K H p xs/\k = !xs.isEmpty)\/∃ kvs,H p=some (.dK kvs)/\k = !kvs.isEmpty
 |_=>False
def A2 {κ:Type} {kvs:List (κ×V)} {vs:List (κ×Value)} (r:KV kvs vs):(!vs.isEmpty) = !kvs.isEmpty:=by
 cases r <;> rfl
def Pc {xs:List V} {its:List Value} (r:Fz xs its):(!its.toArray.isEmpty) = !xs.isEmpty:=by
 cases r <;> simp
def Kf:(sizeLine:Nat)<2^63:=by rw[zCE];decide
def IS:SK X (λx H Q=>∃ k,OH X.K x H k/\Q k H):=by
 intro pins s σ H x v Q I rx h;obtain⟨k,e,q⟩:=h;have hl:=Kf;have hs:sizeLine=16777216:=zCE;cases x with
 |non=>
  cases rx
  have e':k=false:=e;subst e';exact truthy_none ⟨H,I,q⟩
 |bl b=>
  cases rx
  have e':k=b:=e;subst e';exact wpAny_truthy_bool ⟨H,I,q⟩
 |int i=>
  obtain⟨t,rfl⟩:=rx;have e':k=(i != 0):=e;subst e';exact PySem.P.truthy_int ⟨H,I,q⟩
 |str y=>
  obtain⟨t,rfl⟩:=rx;obtain⟨hy,e'⟩:y.length<=sizeLine/\k=((y.length:Int) != 0):=e;subst e';exact PySem.P.truthy_str (by lia) ⟨H,I.tok _,q⟩
 |byt y=>
  obtain⟨t,rfl⟩:=rx;obtain⟨hy,e'⟩:y.size<=sizeLine/\k=((y.size:Int) != 0):=e;subst e';exact PySem.W.truthy_bytes (by lia) ⟨H,I.tok _,q⟩
 |ref p=>
  cases rx
  have e':(∃ xs,Dl X.K H p xs/\k = !xs.isEmpty)\/(∃ xs,Jy X.K H p xs/\k = !xs.isEmpty)\/∃ kvs,H p=some (.dK kvs)/\k = !kvs.isEmpty:=e;rcases e' with ⟨xs,hx,e'⟩|⟨xs,hx,e'⟩|⟨kvs,hx,e'⟩
  .subst e'
   obtain⟨its,r,pl,hz⟩:=I.list hx;have hlen:=r.length;exact wpAny_truthy_list pl.isList (by simp only [zAh];lia) ⟨H,I.tok _,by rw[Pc r];exact q⟩
  .subst e'
   obtain⟨its,r,pl,hz⟩:=I.tuple hx;have hlen:=r.length;exact truthy_tuple pl (by simp only [zAh];lia) ⟨H,I.tok _,by rw[Pc r];exact q⟩
  .subst e'
   obtain⟨hz,hS,vs,r,m⟩:kvs.length<=sizeLine/\(p==sysModules)=false/\∃ vs,KV kvs vs/\s.heap.DictOf (Ck X.prog X.w) p vs:=I.hok p _ hx;have hlen:kvs.length=vs.length:=Paired.length r;exact wpAny_truthy_dict hS m (by lia) ⟨H,I.tok _,by rw[A2 r];exact q⟩
 |_=>exact (show False from e).elim
def Hr:Kq X (binaryOp .Add) (λx y H Q=>∃ i j,x=.str i/\y=.str j/\i.length+j.length<=sizeLine/\Q (.str (i++j)) H):=by
 intro pins s σ H x y v u Q I g B h;obtain⟨i,j,rfl,rfl,F,q⟩:=h;obtain⟨t,rfl⟩:=g;obtain⟨z,rfl⟩:=B;exact add_str (λz L=>⟨.str (i++j),H,I.tok _,⟨_,rfl⟩,q⟩) F
def Jx {x:V} {us:List Value} (r:Fz [x] us):∃ u,us=[u]/\Ht x u:=by
 cases r with
 |cons j g=>cases g;exact⟨_,rfl,j⟩
def L0 {x y:V} {us:List Value} (r:Fz [x,y] us):∃ u w',us=[u,w']/\Ht x u/\Ht y w':=by
 cases r with
 |cons z q=>
  cases q with
  |cons j g=>cases g;exact⟨_,_,rfl,z,j⟩
def Gy (z:X.calm=true):Fn X (.builtin "max") (λxs H Q=>∃ i j,xs=[.int i,.int j]/\Q (.int (if j>i then j else i)) H):=by
 intro pins s σ H xs M Q I r h;obtain⟨i,j,rfl,q⟩:=h;obtain⟨u,B,rfl,⟨t,rfl⟩,⟨F,rfl⟩⟩:=L0 r;refine max_two_ints (I.ok.hd z) λh' L k=>⟨_,H,I.kept k,?_,q⟩;by_cases g:j>i
 .rw[if_pos g,if_pos g];exact⟨_,rfl⟩
 .rw[if_neg g,if_neg g];exact⟨_,rfl⟩
def Jj (z:X.calm=true):Fn X (.builtin "min") (λxs H Q=>∃ i j,xs=[.int i,.int j]/\Q (.int (if j<i then j else i)) H):=by
 intro pins s σ H xs M Q I r h;obtain⟨i,j,rfl,q⟩:=h;obtain⟨u,B,rfl,⟨t,rfl⟩,⟨F,rfl⟩⟩:=L0 r;refine min_two_ints (I.ok.hd z) λh' L k=>⟨_,H,I.kept k,?_,q⟩;by_cases g:j<i
 .rw[if_pos g,if_pos g];exact⟨_,rfl⟩
 .rw[if_neg g,if_neg g];exact⟨_,rfl⟩
def T7:Fn X (.type "int") (λxs H Q=>(∃ i,xs=[.int i]/\Q (.int i) H)\/∃ k,xs=[.bl k]/\Q (.int (if k then 1 else 0)) H):=by
 intro pins s σ H xs j Q I r h;rcases h with ⟨i,rfl,q⟩|⟨k,rfl,q⟩
 .obtain⟨u,rfl,t,rfl⟩:=Jx r
  exact call_int_int ⟨.int i,H,I,⟨_,rfl⟩,q⟩
 .obtain⟨u,rfl,g⟩:=Jx r
  cases g
  exact call_int_bool ⟨.int (if k then 1 else 0),H,I.tok _,⟨_,rfl⟩,q⟩
end
structure XB (h:Heap) (x dx C:Addr) (mA:Str->Option Value):Prop where
 obj:h.get? x=some (zBb C dx)
 ns:h.Ns1 dx mA
 ne:dx≠x
set_option tactic.hygienic true in
def U7 {h:Heap} {dx:Addr} {mA:Str->Option Value} (n:h.Ns1 dx mA):∃ j,h.get? dx=some j/\∀ name,PySem.W.lookIn name j=some (mA name):=by
 obtain⟨o,es,ep,L,M,U,_,S⟩:=n;refine⟨o,L,λname=>?_⟩;have e:=S name;unfold nsFind findBy at e;rw[<- Array.find?_toList] at e;unfold PySem.W.lookIn;rw[M]
 dsimp only
 split
 .rename_i y q
  rw[q] at e;exact congrArg some e
 .rename_i q
  rw[q] at e;have a:es.toList.any (·.refKey)=false:=by
   rw[List.any_eq_false];intro y F;obtain⟨z,t,g⟩:=U y (Array.mem_toList_iff.mp F);simp [DictEntry.refKey,g]
  have B:¬ es.toList.any (·.refKey)=true:=by rw[a];exact zAk
  rw[if_neg B];exact congrArg some e
def XB.look {h} {x dx C} {mA:Str->Option Value} (I:XB h x dx C mA):∃ g,PySem.W.InstAt h x (zBb C dx) C (some g)/\∀ name,PySem.W.lookIn name g=some (mA name):=
 let ⟨g,ho,hl⟩:=U7 I.ns
 ⟨g,⟨I.obj,rfl,rfl,ho⟩,hl⟩
section
variable {prog:Program} {w:World} {A:Around} {E:Value->Shared->Prop} {s:Shared} {K:zAa} {x dx C f:Addr} {mA:Str->Option Value} {name:Str} {v:Value}
def DG {g:Bool} {Q:Value->Shared->Prop} (X:K.In s.heap) (I:XB s.heap x dx C mA) (q:zCj K C name=true) (F:zCt K C=true)
  (B:zAK K (.ref C) name=some none) (z:mA name=some v) (j:PySem.W.handedIn v=true) (h:Q v { s with toks:=s.toks+1 }) :
  wpAny (model prog w) A (getAttr (.ref x) name g) Q E s:=by
 obtain⟨L,J,hl⟩:=I.look;exact PySem.W.get_value X J (PySem.W.plainGet_of q).1 (PySem.W.findObj_own F B rfl (by rw[hl,z])) j h
def AE {pl:Sem Bool} {Q:Value×List Value->Shared->Prop} (X:K.In s.heap) (I:XB s.heap x dx C mA) (g:zCj K C name=true)
  (j:zAK K (.ref C) name=some (some (.ref f))) (q:zBK K (.ref f)=true) (z:mA name=none) (h:Q (.ref f,[.ref x]) s) :
  wpAny (model prog w) A (getMethod (.ref x) name pl) Q E s:=by
 obtain⟨B,J,hl⟩:=I.look;exact PySem.W.method_fn X J (PySem.W.plainGet_of g).1 (PySem.W.plainGet_of g).2 j (beq_iff_eq.mp q) (by show (PySem.W.lookIn name B).map (·.isSome)=some false;rw[hl,z];rfl) h
def GD {ns:List Str} {Q:Unit->Shared->Prop} (X:K.In s.heap) (I:XB s.heap x dx C mA)
  (M:zAK K (.ref C) "__setattr__"=some (some (.builtin "object.__setattr__"))) (hp:PySem.W.plainOver K C=true) (Y:PySem.W.takerIn K C name=some none) (hh:zCt K C=true)
  (L:PySem.Within mA ns) (hsz:ns.length<=sizeLine)
  (h:∀ h',XB h' x dx C (λy=>if y=name then some v else mA y)->zBo dx s.heap h'->Q () { s with heap:=h',toks:=s.toks+2 }) :
  wpAny (model prog w) A (setAttr (.ref x) name v) Q E s:=by
 obtain⟨od,J,hl⟩:=I.look;refine PySem.W.set_plain X J M (PySem.W.osa_open (s:={ s with toks:=s.toks+1 }) (r:=none) X J hp Y λb=>?_);obtain⟨cd,S,F⟩:=PySem.W.any_some hh;have U:s.heap.get? x=some ⟨.ref C,some dx,.plain,#[]⟩:=I.obj;refine zCC (zCD (zCC (zCC (wpAny_loadPart U (zCC (PySem.W.Looks.here (s:={ s with toks:=s.toks+1 }) (PySem.W.looks_clsIn X S) ?_))))));rw[F];refine zCD (a:=some dx) (zCC (zCD (zCC ?_)));refine wpAny_nsSet1 (s:={ s with toks:=s.toks+1 }) I.ns λh' j g=>?_;obtain⟨oD,Z,aa,z,B,q⟩:=j.count (PySem.Within.cons name v L);refine zCC (wpAny_lookBehind z (by rw[B];exact pastItsLine_dict (zAz q (by rw[zAf];lia))) ?_);exact zCD (h _ ⟨(g.2 _ (Ne.symm I.ne)).trans I.obj,j,I.ne⟩ g)
def Z9 {R:Result->Shared->Prop} {vs:List Value} (X:K.In s.heap) (z:zCp K C=true)
  (hi:zAK K (.ref C) "__init__"=some (some (.ref f))) (q:PySem.W.typeIn K (.ref f)=some (.type "function"))
  (h:codeAny (model prog w) (A.under (.builtin "type.__call__" ⟨.ref C::vs,kw⟩)) (.call (.ref f) ⟨.ref (s.heap.objs.size+1)::vs,kw⟩) (PySem.W.InitBack (s.heap.objs.size+1) R)
   { s with heap:=(s.heap.push zAR).push (zBb C s.heap.objs.size) }) :
  codeAny (model prog w) A (.call (.ref C) ⟨vs,kw⟩) R s:=by
 obtain⟨F,g,d,t,B⟩:=s;exact PySem.W.make_core (PySem.W.makes_of X z) (PySem.W.looks_findIn X hi) (λj=>PySem.W.bind_fn X j q) (.inl rfl) h
def U8 {R:Result->Shared->Prop} (X:K.In s.heap) (z:zCp K C=true)
  (hi:zAK K (.ref C) "__init__"=some (some (.builtin "object.__init__")))
  (q:∀ j,PySem.W.Looks (model prog w) s.heap (bindSpecial (.builtin "object.__init__") j) (.builtin "object.__init__",[j]))
  (h:codeAny (model prog w) (A.under (.builtin "type.__call__" ⟨[.ref C],[]⟩)) (.call (.builtin "object.__init__") ⟨[.ref (s.heap.objs.size+1)],[]⟩) (PySem.W.InitBack (s.heap.objs.size+1) R)
   { s with heap:=(s.heap.push zAR).push (zBb C s.heap.objs.size) }) :
  codeAny (model prog w) A (.call (.ref C) ⟨[],[]⟩) R s:=by
 obtain⟨F,g,d,t,B⟩:=s;exact PySem.W.make_core (PySem.W.makes_of X z) (PySem.W.looks_findIn X hi) q (.inr ⟨rfl,rfl⟩) h
end
def Ap (f:Str) (v:V):List (Str×V)->List (Str×V)
 |[]=>[(f,v)]
 |(g,x)::r=>if g=f then (g,v)::r else (g,x)::Ap f v r
theorem Am (f g:Str) (v:V):∀ fs:List (Str×V),(Ap f v fs).lookup g=if g=f then some v else fs.lookup g
 |[]=>by
  show zCn g [(f,v)]=_;by_cases h:g=f
  .have j:(g==f)=true:=beq_iff_eq.mpr h
   simp only [zCn,j,if_pos h]
  .have j:(g==f)=false:=beq_eq_false_iff_ne.mpr h
   simp only [zCn,j,if_neg h]
 |(k,x)::r=>by
  have ih:=Am f g v r;rw[show Ap f v ((k,x)::r)=(if k=f then (k,v)::r else (k,x)::Ap f v r) from rfl];by_cases q:k=f
  .rw[if_pos q]
   by_cases h:g=k
   .have j:(g==k)=true:=beq_iff_eq.mpr h
    simp only [zCn,j,if_pos (h.trans q)]
   .have j:(g==k)=false:=beq_eq_false_iff_ne.mpr h
    simp only [zCn,j,if_neg (λe:g=f=>h (e.trans q.symm))]
  .rw[if_neg q]
   by_cases h:g=k
   .have j:(g==k)=true:=beq_iff_eq.mpr h
    simp only [zCn,j,if_neg (λe:g=f=>q (h.symm.trans e))]
   .have j:(g==k)=false:=beq_eq_false_iff_ne.mpr h
    simp only [zCn,j];exact ih
theorem Mt (f:Str) (v:V):∀ fs:List (Str×V),f∈(Ap f v fs).map (·.1)/\∀ g,g∈fs.map (·.1)->g∈(Ap f v fs).map (·.1)
 |[]=>⟨by simp [Ap],λg h=>by simp at h⟩
 |(k,x)::r=>by
  obtain⟨q,z⟩:=Mt f v r;rw[show Ap f v ((k,x)::r)=(if k=f then (k,v)::r else (k,x)::Ap f v r) from rfl];by_cases j:k=f
  .rw[if_pos j]
   subst j;exact⟨by simp,λg h=>by simpa using h⟩
  .rw[if_neg j]
   refine⟨?_,λg h=>?_⟩
   .rw[zAw]
    exact zAd _ q
   .rw[zAw] at h ⊢
    rcases zAn.mp h with e|e
    .exact zAn.mpr (.inl e)
    .exact zAd _ (z g e)
theorem No (f:Str) (v:V):∀ fs:List (Str×V),(Ap f v fs).length<=fs.length+1
 |[]=>by simp [Ap]
 |(k,x)::r=>by
  have ih:=No f v r;rw[show Ap f v ((k,x)::r)=(if k=f then (k,v)::r else (k,x)::Ap f v r) from rfl];by_cases g:k=f
  .rw[if_pos g,zAf,zAf];lia
  .rw[if_neg g,zAf,zAf];lia
def WG.some_of {v:V} {o:Option Value} (r:WG (some v) o):∃ u,o=some u/\Ht v u:=by
 cases o with
 |none=>exact (show False from r).elim
 |some u=>exact⟨u,rfl,r⟩
def WG.none_of {o:Option Value} (r:WG none o):o=none:=by
 cases o with
 |none=>rfl
 |some u=>exact (show False from r).elim
def T9 {v:V} {u:Value} (r:Ht v u):PySem.W.handedIn u=true:=by
 cases v with
 |non=>cases (show u=Value.none from r);rfl
 |bl b=>cases (show u=Value.bool b from r);rfl
 |int i=>obtain⟨t,e⟩:=(show ∃ t,u=Value.int i t from r);cases e;rfl
 |str x=>obtain⟨t,e⟩:=(show ∃ t,u=Value.str x t from r);cases e;rfl
 |byt b=>obtain⟨t,e⟩:=(show ∃ t,u=Value.bytes b t from r);cases e;rfl
 |flt b=>obtain⟨t,e⟩:=(show ∃ t,u=Value.float b t from r);cases e;rfl
 |ref a=>cases (show u=Value.ref a from r);rfl
 |ty n=>cases (show u=Value.type n from r);rfl
section
variable {P:Program} {w:World} {H:Hp} {h:Heap} {a C dx:Addr} {fs:List (Str×V)}
def On (g:WJ P w H h) (e:H a=some (.ins C dx fs)):∃ mA,XB h a dx C mA/\(∀ f,WG (fs.lookup f) (mA f))/\PySem.Within mA (fs.map (·.1))/\fs.length<=1000/\H dx=some (.own a):=by
 obtain⟨d,z,ne,j,mA,n,r,q⟩:=(show VQ P w H h a (.ins C dx fs) from g a _ e);exact⟨mA,⟨j,n,ne⟩,r,q,z,d⟩
end
structure WZ (K:zAa) (C:Addr):Prop where
 pg:zCj K C Str.empty=true
 hd:zCt K C=true
 po:PySem.W.plainOver K C=true
 sa:zAK K (.ref C) "__setattr__"=some (some (.builtin "object.__setattr__"))
def WZ.get {K} {C} (c:WZ K C) (f:Str):zCj K C f=true:=c.pg
def Gn (K:zAa) (C:Addr) (f:Str):Prop:=zAK K (.ref C) f=some none
def Gn.taker {K} {C} {f} (n:Gn K C f):PySem.W.takerIn K C f=some none:=by
 unfold PySem.W.takerIn;rw[show zAK K (.ref C) f=some none from n];rfl
structure W2 (K:zAa) (C:Addr) (m:Str) (f:Addr):Prop where
 at_:zAK K (.ref C) m=some (some (.ref f))
 fn:zBK K (.ref f)=true
 kp:zAN K (.ref f)=true
section
variable {X:Cx} {pins:List (Addr×Obj)} {σ:St} {H:Hp} {s:Shared} {a C dx:Addr} {fs:List (Str×V)} {f:Str} {v:V} {A:Around} {E:Value->Shared->Prop}
def A5 {b:Bool} {Q:Value->Shared->Prop} (I:Dm X pins σ H s) (e:H a=some (.ins C dx fs)) (c:WZ X.K C) (n:Gn X.K C f) (l:fs.lookup f=some v)
  (h:∀ u s',Dm X pins σ H s'->Ht v u->Q u s'):wpAny (model X.prog X.w) A (getAttr (.ref a) f b) Q E s:=by
 obtain⟨mA,O,r,_,_,_⟩:=On I.hok e;obtain⟨u,j,g⟩:=WG.some_of (v:=v) (o:=mA f) (by rw[<- l];exact r f);exact DG I.kIn O (c.get f) c.hd n j (T9 g) (h u _ (I.tok _) g)
def Hh {m:Str} {g:Addr} {pl:Sem Bool} {Q:Value×List Value->Shared->Prop} (I:Dm X pins σ H s) (e:H a=some (.ins C dx fs)) (c:WZ X.K C) (k:W2 X.K C m g) (l:fs.lookup m=none)
  (h:Q (.ref g,[.ref a]) s):wpAny (model X.prog X.w) A (getMethod (.ref a) m pl) Q E s:=by
 obtain⟨mA,O,r,_,_,_⟩:=On I.hok e;have j:mA m=none:=WG.none_of (by rw[<- l];exact r m);exact AE I.kIn O (c.get m) k.at_ k.fn j h
def A7 {y:V} {u:Value} {Q:Unit->Shared->Prop} (I:Dm X pins σ H s) (e:H a=some (.ins C dx fs)) (c:WZ X.K C) (n:Gn X.K C f) (hl:fs.length<1000) (Y:Ht y u)
  (h:∀ s',Dm X pins σ (upd H a (.ins C dx (Ap f y fs))) s'->Q () s'):wpAny (model X.prog X.w) A (setAttr (.ref a) f u) Q E s:=by
 obtain⟨mA,O,r,B,_,F⟩:=On I.hok e;have Z:(fs.map (·.1)).length<=sizeLine:=by rw[zAb,zCE];lia
 refine GD I.kIn O c.sa c.po n.taker c.hd B Z λh' j U=>h _ ?_;have M:∃ o,h'.get? dx=some o:=let ⟨o,_,_,e',_⟩:=j.ns;⟨o,e'⟩
 refine I.write (x:=a) (e:=dx) (by rw[e];exact True.intro) (.inr F) (λb q L z=>(U.2 b L).trans z) M ?_;refine⟨by rw[Ag O.ne];exact F,?_,O.ne,j.obj,_,j.ns,λg=>?_,λg S=>?_⟩
 .have:=No f y fs;lia
 .show WG ((Ap f y fs).lookup g) (if g=f then some u else mA g)
  rw[Am];by_cases q:g=f
  .rw[if_pos q,if_pos q];exact Y
  .rw[if_neg q,if_neg q];exact r g
 .by_cases q:g=f
  .rw[q];exact (Mt f y fs).1
  .refine (Mt f y fs).2 g (B g λz=>S ?_)
   show (if g=f then some u else mA g)=none;rw[if_neg q];exact z
def Dm.made (I:Dm X pins σ H s):Dm X pins σ (upd (upd H s.heap.objs.size (.own (s.heap.objs.size+1))) (s.heap.objs.size+1) (.ins C s.heap.objs.size []))
  { s with heap:=(s.heap.push zAR).push (zBb C s.heap.objs.size) }:=by
 have e1:(s.heap.push zAR).get? s.heap.objs.size=some zAR:=zAv s.heap rfl;have e2:((s.heap.push zAR).push (zBb C s.heap.objs.size)).get? (s.heap.objs.size+1)=some (zBb C s.heap.objs.size):=by
  have:=zAv (s.heap.push zAR) (o:=zBb C s.heap.objs.size) rfl
  rwa [zBR] at this
 have e3:(s.heap.push zAR).Ns s.heap.objs.size (λ_=>none):=⟨zAR,#[],_,e1,rfl,(λe j=>absurd j (by simp)),λ_=>rfl⟩;have g:=I.laid (a:=s.heap.objs.size) (o:=.own (s.heap.objs.size+1)) (h':=s.heap.push zAR) (t':=s.toks) (λb u q=>zAc _ q) (zAi _) ⟨_,e1⟩;refine g.laid (a:=s.heap.objs.size+1) (o:=.ins C s.heap.objs.size []) (t':=s.toks) (λb u q=>zAc _ q) (Nat.le_of_eq (zBR _ _)) ?_;have ne:s.heap.objs.size≠s.heap.objs.size+1:=zAx (zBS _);refine⟨by rw[Ag ne,Aa],zAu _,ne,e2,λ_=>none,(Heap.Ns1.of_empty e3).at λo q=>zAc _ q,λ_=>True.intro,λy z=>absurd rfl z⟩
def FK {prog:Program} {w:World} {env:Env} {e:Expr} {f:Str} {s:Shared} {Q:Value->Shared->Prop} (g:attributeBase e f env (eval e env)=eval e env)
  (h:wpAny (model prog w) A (eval e env) (λo j=>wpAny (model prog w) A (getAttr o f true) Q E j) E s):wpAny (model prog w) A (eval (.Attribute e f pos) env) Q E s:=
 Attribute_any_ h (by rw[arm_eval_Attribute,g])
end
def QF (K:zAa) (ta:TE) (f:Str):TE:=λσ H Q=>ta σ H λx H1=>∃ a C dx fs v,x=.ref a/\H1 a=some (.ins C dx fs)/\WZ K C/\Gn K C f/\fs.lookup f=some v/\Q v H1
def SY (K:zAa) (ta tv:TE) (f:Str):TS:=λD σ H=>tv σ H λy H1=>ta σ H1 λx H2=>∃ a C dx fs,x=.ref a/\H2 a=some (.ins C dx fs)/\WZ K C/\Gn K C f/\fs.length<1000 /\
 D.nx σ (upd H2 a (.ins C dx (Ap f y fs)))
section
variable {X:Cx} {o e value:Expr} {f:Str} {pos pos':Pos} {ta tv:TE}
def Aw (z:PE X e ta) (j:attributeBase e f X.env (eval e X.env)=eval e X.env):PE X (.Attribute e f pos) (QF X.K ta f):=by
 intro pins s σ H Q I h;refine FK j (Bt (z pins s σ H _ I h) λu S ⟨x,H1,F,g,a,C,dx,fs,v,ex,M,c,n,l,q⟩=>?_);subst ex;obtain rfl:u=Value.ref a:=g;exact A5 F M c n l λY U L B=>⟨v,H1,L,B,q⟩
def Bh (S:PE X o ta) (M:PE X value tv) (B:swapsWith value (some (.Attribute o f pos')) pos.line X.env=pure false):PS X (.Assign [.Attribute o f pos'] value pos) (SY X.K ta tv f):=by
 intro pins s σ H D I h;refine plainObj_wpAny_Assign_Attribute (Bt (M pins s σ H _ I h) λu j ⟨y,H1,L,ry,q⟩=>Bt (S pins j σ H1 _ L q) λU s2 ⟨x,H2,F,z,a,C,dx,fs,ex,Z,c,n,l,g⟩=>?_) B;subst ex;obtain rfl:U=Value.ref a:=z;exact A7 F Z c n l ry λs3 Y=>⟨σ,_,Y,g⟩
def HB {pl:Sem Bool} {m:Str} {s:Shared} {Q:Value->Shared->Prop} (F:PE X e te) (I:Dm X pins σ H s)
  (h:te σ H λx H1=>∃ a C dx fs g,x=.ref a/\H1 a=some (.ins C dx fs)/\WZ X.K C/\W2 X.K C m g/\fs.lookup m=none /\
   ∀ j,Dm X pins σ H1 j->wpAny (model X.prog X.w) X.A (callWith pos (.ref g) [.ref a] (backTo pos (starEach args X.env)) (backToKw pos (keywordEach [] X.env))) Q X.xe j)
  (L:eval (.Call (.Attribute e m apos) args [] pos) X.env=(do
   let ov <- eval e X.env
   standAt apos.atName
   let (f,first) <- holding [ov] (getMethod ov m pl)
   callWith pos f first (backTo pos (starEach args X.env)) (backToKw pos (keywordEach [] X.env)))) :
  wpAny (model X.prog X.w) X.A (eval (.Call (.Attribute e m apos) args [] pos) X.env) Q X.xe s:=by
 refine zBM (pl:=pl) (Bt (F pins s σ H _ I h) λu j ⟨x,H1,z,B,a,C,dx,fs,g,ex,M,c,k,l,q⟩=>?_) L;subst ex;obtain rfl:u=Value.ref a:=B;exact Hh z M c k l (q j z)
end
section
variable {X:Cx} {pins:List (Addr×Obj)} {σ:St} {H:Hp} {s:Shared} {A:Around} {E:Value->Shared->Prop} {Q:Value->Shared->Prop} {c:Value} {b:Bool}
inductive Hb (K:zAa) (H:Hp):V->Value->Prop where
 |non:Hb K H .non (.type "NoneType")
 |bl (x:Bool):Hb K H (.bl x) (.type "bool")
 |int (i:Int):Hb K H (.int i) (.type "int")
 |str (x:Str):Hb K H (.str x) (.type "str")
 |flt (x:UInt64):Hb K H (.flt x) (.type "float")
 |lst {a:Addr} {xs:List V} (e:H a=some (.lst xs)):Hb K H (.ref a) (.type "list")
 |frz {a:Addr} {o:Obj} {xs:List V} (e:H a=some (.frz o (.lst xs))):Hb K H (.ref a) (.type "list")
 |tup {a:Addr} {xs:List V} (e:H a=some (.tup xs)):Hb K H (.ref a) (.type "tuple")
 |dK {a:Addr} {kvs:List (Fl×V)} (e:H a=some (.dK kvs)):Hb K H (.ref a) (.type "dict")
 |dT {a:Addr} {kvs:List (List Fl×V)} (e:H a=some (.dT kvs)):Hb K H (.ref a) (.type "dict")
 |ins {a C dx:Addr} {fs:List (Str×V)} (e:H a=some (.ins C dx fs)) (cl:WZ K C) (ha:zAK K (.ref C) "__class__"=some (some (.builtin "object.__class__")))
   (hn:zCc K (.builtin "object.__class__") "__get__"=some (some (.builtin "getset_descriptor.__get__"))) (htk:PySem.W.takesIn K (.builtin "object.__class__")=some true)
   (hm:PySem.W.mroIn K C (.type "object")=some true):Hb K H (.ref a) (.ref C)
def N6 {x} {u t} (I:Dm X pins σ H s) (rx:Ht x u) (ty:Hb X.K H x t) (e:zBh X.K t c=some b) (h:∀ tk,Q (.bool b) { s with toks:=tk }) :
  wpAny (model X.prog X.w) A (call (.builtin "isinstance") [u,c]) Q E s:=by
 cases ty with
 |non=>cases (show u=Value.none from rx);exact zBl PySem.W.kitx_none I.kIn True.intro e (λz=>nomatch z) h
 |bl y=>cases (show u=Value.bool y from rx);exact zBl PySem.W.kitx_bool I.kIn True.intro e (λz=>nomatch z) h
 |int i=>obtain⟨t,q⟩:=(show ∃ t,u=Value.int i t from rx);cases q;exact zBl PySem.W.kitx_int I.kIn True.intro e (λz=>nomatch z) h
 |str y=>obtain⟨t,q⟩:=(show ∃ t,u=Value.str y t from rx);cases q;exact zBl PySem.W.kitx_str I.kIn True.intro e (λz=>nomatch z) h
 |flt y=>obtain⟨t,q⟩:=(show ∃ t,u=Value.float y t from rx);cases q;exact zBl PySem.W.kitx_float I.kIn True.intro e (λz=>nomatch z) h
 |@lst a xs ea=>
  cases (show u=Value.ref a from rx)
  obtain⟨_,_,n,_,h1⟩:=(show VQ X.prog X.w H s.heap a (.lst xs) from I.hok a _ ea);exact zBl PySem.W.kitx_list I.kIn ⟨_,h1,rfl⟩ e (λz=>nomatch z) h
 |@frz a ob xs ea=>
  cases (show u=Value.ref a from rx)
  obtain⟨_,_,_,n,_,h1⟩:=(show VQ X.prog X.w H s.heap a (.frz ob (.lst xs)) from I.hok a _ ea);exact zBl PySem.W.kitx_list I.kIn ⟨_,h1,rfl⟩ e (λz=>nomatch z) h
 |@tup a xs ea=>
  cases (show u=Value.ref a from rx)
  obtain⟨_,_,_,p⟩:=(show VQ X.prog X.w H s.heap a (.tup xs) from I.hok a _ ea);obtain⟨o,h1,h2,_⟩:=p;exact zBl PySem.W.kitx_tuple I.kIn ⟨o,h1,h2⟩ e (λz=>nomatch z) h
 |@dK a kvs ea=>
  cases (show u=Value.ref a from rx)
  obtain⟨_,_,vs,_,p⟩:=(show VQ X.prog X.w H s.heap a (.dK kvs) from I.hok a _ ea);obtain⟨o,es,ep,h1,h2,_⟩:=p;exact zBl PySem.W.kitx_dict I.kIn ⟨o,h1,h2.1⟩ e (λz=>nomatch z) h
 |@dT a kvs ea=>
  cases (show u=Value.ref a from rx)
  obtain⟨_,_,xs,_,o,es,ep,h1,h2,_⟩:=(show VQ X.prog X.w H s.heap a (.dT kvs) from I.hok a _ ea);exact zBl PySem.W.kitx_dict I.kIn ⟨o,h1,h2.1⟩ e (λz=>nomatch z) h
 |@ins a C dx fs ea cl ha hn htk hm=>
  cases (show u=Value.ref a from rx)
  obtain⟨mA,O,_⟩:=On I.hok ea;obtain⟨od,J,_⟩:=O.look;exact zBl (PySem.W.kitx_own (cl.get _) cl.hd ha hn htk hm) I.kIn J e (λz=>nomatch z) h
end
structure VP (k:Nat) (A:Around):Prop where
 hd:A.handled=none
 dp:A.depth+3*k+5<recursionLimit
 un:A.units+16*k+200<cLine
def VP.mono {j k:Nat} {A:Around} (r:VP k A) (h:j<=k):VP j A:=⟨r.hd,by have:=r.dp;lia,by have:=r.un;lia⟩
def VP.deeper {k:Nat} {A:Around} (r:VP (k+1) A) (env:Env):VP k (A.deeper env):=
 ⟨r.hd,by have:=r.dp;show A.depth+1+3*k+5<_;lia,by have:=r.un;show A.units+3+16*k+200<_;lia⟩
def VP.in1 {k:Nat} {A:Around} (r:VP (k+1) A):VP k A.in1:=
 ⟨r.hd,by have:=r.dp;show A.depth+3*k+5<_;lia,by have:=r.un;show A.units+1+16*k+200<_;lia⟩
def B3 {A:Around} {C:Addr} {us:List Value} {g:List (Str×Value)}:(A.under (.builtin "type.__call__" ⟨.ref C::us,g⟩)).depth=A.depth+1:=by
 first|rfl|simp [Around.under,Code.weight,Code.isCreation,Code.isGuard,Code.isCaller,Code.frames,Code.isFrame,guardIds]
def Zt {A:Around} {C:Addr} {us:List Value} {g:List (Str×Value)}:(A.under (.builtin "type.__call__" ⟨.ref C::us,g⟩)).units=A.units+1:=by
 first|rfl|simp [Around.under,Code.cUnits,Code.frames,Code.isFrame]
def VP.make {k:Nat} {A} (r:VP (k+1) A) (C:Addr) (us:List Value) (g:List (Str×Value)):VP k (A.under (.builtin "type.__call__" ⟨.ref C::us,g⟩)):=
 ⟨r.hd,by have:=r.dp;rw[B3];lia,by have:=r.un;rw[Zt];lia⟩
def VP.depth {k:Nat} {A:Around} (r:VP k A):A.depth<recursionLimit:=by have:=r.dp;lia
def VP.units {k:Nat} {A:Around} (r:VP k A):A.units+64<cLine:=by have:=r.un;lia
def Xs:TA:=λ_ H Q=>Q [] H
def Wv (ta:TE) (tr:TA):TA:=λσ H Q=>ta σ H λx H1=>tr σ H1 λxs H2=>Q (x::xs) H2
section
variable {X:Cx} {e:Expr} {es:List Expr} {te:TE} {t:TA} {pos:Pos}
def Cn:PA X [] Xs:=λ_ _ _ _ H Q I h=>Calls.spliced_nil ⟨[],H,I,.nil,h⟩
def Ah (F:PE X e te) (hr:PA X es t) (q:starEach (e::es) X.env=(false,eval e X.env)::starEach es X.env:=by rfl):PA X (e::es) (Wv te t):=by
 intro pos pins s σ H Q I h;rw[q];show wpAny _ _ (spliced ((false,eval e X.env)::backTo pos (starEach es X.env))) _ _ s;refine Calls.spliced_cons (Bt (F pins s σ H _ I h) λu j ⟨x,H1,B,U,z⟩=>?_);exact Bt (hr pos pins j σ H1 _ B z) λZ Y ⟨xs,L,M,S,g⟩=>⟨x::xs,L,M,.cons U S,g⟩
def RS (t:TA):TE:=λσ H Q=>t σ H λxs H1=>xs.length<=sizeLine/\∀ p,H1 p=none->Q (.ref p) (upd H1 p (.tup xs))
def TD (t:TA):TE:=λσ H Q=>t σ H λxs H1=>xs.length<=sizeLine/\∀ p,H1 p=none->Q (.ref p) (upd H1 p (.lst xs))
def Ba {M} (h:PA X es t):PE X (.Tuple es M pos) (RS t):=by
 intro pins s σ H Q I F;refine wpAny_Tuple_spliced (Bt (h pos pins s σ H _ I F) λL g ⟨xs,H1,j,r,z,q⟩=>⟨by rw[<- r.length];exact z,?_⟩);have B:H1 g.heap.objs.size=none:=j.hok.fresh (zAi _);refine⟨.ref g.heap.objs.size,upd H1 g.heap.objs.size (.tup xs),j.laid (t':=g.toks) (λb u e=>zAc _ e) (zAi _) ?_,rfl,q _ B⟩;exact⟨z,L,r,⟨_,zAv _ rfl,rfl,_,rfl⟩⟩
def Bf (h:PA X es t):PE X (.List es pos) (TD t):=by
 intro pins s σ H Q I F;refine wpAny_List_spliced (Bt (h pos pins s σ H _ I F) λL g ⟨xs,H1,j,r,z,q⟩=>⟨by rw[<- r.length];exact z,?_⟩);have B:H1 g.heap.objs.size=none:=j.hok.fresh (zAi _);refine⟨.ref g.heap.objs.size,upd H1 g.heap.objs.size (.lst xs),j.laid (t':=g.toks) (λb u e=>zAc _ e) (zAi _) ?_,rfl,q _ B⟩;exact⟨z,L,0,r,zAv _ rfl⟩
end
abbrev Sp:=List V->Hp->VK->XK->Prop
abbrev DE:=List Env->Hp->Shared->XK->Value->Shared->Prop
structure WW (P:Program) (w:World) (K:zAa) (mg:Str->Option Value) (base:Heap) (A:Around) (outer:List Env) (s:Shared) (H:Hp):Prop where
 frames:A.frames=some outer
 mod:Mod K mg base
 bs:∀ b o,base.get? b=some o->s.heap.get? b=some o/\H b=none
 bsz:base.objs.size<=s.heap.objs.size
 funs:s.heap.FunFrames base outer
 frf:∀ b∈O7 outer,H b=none
 hok:WJ P w H s.heap
 bare:AllBare s.gens
def CE (outer:List Env) (P:Program) (w:World) (H:Hp) (s:Shared) (Q:VK) (u:Value) (s':Shared):Prop:=
 ∃ v H',s'.os=s.os/\AllBare s'.gens/\Un (O7 outer) [] H H' s.heap s'.heap/\WJ P w H' s'.heap/\Ht v u/\Q v H'
def CR (CX:DE) (outer:List Env) (P:Program) (w:World) (H:Hp) (s:Shared) (Q:VK) (E:XK) (r:Result) (s':Shared):Prop:=
 match r with
 |.ok (.ret u)=>CE outer P w H s Q u s'
 |.ok _=>False
 |.error e=>CX outer H s E e s'
structure Lp (P:Program) (w:World) (K:zAa) (mg:Str->Option Value) (base:Heap) (CX:DE) (k:Nat) (f:Addr) (fd:zCG) (ps:List Str) (sp:Sp):Prop where
 len:∀ vs H Q E,sp vs H Q E->vs.length=ps.length
 run:∀ (A:Around) (outer:List Env) (s:Shared) (H:Hp) (args:Args) (us:List Value) (vs:List V) (Q:VK) (E:XK),VP k A->WW P w K mg base A outer s H->BindsTo s fd args (ps.zip us)->Fz vs us->sp vs H Q E ->
  codeAny (model P w) A (.call (.ref f) args) (CR CX outer P w H s Q E) s
def Lp.mono {P} {w} {K} {mg:Str->Option Value} {base} {CX} {j k:Nat} {f} {fd} {ps} {sp} (F:Lp P w K mg base CX j f fd ps sp) (h:j<=k) :
  Lp P w K mg base CX k f fd ps sp:=⟨F.len,λA outer s H g q vs Q E hr=>F.run A outer s H g q vs Q E (hr.mono h)⟩
def WW.make {P} {w} {K} {mg:Str->Option Value} {base} {A} {outer} {s} {H} (e:WW P w K mg base A outer s H) (C:Addr) (us:List Value) (g:List (Str×Value)) :
  WW P w K mg base (A.under (.builtin "type.__call__" ⟨.ref C::us,g⟩)) outer s H:=⟨by first|exact e.frames|(simpa [Around.under,Code.envs,Code.isFrame,pushEnvs] using e.frames),e.mod,e.bs,e.bsz,e.funs,e.frf,e.hok,e.bare⟩
section
variable {X:Cx} {pins:List (Addr×Obj)} {σ:St} {H:Hp} {s s':Shared}
def Dm.env0 (I:Dm X pins σ H s):WW X.prog X.w X.K X.mg X.base X.A X.stack s H:=
 ⟨I.ok.frames,I.ok.mod,I.bs,zAz I.ok.bsz I.sz,I.stack,I.stkFree,I.hok,I.bare⟩
def Dm.after {Q:VK} {u:Value} (I:Dm X pins σ H s) (h:CE X.stack X.prog X.w H s Q u s'):EP X pins σ Q u s':=by
 obtain⟨v,H',L,j,un,F,r,q⟩:=h;obtain⟨M,g,d,t,B⟩:=s';obtain rfl:B=s.os:=L;exact⟨v,H',I.call (h':=M) (g':=g) (d':=d) (t':=t) (ch:=[]) un F j (λb z=>absurd z (by simp)),r,q⟩
end
def K1 (sp:Sp) (dvs:List V) (E:XK) (t:TA):TE:=λσ H Q=>t σ H λvs H1=>sp (vs++dvs) H1 Q E
def Xz (C:Addr) (m:Str) (sp:Sp) (dvs:List V) (E:XK) (ta:TE) (t:TA):TE:=λσ H Q=>ta σ H λx H1=>∃ a dx fs,x=.ref a/\H1 a=some (.ins C dx fs)/\fs.lookup m=none /\
 t σ H1 λvs H2=>sp (x::(vs++dvs)) H2 Q E
def L7 (C:Addr) (sp:Sp) (dvs:List V) (E:XK) (t:TA):TE:=λσ H Q=>t σ H λvs H1=>∀ x dx,H1 x=none->H1 dx=none->dx≠x ->
 sp (.ref x::(vs++dvs)) (upd (upd H1 dx (.own x)) x (.ins C dx [])) (λv H2=>v=.non/\Q (.ref x) H2) E
def VW (K:zAa) (fd:zCG) (ps:List Str) (ds:List Value):Prop:=
 ∀ (s:Shared) (us:List Value),K.In s.heap->(us++ds).length=ps.length->BindsTo s fd ⟨us,[]⟩ (ps.zip (us++ds))
def VW.all {K} {fd} {ps} (h:∀ g:List Value,g.length=ps.length->bindArgs fd ⟨g,[]⟩=pure (ps.zip g)):VW K fd ps []:=λs g _ hl=>by
 rw[zAL] at hl ⊢;exact .of_eq (h g hl)
def Jd (CX:DE) (X:Cx) (E:XK):Prop:=∀ (pins:List (Addr×Obj)) (σ:St) (H:Hp) (s:Shared) (e:Value) (s':Shared),Dm X pins σ H s->CX X.stack H s E e s'->X.xe e s'
section
variable {X:Cx} {CX:DE} {k:Nat} {f C:Addr} {fd:zCG} {ps:List Str} {sp:Sp} {dvs:List V} {ds:List Value} {E:XK} {x m:Str} {p pos apos:Pos} {e o:Expr} {es:List Expr} {ta:TE} {t:TA}
def Ox {s:Shared} {Q:VK} {us:List Value} {vs:List V} (F:Lp X.prog X.w X.K X.mg X.base CX k f fd ps sp) (hr:VP k X.A) (q:VW X.K fd ps ds) (B:Fz dvs ds) (z:Jd CX X E)
  (I:Dm X pins σ H s) (r:Fz vs us) (h:sp (vs++dvs) H Q E):wpAny (model X.prog X.w) X.A (call (.ref f) us) (EP X pins σ Q) X.xe s:=by
 have j:Fz (vs++dvs) (us++ds):=r.append B;have hl:(us++ds).length=ps.length:=by rw[<- j.length];exact F.len _ _ _ _ h
 refine wpAny_call (codeAny_mono (F.run X.A X.stack s H ⟨us,[]⟩ (us++ds) (vs++dvs) Q E hr I.env0 (q s us I.kIn hl) j h) λr s' g=>?_);cases r with
 |error e=>exact z pins σ H s e s' I g
 |ok L=>
  cases L with
  |ret u=>exact I.after g
  |next=>exact False.elim g
  |brk=>exact False.elim g
  |cont=>exact False.elim g
def DO (F:Lp X.prog X.w X.K X.mg X.base CX k f fd ps sp) (hr:VP k X.A) (L:Gl X x) (U:X.mg x=some (.ref f)) (Y:zAN X.K (.ref f)=true) (z:VW X.K fd ps ds) (M:Fz dvs ds) (B:Jd CX X E)
  (S:PA X (e::es) t) (g:(x==("__debug__" : Str))=false:=by decide) (he:starEach (e::es) X.env=(false,eval e X.env)::starEach es X.env:=by rfl) (hpl:(backTo pos (starEach es X.env)).any (·.1)=false:=by rfl) :
  PE X (.Call (.Name x p) (e::es) [] pos) (K1 sp dvs E t):=by
 intro pins s σ H Q I h;refine wpAny_Call_Name_kw (Hq I L U ?_ g);refine zBV (h₀:=X.base) I.ok.mod.kin Y (Bt (S pos pins s σ H _ I h) λus Z ⟨vs,H1,j,r,q⟩=>⟨j.kIn,?_⟩) he hpl;exact Ox F hr z M B j r q
def EC {pl:Sem Bool} (Y:PE X o ta) (c:WZ X.K C) (z:W2 X.K C m f) (F:Lp X.prog X.w X.K X.mg X.base CX k f fd ps sp) (hr:VP k X.A) (U:VW X.K fd ps ds) (hd:Fz dvs ds) (Z:Jd CX X E) (ha:PA X (e::es) t)
  (g:starEach (e::es) X.env=(false,eval e X.env)::starEach es X.env:=by rfl) (hpl:(backTo pos (starEach es X.env)).any (·.1)=false:=by rfl)
  (ht:eval (.Call (.Attribute o m apos) (e::es) [] pos) X.env=(do
   let ov <- eval o X.env
   standAt apos.atName
   let (f,first) <- holding [ov] (getMethod ov m pl)
   callWith pos f first (backTo pos (starEach (e::es) X.env)) (backToKw pos (keywordEach [] X.env))):=by rfl) :
  PE X (.Call (.Attribute o m apos) (e::es) [] pos) (Xz C m sp dvs E ta t):=by
 intro pins s σ H Q I h;refine zBM (pl:=pl) (Bt (Y pins s σ H _ I h) λu M ⟨x,H1,j,S,a,dx,fs,ex,ea,l,q⟩=>?_) ht;subst ex;obtain rfl:u=Value.ref a:=S;refine Hh j ea c z l ?_;refine zBV (first:=[.ref a]) (h₀:=X.base) I.ok.mod.kin z.kp (Bt (ha pos pins M σ H1 _ j q) λus s2 ⟨vs,H2,B,r,L⟩=>⟨B.kIn,?_⟩) g hpl;exact Ox (us:=.ref a::us) (vs:=.ref a::vs) F hr U hd Z B (.cons rfl r) L
def AV {pl:Sem Bool} (L:PE X o ta) (c:WZ X.K C) (j:W2 X.K C m f) (F:Lp X.prog X.w X.K X.mg X.base CX k f fd ps sp) (hr:VP k X.A) (B:VW X.K fd ps ds) (U:Fz dvs ds) (M:Jd CX X E)
  (S:eval (.Call (.Attribute o m apos) [] [] pos) X.env=(do
   let ov <- eval o X.env
   standAt apos.atName
   let (f,first) <- holding [ov] (getMethod ov m pl)
   callWith pos f first (backTo pos (starEach [] X.env)) (backToKw pos (keywordEach [] X.env))):=by rfl) :
  PE X (.Call (.Attribute o m apos) [] [] pos) (Xz C m sp dvs E ta Xs):=by
 intro pins s σ H Q I h;refine zBM (pl:=pl) (Bt (L pins s σ H _ I h) λu Z ⟨x,H1,g,z,a,dx,fs,ex,Y,l,q⟩=>?_) S;subst ex;obtain rfl:u=Value.ref a:=z;refine Hh g Y c j l ?_;exact PySem.W.callWith_K0 (first:=[.ref a]) g.kIn j.kp (Ox (us:=[.ref a]) (vs:=[.ref a]) F hr B U M g (.cons rfl .nil) q)
structure Mk (K:zAa) (C f:Addr):Prop where
 makes:zCp K C=true
 init:zAK K (.ref C) "__init__"=some (some (.ref f))
 fn:zBK K (.ref f)=true
 kp:zAN K (.ref C)=true
def Ym {s:Shared} {Q:VK} {us:List Value} {vs:List V} (M:Mk X.K C f) (F:Lp X.prog X.w X.K X.mg X.base CX k f fd ps sp) (hr:VP (k+1) X.A) (B:VW X.K fd ps ds) (Z:Fz dvs ds)
  (U:Jd CX X E) (I:Dm X pins σ H s) (r:Fz vs us)
  (h:∀ x dx,H x=none->H dx=none->dx≠x->sp (.ref x::(vs++dvs)) (upd (upd H dx (.own x)) x (.ins C dx [])) (λv H2=>v=.non/\Q (.ref x) H2) E) :
  wpAny (model X.prog X.w) X.A (call (.ref C) us) (EP X pins σ Q) X.xe s:=by
 have q:=h (s.heap.objs.size+1) s.heap.objs.size (I.hok.fresh (zBD _)) (I.hok.fresh (zAi _)) (zAx (zBS _));have j:=Dm.made (C:=C) I;have z:Fz (V.ref (s.heap.objs.size+1)::(vs++dvs)) (Value.ref (s.heap.objs.size+1)::(us++ds)):=.cons rfl (r.append Z);have hl:(Value.ref (s.heap.objs.size+1)::us++ds).length=ps.length:=by
  have e:=z.length;rw[F.len _ _ _ _ q] at e;exact e.symm
 refine wpAny_call (Z9 (f:=f) I.kIn M.makes M.init (beq_iff_eq.mp M.fn) (codeAny_mono (F.run _ X.stack _ _ ⟨Value.ref (s.heap.objs.size+1)::us,[]⟩ (Value.ref (s.heap.objs.size+1)::(us++ds)) _ _ E (hr.make C us [])
  (j.env0.make C us []) (B _ (Value.ref (s.heap.objs.size+1)::us) j.kIn hl) z q) λr s' g=>?_))
 cases r with
 |error e=>exact U pins σ _ _ e s' j g
 |ok fl=>
  cases fl with
  |ret u=>
   obtain⟨v,H',I3,Y,S,L⟩:=j.after g;subst S;exact⟨Y,⟨V.ref (s.heap.objs.size+1),H',I3,rfl,L⟩⟩
  |next=>exact False.elim g
  |brk=>exact False.elim g
  |cont=>exact False.elim g
def FP (M:Mk X.K C f) (F:Lp X.prog X.w X.K X.mg X.base CX k f fd ps sp) (hr:VP (k+1) X.A) (L:Gl X x) (Y:X.mg x=some (.ref C)) (z:VW X.K fd ps ds) (S:Fz dvs ds) (B:Jd CX X E)
  (U:PA X (e::es) t) (g:(x==("__debug__" : Str))=false:=by decide) (he:starEach (e::es) X.env=(false,eval e X.env)::starEach es X.env:=by rfl) (hpl:(backTo pos (starEach es X.env)).any (·.1)=false:=by rfl) :
  PE X (.Call (.Name x p) (e::es) [] pos) (L7 C sp dvs E t):=by
 intro pins s σ H Q I h;refine wpAny_Call_Name_kw (Hq I L Y ?_ g);refine zBV (h₀:=X.base) I.ok.mod.kin M.kp (Bt (U pos pins s σ H _ I h) λus Z ⟨vs,H1,j,r,q⟩=>⟨j.kIn,?_⟩) he hpl;exact Ym M F hr z S B j r q
def Y8 (M:Mk X.K C f) (F:Lp X.prog X.w X.K X.mg X.base CX k f fd ps sp) (hr:VP (k+1) X.A) (B:Gl X x) (L:X.mg x=some (.ref C)) (j:VW X.K fd ps ds) (z:Fz dvs ds) (q:Jd CX X E)
  (g:(x==("__debug__" : Str))=false:=by decide):PE X (.Call (.Name x p) [] [] pos) (L7 C sp dvs E Xs):=by
 intro pins s σ H Q I h;refine wpAny_Call_Name_kw (Hq I B L ?_ g);exact PySem.W.callWith_K0 I.kIn M.kp (Ym (us:=[]) M F hr j z q I .nil h)
end
structure Bz (N P:List Str) (sc:Scope):Prop where
 kind:sc.kind=.function
 co:sc.isCoroutine=false
 gen:sc.isGenerator=false
 nd:N.Nodup
 pre:N.take P.length=P
 par:∀ x∈P,sc.names.lookup x=some .local\/sc.names.lookup x=some .cell
 nofree:∀ y∈sc.names,y.2≠.free
theorem Ta {g:Str->Option NameKind} {x:Str}:∀ {binds} {m:Str->Option Value},(∀ v,(x,v)∉binds)->bindL g binds m x=m x
 |[],_,_=>rfl
 |(n,v)::r,m,h=>by
  unfold bindL;rw[Ta λw j=>h w (zAd _ j)]
  split
  .have:x≠n:=by rintro rfl;exact h v zAg
   simp [this]
  .rfl
theorem Tc {g:Str->Option NameKind} {x:Str}:∀ {binds} {m:Str->Option Value},(∀ v,(x,v)∉binds)->bindC g binds m x=m x
 |[],_,_=>rfl
 |(n,v)::r,m,h=>by
  unfold bindC;rw[Tc λw j=>h w (zAd _ j)]
  split
  .rfl
  .have:x≠n:=by rintro rfl;exact h v zAg
   simp [this]
theorem Sh {g:Str->Option NameKind} {x:Str} {v:Value}:∀ {P:List Str} {vs:List Value} {i:Nat} {m:Str->Option Value},P.Nodup->P[i]?=some x->vs[i]?=some v->g x=some .local ->
  bindL g (P.zip vs) m x=some v
 |[],_,_,_,_,h,_,_=>by simp at h
 |_::_,[],_,_,_,_,h,_=>by simp at h
 |p::P,w::vs,0,m,nd,h1,j,q=>by
  simp at h1 j;subst h1;subst j;show bindL g ((p,w)::P.zip vs) m p=_;unfold bindL;rw[Ta λv z=>(zBt.mp nd).1 (List.of_mem_zip z).1,if_pos q];simp
 |p::P,w::vs,i+1,m,nd,h1,j,q=>by
  show bindL g ((p,w)::P.zip vs) m x=_;unfold bindL;exact Sh (i:=i) (zBt.mp nd).2 (by simpa using h1) (by simpa using j) q
theorem Tt {g:Str->Option NameKind} {x:Str} {v:Value}:∀ {P:List Str} {vs:List Value} {i:Nat} {m:Str->Option Value},P.Nodup->P[i]?=some x->vs[i]?=some v->g x≠some .local ->
  bindC g (P.zip vs) m x=some v
 |[],_,_,_,_,h,_,_=>by simp at h
 |_::_,[],_,_,_,_,h,_=>by simp at h
 |p::P,w::vs,0,m,nd,h1,j,q=>by
  simp at h1 j;subst h1;subst j;show bindC g ((p,w)::P.zip vs) m p=_;unfold bindC;rw[Tc λv z=>(zBt.mp nd).1 (List.of_mem_zip z).1,if_neg q];simp
 |p::P,w::vs,i+1,m,nd,h1,j,q=>by
  show bindC g ((p,w)::P.zip vs) m x=_;unfold bindC;exact Tt (i:=i) (zBt.mp nd).2 (by simpa using h1) (by simpa using j) q
def Fa (N:List Str) (vs:List V):St:=vs.map some++List.replicate (N.length-vs.length) none
def Kd (CX:DE) (P:Program) (w:World) (K:zAa) (mg:Str->Option Value) (base:Heap) (N:List Str) (qual:Str) (scope:Scope) (f:Addr) (cd:Value) (A:Around) (outer:List Env) (s:Shared) (H:Hp) (E:XK):Cx where
 prog:=P
 w:=w
 K:=K
 mg:=mg
 base:=base
 A:=A.deeper (envOfC qual scope s.heap.objs.size f cd)
 N:=N
 s₀:=s
 H₀:=H
 env:=envOfC qual scope s.heap.objs.size f cd
 outer:=outer
 stack:=envOfC qual scope s.heap.objs.size f cd::outer
 ex:=[]
 calm:=true
 fn:=λ_=>true
 pn:=[]
 xe:=λe s'=>wpAny (model P w) (A.deeper (envOfC qual scope s.heap.objs.size f cd)) (leaving (envOfC qual scope s.heap.objs.size f cd) e) (λ_ s''=>CX outer H s E e s'') (λe' s''=>CX outer H s E e' s'') s'
def Wy {sc:Scope} {n:Nat} {x:Str} (h:sc.names.lookup x=some .cell):∃ c,(cellsFrom n sc.names []).lookup x=some c:=by
 have q:=zCv sc.names n [] (.inl h);exact Option.isSome_iff_exists.mp q
def Tn {CX:DE} {P:Program} {w:World} {K:zAa} {mg:Str->Option Value} {base:Heap} {N ps:List Str} {qual:Str} {scope:Scope} {f:Addr} {cd:Value} {A:Around} {outer:List Env} {s s1:Shared} {H:Hp} {E:XK} {us:List Value} {vs:List V}
  (S:Bz N ps scope) (hd:A.handled=none) (e0:WW P w K mg base A outer s H) (hl:vs.length=ps.length) (r:Fz vs us)
  (x:InCallC s s.heap.objs.size (bindL (envOfC qual scope s.heap.objs.size f cd).kindOf (ps.zip us) λ_=>none) (cellsFrom (s.heap.objs.size+1) scope.names []) (bindC (envOfC qual scope s.heap.objs.size f cd).kindOf (ps.zip us) λ_=>none) s1) :
  Dm (Kd CX P w K mg base N qual scope f cd A outer s H E) [] (Fa N vs) H s1:=by
 have hpl:ps.length<=N.length:=by have:=congrArg List.length S.pre;rw[zAo] at this;lia
 obtain⟨h1,tk,rfl,hk⟩:=x.done;have noA:∀ b:Addr,b∉(Kd CX P w K mg base N qual scope f cd A outer s H E).ex:=λb z=>absurd (show b∈([]:List Addr) from z) (by simp);refine⟨⟨e0.mod,S.kind,rfl,rfl,zAi _,λy z c h1 h2=>?_,λy hy=>?_,λy c _ h=>?_,λ_=>hd,Around.frames_deeper e0.frames,.inr ⟨rfl,rfl⟩,λb z=>absurd z (noA b),e0.bs,e0.bsz,λb _ _=>noA b,λb z=>absurd z (noA b),e0.funs,e0.frf⟩,
  rfl,e0.bare,Un.kept hk,⟨_,x.toInCall.ns,λi y v h1 h2 h3=>?_⟩,λy c h=>⟨_,x.cell y c h⟩,e0.hok.fresh (zAi _),λy c h=>?_,λp hp=>absurd (show p∈([]:List (Addr×Obj)) from hp) (by simp),e0.hok.kept hk,?_⟩
 .exact name_of_addr x.apart (PySem.mem_of_lookup h1) (PySem.mem_of_lookup h2)
 .have hy:scope.names.lookup y=some .cell\/scope.names.lookup y=some .free:=hy
  rcases hy with hy|hy
  .exact Wy hy
  .exact absurd rfl (S.nofree _ (PySem.mem_of_lookup hy))
 .exact zCg (x.above y c (PySem.mem_of_lookup h))
 .have hi:i<vs.length:=by
   unfold Fa at h2;by_cases hi:i<vs.length
   .exact hi
   .rw[zBp (by simpa using hi)] at h2
    rw[List.getElem?_replicate] at h2
    split at h2 <;> cases h2
  have ha:vs[i]?=some v:=by
   unfold Fa at h2;rw[zBB (by simpa using hi),zAy] at h2;cases e:vs[i]? with
   |none=>rw[e] at h2;cases h2
   |some a=>rw[e] at h2;cases h2;rfl
  obtain⟨u,hu,rv⟩:=r.get ha;have hp:ps[i]?=some y:=by
   rw[<- S.pre,List.getElem?_take_of_lt (by lia)];exact h1
  have ndP:ps.Nodup:=by rw[<- S.pre];exact S.nd.sublist (zBF _ _)
  refine⟨u,rv,?_⟩;rcases S.par y (zAC hp) with k|k
  .exact .inl ⟨k,Sh ndP hp hu k⟩
  .obtain⟨c,e⟩:=Wy (n:=s.heap.objs.size+1) k
   refine .inr ⟨.inl k,c,e,?_⟩;have q:=x.cell y c e;rw[Tt ndP hp hu (by show scope.names.lookup y≠_;rw[k];decide)] at q;exact q
 .exact e0.hok.fresh (zCg (x.above y c (PySem.mem_of_lookup h)))
 .unfold Fa
  show _=N.length;rw[zAj,zAb,zBN]
  lia
def Y2 {CX} {P} {w} {K} {mg:Str->Option Value} {base} {k:Nat} {f} {name qual} {j} {z} {g} {dV kV Z pm cdv ct oc} {an od}
  {ac} {N ps} {sp} (lk:K.lookup f=some ⟨oc,od,.func (zAQ name qual j z g dV kV Z pm an cdv ct),ac⟩) (aa:zBi K cdv qual=true) (S:Bz N ps g)
  (len:∀ vs H Q E,sp vs H Q E->vs.length=ps.length)
  (F:∀ (A:Around) (outer:List Env) (s:Shared) (H:Hp) (vs:List V) (Q:VK) (E:XK),VP k (A.deeper (envOfC qual g s.heap.objs.size f cdv))->sp vs H Q E ->
   ∃ t,PSs (Kd CX P w K mg base N qual g f cdv A outer s H E) z t/\t { nx:=λ_ H'=>Q .non H',rt:=Q } (Fa N vs) H) :
  Lp P w K mg base CX (k+1) f (zAQ name qual j z g dV kV Z pm an cdv ct) ps sp:=by
 refine⟨len,λA outer s H ad us vs Q E hr M hb r Y=>?_⟩;have hl:=len _ _ _ _ Y;have KX:K.In s.heap:=M.mod.kin.keeps λb o e=>(M.bs b o e).1;have ab:s.heap.NoLimit:=M.mod.nolimit.keeps λb o e=>(M.bs b o e).1;have B:∀ y∈ps.zip us,g.names.lookup y.1=some .local\/(g.names.lookup y.1=some .cell/\((cellsFrom (s.heap.objs.size+1) g.names []).lookup y.1).isSome=true):=λ⟨n,v⟩ hy=>by
  rcases S.par n (List.of_mem_zip hy).1 with q|q
  .exact .inl q
  .exact .inr ⟨q,zCv _ _ _ (.inl q)⟩
 refine codeAny_call_function hr.depth (KX _ _ lk) rfl S.co S.gen rfl (PySem.W.codeRec_of KX aa) (hb _ _ _ _ ?_);refine wpAny_newFunctionEnv_cells S.kind B λae he s1 x=>?_;subst he;refine⟨ab.keeps x.toInCall.keep,codeAny_func ?_⟩;obtain⟨t,ht,hq⟩:=F A outer s H vs Q E (hr.deeper _) Y;have I:Dm (Kd CX P w K mg base N qual g f cdv A outer s H E) [] (Fa N vs) H s1:=Tn S hr.hd M hl r x;refine wpAny_mono (ht [] s1 (Fa N vs) H _ I hq) (λfl s' L=>?_) λe s' L=>L;have U:∀ {σ':St} {H':Hp} {v:V} {u:Value},Dm (Kd CX P w K mg base N qual g f cdv A outer s H E) [] σ' H' s'->Ht v u->Q v H'->CE outer P w H s Q u s':=
  λ{σ' H' v u} J rv q=>⟨v,H',J.os,J.bare,J.base,J.hok,rv,q⟩
 cases fl with
 |ret u=>
  obtain⟨v,σ',H',J,rv,q⟩:=L;exact U J rv q
 |next=>
  obtain⟨σ',H',J,q⟩:=L;exact U (v:=V.non) (u:=Value.none) J rfl q
 |brk=>
  obtain⟨_,_,_,q⟩:=L;exact False.elim q
 |cont=>
  obtain⟨_,_,_,q⟩:=L;exact False.elim q
section
variable {X:Cx} {x:Str} {p pos:Pos} {e:Expr} {es:List Expr} {t:TA} {id T:String} {r:List V->Hp->VK->Prop}
def TB (r:List V->Hp->VK->Prop) (t:TA):TE:=λσ H Q=>t σ H λvs H1=>r vs H1 Q
def Cw (z:Fn X (.builtin id) r) (B:Gl X x) (S:X.mg x=none) (L:zCF x=some (.builtin id)) (M:PA X (e::es) t) (q:x ≠ "__name__":=by decide) (hdb:(x==("__debug__" : Str))=false:=by decide)
  (he:starEach (e::es) X.env=(false,eval e X.env)::starEach es X.env:=by rfl) (hpl:(backTo pos (starEach es X.env)).any (·.1)=false:=by rfl):PE X (.Call (.Name x p) (e::es) [] pos) (TB r t):=by
 intro pins s σ H Q I h;refine wpAny_Call_Name_kw (Ev I B S L ?_ q hdb);exact PyProof.Rows.callWith_builtin1 (Bt (M pos pins s σ H _ I h) λU g ⟨vs,H1,F,Y,j⟩=>z pins g σ H1 vs U Q F Y j) he hpl
def Cz (z:Fn X (.type T) r) (B:Gl X x) (S:X.mg x=none) (L:zCF x=some (.type T)) (M:PA X (e::es) t) (q:x ≠ "__name__":=by decide) (hdb:(x==("__debug__" : Str))=false:=by decide)
  (he:starEach (e::es) X.env=(false,eval e X.env)::starEach es X.env:=by rfl) (hpl:(backTo pos (starEach es X.env)).any (·.1)=false:=by rfl):PE X (.Call (.Name x p) (e::es) [] pos) (TB r t):=by
 intro pins s σ H Q I h;refine wpAny_Call_Name_kw (Ev I B S L ?_ q hdb);exact PyProof.Rows.callWith_type1 (Bt (M pos pins s σ H _ I h) λU g ⟨vs,H1,F,Y,j⟩=>z pins g σ H1 vs U Q F Y j) he hpl
end
end L2
namespace HT
open PySem PyProof.Rows
def lexLt:List Int->List Int->Bool
 |[],[]=>false
 |[],_::_=>true
 |_::_,[]=>false
 |x::xs,y::ys=>if x=y then lexLt xs ys else decide (x<y)
def lexLt_cons (x y:Int) (xs ys:List Int):lexLt (x::xs) (y::ys)=if x=y then lexLt xs ys else decide (x<y):=rfl
section
variable {prog:Program} {w:World} {A:Around} {E:Value->Shared->Prop} {s:Shared}
def sIx (n d:Nat):Option Int->Nat
 |none=>d
 |some v=>if v<0 then (v+(n:Int)).toNat else min v.toNat n
def sIx_none (n d:Nat):sIx n d none=d:=rfl
def sIx_nat (n d k:Nat):sIx n d (some (k:Int))=min k n:=by
 show (if (k:Int)<0 then ((k:Int)+(n:Int)).toNat else min (k:Int).toNat n)=min k n;rw[if_neg (by lia),Int.toNat_natCast]
def IG (n d:Nat) (j:d<=n) (o:Option Int):sIx n d o<=n:=by
 cases o with
 |none=>exact j
 |some v=>
  show (if v<0 then (v+(n:Int)).toNat else min v.toNat n)<=n;by_cases g:v<0
  .rw[if_pos g];lia
  .rw[if_neg g];exact Nat.min_le_right _ _
def E9 (v:Int) (n d:Nat):(if v<0 then max (v+(n:Int)) 0 else min v (n:Int))=((sIx n d (some v):Nat):Int):=by
 show (if v<0 then max (v+(n:Int)) 0 else min v (n:Int))=(((if v<0 then (v+(n:Int)).toNat else min v.toNat n):Nat):Int);by_cases g:v<0
 .simp only [if_pos g];lia
 .simp only [if_neg g];lia
def Zr (lo hi:Option Int) (n:Nat):Builtin.Slice.sliceAdjust lo hi 1 (n:Int)=(((sIx n 0 lo:Nat):Int),((sIx n n hi:Nat):Int)):=by
 have h1:¬ ((1:Int)<0):=by lia
 unfold Builtin.Slice.sliceAdjust;simp only [h1,if_false];refine Prod.ext ?_ ?_
 .cases lo with
  |none=>rfl
  |some v=>exact E9 v n 0
 .cases hi with
  |none=>rfl
  |some v=>exact E9 v n n
def Yw (i j:Nat):Builtin.Slice.slicePlaces (i:Int) (j:Int) 1=j-i:=by
 unfold Builtin.Slice.slicePlaces;have h1:(1:Int)>0:=by lia
 simp only [h1,if_true,Int.ediv_one]
 split <;> lia
def Pe {v:Value} {o:Option Int} {Q:Option Int->Shared->Prop} (p:IsPart v o) (h:Q o s):wpAny (model prog w) A (Builtin.Slice.slicePartIndex v) Q E s:=by
 cases p with
 |none=>exact slicePart_none h
 |int i t=>exact slicePart_int h
def Mx {lo hi:Option Int} {n:Nat} {Q:Int×Int×Nat->Shared->Prop} (z:s.heap.IsSliceOf sl vl vu .none) (pl:IsPart vl lo) (q:IsPart vu hi)
  (h:Q (((sIx n 0 lo:Nat):Int),1,sIx n n hi-sIx n 0 lo) s):wpAny (model prog w) A (Builtin.Slice.sliceApplied (.ref sl) (pure (n:Int))) Q E s:=by
 obtain⟨F,j,B,g⟩:=id z;unfold Builtin.Slice.sliceApplied Builtin.Slice.sliceFields;refine zCC (zCC (wpAny_field j g (x:=vl) rfl (zCC (wpAny_field j g (x:=vu) rfl (zCC (wpAny_field j g (x:=.none) rfl (zCD ?_)))))));refine zCC (slicePart_none ?_);show wpAny _ _ (if ((1:Int)==0)=true then _ else _) _ _ s;rw[if_neg (by decide)];refine zCC (Pe pl (zCC (Pe q (zCC (zCD ?_)))));show wpAny _ _ (match Builtin.Slice.sliceAdjust lo hi 1 (n:Int) with|(lo,hi)=>pure (lo,(1:Int),Builtin.Slice.slicePlaces lo hi 1)) _ _ s;rw[Zr lo hi n];show wpAny _ _ (pure (((sIx n 0 lo:Nat):Int),(1:Int),Builtin.Slice.slicePlaces ((sIx n 0 lo:Nat):Int) ((sIx n n hi:Nat):Int) 1)) _ _ s;rw[Yw];exact zCD h
def W3 (xs:Array Value) (i k:Nat):((zAO k).filterMap λ(m:Nat)=>xs[((i:Int)+(m:Int)*1).toNat]?).toArray=((xs.toList.drop i).take k).toArray:=by
 have e:(λ(m:Nat)=>xs[((i:Int)+(m:Int)*1).toNat]?)=λm=>xs[i+m]?:=by
  funext m
  have:((i:Int)+(m:Int)*1).toNat=i+m:=by lia
  rw[this]
 rw[e];have:=pick_run xs i k;rw[List.filterMap_map] at this;have e2:((λx=>xs[x]?) ∘ λx=>i+x)=λm=>xs[i+m]?:=rfl;rw[e2] at this;rw[this]
def getItem_tuple_cut {t sl} {items} {vl vu} {lo hi:Option Int} {Q:Value->Shared->Prop} (ht:IsTup s.heap t items) (hs:s.heap.IsSliceOf sl vl vu .none) (pl:IsPart vl lo) (pu:IsPart vu hi)
  (hw:¬ (sIx items.size 0 lo=0/\sIx items.size items.size hi=items.size))
  (h:Q (.ref s.heap.objs.size) { s with heap:=s.heap.push { cls:=.type "tuple",data:=.seq ((items.toList.drop (sIx items.size 0 lo)).take (sIx items.size items.size hi-sIx items.size 0 lo)).toArray } })
  (hsz:items.size<=sizeLine):wpAny (model prog w) A (getItem (.ref t) (.ref sl)) Q E s:=by
 have htake:sizeOk (.seq ((items.toList.drop (sIx items.size 0 lo)).take (sIx items.size items.size hi-sIx items.size 0 lo)).toArray):=by
  show ((items.toList.drop (sIx items.size 0 lo)).take (sIx items.size items.size hi-sIx items.size 0 lo)).toArray.size<=sizeLine;rw[zAh,zAo,zBm,zAA]
  lia
 have hj:sIx items.size items.size hi<=items.size:=IG _ _ (zAi _) hi;obtain⟨os,hos,hcs,hds⟩:=id hs;have hTs:s.TypeIs (.ref sl) "slice":=⟨os,hos,hcs⟩;unfold getItem
 try with_reducible refine wpAny_holding ?_
 first|refine zCC (zCD ?_)|skip
 refine zCC (wpAny_sequenceKey ht.typeIs (by decide) ?_);refine zCC (wpAny_callSpecial?_slot (name:=Str.ofString "__getitem__") ht.typeIs PyProof.Rows.slot_tuple_getitem
  (wpAny_call_entry PyProof.Rows.slot_tuple_getitem ht.typeIs entry_tuple_getitem ?_ (args_tuple_getitem _ _)))
 show wpAny _ _ (Builtin.Tuple.tupleItemsOf (.ref t) >>= _) _ _ s;refine zCC (tupleItemsOf_ ht ?_);refine zCC (wpAny_typeOf hTs ?_);rw[if_pos (by decide)];refine zCC (Mx hs pl pu ?_);have hno:¬ ((((sIx items.size 0 lo:Nat):Int)==0&&(1:Int)==1&&(sIx items.size items.size hi-sIx items.size 0 lo)==items.size)=true):=by
  intro q;rw[zAt,zAt] at q;have q1:((sIx items.size 0 lo:Nat):Int)=0:=eq_of_beq q.1.1;have q2:sIx items.size items.size hi-sIx items.size 0 lo=items.size:=eq_of_beq q.2;exact hw ⟨by lia,by lia⟩
 show wpAny _ _ (if (((sIx items.size 0 lo:Nat):Int)==0&&(1:Int)==1&&(sIx items.size items.size hi-sIx items.size 0 lo)==items.size)=true then _ else _) _ _ s;rw[if_neg hno,W3]
 first
  |exact zCC (m:=Builtin.Tuple.tupleExact _) (wpAny_newObj_type (zCD ⟨_,rfl,zCD h⟩) htake)
  |exact zCC (m:=Builtin.Tuple.tupleExact _) (wpAny_newObj_type (zCC (zCD (zCD ⟨_,rfl,zCD h⟩))) htake)
  |exact zCC (zCC (m:=Builtin.Tuple.tupleExact _) (wpAny_newObj_type (zCD (zCD ⟨_,rfl,zCD h⟩)) htake))
  |exact zCC (zCC (m:=Builtin.Tuple.tupleExact _) (wpAny_newObj_type (zCD ⟨_,rfl,zCD h⟩) htake))
end
end HT
namespace L2
open PySem PySem.Spec PyProof.Rows
abbrev TO:=St->Hp->(Option Int->Hp->Prop)->Prop
def PO (X:Cx) (e:Option Expr) (t:TO):Prop:=
 ∀ (pins:List (Addr×Obj)) (s:Shared) (σ:St) (H:Hp) (Q:Option Int->Hp->Prop),Dm X pins σ H s->t σ H Q ->
  wpAny (model X.prog X.w) X.A (evalPart e X.env) (λu s'=>∃ o H',Dm X pins σ H' s'/\IsPart u o/\Q o H') X.xe s
def K9:TO:=λ_ H Q=>Q none H
def HJ (t:TE):TO:=λσ H Q=>t σ H λx H1=>∃ i,x=.int i/\Q (some i) H1
def Qf {ns:List Int}:∀ {us},Fz (ns.map V.int) us->IntsAre us ns:=by
 induction ns with
 |nil=>intro us r;rw[zAY] at r;cases r;exact .nil
 |cons n ns ih=>
  intro us r;rw[zAw] at r;cases r with
  |cons j g=>
   obtain⟨t,e⟩:=j;subst e;exact .cons n t (ih g)
section
variable {X:Cx} {e:Expr} {te:TE} {lo hi:Option Expr} {tl th:TO} {pos p2:Pos}
def Hl:PO X none K9:=by
 intro pins s σ H Q I h;rw[evalPart_none];exact zCD ⟨none,H,I,.none,h⟩
def Eh (h:PE X e te):PO X (some e) (HJ te):=by
 intro pins s σ H Q I g;rw[evalPart_some];refine Bt (h pins s σ H _ I g) λu F ⟨x,H1,z,B,j⟩=>?_;obtain⟨i,rfl,q⟩:=j;obtain⟨t,rfl⟩:=B;exact⟨some i,H1,z,.int i t,q⟩
def MJ (X:Cx) (r:V->Option Int->Option Int->Hp->VK->Prop):Prop:=
 ∀ (pins:List (Addr×Obj)) (s:Shared) (σ:St) (H:Hp) (x:V) (v vl vu:Value) (lo hi:Option Int) (sl:Addr) (Q:VK),Dm X pins σ H s->Ht x v->s.heap.IsSliceOf sl vl vu .none->IsPart vl lo->IsPart vu hi->r x lo hi H Q ->
  ∃ T id,typeLookup (.type T) "__getitem__"=pure (some (.builtin id))/\s.TypeIs v T/\wpAny (model X.prog X.w) X.A (getItem v (.ref sl)) (EP X pins σ Q) X.xe s
def UG (r:V->Option Int->Option Int->Hp->VK->Prop) (te:TE) (tl th:TO):TE:=λσ H Q=>te σ H λx H1=>tl σ H1 λl H2=>th σ H2 λu H3=>r x l u H3 Q
def Ek {r:V->Option Int->Option Int->Hp->VK->Prop} (hr:MJ X r) (he:PE X e te) (hl:PO X lo tl) (hu:PO X hi th):PE X (.Subscript e (.Slice lo hi none p2) pos) (UG r te tl th):=by
 intro pins s σ H Q I h;refine Subscript_ (Bt (he pins s σ H _ I h) λv s1 ⟨x,H1,M,r1,L⟩=>?_);refine wpAny_Slice (Bt (hl pins s1 σ H1 _ M L) λz Y ⟨l,H2,Z,pl,U⟩=>Bt (hu pins Y σ H2 _ Z U) λj g ⟨u,B,S,pu,q3⟩=>?_);rw[evalPart_none];refine zCD ?_;have F:Dm X pins σ B { g with heap:=g.heap.push { cls:=.type "slice",data:=.fields #[z,j,.none] } }:=S.kept (t':=g.toks) λb ob q=>zAc _ q;obtain⟨T,id,hT,ht,hg⟩:=hr pins { g with heap:=g.heap.push { cls:=.type "slice",data:=.fields #[z,j,.none] } } σ B x v z j l u g.heap.objs.size Q F r1 (Heap.IsSliceOf.new ..) pl pu q3;show wpAny (model X.prog X.w) X.A (subscriptTail e (.Slice lo hi none p2) v (.ref g.heap.objs.size)) (EP X pins σ Q) X.xe { g with heap:=g.heap.push { cls:=.type "slice",data:=.fields #[z,j,.none] } };exact tail_any (ops:=[.ref g.heap.objs.size,v]) ht hT hg (by with_unfolding_all rfl)
def Ku (xs:List V) (lo hi:Option Int):List V:=(xs.drop (HT.sIx xs.length 0 lo)).take (HT.sIx xs.length xs.length hi-HT.sIx xs.length 0 lo)
def Nj (xs:List V) (lo hi:Option Int):(Ku xs lo hi).length<=xs.length:=by
 unfold Ku;rw[zAo,zBm]
 lia
def OK (K:zAa):V->Option Int->Option Int->Hp->VK->Prop:=λx lo hi H Q=>∃ a xs,x=.ref a/\Jy K H a xs /\
 ¬ (HT.sIx xs.length 0 lo=0/\HT.sIx xs.length xs.length hi=xs.length)/\∀ p,H p=none->Q (.ref p) (upd H p (.tup (Ku xs lo hi)))
def KJ:MJ X (OK X.K):=by
 intro pins s σ H x v vl Z lo hi sl Q I L S Y M h;obtain⟨a,xs,rfl,U,F,q⟩:=h;cases L;obtain⟨j,r,z,B⟩:=I.tuple U;have g:j.toArray.size=xs.length:=by rw[zAh];exact r.length.symm
 refine⟨"tuple",_,PyProof.Rows.slot_tuple_getitem.lookup,z.typeIs,?_⟩;refine HT.getItem_tuple_cut z S Y M (by rw[g];exact F) ?_ (by rw[g];exact B);rw[g];refine⟨.ref s.heap.objs.size,_,I.laid (t':=s.toks) (o:=.tup (Ku xs lo hi)) (λb ob q=>zAc _ q) (zAi _) ?_,rfl,q _ (I.hok.fresh (zAi _))⟩;exact⟨zAz (Nj xs lo hi) B,_,(r.drop (HT.sIx xs.length 0 lo)).take (HT.sIx xs.length xs.length hi-HT.sIx xs.length 0 lo),IsTup.new _ _⟩
end
def DX (n:Nat) (i:Int):Option Nat:=if 0<=i then (if i<n then some i.toNat else none) else if -(n:Int)<=i then some (i+n).toNat else none
def Oq {α:Type} (xs:List α) (i:Int):Option α:=(DX xs.length i).bind λj=>xs[j]?
def L1 {n:Nat} {i:Int} {j:Nat} (h:DX n i=some j):seqIndex? i n=some j/\j<n/\-(n:Int)<=i/\i<n:=by
 unfold DX at h;by_cases g:0<=i
 .rw[if_pos g] at h
  by_cases h1:i<n
  .rw[if_pos h1] at h
   have e:i.toNat=j:=Option.some.inj h;exact⟨by rw[seqIndex_of g h1,e],by lia,by lia,h1⟩
  .rw[if_neg h1] at h;cases h
 .rw[if_neg g] at h
  by_cases h1 : -(n:Int)<=i
  .rw[if_pos h1] at h
   have e:(i+n).toNat=j:=Option.some.inj h;exact⟨by rw[seqIndex_neg (by lia) h1,e],by lia,h1,by lia⟩
  .rw[if_neg h1] at h;cases h
def Vi {α:Type} {xs:List α} {i:Int} {v:α} (h:Oq xs i=some v):∃ j,seqIndex? i xs.length=some j/\xs[j]?=some v/\j<xs.length/\-(xs.length:Int)<=i/\i<xs.length:=by
 unfold Oq at h;cases e:DX xs.length i with
 |none=>rw[e] at h;cases h
 |some j=>
  rw[e] at h;obtain⟨h1,q,z,g⟩:=L1 e;exact⟨j,h1,h,q,z,g⟩
def Ge {α:Type} {xs:List α} {j:Nat} {v:α} (h:xs[j]?=some v):Oq xs (j:Int)=some v:=by
 have g:j<xs.length:=(zAl.mp h).1;have e:DX xs.length (j:Int)=some j:=by
  unfold DX;rw[if_pos (by lia),if_pos (by lia)];simp
 unfold Oq;rw[e];exact h
def DC {α:Type} (xs:List α) (v:α):Oq (xs++[v]) (-1)=some v:=by
 have hl:(xs++[v]).length=xs.length+1:=by simp
 have e:DX (xs++[v]).length (-1)=some xs.length:=by
  unfold DX;rw[hl,if_neg (by decide),if_pos (by lia)]
  congr 1
  lia
 unfold Oq;rw[e];show (xs++[v])[xs.length]?=some v;simp
def Vd (b:Expr):Prop:=∀ o i,subscripted b false o i=operate [o,i] (getItem o i)
def MB (X:Cx) (r:R2):Prop:=
 ∀ (value slice:Expr) (pins:List (Addr×Obj)) (s:Shared) (σ:St) (H:Hp) (x y:V) (v u:Value) (Q:VK),Dm X pins σ H s->Ht x v->Ht y u->r x y H Q ->
  subscripted slice false v u=operate [v,u] (getItem v u)->wpAny (model X.prog X.w) X.A (subscriptTail value slice v u) (EP X pins σ Q) X.xe s
def SW (X:Cx) (id:String) (r:V->List V->Hp->VK->Prop):Prop:=
 ∀ (pins:List (Addr×Obj)) (s:Shared) (σ:St) (H:Hp) (x:V) (xs:List V) (v:Value) (us:List Value) (Q:VK),Dm X pins σ H s->Ht x v->Fz xs us->r x xs H Q ->
  wpAny (model X.prog X.w) X.A (call (.builtin id) (v::us)) (EP X pins σ Q) X.xe s
section
variable {X:Cx} {a b:Expr} {ta tb:TE} {pos:Pos}
def K8 {r:R2} (hr:MB X r) (F:PE X a ta) (g:PE X b tb) (z:Vd b):PE X (.Subscript a b pos) (LB r ta tb):=by
 intro pins s σ H Q I h;exact Subscript_ (IQ F g I h λv u B x y L M j S q=>hr a b pins B σ L x y v u Q M j S q (z _ _))
def JV (K:zAa):R2:=λx y H Q=>∃ p xs i v,x=.ref p/\y=.int i/\Dl K H p xs/\Oq xs i=some v/\Q v H
def LI (K:zAa):R2:=λx y H Q=>∃ p xs i v,x=.ref p/\y=.int i/\Jy K H p xs/\Oq xs i=some v/\Q v H
def SB:R2:=λx y H Q=>∃ z i c,x=.str z/\y=.int i/\z.length<=sizeLine/\Oq z.cps.toList i=some c/\Q (.str ⟨#[c]⟩) H
def EI:MB X (JV X.K):=by
 intro value slice pins s σ H x y v u Q I rx ry h hs;obtain⟨p,xs,i,z,rfl,rfl,hq,he,q⟩:=h;cases rx;obtain⟨t,rfl⟩:=ry;obtain⟨its,r,pl,hz⟩:=I.list hq;obtain⟨j,h1,h2,h3,h4,h5⟩:=Vi he;obtain⟨w,ew,rw'⟩:=r.get h2;have hl:=r.length;have hn:=Kf;have fin:EP X pins σ Q w s:=⟨z,H,I,rw',q⟩;by_cases h0:0<=i
 .have hj:i.toNat=j:=by
   rw[seqIndex_of h0 h5] at h1;exact Option.some.inj h1
  exact item_listR pl.isList h0 (by lia) (by rw[hj];simpa using ew) fin hs
 .have hj:(i+(its.toArray.size:Int)).toNat=j:=by
   rw[seqIndex_neg (by lia) h4] at h1;rw[zAh,<- hl];exact Option.some.inj h1
  exact subscriptTail_builtinR (x:=w) pl.isList.typeIs slot_list_getitem.lookup
   (wpAny_getItem_list_neg (Q:=λr s'=>r=w/\EP X pins σ Q r s') pl.isList (by lia) (by rw[zAh] <;> lia) (by lia) (by rw[hj];simpa using ew) ⟨rfl,fin⟩) hs
def KC:MB X (LI X.K):=by
 intro value slice pins s σ H x y v u Q I rx ry h hs;obtain⟨p,xs,i,z,rfl,rfl,hq,he,q⟩:=h;cases rx;obtain⟨t,rfl⟩:=ry;obtain⟨its,r,pl,hz⟩:=I.tuple hq;obtain⟨j,h1,h2,h3,h4,h5⟩:=Vi he;obtain⟨w,ew,rw'⟩:=r.get h2;have hl:=r.length;have hn:=Kf;have fin:EP X pins σ Q w s:=⟨z,H,I,rw',q⟩;exact subscriptTail_builtinR (x:=w) pl.typeIs slot_tuple_getitem.lookup
  (getItem_tuple (j:=j) (Q:=λr s'=>r=w/\EP X pins σ Q r s') pl (by lia) (by lia) (by rw[zAh,<- hl];exact h1) (by simpa using ew) ⟨rfl,fin⟩) hs
def BO:MB X SB:=by
 intro value g pins s σ H x y v u Q I B Y h F;obtain⟨z,i,c,rfl,rfl,hz,L,q⟩:=h;obtain⟨t,rfl⟩:=B;obtain⟨t',rfl⟩:=Y;obtain⟨j,h1,S,h3,U,M⟩:=Vi L;have hl:z.cps.toList.length=z.length:=by simp [Str.length]
 rw[hl] at h1 U M;have Z:=Kf;exact tail_any (typeIs_str s z t) slot_str_getitem.lookup (getItem_str (c:=c) (by
  have e1:decide (i < -(2^63:Int))=false:=decide_eq_false (by lia);have e2:decide (i≥2^63)=false:=decide_eq_false (by lia);rw[e1,e2,Bool.or_false]) (by rw[h1];simpa using S) ⟨.str ⟨#[c]⟩,H,I.tok _,⟨_,rfl⟩,q⟩) F
def C2 (its:List Value) (n j:Nat) (u:Value):Obj.mapSeq (·.setIfInBounds j u) { cls:=.type "list",data:=.seq its.toArray n }={ cls:=.type "list",data:=.seq (its.set j u).toArray n }:=by
 simp [Obj.mapSeq]
def Dm.lst {s:Shared} {p:Addr} {xs:List V} (I:Dm X pins σ H s) (h:H p=some (.lst xs)) :
  ∃ (its:List Value) (n:Nat),Fz xs its/\s.heap.get? p=some { cls:=.type "list",data:=.seq its.toArray n }/\xs.length<=sizeLine:=by
 obtain⟨z,its,n,r,e⟩:=I.hok p _ h;exact⟨its,n,r,e,z⟩
def Dm.lstUpd {pins:List (Addr×Obj)} {σ:St} {H:Hp} {s:Shared} {p:Addr} {xs ys:List V} {its its':List Value} {n g:Nat} {f:Obj->Obj} (I:Dm X pins σ H s) (h:H p=some (.lst xs))
  (j:s.heap.get? p=some { cls:=.type "list",data:=.seq its.toArray n }) (hf:f { cls:=.type "list",data:=.seq its.toArray n }={ cls:=.type "list",data:=.seq its'.toArray g }) (r:Fz ys its') (hz:ys.length<=sizeLine) (t:Nat) :
  Dm X pins σ (upd H p (.lst ys)) { s with heap:=s.heap.update p f,toks:=t }:=by
 have e:(s.heap.update p f).get? p=some { cls:=.type "list",data:=.seq its'.toArray g }:=by
  rw[zCh f j (by rw[hf] <;> rfl),hf]
 refine I.write (x:=p) (e:=p) (by rw[h];trivial) (.inl rfl) (λb u z q=>(zBY _ _ (Ne.symm z)).trans q) ⟨_,e⟩ ?_;exact⟨hz,its',g,r,e⟩
def MH:V->V->V->Hp->(Hp->Prop)->Prop:=λo i v H Q=>∃ p xs k j,o=.ref p/\i=.int k/\H p=some (.lst xs)/\DX xs.length k=some j/\Q (upd H p (.lst (xs.set j v)))
def BP:NZ X MH:=by
 intro pins s σ H o i v ov iv u Q I ro Y Z h;obtain⟨p,xs,k,j,rfl,rfl,M,hj,q⟩:=h;cases ro;obtain⟨t,rfl⟩:=Y;obtain⟨g,n,r,z,hz⟩:=I.lst M;obtain⟨h1,h2,S,F⟩:=L1 hj;have hl:=r.length;have hn:=Kf;have U:Dm X pins σ (upd H p (.lst (xs.set j v))) { s with heap:=s.heap.update p (Obj.mapSeq (·.setIfInBounds j u)) }:=
  I.lstUpd M z (C2 g n j u) (r.set Z j) (by rw[List.length_set];exact hz) s.toks
 by_cases L:0<=k
 .have B:k.toNat=j:=by
   rw[seqIndex_of L F] at h1;exact Option.some.inj h1
  exact PySem.W.ki_setAt z L (by lia) (by rw[zAh,<- hl];exact F) (by rw[B];exact⟨_,U,q⟩)
 .have B:(k+(g.toArray.size:Int)).toNat=j:=by
   rw[seqIndex_neg (by lia) S] at h1;rw[zAh,<- hl];exact Option.some.inj h1
  exact PySem.W.ki_setBack z (by lia) (by rw[zAh,<- hl];exact S) (by lia) (by rw[B];exact⟨_,U,q⟩)
def Va (lo hi:Option Int) (n:Nat):(sliceBounds lo hi none n).1=((HT.sIx n 0 lo:Nat):Int)/\(sliceBounds lo hi none n).2.1=((HT.sIx n n hi:Nat):Int)/\(sliceBounds lo hi none n).2.2=1:=by
 refine⟨?_,?_,rfl⟩
 .cases lo with
  |none=>simp [sliceBounds,HT.sIx]
  |some i=>
   simp only [sliceBounds,HT.sIx,Option.getD_none,show (1:Int)>0 by decide,if_true];by_cases h:i<0
   .simp only [h,if_true] <;> lia
   .simp only [h,if_false] <;> lia
 .cases hi with
  |none=>simp [sliceBounds,HT.sIx]
  |some i=>
   simp only [sliceBounds,HT.sIx,Option.getD_none,show (1:Int)>0 by decide,if_true];by_cases h:i<0
   .simp only [h,if_true] <;> lia
   .simp only [h,if_false] <;> lia
def Rg (its:List Value) (lo hi:Option Int):slicePick its.toArray lo hi none=((its.drop (HT.sIx its.length 0 lo)).take (HT.sIx its.length its.length hi-HT.sIx its.length 0 lo)).toArray:=by
 obtain⟨h1,g,j⟩:=Va lo hi its.toArray.size;unfold slicePick;rw[h1,g,j];simp only [sliceRange_one,pick_run,zAh] <;> rfl
def NW (K:zAa):V->Option Int->Option Int->Hp->VK->Prop:=λx lo hi H Q=>∃ a xs,x=.ref a/\Dl K H a xs/\∀ p,H p=none->Q (.ref p) (upd H p (.lst (Ku xs lo hi)))
def EF:MJ X (NW X.K):=by
 intro pins s σ H x v Z Y lo hi sl Q I z F S B h;obtain⟨a,xs,rfl,M,q⟩:=h;cases z;obtain⟨L,r,j,U⟩:=I.list M;have g:=r.length;refine⟨"list",_,slot_list_getitem.lookup,j.isList.typeIs,?_⟩;refine wpAny_getItem_list_slice j.isList F S B .none (by simp) ?_ (by rw[zAh] <;> lia);rw[Rg,<- g];refine⟨.ref s.heap.objs.size,_,I.laid (t':=s.toks) (o:=.lst (Ku xs lo hi)) (λb ob q=>zAc _ q) (zAi _) ?_,rfl,q _ (I.hok.fresh (zAi _))⟩;exact⟨zAz (Nj xs lo hi) U,_,0,(r.drop (HT.sIx xs.length 0 lo)).take (HT.sIx xs.length xs.length hi-HT.sIx xs.length 0 lo),zAv _ rfl⟩
def Dq:V->Bool
 |.non=>true
 |.bl _=>true
 |.int _=>true
 |.str _=>true
 |_=>false
def P3:V->V->Bool
 |.non,.non=>true
 |.bl a,.bl b=>a==b
 |.bl a,.int b=>(if a then 1 else 0)==b
 |.int a,.bl b=>a==(if b then 1 else 0)
 |.int a,.int b=>a==b
 |.str a,.str b=>a==b
 |_,_=>false
def X7 {A:Around} {s:Shared} {y x:V} {u v:Value} (z:Ht y u) (g:Ht x v) (B:Dq y=true) (q:Dq x=true):SeqAt.EqAt A s u v (P3 y x):=by
 cases y with
 |non=>
  cases z
  cases x with
  |non=>cases g;exact SeqAt.EqAt.same _
  |bl b=>cases g;exact SeqAt.EqAt.none_bool b
  |int b=>obtain⟨t,rfl⟩:=g;exact SeqAt.EqAt.none_int b t
  |str b=>obtain⟨t,rfl⟩:=g;exact SeqAt.EqAt.none_str b t
  |_=>exact absurd (show false=true from q) zAk
 |bl a=>
  cases z
  cases x with
  |non=>cases g;exact SeqAt.EqAt.bool_none a
  |bl b=>cases g;exact SeqAt.EqAt.bool_bool a b
  |int b=>obtain⟨t,rfl⟩:=g;exact SeqAt.EqAt.bool_int a b t
  |str b=>obtain⟨t,rfl⟩:=g;exact SeqAt.EqAt.bool_str a b t
  |_=>exact absurd (show false=true from q) zAk
 |int a=>
  obtain⟨j,rfl⟩:=z;cases x with
  |non=>cases g;exact SeqAt.EqAt.int_none a j
  |bl b=>cases g;exact SeqAt.EqAt.int_bool a j b
  |int b=>obtain⟨t,rfl⟩:=g;exact SeqAt.EqAt.int_int a j b t
  |str b=>obtain⟨t,rfl⟩:=g;exact SeqAt.EqAt.int_str a j b t
  |_=>exact absurd (show false=true from q) zAk
 |str a=>
  obtain⟨j,rfl⟩:=z;cases x with
  |non=>cases g;exact SeqAt.EqAt.str_none a j
  |bl b=>cases g;exact SeqAt.EqAt.str_bool a j b
  |int b=>obtain⟨t,rfl⟩:=g;exact SeqAt.EqAt.str_int a j b t
  |str b=>obtain⟨t,rfl⟩:=g;exact SeqAt.EqAt.str_str a j b t
  |_=>exact absurd (show false=true from q) zAk
 |_=>exact absurd (show false=true from B) zAk
def B2 (x:V) (u:Value):Bool:=match u with
 |.none=>P3 .non x
 |.bool b=>P3 (.bl b) x
 |.int i _=>P3 (.int i) x
 |.str z _=>P3 (.str z) x
 |_=>false
def CW {x y:V} {u:Value} (r:Ht y u) (f:Dq y=true):B2 x u=P3 y x:=by
 cases y with
 |non=>cases r;rfl
 |bl b=>cases r;rfl
 |int i=>obtain⟨t,rfl⟩:=r;rfl
 |str z=>obtain⟨t,rfl⟩:=r;rfl
 |_=>exact absurd (show false=true from f) zAk
theorem Kw {x:V}:∀ {xs} {us},Fz xs us->xs.all Dq=true->us.any (B2 x)=xs.any λy=>P3 y x
 |_,_,.nil,_=>rfl
 |y::xs,u::us,.cons r t,f=>by
  rw[zCm,zAt] at f;rw[zCx,zCx,CW r f.1,Kw t f.2]
theorem Ik {A:Around} {s:Shared} {x:V} {v:Value} (q:Ht x v) (j:Dq x=true):∀ {xs} {us},Fz xs us->xs.all Dq=true->∀ u∈us,SeqAt.EqAt A s u v (B2 x u)
 |_,_,.nil,_=>λu g=>by cases g
 |y::xs,u::us,.cons r t,f=>λz g=>by
  rw[zCm,zAt] at f;rcases zAn.mp g with rfl|g
  .rw[CW r f.1];exact X7 r q f.1 j
  .exact Ik q j t f.2 z g
def QW (x:V) (xs:List V):Bool:=xs.any λy=>P3 y x
def UC (K:zAa) (neg:Bool):R2:=λx y H Q=>∃ p xs,y=.ref p/\(Dl K H p xs\/Jy K H p xs)/\Dq x=true/\xs.all Dq=true/\Q (.bl (if neg then !QW x xs else QW x xs)) H
def Q1:Kq X (compareOp .In) (UC X.K false):=by
 intro pins s σ H x y v u Q I F M h;obtain⟨p,xs,rfl,j,L,fs,q⟩:=h;cases M;rcases j with j|j
 .obtain⟨g,r,B,S⟩:=I.list j
  refine SeqAt.in_listAt (B2 x) B.isList (λw z=>Ik F L r fs w (by simpa using z)) ⟨.bl _,H,I,rfl,?_⟩;rw[show g.toArray.any (B2 x)=g.any (B2 x) by simp,Kw r fs];exact q
 .obtain⟨g,r,B,S⟩:=I.tuple j
  refine SeqAt.in_tupleAt (B2 x) B (λw z=>Ik F L r fs w (by simpa using z)) ⟨.bl _,H,I,rfl,?_⟩;rw[show g.toArray.any (B2 x)=g.any (B2 x) by simp,Kw r fs];exact q
def Ve:Kq X (compareOp .NotIn) (UC X.K true):=by
 intro pins s σ H x y v u Q I F M h;obtain⟨p,xs,rfl,j,L,fs,q⟩:=h;cases M;rcases j with j|j
 .obtain⟨g,r,B,S⟩:=I.list j
  refine SeqAt.notIn_listAt (B2 x) B.isList (λw z=>Ik F L r fs w (by simpa using z)) ⟨.bl _,H,I,rfl,?_⟩;rw[show g.toArray.any (B2 x)=g.any (B2 x) by simp,Kw r fs];exact q
 .obtain⟨g,r,B,S⟩:=I.tuple j
  refine SeqAt.notIn_tupleAt (B2 x) B (λw z=>Ik F L r fs w (by simpa using z)) ⟨.bl _,H,I,rfl,?_⟩;rw[show g.toArray.any (B2 x)=g.any (B2 x) by simp,Kw r fs];exact q
def Us:Kq X (compareOp .NotIn) (λx y H Q=>∃ i j,x=.str i/\y=.str j/\Q (.bl (!(!(Builtin.Str.occurrences j i 0 j.length 1).isEmpty))) H):=by
 intro pins s σ H x y v u Q I g z h;obtain⟨i,j,rfl,rfl,q⟩:=h;obtain⟨t,rfl⟩:=g;obtain⟨B,rfl⟩:=z;exact notIn_str ⟨.bl _,H,I,rfl,q⟩
def Vq:Fn X (.builtin "len") (λxs H Q=>∃ p ys,xs=[.ref p]/\(Dl X.K H p ys\/Jy X.K H p ys)/\Q (.int ys.length) H):=by
 intro pins s σ H xs U Q I r h;obtain⟨p,ys,rfl,j,q⟩:=h;obtain⟨u,rfl,L⟩:=Jx r;cases L;have S:=Kf;rcases j with j|j
 .obtain⟨z,F,B,M⟩:=I.list j
  have g:=F.length;exact Calls.call_len_list B.isList (by simp only [zAh] <;> lia) ⟨.int ys.length,H,I.tok _,⟨s.toks+1,by rw[zAh,g]⟩,q⟩
 .obtain⟨z,F,B,M⟩:=I.tuple j
  have g:=F.length;exact len_tuple B (by simp only [zAh] <;> lia) ⟨.int ys.length,H,I.tok _,⟨s.toks+1,by rw[zAh,g]⟩,q⟩
def Uo:Fn X (.builtin "len") (λxs H Q=>∃ z,xs=[.str z]/\z.length<=sizeLine/\Q (.int z.length) H):=by
 intro pins s σ H xs g Q I r h;obtain⟨z,rfl,j,q⟩:=h;obtain⟨u,rfl,t,rfl⟩:=Jx r;have B:=Kf;exact len_str (by lia) ⟨.int z.length,H,I.tok _,⟨_,rfl⟩,q⟩
def Uk:Fn X (.type "list") (λxs H Q=>∃ p ys,xs=[.ref p]/\(Dl X.K H p ys\/Jy X.K H p ys)/\∀ l,H l=none->Q (.ref l) (upd H l (.lst ys))):=by
 intro pins s σ H xs us Q I r h;obtain⟨p,ys,rfl,F,q⟩:=h;obtain⟨u,rfl,rx⟩:=Jx r;cases rx;have L:∀ (g:List Value),Fz ys g->ys.length<=sizeLine->∀ (h':Heap) (j:Nat),(∀ b o',s.heap.get? b=some o'->h'.get? b=some o') ->
   h'.get? s.heap.objs.size=some { cls:=.type "list",dict:=none,data:=.seq g.toArray j,slots := #[] }->EP X pins σ Q (.ref s.heap.objs.size) { s with heap:=h' }:=λg z S h' j M e=>
  ⟨.ref s.heap.objs.size,_,I.laid (t':=s.toks) M (zAi _) (show VQ X.prog X.w _ h' _ (.lst ys) from ⟨S,g,j,z,e⟩),rfl,q _ (I.hok.fresh (zAi _))⟩
 rcases F with F|F
 .obtain⟨g,z,Z,S⟩:=I.list F
  have B:=z.length;obtain⟨o,U,Y,n,hd⟩:=Z.isList;exact call_list_seq p (.inl rfl) U Y hd (λh' j M e=>L g z S h' j M e) (by simp only [zAh] <;> lia)
 .obtain⟨g,z,Z,S⟩:=I.tuple F
  have B:=z.length;obtain⟨o,U,Y,n,hd⟩:=Z;exact call_list_seq p (.inr rfl) U Y hd (λh' j M e=>L g z S h' j M e) (by simp only [zAh] <;> lia)
def SU (K:zAa) (T:String) (x:V) (H:Hp):Prop:=match x with
 |.str _=>T="str"
 |.int _=>T="int"
 |.ref p=>(T="list"/\∃ xs,Dl K H p xs)\/(T="tuple"/\∃ o,K.lookup p=some o/\o.cls=.type "tuple"/\o.dict=none) \/
   (T="dict"/\((∃ kvs,H p=some (.dK kvs))\/∃ kvs,H p=some (.dT kvs)))\/(T="set"/\∃ S n,H p=some (.set S n))
 |_=>False
def Y7 {s:Shared} {T:String} {x:V} {v:Value} (I:Dm X pins σ H s) (r:Ht x v) (ty:SU X.K T x H) :
  s.TypeIs v T/\∀ a,v=.ref a->∃ F,s.heap.get? a=some F/\F.dict=none:=by
 cases x with
 |str z=>
  obtain⟨t,rfl⟩:=r;cases (show T="str" from ty);exact⟨typeIs_str s z t,λ_ e=>nomatch e⟩
 |int i=>
  obtain⟨t,rfl⟩:=r;cases (show T="int" from ty);exact⟨typeIs_int s i t,λ_ e=>nomatch e⟩
 |ref p=>
  cases r
  rcases ty with ⟨rfl,xs,U⟩|⟨rfl,o,g,M,q⟩|⟨rfl,g⟩|⟨rfl,S,n,g⟩
  .obtain⟨L,_,B,_⟩:=I.list U
   refine⟨B.isList.typeIs,λa e=>?_⟩;cases e;obtain⟨o,n,e,c,q,_⟩:=B;exact⟨o,e,q⟩
  .refine⟨⟨o,I.kIn p o g,M⟩,λa e=>?_⟩
   cases e
   exact⟨o,I.kIn _ o g,q⟩
  .have z:∃ o,s.heap.get? p=some o/\o.ExactDict:=by
    rcases g with ⟨j,g⟩|⟨j,g⟩
    .obtain⟨_,_,_,_,o,_,_,e,ex,_⟩:=I.hok p _ g
     exact⟨o,e,ex⟩
    .obtain⟨_,_,_,_,o,_,_,e,ex,_⟩:=I.hok p _ g
     exact⟨o,e,ex⟩
   obtain⟨o,e,ex⟩:=z;refine⟨⟨o,e,ex.1⟩,λa e2=>?_⟩;cases e2;exact⟨o,e,ex.2.1⟩
  .obtain⟨o,_,_,_,e,ex,_⟩:=I.hok p _ g
   refine⟨⟨o,e,ex.1⟩,λa e2=>?_⟩;cases e2;exact⟨o,e,ex.2.1⟩
 |_=>exact False.elim ty
def TX (K:zAa) (T:String) (r:V->List V->Hp->VK->Prop) (to:TE):TE:=λσ H Q=>to σ H λx H1=>SU K T x H1/\r x [] H1 Q
def UH (K:zAa) (T:String) (r:V->List V->Hp->VK->Prop) (to:TE) (t:TA):TE:=λσ H Q=>to σ H λx H1=>SU K T x H1/\t σ H1 λxs H2=>r x xs H2 Q
variable {o e:Expr} {es:List Expr} {to:TE} {t:TA} {name:Str} {apos cpos:Pos} {T id:String} {r:V->List V->Hp->VK->Prop}
def IB (U:PlainAttrs T) (slot:Slot T name id) (j:typeOf (.builtin id)=pure (.type "method_descriptor")) (S:SW X id r) (L:PE X o to)
  (g:attributeBase o name X.env (eval o X.env)=eval o X.env:=by rfl) (hline:(apos.endLine==cpos.line)=true:=by rfl):PE X (.Call (.Attribute o name apos) [] [] cpos) (TX X.K T r to):=by
 intro pins s σ H Q I h;refine wpAny_Call_method0_late g hline (Bt (L pins s σ H _ I h) λv B ⟨x,H1,q,z,ty,F⟩=>?_);obtain⟨h1,M⟩:=Y7 q z ty;exact⟨T,id,U,slot,j,h1,M,Calls.callWith_builtin rfl (PySem.evalArgs_none (S pins B σ H1 x [] v [] Q q z .nil F))⟩
def NU (pa:PlainAttrs T) (slot:Slot T name id) (j:typeOf (.builtin id)=pure (.type "method_descriptor")) (hm:SW X id r) (S:PE X o to) (Z:PA X (e::es) t)
  (g:attributeBase o name X.env (eval o X.env)=eval o X.env:=by rfl)
  (hfew:((backTo cpos (starEach (e::es) X.env)).all (λx => !x.1)&&(backToKw cpos (keywordEach [] X.env)).all (λx=>x.1.isSome)
   && decide ((e::es).length+([]:List Keyword).length+(if ([]:List Keyword).isEmpty then 0 else 1)<30))=true:=by rfl)
  (hline:(apos.endLine==cpos.line)=true:=by rfl) (hs:starEach (e::es) X.env=(false,eval e X.env)::starEach es X.env:=by rfl) (hplain:(backTo cpos (starEach es X.env)).any (·.1)=false:=by rfl) :
  PE X (.Call (.Attribute o name apos) (e::es) [] cpos) (UH X.K T r to t):=by
 intro pins s σ H Q I h;refine wpAny_Call_method_late g hfew hline rfl (Bt (S pins s σ H _ I h) λv L ⟨x,H1,z,B,ty,M⟩=>?_);obtain⟨h1,Y⟩:=Y7 z B ty;refine⟨T,id,pa,slot,j,h1,Y,?_⟩;have q:=Z cpos pins L σ H1 _ z M;rw[hs] at q ⊢;refine Calls.callWith_builtin (by show (false||(backTo cpos (starEach es X.env)).any (·.1))=false;rw[hplain] <;> rfl) (Calls.evalArgs_plain ?_);exact Bt q λus U ⟨vs,H2,I2,r2,F⟩=>hm pins U σ H2 x vs v us Q I2 B r2 F
end
def MC (X:Cx) (id:String) (r:V->List V->Hp->VK->Prop):Prop:=
 ∀ (pins:List (Addr×Obj)) (s:Shared) (σ:St) (H:Hp) (x:V) (xs:List V) (v:Value) (us:List Value) (Q:VK),Dm X pins σ H s->Ht x v->Fz xs us->r x xs H Q ->
  wpAny (model X.prog X.w) X.A (call (.builtin id) (v::us)) (EP X pins σ Q) X.xe s
theorem Fz.one:∀ {x} {us},Fz [x] us->∃ u,us=[u]/\Ht x u
 |_,_,.cons r .nil=>⟨_,rfl,r⟩
theorem Fz.zero:∀ {us},Fz [] us->us=[]
 |_,.nil=>rfl
def Fz.dropLast {xs:List V} {us:List Value} (h:Fz xs us):Fz xs.dropLast us.dropLast:=by
 induction h with
 |nil=>exact .nil
 |cons r t ih=>
  cases t with
  |nil=>exact .nil
  |cons q g=>exact .cons r ih
def Fz.reverse {xs:List V} {us:List Value} (h:Fz xs us):Fz xs.reverse us.reverse:=by
 induction h with
 |nil=>exact .nil
 |cons r t ih=>rw[zCu,zCu];exact Fz.append ih (.cons r .nil)
def Zg {α:Type} (l:List α):l.eraseIdx (l.length-1)=l.dropLast:=by
 induction l with
 |nil=>rfl
 |cons a r ih=>
  cases r with
  |nil=>rfl
  |cons b r=>
   have e:(a::b::r).length-1=((b::r).length-1)+1:=by
    have h1:(a::b::r).length=r.length+2:=rfl;have g:(b::r).length=r.length+1:=rfl
    lia
   rw[e,List.eraseIdx_cons_succ,ih]
   all_goals rfl
section
variable {X:Cx} {pins:List (Addr×Obj)} {σ:St} {H:Hp} {s:Shared} {l:Addr} {xs ys:List V}
def Dm.lset {its its':List Value} {n:Nat} {f:Array Value->Array Value} {t':Nat} (I:Dm X pins σ H s) (j:H l=some (.lst xs))
  (e:s.heap.get? l=some { cls:=.type "list",data:=.seq its.toArray n }) (hf:f its.toArray=its'.toArray) (hv:Fz ys its') (hz:ys.length<=sizeLine) :
  Dm X pins σ (upd H l (.lst ys)) { s with heap:=s.heap.update l (Obj.mapSeq f),toks:=t' }:=by
 have q:=PySem.IsL.update e f;rw[hf] at q;refine I.write (x:=l) (e:=l) (by rw[j];exact trivial) (.inl rfl) (λB u g z=>(zBY s.heap (Obj.mapSeq f) (Ne.symm g)).trans z) ⟨_,q⟩ ?_;exact⟨hz,its',_,hv,q⟩
def Dm.lnew {its:List Value} {t':Nat} (I:Dm X pins σ H s) (g:Fz ys its) (j:ys.length<=sizeLine) :
  Dm X pins σ (upd H s.heap.objs.size (.lst ys)) { s with heap:=s.heap.push { cls:=.type "list",data:=.seq its.toArray },toks:=t' }:=
 I.laid (λ_ _ q=>zAc _ q) (zAi _) ⟨j,its,0,g,zAv _ rfl⟩
def Dm.fresh (I:Dm X pins σ H s):H s.heap.objs.size=none:=I.hok.fresh (zAi _)
def Dm.lstM (I:Dm X pins σ H s) (g:H l=some (.lst xs)):xs.length<=sizeLine/\∃ (its:List Value) (n:Nat),Fz xs its/\xs.length=its.length/\s.heap.get? l=some { cls:=.type "list",data:=.seq its.toArray n }:=by
 obtain⟨z,its,n,r,e⟩:=I.hok l _ g;exact⟨z,its,n,r,r.length,e⟩
def Yj {n:Nat} (h:n<=sizeLine):Builtin.List.listTooLong n=false:=by
 unfold Builtin.List.listTooLong;exact decide_eq_false (by lia)
end
section
variable {X:Cx}
def EA:V->List V->Hp->VK->Prop:=λx vs H Q=>∃ l xs y,x=.ref l/\vs=[y]/\H l=some (.lst xs)/\xs.length<sizeLine/\Q .non (upd H l (.lst (xs++[y])))
def Cm:MC X "list.append" EA:=by
 intro pins s σ H x vs v S Q I B M h;obtain⟨l,xs,y,rfl,rfl,j,U,q⟩:=h;cases B;obtain⟨u,rfl,L⟩:=M.one;obtain⟨z,g,n,r,hl,e⟩:=I.lstM j;refine call_meets F.slot_list_append ⟨_,e,rfl⟩ F.entry_list_append (F.args_list_append_2 _ _) (PySem.list_append l g.toArray n u (by rw[zAh];lia)) ⟨e,?_⟩;refine⟨.non,_,I.lset (its':=g++[u]) j e (by simp) (r.append (.cons L .nil)) ?_,rfl,q⟩;rw[zAj,zAU]
 lia
def FJ:V->List V->Hp->VK->Prop:=λx vs H Q=>∃ l b xs zs,x=.ref l/\vs=[.ref b]/\H l=some (.lst xs)/\H b=some (.lst zs)/\xs.length+zs.length<=sizeLine/\Q .non (upd H l (.lst (xs++zs)))
def Gv:MC X "list.extend" FJ:=by
 intro pins s σ H x vs v us Q I S Y h;obtain⟨l,b,xs,zs,rfl,rfl,M,hB,hz,q⟩:=h;cases S;obtain⟨u,rfl,U⟩:=Y.one;cases U;obtain⟨z,j,n,r,hl,e⟩:=I.lstM M;obtain⟨z2,g,n2,r2,Z,e2⟩:=I.lstM hB;have L:j.toArray.size+g.toArray.size<=sizeLine:=by rw[zAh,zAh];lia
 have B:¬ (!j.toArray.isEmpty&&Builtin.List.listTooLong (j.toArray.size+g.toArray.size))=true:=by
  rw[Yj L,zCs];exact zAk
 refine call_meets F.slot_list_extend ⟨_,e,rfl⟩ F.entry_list_extend (F.args_list_extend_2 _ _)
  (AutoSeq1.list_extend_list_list_0 l j.toArray n b g.toArray n2 B (by rw[zAh];lia) (by lia)) ⟨e,e2,?_⟩
 refine⟨.non,_,I.lset (its':=j++g) M e (by simp) (r.append r2) ?_,rfl,q⟩;rw[zAj]
 lia
def RT:V->List V->Hp->VK->Prop:=λx vs H Q=>∃ l xs y,x=.ref l/\vs=[]/\H l=some (.lst xs)/\xs[xs.length-1]?=some y/\Q y (upd H l (.lst xs.dropLast))
def KM:MC X "list.pop" RT:=by
 intro pins s σ H x vs v us Q I M Y h;obtain⟨l,xs,y,rfl,rfl,L,S,q⟩:=h;cases M;have B:=Y.zero;subst B;obtain⟨z,g,n,r,hl,e⟩:=I.lstM L;obtain⟨u,Z,U⟩:=r.get S;have j:g.toArray[g.toArray.size-1]?=some u:=by
  show g.toArray[g.length-1]?=some u;rw[<- zBv,<- hl];exact Z
 refine call_meets F.slot_list_pop ⟨_,e,rfl⟩ F.entry_list_pop (F.args_list_pop_1 _) (MeetsSeq.list_pop_last l g.toArray n u j (by rw[zAh];lia)) ⟨e,?_⟩;refine⟨y,_,I.lset (its':=g.dropLast) L e ?_ r.dropLast ?_,U,q⟩
 .show g.toArray.eraseIdxIfInBounds (g.toArray.size-1)=g.dropLast.toArray
  rw[zAh,List.eraseIdxIfInBounds_toArray,Zg]
 .rw[List.length_dropLast]
  lia
def QS:R2:=λx y H Q=>∃ l b xs zs,x=.ref l/\y=.ref b/\H l=some (.lst xs)/\H b=some (.lst zs)/\xs.length+zs.length<=sizeLine/\∀ p,H p=none->Q (.ref p) (upd H p (.lst (xs++zs)))
def Kg:Kq X (binaryOp .Add) QS:=by
 intro pins s σ H x y v u Q I B Y h;obtain⟨l,b,xs,zs,rfl,rfl,F,U,Z,q⟩:=h;cases B;cases Y;obtain⟨z,j,n,r,hl,e⟩:=I.lstM F;obtain⟨z2,g,n2,M,L,e2⟩:=I.lstM U;refine PySem.P.add_list e e2 ?_ (by rw[zAh,zAh];lia);have S:j.toArray++g.toArray=(j++g).toArray:=by simp
 rw[S];exact⟨.ref _,_,I.lnew (t':=s.toks) (r.append M) (by rw[zAj];lia),rfl,q _ I.fresh⟩
end
end L2
namespace Att
open PySem PySem.W PySem.Calls PyProof.Rows
def Od {h:Heap}:∀ (ns:List Int) (vs:List Value),WellAll P h vs (ns.map WData.int)->IntsAre vs ns:=by
 intro ns
 induction ns with
 |nil=>
  intro vs w;rw[zAY] at w;cases w;exact .nil
 |cons n ns ih=>
  intro vs w;rw[zAw] at w;cases w with
  |cons a b=>
   cases a
   exact .cons _ _ (ih _ b)
def S0 {l:OpenLaw} {n:Nat} (Z:l.most=some n) {P:Params} {h:Heap} {args:List WData} {vals:List Value}
  (j:l.row.toRowW.claim.pre args=true) (M:WellAll P h vals args) :
  ∃ a vs ns,vals=[Value.ref a]/\args=[WData.list (ns.map WData.int)]/\h.get? a=some { cls:=.type "list",data:=.seq vs.toArray }/\IntsAre vs ns/\ns.length<=n:=by
 have S:WShape.hasAll [] args [.list .int]=true:=(pre_splitW j).1;have U:l.pre.holds [] { args:=args }=true:=(pre_splitW j).2;obtain⟨d,r,rfl,h1,h2⟩:=hasAllW_cons S;obtain rfl:=hasAllW_nil h2;obtain⟨xs,rfl,h3⟩:=hasW_list h1;obtain⟨ns,rfl⟩:=items_int h3;have z:ns.length<=n:=by
  unfold OpenLaw.pre at U;have L:(WTm.not (.lt (.lit (.int (n:Int))) (.len (.arg 0)))).holds [] { args:=[.list (ns.map .int)] }=true:=by
   have L:=(holds_andW U).1;rw[Z] at L;exact L
  have F:=condW_of L (w_not (w_lt w_lit (w_len_list (w_arg rfl))));rw[zAb] at F;refine Nat.le_of_not_lt λq=>?_;have q':(n:Int)<((ns.length:Nat):Int):=by lia
  first
   |(rw[g q'] at F;exact absurd F (by decide))
   |(simp at F;lia)
 cases M with
 |cons w1 Y=>
  cases Y
  cases w1 with
  |list ho B=>exact⟨_,_,ns,rfl,rfl,ho,Od ns _ B,z⟩
def O4 (l:OpenLaw) (args:List WData):l.row.toRowW.claim.post args (.bool true) args=true:=
 postW_of (r:=l.row.toRowW) (X:=(true==true))
  (show WShape.has [] (.bool true) .bool=true by first|rfl|decide|simp [WShape.has,WShape.arms,WShape.armsAll])
  (show (WTm.eq .res (.lit (.bool true))).value [] { args:=args,res:=some (.bool true),after:=args }=some (.bool (true==true)) from w_eq_bool (w_res rfl) w_lit) rfl
def attach_call {l:OpenLaw} {n:Nat} {q:Program} {g:List Str} {XP:(Str->Option Value)->Heap->Prop} {YP:World->Heap->Prop} {d:DefRec}
  (hn:l.most=some n) (Z:d.params.defaults=[])
  (call:∀ (w:World) (s₀ j:Shared) (mg mb:Str->Option Value) (M:Addr) (o:Obj) (pm U B:Value) (a:Addr) (vs:List Value) (ns:List Int),
   Ground q g [] XP w s₀ mg mb j.heap->YP w j.heap ->
   j.heap.get? M=some o->o.data=.func (docDef d.name d.params d.body d.scope pm U B)->j.heap.CodeRec U d.name->mg d.name=some (.ref M) ->
   j.heap.get? a=some { cls:=.type "list",data:=.seq vs.toArray }->IntsAre vs ns->ns.length<=n->j.gens = #[] ->
   codeAny (model l.prog w) callerA (.call (.ref M) ⟨[.ref a],[]⟩) (λr s'=>r=.ok (.ret (.bool true))/\OldK j.heap s'.heap/\s'.os=j.os/\AllBare s'.gens) j) :
  WalkO q g XP YP l.row.toRowW d [] (λf vs=>PySem.call f vs):=by
 intro w s₀ j mg mb G Y M o pm U B dV kV ho hd aa hD ab hg ae vals as L ad ag ac af;obtain rfl:dV=.none:=Dflts.none hD Z;obtain rfl:kV=.none:=Dflts.noKw hD;obtain⟨a,vs,ns,rfl,rfl,S,z,F⟩:=S0 hn L ac;refine enter_call (codeAny_mono (call w s₀ j mg mb M o pm U B a vs ns G Y ho (fd_plain hd) aa ab S z F hg) λr s' hq=>?_);obtain⟨rfl,h2,h3,h4⟩:=hq;exact⟨.inl ⟨.bool true,.bool true,[],rfl,λ_=>rfl,.bool true,O4 l _,λ_=>⟨List.Pairwise.nil,λ_ hm=>(nomatch hm)⟩⟩,h2,h3,h4⟩
end Att
namespace L2
open PySem PySem.Spec PyProof.Rows
theorem Sk:∀ {vs} {ns:List Int},IntsAre vs ns->Fz (ns.map V.int) vs
 |_,_,.nil=>.nil
 |_,_,.cons n t h=>.cons ⟨t,rfl⟩ (Sk h)
def At (s:Stmt) (j:Nat):Stmt:=match s with
 |.ClassDef _ _ _ body _ _ _ _ _ _ _=>body.getD j (.Pass ⟨0,0,0,0⟩)
 |_=>.Pass ⟨0,0,0,0⟩
def Cd (s:Stmt):Arguments:=match s with
 |.FunctionDef _ a _ _ _ _ _ _ _ _=>a
 |_=>{ posonlyargs:=[],args:=[],vararg:=none,kwonlyargs:=[],kw_defaults:=[],kwarg:=none,defaults:=[] }
def Bn (s:Stmt):List Stmt:=match s with
 |.FunctionDef _ _ b _ _ _ _ _ _ _=>b
 |_=>[]
def Ao (s:Stmt):Scope:=match s with
 |.FunctionDef _ _ _ _ _ _ sc _ _ _=>sc
 |_=>{ kind:=.function,names:=[],isGenerator:=false,isCoroutine:=false }
abbrev Ec:DE:=λ_ _ _ _ _ _=>False
abbrev E0:XK:=λ_ _ _=>False
def Qx {X:Cx}:Jd Ec X E0:=λ_ _ _ _ _ _ _ h=>h.elim
structure WC (K:zAa) (x qual:Str) (st:Stmt) (f:Addr) (fd:zCG):Prop where
 ex:∃ (oc:Value) (od:Option Addr) (kV doc pm:Value) (an:Option Addr) (cdv ct:Value) (osl:Array (Option Value)),
  fd=zAQ x qual (Cd st) (Bn st) (Ao st) .none kV doc pm an cdv ct/\K.lookup f=some ⟨oc,od,.func fd,osl⟩/\zBi K cdv qual=true
 kp:zAN K (.ref f)=true
section
variable {P:Program} {w:World} {K:zAa} {mg:Str->Option Value} {base:Heap}
def WC.ok {x qual} {st} {f} {fd} {N ps} {k:Nat} {sp} (F:WC K x qual st f fd) (S:Bz N ps (Ao st)) (len:∀ vs H Q E,sp vs H Q E->vs.length=ps.length)
  (g:∀ (cdv:Value) (A:Around) (outer:List Env) (s:Shared) (H:Hp) (vs:List V) (Q:VK) (E:XK),VP k (A.deeper (envOfC qual (Ao st) s.heap.objs.size f cdv))->sp vs H Q E ->
   ∃ t,PSs (Kd Ec P w K mg base N qual (Ao st) f cdv A outer s H E).nox (Bn st) t/\t { nx:=λ_ H'=>Q .non H',rt:=Q } (Fa N vs) H):Lp P w K mg base Ec (k+1) f fd ps sp:=by
 obtain⟨Z,od,kV,L,U,Y,cdv,ct,B,rfl,M,z⟩:=F.ex;refine Y2 M z S len λA outer s H vs Q E hr j=>?_;obtain⟨t,h,q⟩:=g cdv A outer s H vs Q E hr j;exact⟨t,h.nox,q⟩
def WC.binds {x qual} {st} {f} {fd} {ps} (F:WC K x qual st f fd)
  (h:∀ (kV g j:Value) (q:Option Addr) (cdv z:Value) (us:List Value),us.length=ps.length->bindArgs (zAQ x qual (Cd st) (Bn st) (Ao st) .none kV g j q cdv z) ⟨us,[]⟩=pure (ps.zip us)):VW K fd ps []:=by
 obtain⟨M,U,kV,g,j,q,cdv,z,B,rfl,S,L⟩:=F.ex;exact .all (h kV g j q cdv z)
def Uu {x qual} {st} {f} {F} {L z} {j} {kV g q cdv B} (l:K.lookup f=some ⟨F,L,.func (zAQ x qual (Cd st) (Bn st) (Ao st) .none kV g q z cdv B),j⟩)
  (c:zBi K cdv qual=true) (k:zAN K (.ref f)=true):WC K x qual st f (zAQ x qual (Cd st) (Bn st) (Ao st) .none kV g q z cdv B):=⟨⟨F,L,kV,g,q,z,cdv,B,j,rfl,l,c⟩,k⟩
end
def Ql {A:Around} {k:Nat} (hr:VP k A):A.units+1<cLine:=zBW (Nat.add_le_add_left (by decide:1<=64) _) hr.units
def T8 {n:Nat} (h:n<=1000):n<sizeLine:=zBW h (by decide)
section
variable {X:Cx}
def pv (i:Nat) {x:Str} (g:X.N[i]?=some x:=by rfl) (hv:RL X.env.scope x:=by first|exact Or.inl rfl|exact Or.inr (Or.inl rfl)|exact Or.inr (Or.inr rfl)) (hd:(x==("__debug__" : Str))=false:=by decide)
  (hcd:(x==("__classdict__" : Str))=false:=by decide):PE X (.Name x pos) (Q5 i):=JG g hv hd hcd
end
def Cy {A B:Prop} (h:B):if false=true then A else B:=by
 rw[if_neg zAk];exact h
def Jt {A B:Prop} (h:A):if true=true then A else B:=by
 rw[if_pos rfl];exact h
def Qh {c A B:Prop} [Decidable c] (h1:c->A) (g:¬ c->B):if c then A else B:=by
 by_cases h:c
 .rw[if_pos h]
  exact h1 h
 .rw[if_neg h]
  exact g h
def De (H H':Hp):Prop:=∀ b o,H b=some o->H' b=some o
def De.refl (H:Hp):De H H:=λ_ _ h=>h
def De.trans (a:De H H1) (b:De H1 H2):De H H2:=λc o h=>b c o (a c o h)
def De.free {H H':Hp} (e:De H H') {l:Addr} (h:H' l=Option.none):H l=Option.none:=by
 cases q:H l with
 |none=>rfl
 |some o=>
  rw[e l o q] at h;cases h
def De.seq {K} {H H'} {a} {xs} (e:De H H') (h:Dl K H a xs):Dl K H' a xs:=by
 rcases h with (h|⟨o,h⟩)|h
 .exact .inl (.inl (e _ _ h))
 .exact .inl (.inr ⟨o,e _ _ h⟩)
 .exact .inr h
section
variable {κ:Type} [DecidableEq κ]
def Dr (kvs:List (κ×V)) (k:κ):Option V:=(kvs.find? λkv=>decide (kv.1=k)).map (·.2)
def Eu (kvs:List (κ×V)) (k:κ) (v:V):List (κ×V):=
 if (kvs.any λkv=>decide (kv.1=k))=true then kvs.map (λkv=>if kv.1=k then (kv.1,v) else kv) else kvs++[(k,v)]
def Di {p:κ×V} {r:List (κ×V)} {k:κ} (e:p.1=k):Dr (p::r) k=some p.2:=by simp [Dr,zBX,e]
def Df {p:κ×V} {r:List (κ×V)} {k:κ} (e:¬ p.1=k):Dr (p::r) k=Dr r k:=by simp [Dr,zBX,e]
theorem La (k:κ):∀ g:List (κ×V),(g.any λj=>decide (j.1=k))=(Dr g k).isSome
 |[]=>rfl
 |p::r=>by
  rw[zCx];by_cases e:p.1=k
  .simp only [Di e,decide_eq_true e,Bool.true_or,Option.isSome_some]
  .rw[Df e,decide_eq_false e,Bool.false_or];exact La k r
theorem Wa (k j:κ) (y:V):∀ g:List (κ×V),Dr (g.map λq=>if q.1=k then (q.1,y) else q) j=(Dr g j).map λx=>if j=k then y else x
 |[]=>rfl
 |p::r=>by
  have ih:=Wa k j y r;rw[zAw];by_cases h:p.1=k
  .rw[if_pos h]
   by_cases e:p.1=j
   .rw[Di (p:=(p.1,y)) e,Di e,zCB,if_pos (e.symm.trans h)]
   .rw[Df (p:=(p.1,y)) e,Df e,ih]
  .rw[if_neg h]
   by_cases e:p.1=j
   .rw[Di (p:=p) e,Di e,zCB,if_neg (λz=>h (e.trans z))]
   .rw[Df (p:=p) e,Df e,ih]
theorem Tj (k j:κ) (y:V):∀ g:List (κ×V),Dr g k=none->Dr (g++[(k,y)]) j=if j=k then some y else Dr g j
 |[],_=>by
  by_cases e:k=j
  .rw[if_pos e.symm];exact Di (p:=(k,y)) e
  .rw[if_neg (λz=>e z.symm)];exact Df (p:=(k,y)) e
 |p::r,q=>by
  rw[zCy];have B:¬ p.1=k:=λz=>by rw[Di z] at q;cases q
  rw[Df B] at q;have ih:=Tj k j y r q;by_cases e:p.1=j
  .rw[Di e,Di e,if_neg (λz=>B (e.trans z))]
  .rw[Df e,Df e,ih]
def Lr (kvs:List (κ×V)) (k j:κ) (y:V):Dr (Eu kvs k y) j=if j=k then some y else Dr kvs j:=by
 unfold Eu;by_cases a:(kvs.any λz=>decide (z.1=k))=true
 .rw[if_pos a,Wa]
  rw[La] at a;by_cases e:j=k
  .obtain⟨x,g⟩:=Option.isSome_iff_exists.mp a
   rw[if_pos e,e,g,zCB,if_pos rfl]
  .rw[if_neg e]
   cases Dr kvs j with
   |none=>rfl
   |some x=>rw[zCB,if_neg e]
 .rw[if_neg a]
  refine Tj k j y kvs ?_;rw[La] at a;cases q:Dr kvs k with
  |none=>rfl
  |some x=>rw[q] at a;exact (a rfl).elim
def Ff (kvs:List (κ×V)) (k:κ) (v:V):(Eu kvs k v).length<=kvs.length+1:=by
 unfold Eu
 split
 .rw[zAb];lia
 .rw[zAj,zAf,zCq];lia
def WG.isSome_eq {o:Option V} {u:Option Value} (r:WG o u):o.isSome=u.isSome:=by
 cases o with
 |none=>cases u with
  |none=>rfl
  |some _=>exact (show False from r).elim
 |some _=>cases u with
  |none=>exact (show False from r).elim
  |some _=>rfl
def WG.getD {o:Option V} {u:Option Value} {d:V} {d':Value} (r:WG o u) (g:Ht d d'):Ht (o.getD d) (u.getD d'):=by
 cases o with
 |none=>cases u with
  |none=>exact g
  |some _=>exact (show False from r).elim
 |some _=>cases u with
  |none=>exact (show False from r).elim
  |some _=>exact r
def KV.val {kvs:List (κ×V)} {vs:List (κ×Value)} (r:KV kvs vs) (k:κ):WG (Dr kvs k) (valueAt vs k):=by
 unfold KV at r
 induction r with
 |nil=>exact True.intro
 |@cons p q ps j h t ih=>
  obtain⟨h1,B⟩:=h;by_cases e:p.1=k
  .have g:q.1=k:=h1.symm.trans e
   have b:valueAt (q::j) k=some q.2:=by simp [valueAt,zBX,g]
   rw[Di e,b];exact B
  .have g:¬ q.1=k:=λz=>e (h1.trans z)
   have b:valueAt (q::j) k=valueAt j k:=by simp [valueAt,zBX,g]
   rw[Df e,b];exact ih
def KV.any {kvs:List (κ×V)} {vs:List (κ×Value)} (r:KV kvs vs) (k:κ):(kvs.any λg=>decide (g.1=k))=vs.any λg=>decide (g.1=k):=by
 unfold KV at r
 induction r with
 |nil=>rfl
 |cons h t ih=>rw[zCx,zCx,ih,h.1]
def KV.repl {kvs:List (κ×V)} {vs:List (κ×Value)} (r:KV kvs vs) (k:κ) {y:V} {u:Value} (j:Ht y u) :
  KV (kvs.map λg=>if g.1=k then (g.1,y) else g) (vs.map λg=>if g.1=k then (g.1,u) else g):=by
 unfold KV at r ⊢
 induction r with
 |nil=>exact .nil
 |@cons p q ps F h t ih=>
  rw[zAw,zAw];refine .cons ?_ ih;obtain⟨h1,B⟩:=h;by_cases e:p.1=k
  .rw[if_pos e,if_pos (h1.symm.trans e)];exact⟨h1,j⟩
  .rw[if_neg e,if_neg (λz=>e (h1.trans z))];exact⟨h1,B⟩
def KV.put {kvs:List (κ×V)} {vs:List (κ×Value)} (r:KV kvs vs) (k:κ) {y:V} {u:Value} (g:Ht y u):KV (Eu kvs k y) (stored vs k u):=by
 unfold Eu stored;rw[r.any k];by_cases e:(vs.any λj=>decide (j.1=k))=true
 .rw[if_pos e,if_pos e];exact r.repl k g
 .rw[if_neg e,if_neg e];exact Paired.snoc r ⟨rfl,g⟩
def KV.length {kvs:List (κ×V)} {vs:List (κ×Value)} (r:KV kvs vs):kvs.length=vs.length:=Paired.length r
end
def Tf {w:World} {k:Fl} {u:Value} (r:Ht (kV k) u):(Ck P w).is k u=true:=by
 cases k with
 |inl i=>obtain⟨t,e⟩:=(show ∃ t,u=Value.int i t from r);subst e;exact Wb P w i t
 |inr x=>obtain⟨t,e⟩:=(show ∃ t,u=Value.str x t from r);subst e;exact Yr P w x t
theorem Sv {w:World}:∀ {ks} {us},Fz (ks.map kV) us->ItemsAre (Ck P w) ks us
 |[],_,r=>by rw[zAY] at r;cases r;exact .nil
 |k::ks,_,r=>by
  rw[zAw] at r;cases r with
  |cons h t=>exact .cons (Tf h) (Sv t)
abbrev KT (H:Hp):List (List Fl×V)->List (List Fl×Addr×Value)->Prop:=Paired λp q=>p.1=q.1/\H q.2.1=some (.tup (p.1.map kV))/\Ht p.2 q.2.2
def KT.val {H:Hp} {kvs:List (List Fl×V)} {xs:List (List Fl×Addr×Value)} (r:KT H kvs xs) (k:List Fl):WG (Dr kvs k) ((atKey xs k).map (·.2)):=by
 induction r with
 |nil=>exact True.intro
 |@cons p q ps j h t ih=>
  obtain⟨h1,_,B⟩:=h;by_cases e:p.1=k
  .have g:q.1=k:=h1.symm.trans e
   have b:atKey (q::j) k=some q.2:=by simp [atKey,zBX,g]
   rw[Di e,b];exact B
  .have g:¬ q.1=k:=λz=>e (h1.trans z)
   have b:atKey (q::j) k=atKey j k:=by simp [atKey,zBX,g]
   rw[Df e,b];exact ih
def KT.repl {kvs:List (List Fl×V)} {xs:List (List Fl×Addr×Value)} (r:KT H kvs xs) (k:List Fl) {y:V} {u:Value} (F:Ht y u) :
  KT H (kvs.map λg=>if g.1=k then (g.1,y) else g) (xs.map (putAt k u)):=by
 induction r with
 |nil=>exact .nil
 |@cons p q ps L h t ih=>
  rw[zAw,zAw];refine .cons ?_ ih;obtain⟨h1,j,B⟩:=h;unfold putAt;by_cases e:p.1=k
  .rw[if_pos e,if_pos (h1.symm.trans e)];exact⟨h1,j,F⟩
  .rw[if_neg e,if_neg (λz=>e (h1.trans z))];exact⟨h1,j,B⟩
def KT.put {kvs:List (List Fl×V)} {xs:List (List Fl×Addr×Value)} (r:KT H kvs xs) (k:List Fl) {b:Addr} {y:V} {u:Value} (j:H b=some (.tup (k.map kV))) (g:Ht y u) :
  KT H (Eu kvs k y) (storedH xs k b u):=by
 have e:(kvs.any λz=>decide (z.1=k))=(atKey xs k).isSome:=by
  rw[La,(r.val k).isSome_eq,Option.isSome_map]
 unfold Eu storedH;rw[e];by_cases q:(atKey xs k).isSome=true
 .rw[if_pos q,if_pos q];exact r.repl k g
 .rw[if_neg q,if_neg q];exact Paired.snoc r ⟨rfl,j,g⟩
def KT.keeps {H H':Hp} {kvs:List (List Fl×V)} {xs:List (List Fl×Addr×Value)} (r:KT H kvs xs) (g:∀ b ys,H b=some (.tup ys)->H' b=some (.tup ys)):KT H' kvs xs:=
 Paired.mapP r λ_ _ z=>⟨z.1,g _ _ z.2.1,z.2.2⟩
section
variable {P:Program} {w:World} {H:Hp} {h:Heap} {a:Addr}
def HM {u:HO} (ok:WJ P w H h) (e:Rd H a u):VQ P w H h a u:=e.ok ok
def Ph {kvs:List (Fl×V)} (ok:WJ P w H h) (e:Rd H a (.dK kvs)):kvs.length<=sizeLine/\(a==sysModules)=false/\∃ vs,KV kvs vs/\h.DictOf (Ck P w) a vs:=
 show VQ P w H h a (.dK kvs) from HM ok e
def NQ {kvs:List (Fl×V)} (ok:WJ P w H h) (e:H a=some (.dK kvs)):kvs.length<=sizeLine/\(a==sysModules)=false/\∃ vs,KV kvs vs/\h.DictOf (Ck P w) a vs:=Ph ok (.inl e)
def Mp {ks:List Fl} (ok:WJ P w H h) (e:H a=some (.tup (ks.map kV))):(tupleKind (Ck P w)).is h ks a:=by
 obtain⟨_,g,r,o,h1,j,n,q⟩:=(show VQ P w H h a (.tup (ks.map kV)) from ok a _ e);exact⟨o,g.toArray,n,h1,j,q,by simpa using Sv r⟩
def Qb {kvs:List (List Fl×V)} (ok:WJ P w H h) (e:Rd H a (.dT kvs)):kvs.length<=sizeLine/\(a==sysModules)=false /\
  ∃ xs,KT H kvs xs/\h.DictOfH (tupleKind (Ck P w)) a xs:=by
 obtain⟨z,y,xs,r,o,es,ep,h1,B,M,L,F⟩:=(show VQ P w H h a (.dT kvs) from HM ok e);refine⟨z,y,xs,r,o,es,ep,h1,B,M,L,λx g=>?_,F⟩;have all:∀ {l:List (List Fl×V)} {m:List (List Fl×Addr×Value)},KT H l m->∀ x∈m,(tupleKind (Ck P w)).is h x.1 x.2.1:=by
  intro l m q
  induction q with
  |nil=>intro x g;exact nomatch g
  |@cons p q ps S j t ih=>
   intro x g;rcases zAn.mp g with e|g
   .subst e
    exact Mp ok (by rw[<- j.1];exact j.2.1)
   .exact ih x g
 exact all r x g
def OM {kvs:List (List Fl×V)} (ok:WJ P w H h) (e:H a=some (.dT kvs)):kvs.length<=sizeLine/\(a==sysModules)=false /\
  ∃ xs,KT H kvs xs/\h.DictOfH (tupleKind (Ck P w)) a xs:=Qb ok (.inl e)
end
def WH (H:Hp) (a:Addr) (y:V) (r:Option V):Prop:=
 (∃ kvs k,Rd H a (.dK kvs)/\y=kV k/\r=Dr kvs k)\/∃ kvs k b,Rd H a (.dT kvs)/\y=.ref b/\H b=some (.tup (k.map kV))/\r=Dr kvs k
def WX (H:Hp) (a:Addr) (y v:V) (H':Hp):Prop:=
 (∃ kvs k,H a=some (.dK kvs)/\y=kV k/\kvs.length<sizeLine/\H'=upd H a (.dK (Eu kvs k v))) \/
 ∃ kvs k b,H a=some (.dT kvs)/\y=.ref b/\H b=some (.tup (k.map kV))/\kvs.length<sizeLine/\H'=upd H a (.dT (Eu kvs k v))
def WH.k {H} {a} {kvs} {k} (e:H a=some (.dK kvs)):WH H a (kV k) (Dr kvs k):=.inl ⟨kvs,k,.inl e,rfl,rfl⟩
def WH.t {H} {a b} {kvs} {k} (e:H a=some (.dT kvs)) (g:H b=some (.tup (k.map kV))):WH H a (.ref b) (Dr kvs k):=.inr ⟨kvs,k,b,.inl e,rfl,g,rfl⟩
def WX.k {H} {a} {kvs} {k} {v} (e:H a=some (.dK kvs)) (hl:kvs.length<sizeLine):WX H a (kV k) v (upd H a (.dK (Eu kvs k v))):=.inl ⟨kvs,k,e,rfl,hl,rfl⟩
def WX.t {H} {a b} {kvs} {k} {v} (e:H a=some (.dT kvs)) (g:H b=some (.tup (k.map kV))) (hl:kvs.length<sizeLine) :
  WX H a (.ref b) v (upd H a (.dT (Eu kvs k v))):=.inr ⟨kvs,k,b,e,rfl,g,hl,rfl⟩
section
variable {X:Cx} {pins:List (Addr×Obj)} {σ:St} {H:Hp} {s:Shared} {a:Addr} {y v:V} {u r:Value} {o:Option V} {A:Around} {E:Value->Shared->Prop}
def Dm.big (I:Dm X pins σ H s):sysModules<s.heap.objs.size:=by
 have h:zCH<s.heap.objs.size:=(I.mod.glob.keeps I.bk).lt;exact Nat.lt_trans (by decide) h
def N0 {Q:Value->Shared->Prop} (hu:A.units+1<cLine) (I:Dm X pins σ H s) (g:WH H a y (some v)) (Y:Ht y u) (h:∀ B s',Dm X pins σ H s'->Ht v B->Q B s') :
  wpAny (model X.prog X.w) A (getItem (.ref a) u) Q E s:=by
 rcases g with ⟨U,k,e,M,l⟩|⟨U,k,b,e,M,Z,l⟩
 .subst M
  obtain⟨z,hd,vs,q,L⟩:=Ph I.hok e;obtain⟨B,F,j⟩:=WG.some_of (v:=v) (o:=valueAt vs k) (by rw[l];exact q.val k);exact wpAny_getItem_of (Tf Y) L.mapOf F (h B _ (I.tok _) j)
 .subst M
  cases (show u=Value.ref b from Y)
  obtain⟨z,hd,xs,q,L⟩:=Qb I.hok e;obtain⟨B,F,j⟩:=WG.some_of (v:=v) (o:=(atKey xs k).map (·.2)) (by rw[l];exact q.val k);obtain⟨p,hp,S⟩:=zAP.mp F;refine wpAny_getItem_heap (tupleKind_room_in1 hu) (Mp I.hok Z) L hp ?_;rw[S];exact h B _ (I.tok _) j
def TN {Q:Value->Shared->Prop} (U:A.units+1<cLine) (I:Dm X pins σ H s) (g:WH H a y o) (S:Ht y u) (h:∀ s',Dm X pins σ H s'->Q (.bool o.isSome) s') :
  wpAny (model X.prog X.w) A (compareOp .In u (.ref a)) Q E s:=by
 rcases g with ⟨L,k,e,F,l⟩|⟨L,k,b,e,F,Y,l⟩
 .subst F
  obtain⟨z,M,vs,j,B⟩:=Ph I.hok e;refine wpAny_in_of (Tf S) M B.mapOf ?_;rw[<- (j.val k).isSome_eq,<- l];exact h _ (I.tok _)
 .subst F
  cases (show u=Value.ref b from S)
  obtain⟨z,M,xs,j,B⟩:=Qb I.hok e;refine wpAny_in_heap (tupleKind_room_in1 U) (Mp I.hok Y) M B ?_;have q:=(j.val k).isSome_eq;rw[Option.isSome_map] at q;rw[<- q,<- l];exact h _ (I.tok _)
def FS {Q:Value->Shared->Prop} (U:A.units+1<cLine) (I:Dm X pins σ H s) (g:WH H a y o) (S:Ht y u) (h:∀ s',Dm X pins σ H s'->Q (.bool (!o.isSome)) s') :
  wpAny (model X.prog X.w) A (compareOp .NotIn u (.ref a)) Q E s:=by
 rcases g with ⟨L,k,e,F,l⟩|⟨L,k,b,e,F,Y,l⟩
 .subst F
  obtain⟨z,M,vs,j,B⟩:=Ph I.hok e;refine wpAny_notIn_of (Tf S) M B.mapOf ?_;rw[<- (j.val k).isSome_eq,<- l];exact h _ (I.tok _)
 .subst F
  cases (show u=Value.ref b from S)
  obtain⟨z,M,xs,j,B⟩:=Qb I.hok e;refine wpAny_notIn_heap (tupleKind_room_in1 U) (Mp I.hok Y) M B ?_;have q:=(j.val k).isSome_eq;rw[Option.isSome_map] at q;rw[<- q,<- l];exact h _ (I.tok _)
def F6 {h':Heap} {t':Nat} (I:Dm X pins σ H s) (B:NY (H a)) (F:zBo a s.heap h') (L:∃ q,h'.get? a=some q) (g:VQ X.prog X.w (upd H a ob) h' a ob) :
  Dm X pins σ (upd H a ob) { s with heap:=h',toks:=t' }:=
 I.write (x:=a) (e:=a) B (.inl rfl) (λb q j z=>(F.2 b j).trans z) L g
def HV {w:World} {H':Hp} {h':Heap} {kvs:List (Fl×V)} {vs:List (Fl×Value)} (z:kvs.length<=sizeLine) (q:(a==sysModules)=false) (g:KV kvs vs) (j:h'.DictOf (Ck P w) a vs) :
  VQ P w H' h' a (.dK kvs):=⟨z,q,vs,g,j⟩
def U5 {H':Hp} {Q:Unit->Shared->Prop} (hu:A.units+1<cLine) (I:Dm X pins σ H s) (g:WX H a y v H') (ry:Ht y u) (rv:Ht v r) (h:∀ s',Dm X pins σ H' s'->Q () s') :
  wpAny (model X.prog X.w) A (setItem (.ref a) u r) Q E s:=by
 rcases g with ⟨B,k,e,Y,l,S⟩|⟨B,k,b,e,Y,eb,l,S⟩
 .subst Y S
  obtain⟨z,hd,vs,j,M⟩:=NQ I.hok e;have U:vs.length<=sizeLine:=by rw[<- j.length];exact z
  have hl:(Eu B k v).length<=sizeLine:=by have:=Ff B k v;lia
  refine wpAny_setItem_pairs (hsz:=U) (Tf ry) M λh' F Z=>h _ ?_;have he:∃ q,h'.get? a=some q:=let ⟨q,_,_,L,_⟩:=F;⟨q,L⟩
  exact F6 I (by rw[e];exact True.intro) Z he (HV hl hd (j.put k rv) F)
 .subst Y S
  cases (show u=Value.ref b from ry)
  obtain⟨z,hd,xs,j,M⟩:=OM I.hok e;have U:xs.length<=sizeLine:=by rw[<- Paired.length j];exact z
  have hl:(Eu B k v).length<=sizeLine:=by have:=Ff B k v;lia
  refine wpAny_setItem_heap (hsz:=U) (tupleKind_room_in1 hu) (Mp I.hok eb) M λh' F Z=>h _ ?_;obtain⟨q,es,ep,L,h2,h3,h4,_,h5⟩:=F;refine F6 I (by rw[e];exact True.intro) Z ⟨q,L⟩ ⟨hl,hd,_,(j.put k eb rv).keeps λc ys ec=>?_,q,es,ep,L,h2,h3,h4,h5⟩;rw[Ag (Ar ec e (λz=>nomatch z))];exact ec
end
def ON (i:Expr):Prop:=∀ ov iv,subscripted i false ov iv=operate [ov,iv] (getItem ov iv)
def EM {prog} {w} {A} {E:Value->Shared->Prop} {s} {env} {value slice} {pos} {T id} {Q:Value->Shared->Prop}
  (hl:typeLookup (.type T) "__getitem__"=pure (some (.builtin id))) (hs:ON slice)
  (h:wpAny (model prog w) A (eval value env) (λo s₁=>wpAny (model prog w) A (eval slice env) (λi s₂=>s₂.TypeIs o T/\wpAny (model prog w) A (getItem o i) Q E s₂) E s₁) E s) :
  wpAny (model prog w) A (eval (.Subscript value slice pos) env) Q E s:=by
 refine Subscript_ (wpAny_mono h (λo s₁ h₁=>wpAny_mono h₁ (λi s₂ h₂=>?_) λ_ _ x=>x) λ_ _ x=>x);obtain⟨hT,h₂⟩:=h₂;unfold subscriptTail;refine zCC ?_;rw[getitemInPython_of_ne hT.not_modules];refine zCC (wpAny_specialOf hT hl ?_);have fin:wpAny (model prog w) A (subscripted slice false o i) (λr s₃=>wpAny (model prog w) A (letTemporaryGo value o r >>= λ_=>pure r) Q E s₃) E s₂:=by
  rw[hs o i];exact wpAny_operating (wpAny_mono h₂ (λr s₃ h₃=>zCC (wpAny_letTemporaryGo (zCD h₃))) λ_ _ x=>x)
 first
  |exact zCD (zCC fin)
  |exact zCC (zCD (zCC fin))
  |exact zCC fin
def Wp {X:Cx} {s:Shared} {a:Addr} {y:V} {o:Option V} (I:Dm X pins σ H s) (g:WH H a y o):s.TypeIs (.ref a) "dict":=by
 rcases g with ⟨q,k,e,_,_⟩|⟨q,k,b,e,_,_,_⟩
 .obtain⟨_,_,vs,_,j⟩:=Ph I.hok e
  exact j.typeIs
 .obtain⟨_,_,xs,_,j⟩:=Qb I.hok e
  exact j.typeIs
def NP (td ty:TE):TE:=λσ H Q=>td σ H λx H1=>ty σ H1 λy H2=>∃ a v,x=.ref a/\WH H2 a y (some v)/\Q v H2
def SD (ty td:TE):TE:=λσ H Q=>ty σ H λy H1=>td σ H1 λx H2=>∃ a o,x=.ref a/\WH H2 a y o/\Q (.bl o.isSome) H2
def FD (ty td:TE):TE:=λσ H Q=>ty σ H λy H1=>td σ H1 λx H2=>∃ a o,x=.ref a/\WH H2 a y o/\Q (.bl (!o.isSome)) H2
def QD (td ty tv:TE):TS:=λD σ H=>tv σ H λv H1=>td σ H1 λx H2=>ty σ H2 λy H3=>∃ a H4,x=.ref a/\WX H3 a y v H4/\D.nx σ H4
section
variable {X:Cx} {o i value:Expr} {pos pos':Pos} {td ty tv:TE}
def EU (hu:X.A.units+1<cLine) (S:PE X o td) (hi:PE X i ty) (L:ON i):PE X (.Subscript o i pos) (NP td ty):=by
 intro pins s σ H Q I h;refine EM PySem.F.slot_dict_getitem.lookup L (Bt (S pins s σ H _ I h) λu B ⟨x,H1,U,F,M⟩=>Bt (hi pins B σ H1 _ U M) λiv s2 ⟨y,Y,q,ry,a,v,ex,g,z⟩=>?_);subst ex;obtain rfl:u=Value.ref a:=F;exact⟨Wp q g,N0 hu q g ry λw' s3 Z j=>⟨v,Y,Z,j,z⟩⟩
def LM (hu:X.A.units+1<cLine) (hi:PE X i ty) (L:PE X o td):PC X .In i o (SD ty td):=by
 intro pins s σ H Q I h;refine Bt (hi pins s σ H _ I h) λiv q ⟨y,H1,M,Z,B⟩=>Bt (L pins q σ H1 _ M B) λu s2 ⟨x,S,F,z,a,U,ex,g,j⟩=>?_;subst ex;obtain rfl:u=Value.ref a:=z;exact TN hu F g Z λs3 Y=>⟨.bl U.isSome,S,Y,rfl,j⟩
def M9 (hu:X.A.units+1<cLine) (hi:PE X i ty) (L:PE X o td):PC X .NotIn i o (FD ty td):=by
 intro pins s σ H Q I h;refine Bt (hi pins s σ H _ I h) λiv q ⟨y,H1,M,Z,B⟩=>Bt (L pins q σ H1 _ M B) λu s2 ⟨x,S,F,z,a,U,ex,g,j⟩=>?_;subst ex;obtain rfl:u=Value.ref a:=z;exact FS hu F g Z λs3 Y=>⟨.bl (!U.isSome),S,Y,rfl,j⟩
def Vs (hu:X.A.units+1<cLine) (B:PE X o td) (hi:PE X i ty) (Y:PE X value tv) (hs:swapsWith value (some (.Subscript o i pos')) pos.line X.env=pure false) :
  PS X (.Assign [.Subscript o i pos'] value pos) (QD td ty tv):=by
 intro pins s σ H D I h;refine wpAny_Assign_Subscript (Bt (Y pins s σ H _ I h) λr s1 ⟨v,H1,L,F,z⟩=>Bt (B pins s1 σ H1 _ L z) λu U ⟨x,H2,Z,rx,S⟩=>Bt (hi pins U σ H2 _ Z S) λiv s3 ⟨y,H3,M,ry,a,q,ex,g,q3⟩=>?_) hs;subst ex;obtain rfl:u=Value.ref a:=rx;exact U5 hu M g ry F λs4 j=>⟨σ,q,j,q3⟩
end
def V6 {w:World} (h:Heap) (g:sysModules<h.objs.size):VQ P w H (h.push { cls:=.type "dict",data:=.dict #[] }) h.objs.size (.dK []):=
 ⟨zAu _,beq_eq_false_iff_ne.mpr (Ne.symm (zAx g)),[],.nil,Heap.DictOf.new h⟩
def X3 {w:World} (h:Heap) (g:sysModules<h.objs.size):VQ P w H (h.push { cls:=.type "dict",data:=.dict #[] }) h.objs.size (.dT []):=
 ⟨zAu _,beq_eq_false_iff_ne.mpr (Ne.symm (zAx g)),[],.nil,_,#[],0,zAv _ rfl,⟨rfl,rfl,rfl⟩,rfl,rfl,List.nodup_nil⟩
def JZ:TE:=λ_ H Q=>∀ p,H p=none->Q (.ref p) (upd H p (.dK []))
def IL:TE:=λ_ H Q=>∀ p,H p=none->Q (.ref p) (upd H p (.dT []))
section
variable {X:Cx} {pos:Pos}
def Xk:PE X (.Dict [] [] pos) JZ:=λpins s σ H Q I h=>
 wpAny_Dict_empty ⟨.ref s.heap.objs.size,_,I.laid (a:=s.heap.objs.size) (o:=.dK []) (t':=s.toks) (λ_ _ q=>zAc _ q) (zAi _) (V6 s.heap I.big),rfl,h _ (I.hok.fresh (zAi _))⟩
def CQ:PE X (.Dict [] [] pos) IL:=λpins s σ H Q I h=>
 wpAny_Dict_empty ⟨.ref s.heap.objs.size,_,I.laid (a:=s.heap.objs.size) (o:=.dT []) (t':=s.toks) (λ_ _ q=>zAc _ q) (zAi _) (X3 s.heap I.big),rfl,h _ (I.hok.fresh (zAi _))⟩
end
structure M2 (X:Cx) (o:Expr) (m:Str) (apos:Pos) (e f:Expr) (cpos:Pos):Prop where
 base:attributeBase o m X.env (eval o X.env)=eval o X.env
 few:((backTo cpos (starEach [e,f] X.env)).all (λx => !x.1)&&(backToKw cpos (keywordEach [] X.env)).all (λx=>x.1.isSome)
  && decide (([e,f]:List Expr).length+([]:List Keyword).length+(if ([]:List Keyword).isEmpty then 0 else 1)<30))=true
 line:(apos.endLine==cpos.line)=true
 trees:backTo cpos (starEach [e,f] X.env)=[(false,eval e X.env),(false,eval f X.env)]
def UE (H:Hp) (a:Addr):Prop:=(∃ kvs,Rd H a (.dK kvs))\/∃ kvs,Rd H a (.dT kvs)
def LK {X:Cx} {s:Shared} {a:Addr} (I:Dm X pins σ H s) (d:UE H a) :
  s.TypeIs (.ref a) "dict"/\(∀ b,Value.ref a=.ref b->∃ g,s.heap.get? b=some g/\g.dict=none)/\(a==sysModules)=false:=by
 rcases d with ⟨B,e⟩|⟨B,e⟩
 .obtain⟨_,F,vs,_,j⟩:=Ph I.hok e
  refine⟨j.typeIs,λb q=>?_,F⟩;cases q;obtain⟨g,_,_,h1,z,_⟩:=j;exact⟨g,h1,z.2.1⟩
 .obtain⟨_,F,xs,_,j⟩:=Qb I.hok e
  refine⟨j.typeIs,λb q=>?_,F⟩;cases q;obtain⟨g,_,_,h1,z,_⟩:=j;exact⟨g,h1,z.2.1⟩
section
variable {X:Cx} {pins:List (Addr×Obj)} {σ:St} {H:Hp} {s:Shared} {a:Addr} {y d:V} {u r:Value} {o:Option V} {A:Around} {E:Value->Shared->Prop}
def IH {Q:Value->Shared->Prop} (Y:A.units+1<cLine) (I:Dm X pins σ H s) (g:WH H a y o) (U:Ht y u) (S:Ht d r) (h:∀ M s',Dm X pins σ H s'->Ht (o.getD d) M->Q M s') :
  wpAny (model X.prog X.w) A (call (.builtin "dict.get") [.ref a,u,r]) Q E s:=by
 rcases g with ⟨F,k,e,B,l⟩|⟨F,k,b,e,B,Z,l⟩
 .subst B
  obtain⟨z,L,vs,j,q⟩:=Ph I.hok e;refine call_meetsIn PySem.F.slot_dict_get q.typeIs PySem.F.entry_dict_get (PySem.F.args_dict_get_3 _ _ _) (meets_dict_get_default (Ck X.prog X.w) a (Tf U) L r) ⟨_,q.mapOf,h _ _ (I.tok _) ?_⟩;rw[l];exact (j.val k).getD S
 .subst B
  cases (show u=Value.ref b from U)
  obtain⟨z,L,xs,j,q⟩:=Qb I.hok e;refine call_meetsIn PySem.F.slot_dict_get q.typeIs PySem.F.entry_dict_get (PySem.F.args_dict_get_3 _ _ _) (meetsH_dict_get_default (tupleKind (Ck X.prog X.w)) a b L r) ⟨tupleKind_room_in1 Y,k,xs,Mp I.hok Z,q,h _ _ (I.tok _) ?_⟩;rw[l];exact (j.val k).getD S
end
def IE (td ty tx:TE):TE:=λσ H Q=>td σ H λx H1=>∃ a,x=.ref a/\UE H1 a/\ty σ H1 λy H2=>tx σ H2 λz H3=>∃ o,WH H3 a y o/\Q (o.getD z) H3
section
variable {X:Cx} {o e f:Expr} {apos cpos:Pos} {td ty tx:TE}
def W4 (hu:X.A.units+1<cLine) (M:PE X o td) (he:PE X e ty) (hf:PE X f tx) (m:M2 X o "get" apos e f cpos):PE X (.Call (.Attribute o "get" apos) [e,f] [] cpos) (IE td ty tx):=by
 intro pins s σ H Q I h;refine wpAny_Call_method m.base m.few m.line PySem.F.plainAttrs_dict PySem.F.slot_dict_get PySem.F.type_dict_get (Bt (M pins s σ H _ I h) λu s1 ⟨x,H1,q,rx,a,ex,d,L⟩=>?_);subst ex;obtain rfl:u=Value.ref a:=rx;obtain⟨t1,F,_⟩:=LK q d;refine⟨t1,F,?_⟩;rw[m.trees];refine Calls.callWith_builtin rfl (Calls.evalArgs_plain (Calls.spliced_cons (Bt (he pins s1 σ H1 _ q L) λiv Y ⟨y,H2,I2,ry,U⟩=>
  Calls.spliced_cons (Bt (hf pins Y σ H2 _ I2 U) λfv s3 ⟨z,H3,S,Z,ov,g,q3⟩=>Calls.spliced_nil ?_))))
 exact IH hu S g ry Z λw' s4 B j=>⟨_,H3,B,j,q3⟩
end
def F5 (cells:List (Str×Addr)):List (Str×NameKind)->List (Str×Addr)->List (Str×Addr)
 |[],cs=>cs
 |(n,k)::r,cs=>F5 cells r (if k==NameKind.free then (match cells.lookup n with|some a=>(n,a)::cs|none=>cs) else cs)
theorem Wr {env:Env}:∀ (names:List (Str×NameKind)) (cs:List (Str×Addr)),(∀ y∈names,y.2=.free->∃ c,env.cells.lookup y.1=some c) ->
  (forIn names cs λ(x:Str×NameKind) (r:List (Str×Addr))=>if (x.2==NameKind.free)=true then (do let a <- cellOf env x.1;pure (ForInStep.yield ((x.1,a)::r))) else (pure (ForInStep.yield r):Sem (ForInStep (List (Str×Addr)))))
   = (pure (F5 env.cells names cs):Sem (List (Str×Addr)))
 |[],cs,_=>rfl
 |(n,k)::r,cs,h=>by
  have ih:=Wr (env:=env) r;rw[List.forIn_cons];unfold F5;cases z:(k==NameKind.free) with
  |false=>
   simp only [zBj,if_false];show (forIn r cs _:Sem _)=_;exact ih cs λy j=>h y (zAd _ j)
  |true=>
   obtain⟨c,q⟩:=h (n,k) zAg (by simpa using z);have g:env.cells.lookup n=some c:=q;have e:cellOf env n=pure c:=by unfold cellOf;rw[g]
   simp only [if_true,e,g];show (forIn r ((n,c)::cs) _:Sem _)=_;exact ih _ λy j=>h y (zAd _ j)
def Z1 {env:Env} (h:∀ y∈scope.names,y.2=.free->∃ c,env.cells.lookup y.1=some c):closureFor scope env=pure (F5 env.cells scope.names []):=by
 unfold closureFor;have q:=Wr (env:=env) scope.names [] h;refine Eq.trans ?_ (congrArg (λz:Sem (List (Str×Addr))=>z >>= λg=>pure g) q);rfl
set_option tactic.hygienic true in
theorem I0:∀ (names:List (Str×NameKind)) (cs:List (Str×Addr)),(∀ p∈cs,g.lookup p.1=some p.2)->∀ p∈F5 g names cs,g.lookup p.1=some p.2
 |[],cs,h,p,z=>h p z
 |(n,k)::r,cs,h,p,z=>by
  unfold F5 at z;refine I0 r _ (λq j=>?_) p z
  split at j
  .split at j
   .rename_i a e
    rcases zAn.mp j with rfl|j
    .exact e
    .exact h q j
   .exact h q j
  .exact h q j
def Hm {names:List (Str×NameKind)} {x:Str} {c:Addr} (e:(F5 cells names []).lookup x=some c):cells.lookup x=some c:=
 I0 names [] (λ_ z=>nomatch z) (x,c) (PySem.mem_of_lookup e)
theorem Tx:∀ (names:List (Str×NameKind)) (cs:List (Str×Addr)) (p:Str×Addr),p∈cs->p∈F5 cells names cs
 |[],cs,p,g=>g
 |(n,k)::r,cs,p,g=>by
  unfold F5;refine Tx r _ p ?_
  split
  .split
   .exact zAd _ g
   .exact g
  .exact g
theorem Vj {x:Str} {c:Addr} (g:cells.lookup x=some c):∀ (names:List (Str×NameKind)) (cs:List (Str×Addr)),(x,NameKind.free)∈names->(x,c)∈F5 cells names cs
 |[],_,h=>nomatch h
 |(n,k)::r,cs,h=>by
  unfold F5;rcases zAn.mp h with e|h
  .cases e
   refine Tx r _ _ ?_;rw[g];simp
  .exact Vj g r _ h
theorem Dz {x:Str} {c:Addr}:∀ {l:List (Str×Addr)},(x,c)∈l->∃ d,l.lookup x=some d
 |[],h=>nomatch h
 |(y,d)::r,h=>by
  rw[zBI];cases e:(x==y) with
  |true=>exact⟨d,rfl⟩
  |false=>
   rcases zAn.mp h with z|z
   .cases z
    simp at e
   .exact Dz z
theorem Hn {env:Env}:∀ {names:List (Str×NameKind)} {x:Str} {k:NameKind},
  (names.map λ(n,k)=>if (k==NameKind.free&&env.scope.kind == .function&&env.kindOf n==some .cell) then (n,NameKind.cell) else (n,k)).lookup x=some k ->
   names.lookup x=some k\/(k=.cell/\names.lookup x=some .free)
 |[],_,_,h=>by simp at h
 |(n,g)::r,x,k,h=>by
  have ih:=@Hn env r x k;rw[zAw] at h;rw[zBI];by_cases c:(g==NameKind.free&&env.scope.kind == .function&&env.kindOf n==some .cell)=true
  .have h':=h
   simp only [c,if_true] at h';rw[zBI] at h';cases e:(x==n) with
   |true=>
    rw[e] at h';have c1:g=.free:=by
     simp only [zAt] at c
     simpa using c.1.1
    refine .inr ⟨(Option.some.inj h').symm,?_⟩;rw[c1]
   |false=>
    rw[e] at h';exact ih h'
  .have h':=h
   simp only [c,zBj,if_false] at h';rw[zBI] at h';cases e:(x==n) with
   |true=>
    rw[e] at h';exact .inl h'
   |false=>
    rw[e] at h';exact ih h'
theorem Ll {env:Env}:∀ {names:List (Str×NameKind)} {x:Str},names.lookup x=some .free ->
  (names.map λ(n,k)=>if (k==NameKind.free&&env.scope.kind == .function&&env.kindOf n==some .cell) then (n,NameKind.cell) else (n,k)).lookup x=some .cell \/
  (names.map λ(n,k)=>if (k==NameKind.free&&env.scope.kind == .function&&env.kindOf n==some .cell) then (n,NameKind.cell) else (n,k)).lookup x=some .free
 |[],_,h=>by simp at h
 |(n,g)::r,x,h=>by
  have ih:=@Ll env r x;rw[zAw];rw[zBI] at h;by_cases c:(g==NameKind.free&&env.scope.kind == .function&&env.kindOf n==some .cell)=true
  .simp only [c,if_true,zBI]
   cases e:(x==n) with
   |true=>exact .inl rfl
   |false=>
    rw[e] at h;exact ih h
  .simp only [c,zBj,if_false,zBI]
   cases e:(x==n) with
   |true=>
    rw[e] at h;exact .inr h
   |false=>
    rw[e] at h;exact ih h
def BH (sc scope:Scope):Bool:=
 scope.kind == .function&&scope.names.all λy=>y.2 != .cell&&(y.2 != .local||scope.names.lookup y.1==some .local)&&(y.2 != .free||(sc.names.lookup y.1==some .cell||sc.names.lookup y.1==some .free))
structure Dt (sc scope:Scope):Prop where
 kind:scope.kind=.function
 cell:∀ y∈scope.names,y.2≠.cell
 own:∀ y∈scope.names,y.2=.local->scope.names.lookup y.1=some .local
 free:∀ y∈scope.names,y.2=.free->sc.names.lookup y.1=some .cell\/sc.names.lookup y.1=some .free
def Dt.of (h:BH sc scope=true):Dt sc scope:=by
 unfold BH at h;rw[zAt,List.all_eq_true] at h;obtain⟨h1,z⟩:=h;have j:∀ y∈scope.names,(y.2≠.cell/\(y.2≠.local\/scope.names.lookup y.1=some .local))/\(y.2≠.free\/(sc.names.lookup y.1=some .cell\/sc.names.lookup y.1=some .free)):=λy g=>by
  have q:=z y g
  simpa [zAt,Bool.or_eq_true] using q
 refine⟨by simpa using h1,λy g=>(j y g).1.1,λy g e=>?_,λy g e=>?_⟩
 .exact (j y g).1.2.resolve_left λn=>n e
 .exact (j y g).2.resolve_left λn=>n e
def Pf (X:Cx) (NC:List Str) (scope:Scope) (s3:Shared) (H3:Hp) (fp:List Addr):Cx:=
 { X with N:=NC,s₀:=s3,H₀:=H3,env:=compEnvC scope (F5 X.env.cells scope.names []) s3.heap.objs.size X.env,outer:=X.stack,ex:=fp,fn:=λ_=>false,pn:=[],xe:=λ_ _=>False }
def V1 (own:Nat) (ix:List Nat) (σ:St):St:=List.replicate own none++ix.map λj=>(σ[j]?).getD none
def WS (X:Cx) (scope:Scope):List Str->List Nat->Prop
 |[],[]=>True
 |x::cs,j::js=>(X.N[j]?=some x/\(X.env.kindOf x=some .cell\/X.env.kindOf x=some .free)/\scope.names.lookup x=some .free)/\WS X scope cs js
 |_,_=>False
theorem WS.len {X:Cx}:∀ {cs} {g:List Nat},WS X scope cs g->cs.length=g.length
 |[],[],_=>rfl
 |_::_,_::_,h=>by rw[zAf,zAf,WS.len h.2]
 |[],_::_,h=>h.elim
 |_::_,[],h=>h.elim
theorem WS.at {X:Cx}:∀ {cs} {g:List Nat} {i:Nat} {x},WS X scope cs g->cs[i]?=some x ->
  ∃ j,g[i]?=some j/\X.N[j]?=some x/\(X.env.kindOf x=some .cell\/X.env.kindOf x=some .free)/\scope.names.lookup x=some .free
 |[],[],_,_,_,e=>by simp at e
 |x::_,j::_,0,_,h,e=>by simp at e;subst e;exact⟨j,rfl,h.1⟩
 |_::_,_::_,i+1,_,h,e=>by
  obtain⟨j,e1,r⟩:=WS.at (i:=i) h.2 (by simpa using e);exact⟨j,by simpa using e1,r⟩
 |[],_::_,_,_,h,_=>h.elim
 |_::_,[],_,_,h,_=>h.elim
def GO:TT:=λ_ H Q=>Q true H
def OX (Y:Cx) (ifs:List Expr) (t:TT):Prop:=
 ∀ (pins:List (Addr×Obj)) (s:Shared) (σ:St) (H:Hp) (Q:Bool->Hp->Prop),Dm Y pins σ H s->t σ H Q ->
  wpAny (model Y.prog Y.w) Y.A (forIn ifs true λc r=>if r=true then do let ok <- isTrue c Y.env (eval c Y.env);pure (ForInStep.yield ok) else pure (ForInStep.yield r)) (TP Y pins σ Q) Y.xe s
def Bw:OX Y [] GO:=λ_ _ _ H _ I h=>wpAny_tests_nil ⟨H,I,h⟩
def Gi {c:Expr} {t:TT} (h:PT Y c t):OX Y [c] t:=λpins s σ H Q I q=>wpAny_tests_one (h pins s σ H Q I q)
def Nd (g:TG) (tc:TT) (te:TE) (own:Nat) (ix:List Nat) (σ:St) (J:It) (p:Addr) (H1:Hp) (QQ:Hp->Prop):Prop:=
 ∃ W:Nat->Nat->List V->St->Hp->Prop,(∃ m,W 0 m [] (V1 own ix σ) (upd H1 p (.lst [])))/\∀ i m ys σ2 H2,W i m ys σ2 H2->H2 p=some (.lst ys) /\
  ((J.stop i H2/\QQ H2)\/(J.go i H2/\ys.length<sizeLine/\∀ x H3,J.yld i H2 x H3->∃ N:List V->St->Hp->Prop,(∀ ys' σ' H',N ys' σ' H'->∃ m',m'<m/\W (i+1) m' ys' σ' H') /\
   g x σ2 H3 λσ4 H4=>tc σ4 H4 λb H5=>if b=true then te σ4 H5 λy H6=>H6 p=some (.lst ys)/\N (ys++[y]) σ4 (upd H6 p (.lst (ys++[y]))) else N ys σ4 H5))
def GV (wi:TI) (g:TG) (tc:TT) (te:TE) (own:Nat) (ix:List Nat):TE:=λσ H Q=>wi σ H λJ H1=>∀ p,H1 p=none->Nd g tc te own ix σ J p H1 (Q (.ref p))
def P2 {prog:Program} {w:World} {A:Around} {R:Result->Shared->Prop} {s:Shared} {it g:Value} {env:Env} (I:Nat->Shared->Prop)
  (B:∀ n s,I n s->wpAny (model prog w) A (pyNext it) (λr F=>(r=none/\R (.ok .next) F)\/∃ v,r=some v /\
   wpAny (model prog w) A (letOwnedTupleGo target it v) (λ_ M=>wpAny (model prog w) A (assign target env v) (λ_ U=>
    wpAny (model prog w) A (forIn ifs true λc r=>if r=true then do let ok <- isTrue c env (eval c env);pure (ForInStep.yield ok) else pure (ForInStep.yield r)) (λok L=>
     (ok=true/\wpAny (model prog w) A (eval elt env) (λx Y=>wpAny (model prog w) A (call (.builtin "list.append") [g,x]) (λ_ S=>∃ m,m<n/\I m S) (λ_ _=>False) Y) (λ_ _=>False) L) \/
     (ok=false/\∃ m,m<n/\I m L)) (λ_ _=>False) U) (λ_ _=>False) M) (λ_ _=>False) F) (λ_ _=>False) s)
  (n:Nat) (h:I n s):codeAny (model prog w) A (.compLoop (.ListComp elt [⟨target,iter,ifs,0⟩] scope pos) 0 it g env) R s:=by
 refine codeAny_loop rfl I (λn s hI=>?_) n h;show wpAny _ A ((compTurn (.ListComp elt [⟨target,iter,ifs,0⟩] scope pos) 0 it g env).onRaise (λx=>do noteFrame x env;theTreesLotGoes x)) _ _ s;refine wpAny_noted ?_;rw[compTurn_list];have j:∀ (e:Value) (s':Shared),False->notedBy (model prog w) A env (λe s'=>R (.error e) s') e s':=λ_ _ f=>f.elim;refine zCC (wpAny_standAt (zCC (wpAny_mono (B n s hI) (λr F q=>?_) j)));rcases q with ⟨rfl,q⟩|⟨v,rfl,q⟩
 .exact zCD q
 refine zCC (wpAny_mono q (λ_ M h₂=>?_) j);refine zCC (wpAny_mono h₂ (λ_ U h₃=>?_) j);refine zCC (wpAny_mono h₃ (λok L z=>?_) j);rcases z with ⟨rfl,z⟩|⟨rfl,z⟩
 .refine zCC (zCC (wpAny_mono z (λx Y h₅=>?_) j))
  exact zCC (wpAny_mono h₅ (λ_ S Z=>zCD (zCD ⟨rfl,Z⟩)) j)
 .exact zCD ⟨rfl,z⟩
section
variable {X:Cx} {pins:List (Addr×Obj)} {σ:St} {H H':Hp} {s s':Shared}
def Wh {NC own cs:List Str} {ix:List Nat} {scope:Scope} {fp:List Addr} {h4:Heap} {t4:Nat} (I:Dm X pins σ H s) (S:Dt X.env.scope scope) (hN:NC=own++cs) (hc:WS X scope cs ix)
  (hf:∀ b∈fp,Hs X pins H b) (hl:∀ b∈fp,b<s.heap.objs.size) (hns:h4.Ns s.heap.objs.size λ_=>none) (hk:∀ b o,s.heap.get? b=some o->h4.get? b=some o) :
  Dm (Pf X NC scope s H fp) [] (V1 own.length ix σ) H { s with heap:=h4,toks:=t4 }:=by
 have cs_has:∀ y∈scope.names,y.2=.free->∃ c,X.env.cells.lookup y.1=some c:=λy hy e=>I.ok.has y.1 (S.free y hy e);have len:=hc.len;refine⟨⟨I.ok.mod,S.kind,I.ok.glob,I.ok.blt,zAi _,λx y c e1 e2=>I.ok.inj x y c (Hm e1) (Hm e2),λx hx=>?_,λ_ _ z=>(nomatch z),I.ok.hd,I.ok.frames,.inl rfl,λb hb=>⟨zAx (hl b hb),λx c e=>(hf b hb).2.2.2.2.1 x c (Hm e)⟩,
   I.bs,zAz I.ok.bsz I.sz,λb o e hb=>?_,λb hb z=>?_,I.stack,I.stkFree⟩,rfl,I.bare,Un.kept hk,⟨_,hns,λi x v e1 e2 e3=>?_⟩,λx c e=>?_,I.hok.fresh (zAi _),λx c e=>I.freeC x c (Hm e),λp hp=>?_,I.hok.kept hk,?_⟩
 ·
  have hx':(relabel scope X.env).names.lookup x=some .cell\/(relabel scope X.env).names.lookup x=some .free:=hx;have q:scope.names.lookup x=some .free:=by
   rcases hx' with h|h
   .rcases Hn h with h|⟨_,h⟩
    .exact absurd rfl (S.cell _ (PySem.mem_of_lookup h))
    .exact h
   .rcases Hn h with h|⟨z,_⟩
    .exact h
    .cases z
  obtain⟨c,hc'⟩:=cs_has (x,.free) (PySem.mem_of_lookup q) rfl;exact Dz (Vj hc' scope.names [] (PySem.mem_of_lookup q))
 .rcases (hf b hb).2.2.2.1 with z|z
  .exact I.ok.noex b o e z
  .exact absurd (zAG (zAr e) (zAz I.ok.bsz z)) (zBn _)
 .rcases zAn.mp (I.stkSub b z) with z|z
  .exact (hf b hb).2.1 z
  .exact (hf b hb).2.2.1 z
 ·
  have e1':(own++cs)[i]?=some x:=hN▸e1;have hi:own.length<=i:=by
   by_cases hi:own.length<=i
   .exact hi
   .unfold V1 at e2
    rw[zBB (by rw[zBN];omega),List.getElem?_replicate,if_pos (by omega)] at e2;cases e2
  rw[zBp hi] at e1';obtain⟨j,ej,en,kx,fx⟩:=hc.at e1';have e2':(σ[j]?).getD none=some v:=by
   unfold V1 at e2;rw[zBp (by rw[zBN];omega),zBN,zAy,ej] at e2;exact Option.some.inj e2
  have e2'':σ[j]?=some (some v):=by
   cases z:σ[j]? with
   |none=>rw[z] at e2';cases e2'
   |some o=>rw[z] at e2';exact congrArg some e2'
  obtain⟨m,_,hl'⟩:=I.loc;obtain⟨u,ru,l⟩:=hl' j x v en e2'' (kx.elim (λz=>.inr (.inl z)) λz=>.inr (.inr z));refine⟨u,ru,.inr ⟨Ll fx,?_⟩⟩;rcases l with ⟨k,_⟩|⟨_,c,e,z⟩
  .rcases kx with k'|k' <;> rw[k] at k' <;> cases k'
  .obtain⟨d,hd⟩:=Dz (Vj e scope.names [] (PySem.mem_of_lookup fx))
   have e':=Hm hd;rw[e] at e';cases e';obtain⟨o,ho,dd⟩:=z;exact⟨c,hd,o,hk c o ho,dd⟩
 .obtain⟨v,o,ho,dd⟩:=I.cell x c (Hm e)
  exact⟨v,o,hk c o ho,dd⟩
 .exact absurd (show p∈([]:List (Addr×Obj)) from hp) (by simp)
 .show (V1 own.length ix σ).length=NC.length
  rw[hN];unfold V1;rw[zAj,zAj,zBN,zAb,len]
def Se {NC:List Str} {h':Heap} (I:Dm X pins σ H s) (L:∀ b∈fp,Hs X pins H b) (J:Dm (Pf X NC scope s H fp) [] σ' H' s') (F:zBo s.heap.objs.size s'.heap h'):Dm X pins σ H' { s' with heap:=h' }:=by
 obtain⟨hh,g,d,t,os⟩:=s';have U:os=s.os:=J.os;subst U;have Z:H' s.heap.objs.size=none:=J.free;have un:Un (O7 X.stack) fp H H' s.heap hh:=J.base;have z:∀ b o,s.heap.get? b=some o->b≠s.heap.objs.size:=λb o e=>zAx (zAr e);have S:Un (O7 X.stack) fp H H' s.heap h':=⟨λb o e n j B=>(F.2 b (z b o e)).trans (un.keep b o e n j B),λb o e n j B=>let ⟨sl,q⟩:=un.slot b o e n j B;⟨sl,(F.2 b (z b o e)).trans q⟩,un.free,
  λb o e B=>let ⟨o',q⟩:=un.there b o e B;⟨o',(F.2 b (z b o e)).trans q⟩,un.tups,un.frzs,un.tbls⟩
 have Y:WJ X.prog X.w H' h':=λb u e=>by
  refine (J.hok b u e).stay (λc v M q=>(F.2 c ?_).trans q) (λ_ q=>q) λ_ _ q=>q;rintro rfl;rcases M with rfl|M
  .rw[Z] at e;cases e
  .rw[Z] at M;cases M
 have q:=Dm.call (s:=s) (h':=h') (g':=g) (d':=d) (t':=t) (ch:=fp) I S Y J.bare λb j=>⟨(L b j).2.2.2.1,(L b j).2.1,(L b j).2.2.2.2.1,(L b j).2.2.2.2.2⟩;exact q
end
def Tu {X:Cx} {NC own cs:List Str} {ix:List Nat} {g:TG} (hc:X.calm=true) (S:Dt X.env.scope scope) (hN:NC=own++cs) (ab:WS X scope cs ix)
  (hg:∀ q F fp,PG (Pf X NC scope q F fp) tg g) (ht:∀ q F fp,OX (Pf X NC scope q F fp) ifs tc) (he:∀ q F fp,PE (Pf X NC scope q F fp) elt te) {it:Addr} {tn:Nat->Heap->Prop} (I2:Dm X pins σ H2 s2) (T:Ug X.prog X.w X.K tg J fp it tn) (al:tn 0 s2.heap) (f2:∀ b∈fp,Hs X pins H2 b) {QQ:Addr->Hp->Prop} {E:Value->Shared->Prop}
  {RR:Value->Addr->Result->Shared->Prop}
  (h2:∀ p,H2 p=none->Nd g tc te own.length ix σ J p H2 (QQ p))
  (ax:∀ q F σ5 Y s6,Dm X pins σ F q->(∀ b∈fp,Hs X pins F b)->Dm (Pf X NC scope q F fp) [] σ5 Y s6->QQ s2.heap.objs.size Y->RR (.ref s2.heap.objs.size) q.heap.objs.size (.ok .next) s6) :
  wpAny (model X.prog X.w) X.A (newList []) (λae q=>wpAny (model X.prog X.w) X.A (newFunctionEnv scope X.env.globals (F5 X.env.cells scope.names []) [] X.env.qual none .none (some X.env)) (λL s4=>
   codeAny (model X.prog X.w) X.A (.compStart (.ListComp elt [⟨tg,iter,ifs,0⟩] scope pos) 0 (.ref it) ae { L with scope:=relabel scope X.env }) (RR ae L.locals) s4) E q) E s2:=by
 have af:∀ b∈fp,b<s2.heap.objs.size:=λb j=>let ⟨_,e,_⟩:=T.obj _ _ al b j;zAr e
 obtain⟨W,⟨m0,w0⟩,ap⟩:=h2 _ I2.fresh;refine wpAny_newObj_type ?_;have I3:Dm X pins σ (upd H2 s2.heap.objs.size (.lst [])) { s2 with heap:=s2.heap.push { cls:=.type "list",dict:=none,data:=.seq ([]:List Value).toArray } }:=I2.lnew (t':=s2.toks) .nil (zAu _);have Z:∀ b∈fp,Hs X pins (upd H2 s2.heap.objs.size (.lst [])) b:=λb j=>⟨by rw[Ag (zAx (af b j))];exact (f2 b j).1,(f2 b j).2⟩;have aq:tn 0 (s2.heap.push { cls:=.type "list",dict:=none,data:=.seq ([]:List Value).toArray }):=T.keep _ _ _ al λb j o e=>zAc _ e;have am:∀ b∈fp,b<(s2.heap.push { cls:=.type "list",dict:=none,data:=.seq ([]:List Value).toArray }).objs.size:=λb j=>by rw[zBR];exact zCd (af b j)
 refine wpAny_newFunctionEnv S.cell (λ_ z=>nomatch z) (λh4 an ac=>?_) S.kind
 dsimp only at an ac ⊢
 have ag:∀ b o,(s2.heap.push { cls:=.type "list",dict:=none,data:=.seq ([]:List Value).toArray }).get? b=some o->h4.get? b=some o:=λb o e=>
  ac.extBut b o (zAx (zAr e)) (zAc _ e)
 have J0:=Wh (t4:=s2.toks+([]:List (Str×Value)).length) I3 S hN ab Z am an ag;have aj:tn 0 h4:=T.keep _ _ _ aq λb j o e=>ag b o e;have fB:∀ {H':Hp},(∀ b∈fp,H' b=none)->∀ b∈fp,Hs (Pf X NC scope { s2 with heap:=s2.heap.push { cls:=.type "list",dict:=none,data:=.seq ([]:List Value).toArray } } (upd H2 s2.heap.objs.size (.lst [])) fp) [] H' b:=λhn b j=>by
  refine⟨hn b j,zAx (am b j),λz=>?_,.inl j,λx c e=>(Z b j).2.2.2.2.1 x c (Hm e),λp hp=>absurd (show p∈([]:List (Addr×Obj)) from hp) (by simp)⟩;rcases zAn.mp (I3.stkSub b z) with z|z
  .exact (Z b j).2.1 z
  .exact (Z b j).2.2.1 z
 have M:∀ s4:Shared,s4={ s2 with heap:=h4,toks:=s2.toks+([]:List (Str×Value)).length } ->
   codeAny (model X.prog X.w) X.A (.compLoop (.ListComp elt [⟨tg,iter,ifs,0⟩] scope pos) 0 (.ref it) (.ref s2.heap.objs.size) (compEnvC scope (F5 X.env.cells scope.names []) (s2.heap.push { cls:=.type "list",dict:=none,data:=.seq ([]:List Value).toArray }).objs.size X.env))
    (RR (.ref s2.heap.objs.size) (s2.heap.push { cls:=.type "list",dict:=none,data:=.seq ([]:List Value).toArray }).objs.size) s4:=by
  rintro s4 rfl;refine P2 (λn s'=>∃ i ys σ' H',Dm (Pf X NC scope { s2 with heap:=s2.heap.push { cls:=.type "list",dict:=none,data:=.seq ([]:List Value).toArray } } (upd H2 s2.heap.objs.size (.lst [])) fp) [] σ' H' s'/\tn i s'.heap/\(∀ b∈fp,H' b=none)/\W i n ys σ' H') ?_ m0
   ⟨0,[],_,_,J0,aj,λb j=>(Z b j).1,w0⟩
  rintro n s5 ⟨i,ys,σ5,Y,J5,ak,ai,w5⟩;obtain⟨a3,aw⟩:=ap i n ys σ5 Y w5;rcases aw with ⟨ao,qn⟩|⟨go,hz,step⟩
  .refine Bt (T.done (Pf X NC scope _ _ fp) rfl rfl rfl hc i [] s5 σ5 Y _ J5 (fB ai) ak ao) λr s6 ⟨hr,J6⟩=>.inl ⟨hr,?_⟩
   exact ax _ _ _ _ _ I3 Z J6 qn
  .refine Bt (T.item (Pf X NC scope _ _ fp) rfl rfl rfl hc i [] s5 σ5 Y _ J5 (fB ai) ak go) λr s6 ⟨u,hr,h6⟩=>.inr ⟨u,hr,?_⟩
   refine Bt h6 λ_ s7 ⟨x,H7,J7,r7,y7,U,a0⟩=>?_;have au:=J7.pinned (fB a0) (T.obj _ _ U);obtain⟨N,aa,q7⟩:=step x H7 y7;refine Bt (hg _ _ fp _ s7 σ5 H7 x u _ au r7 q7) λ_ s8 ⟨σ8,H8,J8,q8⟩=>?_;refine Bt (ht _ _ fp _ s8 σ8 H8 _ J8 q8) λok s9 ⟨H9,J9,q9⟩=>?_;have B:∀ {σa:St} {Ha:Hp} {sa:Shared} {ya:List V} {ma:Nat},Dm (Pf X NC scope { s2 with heap:=s2.heap.push { cls:=.type "list",dict:=none,data:=.seq ([]:List Value).toArray } } (upd H2 s2.heap.objs.size (.lst [])) fp) ([]++Pr fp s7.heap) σa Ha sa->ma<n->W (i+1) ma ya σa Ha ->
     ∃ m,m<n/\∃ i ys σ' H',Dm (Pf X NC scope { s2 with heap:=s2.heap.push { cls:=.type "list",dict:=none,data:=.seq ([]:List Value).toArray } } (upd H2 s2.heap.objs.size (.lst [])) fp) [] σ' H' sa/\tn i sa.heap/\(∀ b∈fp,H' b=none)/\W i m ys σ' H':=λ{σa Ha sa ya ma} Ja hm wa=>by
    refine⟨ma,hm,i+1,ya,σa,Ha,Ja.unpinned,T.keep _ _ _ U λb j o e=>(Ja.pin (b,o) (zAF _ (zAF _ (Ho j e)))).1,λb j=>?_,wa⟩;obtain⟨o,e,d⟩:=T.obj _ _ U b j;exact (Ja.pin (b,o) (zAF _ (zAF _ (Ho j e)))).2.1
   cases ok with
   |false=>
    obtain⟨m',hm,w'⟩:=aa _ _ _ (show N ys σ8 H9 from q9);exact .inr ⟨rfl,B J9 hm w'⟩
   |true=>
    refine .inl ⟨rfl,Bt (he _ _ fp _ s9 σ8 H9 _ J9 q9) λyv ar ⟨y,ad,as,ay,ah,az⟩=>?_⟩;obtain⟨m',hm,w'⟩:=aa _ _ _ az;refine Bt (Cm _ ar σ8 ad (.ref s2.heap.objs.size) [y] (.ref s2.heap.objs.size) [yv] (λ_ Hz=>Hz=upd ad s2.heap.objs.size (.lst (ys++[y]))) as rfl (.cons ay .nil) ⟨_,ys,y,rfl,rfl,ah,hz,rfl⟩) λ_ a4 ⟨_,a2,a1,_,av⟩=>?_;subst av;exact B a1 hm w'
 exact codeAny_compStart_list (M _ rfl) (T.self X.A 0 _ _ _ aj (M _ rfl))
def Cc {X:Cx} {NC own cs:List Str} {ix:List Nat} {g:TG} (hc:X.calm=true) (S:Dt X.env.scope scope) (hN:NC=own++cs) (z:WS X scope cs ix)
  (hi:PI X tg iter wi) (hg:∀ j q fp,PG (Pf X NC scope j q fp) tg g) (ht:∀ j q fp,OX (Pf X NC scope j q fp) ifs tc) (he:∀ j q fp,PE (Pf X NC scope j q fp) elt te)
  (hs:∀ x,foldedSetIterable iter X.env x=pure x:=by intro _;rfl):PE X (.ListComp elt [⟨tg,iter,ifs,0⟩] scope pos) (GV wi g tc te own.length ix):=by
 intro pins s σ H Q I h;rw[eval_ListComp];have L:∀ y∈scope.names,y.2=.free->∃ c,X.env.cells.lookup y.1=some c:=λy hy e=>I.ok.has y.1 (S.free y hy e);refine wpAny_comprehension_free (use:=none) rfl hs (Z1 L) S.kind S.own (Bt (hi pins s σ H _ I h) λv s1 h1=>Bt h1 λaa s2 F=>?_);obtain⟨it,fp,tn,J,H2,e,I2,T,Y,f2,F⟩:=F;subst e;refine Tu hc S hN z hg ht he I2 T Y f2 (QQ:=λp=>Q (.ref p)) (RR:=λU C=>compPost (model X.prog X.w) X.A X.xe none (EP X pins σ Q) U C) F λj q σ5 H5 s6 I3 f3 Z qn=>?_;obtain⟨m6,B,_⟩:=Z.loc;exact⟨m6,B,λh7 M=>⟨.ref s2.heap.objs.size,H5,Se I3 f3 Z M,rfl,qn⟩⟩
def Ef {X:Cx} {NC own cs:List Str} {ix:List Nat} {g:TG} {y:Str} {j:Nat} (Z:X.N.Nodup) (hj:X.N[j]?=some y) (Y:X.env.scope.names.lookup y=some .local) (hc:X.calm=true) (S:Dt X.env.scope scope) (hN:NC=own++cs) (U:WS X scope cs ix)
  (hi:PI X tg iter wi) (hg:∀ B L fp,PG (Pf X NC scope B L fp) tg g) (ht:∀ B L fp,OX (Pf X NC scope B L fp) ifs tc) (he:∀ B L fp,PE (Pf X NC scope B L fp) elt te)
  (ah:swapsWith (.ListComp elt [⟨tg,iter,ifs,0⟩] scope pos) (some (.Name y py)) spos.line X.env=pure true:=by rfl) (hs:∀ x,foldedSetIterable iter X.env x=pure x:=by intro _;rfl) :
  PS X (.Assign [.Name y py] (.ListComp elt [⟨tg,iter,ifs,0⟩] scope pos) spos) (BX (GV wi g tc te own.length ix) (Cg j)):=by
 intro pins s σ H D I h;rw[exec_Assign_Name_used _ _ _ _ ah];refine zCC (wpAny_standAt (zCC ?_));show wpAny _ X.A (comprehension (.ListComp elt [⟨tg,iter,ifs,0⟩] scope pos) scope X.env _ (newList []) false (eval iter X.env) (some (assign (.Name y py) X.env)) >>= λ_=>_) _ _ s;have ac:∀ y∈scope.names,y.2=.free->∃ c,X.env.cells.lookup y.1=some c:=λy Y e=>I.ok.has y.1 (S.free y Y e);refine zCC (Bt (wpAny_comprehension_free (use:=some (assign (.Name y py) X.env)) (Q:=λ_ s'=>SP X pins D .next s') rfl hs (Z1 ac) S.kind S.own (Bt (hi pins s σ H _ I h) λv s1 h1=>Bt h1 λai s2 h2=>?_)) λ_ s' hq=>zCD (zCD hq));obtain⟨it,fp,tn,J,H2,e,I2,T,af,f2,h2⟩:=h2;subst e;refine Tu hc S hN U hg ht he I2 T af f2 (QQ:=λp H'=>D.nx (σ.set j (some (.ref p))) H') (RR:=λae C=>compPost (model X.prog X.w) X.A X.xe (some (assign (.Name y py) X.env)) (λ_ s'=>SP X pins D .next s') ae C) h2 λB L σ5 H5 s6 F f3 J6 qn=>?_;obtain⟨m6,ab,_⟩:=J6.loc;have I6:=Se F f3 J6 (zBo.refl ..);show wpAny _ X.A (assign (.Name y py) X.env (.ref s2.heap.objs.size)) _ _ s6;refine wpAny_assign_Name (Tq (v:=.ref s2.heap.objs.size) I6 Z hj (.inl Y) rfl (λs7 I7 ⟨a,ad,M⟩=>?_) (.inr Y));have ag:B.heap.objs.size≠a:=by
  rcases M with M|M
  .rw[M];exact Ne.symm (zAx F.lt)
  .obtain⟨v,q⟩:=F.cell y a M
   exact Ne.symm (zAx q.lt)
 refine⟨m6,ab.sameBut ad ag,λh8 aa=>?_⟩;have nC:H5 B.heap.objs.size=none:=J6.free;have I8:Dm X pins (σ.set j (some (.ref s2.heap.objs.size))) H5 { s7 with heap:=h8,toks:=s7.toks }:=by
  refine I7.turned (it:=B.heap.objs.size) (λb o hb e=>(aa.2 b hb).trans e) nC (Ne.symm (zAx F.lt)) (.inr F.sz) (λx c e z=>?_) (λp hp z=>?_)
  .obtain⟨v,q⟩:=F.cell x c e
   exact absurd (z▸q.lt) (zBn _)
  .exact absurd (z▸zAr (F.pin p hp).1) (zBn _)
 exact⟨_,H5,I8,qn⟩
def Br {X:Cx}:Fn X (.builtin "isinstance") (λxs H Q=>∃ x c g t b,xs=[x,c]/\(∀ u,Ht c u->u=g)/\Hb X.K H x t/\zBh X.K t g=some b/\Q (.bl b) H):=by
 intro pins s σ H xs M Q I r h;obtain⟨x,c,g,t,b,rfl,B,ty,e,q⟩:=h;obtain⟨u,z,rfl,j,F⟩:=L0 r;cases B z F;exact N6 I j ty e λL=>⟨.bl b,H,I.tok L,rfl,q⟩
def Iu {n:String}:∀ u,Ht (.ty n) u->u=.type n:=λ_ h=>h
def JW {a:Addr}:∀ u,Ht (.ref a) u->u=.ref a:=λ_ h=>h
def Lg {X:Cx} (B:X.calm=true):Fn X (.builtin "sum") (λxs H Q=>∃ p,∃ ns:List Int,xs=[.ref p]/\Dl X.K H p (ns.map V.int)/\Q (.int ns.sum) H):=by
 intro pins s σ H xs Z Q I r h;obtain⟨p,ns,rfl,M,q⟩:=h;obtain⟨u,rfl,z⟩:=Jx r;cases z;obtain⟨g,L,F,hz⟩:=I.list M;have hi:IntsAre g ns:=Qf L;obtain⟨ys,j⟩:=hi.allInts.items;have hl:s.heap.IsList p (intItems ys):=j▸F.isList;have es:preSum (numAt ys) ys.size=ns.sum:=by
  have e1:=hi.numsOf;have e2:numsOf (intItems ys).toList=ns:=by rw[<- j];exact e1
  rw[nums_intItems] at e2;rw[preSum_eq,zBZ (by simp),e2]
 refine sum_intListG (I.ok.hd B) hl λh' Y S U=>?_;exact⟨.int ns.sum,H,I.kept U,⟨S,by rw[es]⟩,q⟩
def GK:List V->List V->Bool
 |[],[]=>true
 |x::xs,y::ys=>P3 x y&&GK xs ys
 |_,_=>false
def SQ (K:zAa) (te:TE) (tk:TE):TE:=λσ H Q=>te σ H λx H1=>tk σ H1 λk H2=>k=.int (-1)/\∃ a xs,x=.ref a/\Dl K H2 a xs/\∀ p,H2 p=none->Q (.ref p) (upd H2 p (.lst xs.reverse))
def KS {X:Cx} {e k:Expr} {te tk:TE} (U:PE X e te) (hk:PE X k tk):PE X (.Subscript e (.Slice none none (some k) p2) pos) (SQ X.K te tk):=by
 intro pins s σ H Q I h;refine Subscript_ (Bt (U pins s σ H _ I h) λv S ⟨x,H1,I1,r1,Y⟩=>?_);refine wpAny_Slice ?_;rw[evalPart_none];refine zCD (zCD ?_);rw[evalPart_some];refine Bt (hk pins S σ H1 _ I1 Y) λvk g ⟨z,H2,Z,r2,F,a,xs,ex,hx,q⟩=>?_;subst F ex;cases r1;obtain⟨t,rfl⟩:=r2;have j:Dm X pins σ H2 { g with heap:=g.heap.push { cls:=.type "slice",data:=.fields #[.none,.none,.int (-1) t] } }:=Z.kept (t':=g.toks) λb ob q=>zAc _ q;obtain⟨B,r,L,F⟩:=j.list hx;have M:=r.length;refine tail_any (ops:=[.ref a,.ref g.heap.objs.size]) L.isList.typeIs slot_list_getitem.lookup ?_ (by with_unfolding_all rfl);refine wpAny_getItem_list_slice L.isList (Heap.IsSliceOf.new ..) .none .none (.int (-1) t) (by decide) ?_ (by rw[zAh] <;> lia);refine⟨.ref _,_,j.laid (t':=g.toks) (o:=.lst xs.reverse) (λb ob q=>zAc _ q) (zAi _) ?_,rfl,q _ (j.hok.fresh (zAi _))⟩;refine⟨by rw[List.length_reverse];exact F,B.reverse,0,r.reverse,?_⟩;rw[PySem.W.krv_pick];exact zAv _ rfl
abbrev Dh (ix:List Nat) (σ:St):St:=ix.map λj=>(σ[j]?).getD none
def Hg {lo:Int} {n:Nat} {ix:List Nat} {QQ:Hp->Prop} {p:Addr} (g:Nat->List V->Hp->Prop) (h0:g 0 [] (upd H1 p (.lst [])))
  (hp:∀ i ys H,i<=n->g i ys H->H p=some (.lst ys)/\ys.length<=i) (hn:n<=sizeLine)
  (Y:∀ i ys H,i<n->g i ys H->tc (some (.int (lo+i))::Dh ix σ) H λb U=>if b=true then te (some (.int (lo+i))::Dh ix σ) U λy L=>L p=some (.lst ys) /\
   (some (.int (lo+i))::Dh ix σ)=(some (.int (lo+i))::Dh ix σ)/\g (i+1) (ys++[y]) (upd L p (.lst (ys++[y]))) else (some (.int (lo+i))::Dh ix σ)=(some (.int (lo+i))::Dh ix σ)/\g (i+1) ys U)
  (Z:∀ ys H,g n ys H->QQ H) :
  Nd (Cg 0) tc te 1 ix σ (R7 lo n) p H1 QQ:=by
 refine⟨λi m ys S B=>m=n-i/\i<=n/\(∃ o,S=o::Dh ix σ)/\g i ys B,⟨n,by simp,zAu _,⟨none,rfl⟩,h0⟩,?_⟩;rintro i m ys S B ⟨rfl,hi,⟨o,rfl⟩,pv⟩;obtain⟨F,aa⟩:=hp i ys B hi pv;refine⟨F,?_⟩;by_cases j:i<n
 .refine .inr ⟨j,by lia,λx H3 y=>?_⟩
  obtain⟨e,y⟩:=y;subst e y;exact⟨λz M H'=>M=(some (.int (lo+i))::Dh ix σ)/\g (i+1) z H',λz M H' ⟨e,q⟩=>⟨n-(i+1),by lia,rfl,j,⟨_,e⟩,q⟩,Y i ys _ j pv⟩
 .have e:i=n:=by lia
  subst e;exact .inl ⟨zAi _,Z ys B pv⟩
def Bi {K} {a} {xs} {tc} {te} {σ} {ix:List Nat} {QQ:Hp->Prop} {H1} {p} (g:Nat->List V->Hp->Prop) (h0:g 0 [] (upd H1 p (.lst [])))
  (hp:∀ i ys H,i<=xs.length->g i ys H->H p=some (.lst ys)/\ys.length<=i/\Dl K H a xs) (hn:xs.length<=sizeLine)
  (Z:∀ i x ys H,xs[i]?=some x->g i ys H->tc (some x::Dh ix σ) H λb Y=>if b=true then te (some x::Dh ix σ) Y λy M=>M p=some (.lst ys) /\
   (some x::Dh ix σ)=(some x::Dh ix σ)/\g (i+1) (ys++[y]) (upd M p (.lst (ys++[y]))) else (some x::Dh ix σ)=(some x::Dh ix σ)/\g (i+1) ys Y)
  (hd:∀ ys H,g xs.length ys H->QQ H) :
  Nd (Cg 0) tc te 1 ix σ (V3 K a) p H1 QQ:=by
 refine⟨λi m ys U F=>m=xs.length-i/\i<=xs.length/\(∃ o,U=o::Dh ix σ)/\g i ys F,⟨xs.length,by simp,zAu _,⟨none,rfl⟩,h0⟩,?_⟩;rintro i m ys U F ⟨rfl,hi,⟨o,rfl⟩,pv⟩;obtain⟨L,aa,j⟩:=hp i ys F hi pv;refine⟨L,?_⟩;by_cases B:i<xs.length
 .refine .inr ⟨⟨xs,xs[i],j,by simp [B]⟩,by lia,λx H3 y=>?_⟩
  obtain⟨e,y⟩:=y;subst e;exact⟨λz S H'=>S=(some x::Dh ix σ)/\g (i+1) z H',λz S H' ⟨e,q⟩=>⟨xs.length-(i+1),by lia,rfl,B,⟨_,e⟩,q⟩,Z i x ys _ (y xs j) pv⟩
 .have e:i=xs.length:=by lia
  subst e;exact .inl ⟨⟨xs,j,zAi _⟩,hd ys F pv⟩
structure HQ (P:Program) (w:World) (K:zAa) (mg:Str->Option Value) (base:Heap) (k:Nat) (x:Str) (ps:List Str) (sp:Sp):Prop where
 ex:∃ f fd,Lp P w K mg base Ec k f fd ps sp/\VW K fd ps []/\zAN K (.ref f)=true/\mg x=some (.ref f)
def Li {X:Cx} {k:Nat} {x:Str} {ps:List Str} {sp:Sp} {e:Expr} {es:List Expr} {p pos:Pos} {t:TA} (C:HQ X.prog X.w X.K X.mg X.base k x ps sp) (hr:VP k X.A) (j:Gl X x) (q:PA X (e::es) t)
  (g:(x==("__debug__" : Str))=false:=by decide) (he:starEach (e::es) X.env=(false,eval e X.env)::starEach es X.env:=by rfl) (hpl:(backTo pos (starEach es X.env)).any (·.1)=false:=by rfl) :
  PE X (.Call (.Name x p) (e::es) [] pos) (K1 sp [] E0 t):=by
 obtain⟨f,fd,F,b,z,B⟩:=C.ex;exact DO F hr j B z b .nil Qx q g he hpl
def PZ (mg:Str->Option Value) (x:Str) (i:Int):Prop:=∃ t,mg x=some (.int i t)
def OG (mg:Str->Option Value) (x:Str) (z:Str):Prop:=∃ t,mg x=some (.str z t)
def EH {X:Cx} {x:Str} {i:Int} (h:PZ X.mg x i) (g:Gl X x) (j:(x==("__debug__" : Str))=false:=by decide):PE X (.Name x pos) (tC (.int i)):=by
 obtain⟨t,e⟩:=h;exact Ol g e ⟨t,rfl⟩ j
def M4 {X:Cx} {x:Str} {i:Str} (h:OG X.mg x i) (g:Gl X x) (j:(x==("__debug__" : Str))=false:=by decide):PE X (.Name x pos) (tC (.str i)):=by
 obtain⟨t,e⟩:=h;exact Ol g e ⟨t,rfl⟩ j
def Ip {X:Cx} {x:Str} (T:String) (q:Gl X x) (j:X.mg x=none) (g:zCF x=some (.type T)) (z:x ≠ "__name__":=by decide) (hd:(x==("__debug__" : Str))=false:=by decide):PE X (.Name x pos) (tC (.ty T)):=
 FT (v:=.ty T) q j g rfl z hd
def X9 {X} {K} (h:X.K=K):MB X (JV K):=h▸EI
def Cr {X} {K} (h:X.K=K):Fn X (.builtin "len") (λxs H Q=>∃ p ys,xs=[.ref p]/\(Dl K H p ys\/Jy K H p ys)/\Q (.int ys.length) H):=h▸Vq
def Af {p:Addr} (h:H p=none) (o:HO):De H (upd H p o):=λb u q=>by rw[Ag (Ae q h)];exact q
def Dk {n:Nat} (h:n<=1000):n<=sizeLine:=zCg (T8 h)
def JL {ns:List Int} {i:Nat} {n:Int} (h:ns[i]?=some n):Oq (ns.map V.int) (i:Int)=some (.int n):=Ge (by rw[zAy,h];rfl)
def F7 {ns:List Int} {i:Int} (g:0<=i) (h:i<ns.length):Oq (ns.map V.int) i=some (.int (ns.getD i.toNat 0)):=by
 have e:((i.toNat:Nat):Int)=i:=by lia
 have q:=JL (ns:=ns) (i:=i.toNat) (n:=ns.getD i.toNat 0) (by rw[zAe (by lia),zAq,zAe (by lia)];rfl);rw[e] at q;exact q
example:zCF "int"=some (.type "int"):=by rfl
def DH (K:zAa) (a:Addr):It:=
 ⟨λi H=>∃ xs x,Dl K H a xs/\xs[i]?=some x,
   λi H x H'=>∃ t y,x=.ref t/\H t=none/\(∀ xs,Dl K H a xs->xs[i]?=some y)/\H'=upd H t (.tup [.int i,y]),
   λi H=>∃ xs,Dl K H a xs/\xs.length<=i⟩
def N3 {P} {w} {K} {ae} {k:Nat} {tp} (a e it:Addr) (ac:e≠it) :
  Ug P w K (.Tuple ae k tp) (DH K a) [e,it] e (λi h=>(∃ j,IsEnum h e it i j)/\h.IsListIter it a i) where
 mem:=by simp
 obj:=λi h st b g=>by
  obtain⟨⟨j,S⟩,o,ho,c,d⟩:=st;rcases zAn.mp g with rfl|g
  .exact⟨_,S,λv z=>by
    have z':Data.fields _=Data.cell v:=z;cases z'⟩
  .have eb:b=it:=by simpa using g
   subst eb;exact⟨o,ho,λv z=>by rw[d] at z;cases z⟩
 keep:=λi h h' st kk=>by
  obtain⟨⟨j,S⟩,B⟩:=st;exact⟨⟨j,kk e (by simp) _ S⟩,B.at λo x=>kk it (by simp) o x⟩
 item:=by
  intro X hP hw hK hc i pins s σ H E I hf st hg;subst hP hw hK;obtain⟨⟨j,S⟩,B⟩:=st;obtain⟨xs,x,hq,hx⟩:=hg;obtain⟨aj,rv,p,hz⟩:=I.list hq;obtain⟨u,hu,ru⟩:=rv.get hx;obtain⟨e0,e1,e2,e3,e4,e5⟩:=hf e (by simp);obtain⟨i0,i1,i2,i3,i4,i5⟩:=hf it (by simp);refine wpAny_pyNext_enum_item S B p.isList (x:=u) (by simpa using hu) ac λh1 ho ab hT ak hk=>⟨_,rfl,?_⟩;refine wpAny_letOwnedTupleGo_enum ho λh2 af ag=>?_;have M:zBo e h1 h2:=ag;have aa:e<s.heap.objs.size:=zAr S;have L:H s.heap.objs.size=none:=I.hok.fresh (zAi _);have up:∀ b o,b≠e->b≠it->s.heap.get? b=some o->h2.get? b=some o:=λb o h3 h4 q=>(M.2 b h3).trans (hk b o h3 h4 q);have F:∀ b,b∉[e,it]->b≠e/\b≠it:=λb g=>⟨λz=>g (by simp [z]),λz=>g (by simp [z])⟩;have U:∀ b o,H b=some o->b≠e/\b≠it:=λb o q=>⟨λz=>by (rw[z,e0] at q;cases q),λz=>by (rw[z,i0] at q;cases q)⟩;have ad:h2.get? s.heap.objs.size=some { cls:=.type "tuple",data:=.seq #[.int i s.toks,u] }:=(M.2 _ (zBz aa)).trans hT;have I1:Dm X pins σ (upd H s.heap.objs.size (.tup [.int i,x])) { s with heap:=h2,gens:=s.gens,drawn:=s.drawn,toks:=s.toks+1 }:=by
   refine I.step (ch:=[e,it]) (λb g=>?_) (λb o _ _ g q _=>up b o (F b g).1 (F b g).2 q) (λb o _ _ g q _=>⟨o.slots,up b o (F b g).1 (F b g).2 q⟩) (λb o _ q n=>by rw[Ag (zAx (zAr q))];exact n)
    (λb o g q=>⟨o,up b o (F b g).1 (F b g).2 q⟩) (λb xs q=>by rw[Ag (Ae q L)];exact q) (λb o u q=>by rw[Ag (Ae q L)];exact q) (λb ps q=>⟨#[],by rw[Ag (Ae q L),q];simp⟩)
    (λm hm=>?_) (λb o q=>?_) I.bare
   .rcases zAn.mp g with rfl|g
    .exact⟨e3,e1,e4,e5⟩
    .have eb:b=it:=by simpa using g
     subst eb;exact⟨i3,i1,i4,i5⟩
   .obtain⟨o,es,ep,ah,r⟩:=hm
    exact⟨o,es,ep,up _ o (Ne.symm e1) (Ne.symm i1) ah,r⟩
   .by_cases g:b=s.heap.objs.size
    .subst g
     rw[Aa] at q;cases q;exact⟨Dk (by show 2<=1000;decide),[.int i s.toks,u],.cons ⟨_,rfl⟩ (.cons ru .nil),_,ad,rfl,_,rfl⟩
    .rw[Ag g] at q
     refine (I.hok b o q).stay (λc v Y Z=>?_) (λc Z=>by rw[Ag (Ae Z L)];exact Z) (λc xs Z=>by rw[Ag (Ae Z L)];exact Z);rcases Y with rfl|Y
     .exact up _ v (U _ _ q).1 (U _ _ q).2 Z
     .exact up _ v (U _ _ Y).1 (U _ _ Y).2 Z
  refine⟨.ref s.heap.objs.size,_,I1,rfl,⟨_,x,rfl,L,λys hy=>by rw[I.list_inj hy hq];exact hx,rfl⟩,⟨⟨u,?_⟩,?_⟩,λb g=>?_⟩
  .have ei:((i+1:Nat):Int)=(i:Int)+1:=by lia
   rw[ei];exact af
  .exact ab.at λo q=>(M.2 it ac.symm).trans q
  .have ai:b<s.heap.objs.size:=by
    rcases zAn.mp g with rfl|g
    .exact aa
    .have eb:b=it:=by simpa using g
     subst eb;obtain⟨o,q,_⟩:=B;exact zAr q
   rw[Ag (zAx ai)];exact (hf b g).1
 done:=by
  intro X hP hw hK hc i pins s σ H E I hf st hg;subst hP hw hK;obtain⟨⟨j,S⟩,B⟩:=st;obtain⟨xs,hq,hx⟩:=hg;obtain⟨aj,rv,p,hz⟩:=I.list hq;obtain⟨i0,i1,i2,i3,i4,i5⟩:=hf it (by simp);have hl:=rv.length;exact wpAny_pyNext_enum_end (I.ok.hd hc) S B p.isList (by simp;lia) λh' eb=>⟨rfl,I.turned (t':=s.toks) (λb o g q=>eb b o g q) i0 i1 i3 i4 i5⟩
 self:=λ_ _ _ _ _ st h=>by
  obtain⟨⟨j,S⟩,_⟩:=st;exact wpAny_pyIter_enum S h
def PP (K:zAa) (ta:TA):TI:=λσ H R=>ta σ H λvs H1=>∃ a,vs=[.ref a]/\(∃ xs,Dl K H1 a xs)/\R (DH K a) H1
def Hv {X} {a} {ta} {p pos S} {z} {k:Nat} (hg:Gl X "enumerate") (hm:X.mg "enumerate"=none) (ha:PA X [a] ta) (hs:starEach [a] X.env=[(false,eval a X.env)]:=by rfl) :
  PI X (.Tuple z k S) (.Call (.Name "enumerate" p) [a] [] pos) (PP X.K ta):=by
 intro pins s σ H R I h;refine Call_ (Ev I hg hm (show zCF "enumerate"=some (.type "enumerate") from rfl) (PyProof.Rows.callWith_type1 (Bt (ha pos pins s σ H _ I h) λus j ⟨vs,H1,g,r1,M⟩=>?_) hs rfl));obtain⟨a,ev,⟨xs,hq⟩,q⟩:=M;subst ev;obtain⟨u,rfl,rx⟩:=Jx r1;cases rx;obtain⟨aa,rv,pl,hz⟩:=g.list hq;refine call_enumerate_list pl.isList λh' L B Y U=>?_;refine wpAny_pyIter_enum L ?_;have Z:Dm X pins σ H1 { j with heap:=h' }:=g.kept (t':=j.toks) U;refine⟨_,[j.heap.objs.size+1,j.heap.objs.size],_,_,H1,rfl,Z,N3 a _ _ (Nat.succ_ne_self _),⟨⟨_,L⟩,B⟩,λb F=>?_,q⟩;rcases zAn.mp F with rfl|F
 .exact g.fpOk (zBD _) (g.hok.fresh (zBD _))
 .have eb:b=j.heap.objs.size:=by simpa using F
  subst eb;exact g.fpOk (zAi _) (g.hok.fresh (zAi _))
def Cu {X} {K} {es} {k:Nat} {t} {n:Nat} {pos} (j:X.K=K) (g:X.calm=true) (h:OJ X es t)
  (q:(assignEach es X.env).length=n:=by rfl) (hst:(assignEach es X.env).findIdx? (·.1)=none:=by rfl):PG X (.Tuple es k pos) (Zq K n t):=j▸KF g h q hst
def Tz {K K'} {a} {xs} {tc} {te} {σ} {ix:List Nat} {QQ:Hp->Prop} {H1} {p} (g:Nat->List V->Hp->Prop) (h0:g 0 [] (upd H1 p (.lst [])))
  (hp:∀ i ys H,i<=xs.length->g i ys H->H p=some (.lst ys)/\ys.length<=i/\Dl K H a xs) (hn:xs.length<=sizeLine)
  (hs:∀ i x ys H t,xs[i]?=some x->g i ys H->H t=none->tc (some (.int i)::some x::Dh ix σ) (upd H t (.tup [.int i,x])) λb Z=>if b=true then te (some (.int i)::some x::Dh ix σ) Z λy Y=>Y p=some (.lst ys) /\
   (some (.int i)::some x::Dh ix σ)=(some (.int i)::some x::Dh ix σ)/\g (i+1) (ys++[y]) (upd Y p (.lst (ys++[y]))) else (some (.int i)::some x::Dh ix σ)=(some (.int i)::some x::Dh ix σ)/\g (i+1) ys Z)
  (hd:∀ ys H,g xs.length ys H->QQ H) :
  Nd (Zq K' 2 (Gw (Cg 0) (Gw (Cg 1) V2))) tc te 2 ix σ (DH K a) p H1 QQ:=by
 refine⟨λi m ys U L=>m=xs.length-i/\i<=xs.length/\(∃ o o',U=o::o'::Dh ix σ)/\g i ys L,⟨xs.length,by simp,zAu _,⟨none,none,rfl⟩,h0⟩,?_⟩;rintro i m ys U L ⟨rfl,hi,⟨o,o',rfl⟩,pv⟩;obtain⟨M,aa,j⟩:=hp i ys L hi pv;refine⟨M,?_⟩;by_cases B:i<xs.length
 .refine .inr ⟨⟨xs,xs[i],j,by simp [B]⟩,by lia,λx H3 y=>?_⟩
  obtain⟨t,z,ex,ht,hz,e3⟩:=y;subst ex e3;refine⟨λF S H'=>S=(some (.int i)::some z::Dh ix σ)/\g (i+1) F H',λF S H' ⟨e,q⟩=>⟨xs.length-(i+1),by lia,rfl,B,⟨_,_,e⟩,q⟩,?_⟩;exact⟨t,_,rfl,Jy.of Aa,rfl,_,_,rfl,_,_,rfl,rfl,hs i z ys L t (hz xs j) pv ht⟩
 .have e:i=xs.length:=by lia
  subst e;exact .inl ⟨⟨xs,j,zAi _⟩,hd ys L pv⟩
structure C3 (P:Program) (w:World) (K:zAa) (mg:Str->Option Value) (base:Heap) (k:Nat) (C:Addr) (m:Str) (ps:List Str) (sp:Sp):Prop where
 ex:∃ f fd,Lp P w K mg base Ec k f fd ps sp/\VW K fd ps []/\W2 K C m f
 cl:WZ K C
def Bo {X:Cx} {k:Nat} {C:Addr} {m:Str} {ps:List Str} {sp:Sp} {e o:Expr} {es:List Expr} {t:TA} {pl:Sem Bool} (M:C3 X.prog X.w X.K X.mg X.base k C m ps sp) (hr:VP k X.A) (z:PE X o ta) (q:PA X (e::es) t)
  (g:starEach (e::es) X.env=(false,eval e X.env)::starEach es X.env:=by rfl) (hpl:(backTo pos (starEach es X.env)).any (·.1)=false:=by rfl)
  (ht:eval (.Call (.Attribute o m apos) (e::es) [] pos) X.env=(do
   let ov <- eval o X.env
   standAt apos.atName
   let (f,first) <- holding [ov] (getMethod ov m pl)
   callWith pos f first (backTo pos (starEach (e::es) X.env)) (backToKw pos (keywordEach [] X.env))):=by rfl) :
  PE X (.Call (.Attribute o m apos) (e::es) [] pos) (Xz C m sp [] E0 ta t):=by
 obtain⟨f,fd,F,b,j⟩:=M.ex;exact EC z M.cl j F hr b .nil Qx q g hpl ht
structure O6 (P:Program) (w:World) (K:zAa) (mg:Str->Option Value) (base:Heap) (k:Nat) (x:Str) (C:Addr) (ps:List Str) (sp:Sp):Prop where
 ex:∃ f fd,Mk K C f/\Lp P w K mg base Ec k f fd ps sp/\VW K fd ps []/\mg x=some (.ref C)
def Ca {X:Cx} {k:Nat} {x:Str} {C:Addr} {ps:List Str} {sp:Sp} {e:Expr} {es:List Expr} {p pos:Pos} {t:TA} (M:O6 X.prog X.w X.K X.mg X.base k x C ps sp) (hr:VP (k+1) X.A) (z:Gl X x) (j:PA X (e::es) t)
  (g:(x==("__debug__" : Str))=false:=by decide) (he:starEach (e::es) X.env=(false,eval e X.env)::starEach es X.env:=by rfl) (hpl:(backTo pos (starEach es X.env)).any (·.1)=false:=by rfl) :
  PE X (.Call (.Name x p) (e::es) [] pos) (L7 C sp [] E0 t):=by
 obtain⟨f,fd,mk,F,b,q⟩:=M.ex;exact FP mk F hr z q b .nil Qx j g he hpl
def Db {X} {K} {o e} {es} {to} {t} {name} {apos cpos} {T id} {r:V->List V->Hp->VK->Prop} (q:X.K=K) (L:PlainAttrs T) (slot:Slot T name id) (j:typeOf (.builtin id)=pure (.type "method_descriptor")) (F:SW X id r) (z:PE X o to) (B:PA X (e::es) t)
  (g:attributeBase o name X.env (eval o X.env)=eval o X.env:=by rfl)
  (hfew:((backTo cpos (starEach (e::es) X.env)).all (λx => !x.1)&&(backToKw cpos (keywordEach [] X.env)).all (λx=>x.1.isSome)
   && decide ((e::es).length+([]:List Keyword).length+(if ([]:List Keyword).isEmpty then 0 else 1)<30))=true:=by rfl)
  (hline:(apos.endLine==cpos.line)=true:=by rfl) (hs:starEach (e::es) X.env=(false,eval e X.env)::starEach es X.env:=by rfl) (hplain:(backTo cpos (starEach es X.env)).any (·.1)=false:=by rfl) :
  PE X (.Call (.Attribute o name apos) (e::es) [] cpos) (UH K T r to t):=q▸NU L slot j F z B g hfew hline hs hplain
def Xh {P} {w} {K} {tg} (it:Addr) (lo:Int) (n:Nat):Ug P w K tg (R7 lo n) [it] it (λi h=>IsLongIter h it (lo+(i:Nat)*1) ((n:Int)-(i:Nat)) 1) where
 mem:=by simp
 obj:=λi h st b g=>by
  have e:b=it:=by simpa using g
  subst e;exact⟨_,st,λv z=>by
   have z':Data.fields _=Data.cell v:=z;cases z'⟩
 keep:=λi h h' st k=>k it (by simp) _ st
 item:=by
  intro X S B F L i pins s σ H E I q st U;subst S B F;obtain⟨f0,f1,f2,M,Y,Z⟩:=q it (by simp);have W:=Walks.longrange (prog:=X.prog) (w:=X.w) (I.ok.hd L) it lo 1 n;refine W.item i s _ _ U st λv h' tk hv j kk=>?_;obtain⟨t,rfl⟩:=hv;have I1:Dm X pins σ H { s with heap:=h',toks:=tk }:=I.turned (λb o g e=>kk b o (by simpa using g) e) f0 f1 M Y Z;refine⟨_,rfl,Xy (s:={ s with heap:=h',toks:=tk }) (n:="longrange_iterator") j rfl rfl (by decide) ⟨.int (lo+i),H,I1,⟨t,?_⟩,⟨rfl,rfl⟩,j,λb g=>(q b g).1⟩⟩;rw[Int.mul_one]
 done:=by
  intro X S B F L i pins s σ H E I q st U;subst S B F;obtain⟨f0,f1,f2,M,Y,Z⟩:=q it (by simp);exact wpAny_pyNext_long_end (I.ok.hd L) st (by have:n<=i:=U;lia) λh' eb=>⟨rfl,I.turned (t':=s.toks) (λb o g e=>eb b o g e) f0 f1 M Y Z⟩
 self:=λ_ _ _ _ _ st h=>wpAny_pyIter_longiter st h
def M7 {X:Cx} {s:Shared} {R:It->Hp->Prop} {E:Value->Shared->Prop} {lo hi:Int} {t u v:Tok} {tk:Nat} (I:Dm X pins σ H s)
  (q:R (R7 lo (hi-lo).toNat) H):wpAny (model X.prog X.w) X.A (pyIter (.ref s.heap.objs.size)) (SI X pins σ tg R) E { s with heap:=s.heap.push { cls:=.type "range",data:=.fields #[.int lo t,.int hi u,.int 1 v] },toks:=tk }:=by
 have g:Dm X pins σ H { s with heap:=s.heap.push { cls:=.type "range",data:=.fields #[.int lo t,.int hi u,.int 1 v] },toks:=tk }:=I.kept λb o e=>zAc _ e;have e1:lo+((0:Nat):Int)*1=lo:=by simp
 have e2:(((hi-lo).toNat:Nat):Int)-((0:Nat):Int)=Builtin.Range.rangeSize lo hi 1:=by rw[rangeSize_one];split <;> lia
 have fp:∀ b∈[(s.heap.push { cls:=.type "range",data:=.fields #[.int lo t,.int hi u,.int 1 v] }).objs.size],Hs X pins H b:=λb z=>by
  have e:b=(s.heap.push { cls:=.type "range",data:=.fields #[.int lo t,.int hi u,.int 1 v] }).objs.size:=by simpa using z
  subst e;exact g.fpOk (zAi _) (g.hok.fresh (zAi _))
 cases j:Builtin.Range.small lo hi 1 with
 |true=>
  refine wpAny_pyIter_range (IsRange.new ..) j ?_;refine⟨_,_,_,_,H,rfl,g.kept (t':=tk) λb o e=>zAc _ e,Qq _ lo (hi-lo).toNat,?_,fp,q⟩;show IsRangeIter _ _ (lo+((0:Nat):Int)*1) ((((hi-lo).toNat:Nat):Int)-((0:Nat):Int)) 1;rw[e1,e2];exact zAv _ rfl
 |false=>
  refine wpAny_pyIter_longrange (IsRange.new ..) j ?_;refine⟨_,_,_,_,H,rfl,g.kept (t':=tk) λb o e=>zAc _ e,Xh _ lo (hi-lo).toNat,?_,fp,q⟩;show IsLongIter _ _ (lo+((0:Nat):Int)*1) ((((hi-lo).toNat:Nat):Int)-((0:Nat):Int)) 1;rw[e1,e2];exact zAv _ rfl
def MO (ta:TA):TI:=λσ H R=>ta σ H λvs H1=>∃ i j:Int,vs=[.int i,.int j]/\R (R7 i (j-i).toNat) H1
def Sr {X:Cx} {a b:Expr} {p pos:Pos} (F:Gl X "range") (U:X.mg "range"=none) (M:PA X [a,b] ta) (g:starEach [a,b] X.env=[(false,eval a X.env),(false,eval b X.env)]:=by rfl) (hs2:starEach [b] X.env=[(false,eval b X.env)]:=by rfl) :
  PI X tg (.Call (.Name "range" p) [a,b] [] pos) (MO ta):=by
 intro pins s σ H R I h;refine Call_ (Ev I F U boot_range (PyProof.Rows.callWith_type1 (Bt (M pos pins s σ H _ I h) λus Z ⟨vs,H1,L,Y,B⟩=>?_) (by rw[g,hs2]) (by rw[hs2];rfl)));obtain⟨i,j,e,q⟩:=B;subst e;obtain⟨u,z,rfl,r,S⟩:=L0 Y;obtain⟨t,rfl⟩:=r;obtain⟨t',rfl⟩:=S;exact call_range_2 (M7 L q)
def tx (l:List Nat):Str:=⟨l.toArray⟩
def CJ (l:List Nat):(tx l).cps.toList=l:=rfl
def Ee (l:List Nat):(tx l).length=l.length:=by simp [tx,Str.length]
def Jw (x:Str):tx x.cps.toList=x:=by cases x;rfl
def Vn (l m:List Nat):tx l++tx m=tx (l++m):=by
 show (⟨l.toArray++m.toArray⟩:Str)=⟨(l++m).toArray⟩;rw[List.append_toArray]
def Ci (c:Nat):List Nat->List (List Nat)
 |[]=>[[]]
 |x::l=>if x=c then []::Ci c l else match Ci c l with
  |[]=>[[x]]
  |p::r=>(x::p)::r
theorem Qc {c:Nat}:∀ {l:List Nat},c∉l->Ci c l=[l]
 |[],_=>rfl
 |x::l,h=>by
  have h1:x≠c:=λe=>h (by rw[e];exact zAg);unfold Ci;rw[if_neg h1,Qc λz=>h (zAd _ z)]
theorem Sj {c:Nat}:∀ {p:List Nat} (l:List Nat),c∉p->Ci c (p++c::l)=p::Ci c l
 |[],l,_=>by
  show Ci c (c::l)=_;rw[Ci,if_pos rfl]
 |x::p,l,h=>by
  have h1:x≠c:=λe=>h (by rw[e];exact zAg);show Ci c (x::(p++c::l))=_;rw[Ci,if_neg h1,Sj l λz=>h (zAd _ z)]
theorem Qa {c:Nat}:∀ {ps},ps≠[]->(∀ p∈ps,c∉p.cps.toList)->Ci c (Str.join (tx [c]) ps).cps.toList=ps.map λp=>p.cps.toList
 |[],h,_=>absurd rfl h
 |[p],_,h=>Qc (h p zAg)
 |p::q::r,_,h=>by
  have ih:=Qa (ps:=q::r) (by simp) λz g=>h z (zAd _ g);have e:(Str.join (tx [c]) (p::q::r)).cps.toList=p.cps.toList++c::(Str.join (tx [c]) (q::r)).cps.toList:=by
   show (p++tx [c]++Str.join (tx [c]) (q::r)).cps.toList=_;show (p.cps++(tx [c]).cps++(Str.join (tx [c]) (q::r)).cps).toList=_;simp [tx]
  rw[e,Sj _ (h p zAg),ih];rfl
def U6 (l:List Nat) (c:Nat):Txt.split (tx l) (tx [c])=(Ci c l).map tx:=by
 have h1:=StrLaws.join_split (tx l) (tx [c]);have j:=StrLaws.split_free (tx l) c;have q:Txt.split (tx l) (tx [c])≠[]:=λz=>by
  have:=split_pos (tx l) (tx [c]);rw[z] at this;simp at this
 have g:=Qa q j;rw[h1,CJ] at g;rw[g,zBq]
 symm
 have:∀ ps:List Str,ps.map (tx ∘ λp=>p.cps.toList)=ps:=λps=>by
  induction ps with
  |nil=>rfl
  |cons p r ih=>rw[zAw,ih];show tx p.cps.toList::r=_;rw[Jw]
 exact this _
section
variable {X:Cx}
theorem Te:∀ (ps:List Str) (n:Nat),Fz (ps.map V.str) (strsFrom n ps)
 |[],_=>.nil
 |p::r,n=>.cons ⟨n,rfl⟩ (Te r (n+1))
def BN:MC X "str.split" (λx vs H Q=>∃ z y,x=.str z/\vs=[.str y]/\(y.length==0)=false/\z.length+2<=sizeLine/\∀ p,H p=none->Q (.ref p) (upd H p (.lst ((Txt.split z y).map V.str)))):=by
 intro pins s σ H x vs v Y Q I M U h;obtain⟨z,y,rfl,rfl,L,Z,q⟩:=h;obtain⟨t,rfl⟩:=M;obtain⟨w,rfl,S⟩:=U.one;obtain⟨u,rfl⟩:=S;have j:=split_le z y;have g:=q s.heap.objs.size I.fresh;unfold Txt.split at g j;cases h1:(decide (z.length<y.length)||decide (Builtin.Str.strKind z<Builtin.Str.strKind y)) with
 |false=>
  rw[h1] at g j;cases B:(Builtin.Str.occurrences z y 0 z.length (z.length+1)).isEmpty with
  |false=>
   rw[B] at g j;simp only [zBj,if_false] at g j;refine call_meets F.slot_str_split (typeIs_str _ _ _) F.entry_str_split (F.args_str_split_2 _ _) (meets_str_split_sep z y t u h1 L B (by lia) (by lia)) ?_;exact⟨.ref _,_,I.lnew (Te _ _) (by rw[zAb];lia),rfl,g⟩
  |true=>
   rw[B] at g;simp only [zBj,if_false,if_true] at g;refine call_meets F.slot_str_split (typeIs_str _ _ _) F.entry_str_split (F.args_str_split_2 _ _) (meets_str_split_not_found z y t u h1 L B) ?_;exact⟨.ref _,_,I.lnew (t':=s.toks) (ys:=[V.str z]) (.cons ⟨t,rfl⟩ .nil) (by show 1<=sizeLine;exact Dk (by decide)),rfl,g⟩
 |true=>
  rw[h1] at g;simp only [if_true] at g;refine call_meets F.slot_str_split (typeIs_str _ _ _) F.entry_str_split (F.args_str_split_2 _ _) (meets_str_split_cannot_occur z y t u h1) ?_;exact⟨.ref _,_,I.lnew (t':=s.toks) (ys:=[V.str z]) (.cons ⟨t,rfl⟩ .nil) (by show 1<=sizeLine;exact Dk (by decide)),rfl,g⟩
def P7:Kq X (compareOp .NotIn) (λx y H Q=>∃ c z,x=.str (tx [c])/\y=.str z/\Q (.bl (!decide (c∈z.cps.toList))) H):=by
 intro pins s σ H x y v u Q I g j h;obtain⟨c,z,rfl,rfl,q⟩:=h;refine Us pins s σ H _ _ v u Q I g j ⟨tx [c],z,rfl,rfl,?_⟩;rw[show (!(Builtin.Str.occurrences z (tx [c]) 0 z.length 1).isEmpty)=decide (c∈z.cps.toList) from StrLaws.found_one z c];exact q
def LX (x:Str):It:=⟨λi _=>i<x.cps.size,λi H v H'=>H'=H/\∃ c,x.cps[i]?=some c/\v=.str (tx [c]),λi _=>x.cps.size<=i⟩
def T6 {P} {w} {K} {tg} (x:Str) (t:Tok) (it:Addr):Ug P w K tg (LX x) [it] it (λi h=>h.IsStrIter it "str_ascii_iterator" x t i) where
 mem:=by simp
 obj:=λi h st b g=>by
  have e:b=it:=by simpa using g
  subst e;obtain⟨o,e,c,d⟩:=st;exact⟨o,e,λv z=>by rw[d] at z;cases z⟩
 keep:=λi h h' st k=>by
  obtain⟨o,e,c,d⟩:=st;exact⟨o,k it (by simp) o e,c,d⟩
 item:=by
  intro X M B F Z i pins s σ H E I q st S;subst M B F;obtain⟨f0,f1,f2,L,U,Y⟩:=q it (by simp);have hi:i<x.cps.size:=S;refine wpAny_pyNext_ascii_item st (c:=x.cps[i]) (by simp [hi]) λh' j sb=>?_;have I1:Dm X pins σ H { s with heap:=h',toks:=s.toks+1 }:=I.turned (λb o g e=>(sb.2 b g).trans e) f0 f1 L U Y;obtain⟨o,e,c,d⟩:=id j;exact⟨_,rfl,Xy (s:={ s with heap:=h',toks:=s.toks+1 }) e c d (by decide) ⟨.str (tx [x.cps[i]]),H,I1,⟨_,rfl⟩,⟨rfl,_,by simp [hi],rfl⟩,j,λb g=>(q b g).1⟩⟩
 done:=by
  intro X M B F Z i pins s σ H E I q st S;subst M B F;obtain⟨f0,f1,f2,L,U,Y⟩:=q it (by simp);have hi:x.cps.size<=i:=S;exact wpAny_pyNext_ascii_end (I.ok.hd Z) st (by simp;lia) λh' eb=>⟨rfl,I.turned (t':=s.toks) (λb o g e=>eb b o g e) f0 f1 L U Y⟩
 self:=λ_ _ _ _ _ st h=>wpAny_pyIter_striter_ascii st h
def P1 {P} {w} {K} {tg} (x:Str) (t:Tok) (it:Addr):Ug P w K tg (LX x) [it] it (λi h=>h.IsStrIter it "str_iterator" x t i) where
 mem:=by simp
 obj:=λi h st b g=>by
  have e:b=it:=by simpa using g
  subst e;obtain⟨o,e,c,d⟩:=st;exact⟨o,e,λv z=>by rw[d] at z;cases z⟩
 keep:=λi h h' st k=>by
  obtain⟨o,e,c,d⟩:=st;exact⟨o,k it (by simp) o e,c,d⟩
 item:=by
  intro X M B F Z i pins s σ H E I q st S;subst M B F;obtain⟨f0,f1,f2,L,U,Y⟩:=q it (by simp);have hi:i<x.cps.size:=S;refine wpAny_pyNext_wide_item st (c:=x.cps[i]) (by simp [hi]) λh' j sb=>?_;have I1:Dm X pins σ H { s with heap:=h',toks:=s.toks+1 }:=I.turned (λb o g e=>(sb.2 b g).trans e) f0 f1 L U Y;obtain⟨o,e,c,d⟩:=id j;exact⟨_,rfl,Xy (s:={ s with heap:=h',toks:=s.toks+1 }) e c d (by decide) ⟨.str (tx [x.cps[i]]),H,I1,⟨_,rfl⟩,⟨rfl,_,by simp [hi],rfl⟩,j,λb g=>(q b g).1⟩⟩
 done:=by
  intro X M B F Z i pins s σ H E I q st S;subst M B F;obtain⟨f0,f1,f2,L,U,Y⟩:=q it (by simp);have hi:x.cps.size<=i:=S;exact wpAny_pyNext_wide_end (I.ok.hd Z) st (by simp;lia) λh' eb=>⟨rfl,I.turned (t':=s.toks) (λb o g e=>eb b o g e) f0 f1 L U Y⟩
 self:=λ_ _ _ _ _ st h=>wpAny_pyIter_striter_wide st h
def SN (tl:TE):TI:=λσ H R=>tl σ H λx H1=>∃ z,x=.str z/\R (LX z) H1
def LN {tg l} {tl} (hl:PE X l tl):PI X tg l (SN tl):=by
 intro pins s σ H R I h;refine Bt (hl pins s σ H _ I h) λv g ⟨x,H1,j,M,L⟩=>?_;obtain⟨z,e,q⟩:=L;subst e;obtain⟨t,rfl⟩:=M;have fp:∀ b∈[g.heap.objs.size],Hs X pins H1 b:=λb F=>by
  have e:b=g.heap.objs.size:=by simpa using F
  subst e;exact j.fpOk (zAi _) (j.hok.fresh (zAi _))
 cases B:z.cps.all (· < 128) with
 |true=>exact wpAny_pyIter_ascii B ⟨g.heap.objs.size,[g.heap.objs.size],_,_,H1,rfl,j.kept (t':=g.toks) λb o e=>zAc _ e,T6 z t _,⟨_,zAv _ rfl,rfl,rfl⟩,fp,q⟩
 |false=>exact wpAny_pyIter_wide B ⟨g.heap.objs.size,[g.heap.objs.size],_,_,H1,rfl,j.kept (t':=g.toks) λb o e=>zAc _ e,P1 z t _,⟨_,zAv _ rfl,rfl,rfl⟩,fp,q⟩
def FN {l:List Nat} {g:TG} {tb:TS} {D:Mn} {σ:St} {H:Hp} (j:Nat->St->Hp->Prop) (Y:j 0 σ H)
  (M:∀ i c σ H,l[i]?=some c->j i σ H->g (.str (tx [c])) σ H λz F=>tb { D with nx:=j (i+1),ct:=j (i+1),bk:=D.nx } z F) (hd:∀ σ H,j l.length σ H->D.nx σ H) :
  ∃ W:Nat->Nat->St->Hp->Prop,(∃ m,W 0 m σ H)/\∀ i m σ H,W i m σ H ->
   ((LX (tx l)).stop i H/\D.nx σ H)\/((LX (tx l)).go i H/\∃ N:St->Hp->Prop,(∀ q H',N q H'->∃ L,L<m/\W (i+1) L q H')/\∀ x H',(LX (tx l)).yld i H x H'->g x σ H' λz F=>tb { D with nx:=N,ct:=N,bk:=D.nx } z F):=by
 have Z:(tx l).cps.size=l.length:=by simp [tx]
 refine⟨λi m σ H=>m=l.length-i/\i<=l.length/\j i σ H,⟨l.length,by simp,zAu _,Y⟩,?_⟩;rintro i m σ H ⟨rfl,hi,p⟩;by_cases B:i<l.length
 .refine .inr ⟨by show i<(tx l).cps.size;lia,j (i+1),λq H' U=>⟨l.length-(i+1),by lia,rfl,B,U⟩,λx H' y=>?_⟩
  obtain⟨e,c,S,y⟩:=y;subst e y;exact M i c σ _ (by simpa [tx] using S) p
 .have e:i=l.length:=by lia
  subst e;exact .inl ⟨by show (tx l).cps.size<=l.length;lia,hd σ H p⟩
def TK:V->Option Int->Option Int->Hp->VK->Prop:=λx lo hi H Q=>∃ z,x=.str z/\z.length<=sizeLine/\Q (.str (Txt.slice z lo hi)) H
def Zo:MJ X TK:=by
 intro pins s σ H x v vl vu lo hi sl Q I Z B pl U h;obtain⟨z,rfl,L,q⟩:=h;obtain⟨t,rfl⟩:=Z;refine⟨"str",_,F.slot_str_getitem.lookup,typeIs_str _ _ _,?_⟩;have g:∀ S k,EP X pins σ Q (.str (Txt.slice z lo hi) S) { s with toks:=k }:=λS k=>⟨.str _,H,I.tok k,⟨S,rfl⟩,q⟩;cases pl with
 |none=>
  cases U with
  |none=>exact wpAny_getItem_str_slice (l:=none) (u:=none) (st:=none) B rfl (post_val_or_str ⟨zAz (Txt.slice_le z _ _) L,g⟩)
  |int j M=>exact wpAny_getItem_str_slice (l:=none) (u:=some (j,M)) (st:=none) B rfl (post_val_or_str ⟨zAz (Txt.slice_le z _ _) L,g⟩)
 |int i Y=>
  cases U with
  |none=>exact wpAny_getItem_str_slice (l:=some (i,Y)) (u:=none) (st:=none) B rfl (post_val_or_str ⟨zAz (Txt.slice_le z _ _) L,g⟩)
  |int j M=>exact wpAny_getItem_str_slice (l:=some (i,Y)) (u:=some (j,M)) (st:=none) B rfl (post_val_or_str ⟨zAz (Txt.slice_le z _ _) L,g⟩)
end
def JJ {X:Cx} {x:Str} {C:Addr} (g:Gl X x) (j:X.mg x=some (.ref C)) (q:(x==("__debug__" : Str))=false:=by decide):PE X (.Name x pos) (tC (.ref C)):=Ol (v:=.ref C) g j rfl q
def Vz {l:List Nat} {i:Int} (g:0<=i) (h1:i<=l.length):Txt.slice (tx l) none (some i)=tx (l.take i.toNat):=by
 show StrLaws.sliceText (tx l) none (some i)=_;rw[StrLaws.sliceText_to ⟨g,h1⟩];show tx ((l.drop 0).take (i-0).toNat)=_;rw[List.drop_zero,Int.sub_zero]
section
theorem K4:∀ {ps} {its},Fz (ps.map V.str) its->∃ l:List (Str×Tok),its=strValues l/\l.map (·.1)=ps
 |[],its,h=>by cases h;exact⟨[],rfl,rfl⟩
 |p::r,its,h=>by
  cases h with
  |cons a b=>
   obtain⟨t,rfl⟩:=a;obtain⟨l,rfl,e⟩:=K4 b;exact⟨(p,t)::l,rfl,by rw[zAw,e]⟩
end
inductive D where
 |at (v:V)
 |seq (t:Bool) (ds:List D)
mutual
def Ma (K:zAa) (H:Hp):D->V->Prop
 |.at v,x=>x=v/\Dq v=true
 |.seq t ds,x=>∃ a xs,x=.ref a/\(t=true->Jy K H a xs)/\(t=false->Dl K H a xs)/\Reps K H ds xs
def Reps (K:zAa) (H:Hp):List D->List V->Prop
 |[],xs=>xs=[]
 |d::ds,xs=>∃ y ys,xs=y::ys/\Ma K H d y/\Reps K H ds ys
end
mutual
def N4:D->D->Bool
 |.at v,.at u=>P3 v u
 |.seq t ds,.seq u es=>t==u&&eqDs ds es
 |_,_=>false
def eqDs:List D->List D->Bool
 |[],[]=>true
 |d::ds,e::es=>N4 d e&&eqDs ds es
 |_,_=>false
end
mutual
def DP:D->Nat
 |.at _=>0
 |.seq _ ds=>deps ds+1
def deps:List D->Nat
 |[]=>0
 |d::ds=>max (DP d) (deps ds)
end
theorem Reps.len {K} {H}:∀ {ds} {xs},Reps K H ds xs->ds.length=xs.length
 |[],xs,h=>by unfold Reps at h;subst h;rfl
 |d::ds,xs,h=>by
  unfold Reps at h;obtain⟨y,ys,rfl,_,h⟩:=h;rw[zAf,zAf,Reps.len h]
def OF (ds es:List D) (j:Nat):Bool:=match ds[j]?,es[j]? with
 |some d,some e=>N4 d e
 |_,_=>true
theorem Pz:∀ {ds es},ds.length≠es.length->eqDs ds es=false
 |[],[],h=>absurd rfl h
 |[],_::_,_=>by unfold eqDs;rfl
 |_::_,[],_=>by unfold eqDs;rfl
 |d::ds,e::es,h=>by
  unfold eqDs;rw[Pz (ds:=ds) (es:=es) λq=>h (by rw[zAf,zAf,q]),zCs]
theorem Qw:∀ {ds es},ds.length=es.length->(zAO ds.length).all (OF ds es)=eqDs ds es
 |[],[],_=>by unfold eqDs;rfl
 |[],_::_,h=>by simp at h
 |_::_,[],h=>by simp at h
 |d::ds,e::es,h=>by
  have ih:=Qw (ds:=ds) (es:=es) (by simpa using h);unfold eqDs;rw[zAf,List.range_succ_eq_map,zCm,List.all_map,<- ih];rfl
def Xt {v:V} (h:Dq v=true):P3 v v=true:=by
 cases v <;> first|exact absurd (show false=true from h) zAk|rfl|simp [P3]
section
variable {X:Cx} {pins:List (Addr×Obj)} {σ:St} {H:Hp} {s:Shared}
def Ww {a:Addr} {xs ys:List V} (I:Dm X pins σ H s) (h1:Dl X.K H a xs) (g:Jy X.K H a ys):False:=by
 obtain⟨j,_,p,_⟩:=I.list h1;obtain⟨z,_,q,_⟩:=I.tuple g;exact SeqAt.ne_of_list_tuple p.isList q rfl
mutual
theorem Wo (I:Dm X pins σ H s):∀ (d e:D) (x:V),Ma X.K H d x->Ma X.K H e x->N4 d e=true
 |.at v,.at u,x,h1,g=>by
  unfold Ma at h1 g;obtain⟨rfl,f⟩:=h1;obtain⟨rfl,_⟩:=g;unfold N4;exact Xt f
 |.at v,.seq t ds,x,h1,g=>by
  unfold Ma at h1 g;obtain⟨rfl,f⟩:=h1;obtain⟨a,xs,rfl,_⟩:=g;exact absurd (show false=true from f) zAk
 |.seq t ds,.at u,x,h1,g=>by
  unfold Ma at h1 g;obtain⟨rfl,f⟩:=g;obtain⟨a,xs,rfl,_⟩:=h1;exact absurd (show false=true from f) zAk
 |.seq t ds,.seq u es,x,h1,g=>by
  unfold Ma at h1 g;obtain⟨a,xs,rfl,q,z,F⟩:=h1;obtain⟨b,ys,e,j,L,B⟩:=g;cases e;unfold N4;cases t with
  |true=>
   cases u with
   |true=>
    have e:=I.tuple_inj (q rfl) (j rfl);subst e;rw[reps_same I ds es xs F B];rfl
   |false=>exact (Ww I (L rfl) (q rfl)).elim
  |false=>
   cases u with
   |true=>exact (Ww I (z rfl) (j rfl)).elim
   |false=>
    have e:=I.list_inj (z rfl) (L rfl);subst e;rw[reps_same I ds es xs F B];rfl
theorem reps_same (I:Dm X pins σ H s):∀ (ds es:List D) (xs:List V),Reps X.K H ds xs->Reps X.K H es xs->eqDs ds es=true
 |[],[],_,_,_=>by unfold eqDs;rfl
 |[],e::es,xs,h1,g=>by
  unfold Reps at h1 g;subst h1;obtain⟨_,_,e,_⟩:=g;cases e
 |d::ds,[],xs,h1,g=>by
  unfold Reps at h1 g;subst g;obtain⟨_,_,e,_⟩:=h1;cases e
 |d::ds,e::es,xs,h1,g=>by
  unfold Reps at h1 g;obtain⟨y,ys,rfl,h1,q⟩:=h1;obtain⟨z,zs,e,g,j⟩:=g;cases e;unfold eqDs;rw[Wo I d _ y h1 g,reps_same I ds es ys q j];rfl
end
def U3 {A:Around} {v:V} {u:Value} {a:Addr} {its:Array Value} (f:Dq v=true) (r:Ht v u) (p:s.heap.IsList a its) (g:A.units<cLine):SeqAt.EqAt A s u (.ref a) false:=by
 cases v with
 |non=>cases r;exact .none_list p g
 |bl b=>cases r;exact .bool_list b p g
 |int i=>obtain⟨t,rfl⟩:=r;exact .int_list i t p g
 |str i=>obtain⟨t,rfl⟩:=r;exact .str_list i t p g
 |_=>exact absurd (show false=true from f) zAk
def X8 {A:Around} {v:V} {u:Value} {a:Addr} {its:Array Value} (f:Dq v=true) (r:Ht v u) (p:s.heap.IsTuple a its) (g:A.units<cLine):SeqAt.EqAt A s u (.ref a) false:=by
 cases v with
 |non=>cases r;exact .none_tuple p g
 |bl b=>cases r;exact .bool_tuple b p g
 |int i=>obtain⟨t,rfl⟩:=r;exact .int_tuple i t p g
 |str i=>obtain⟨t,rfl⟩:=r;exact .str_tuple i t p g
 |_=>exact absurd (show false=true from f) zAk
def Q7 {A:Around} {v:V} {u:Value} {a:Addr} {its:Array Value} (f:Dq v=true) (r:Ht v u) (p:s.heap.IsList a its) (g:A.units<cLine):SeqAt.EqAt A s (.ref a) u false:=by
 cases v with
 |non=>cases r;exact .list_none p g
 |bl b=>cases r;exact .list_bool b p g
 |int i=>obtain⟨t,rfl⟩:=r;exact .list_int i t p g
 |str i=>obtain⟨t,rfl⟩:=r;exact .list_str i t p g
 |_=>exact absurd (show false=true from f) zAk
def Y6 {A:Around} {v:V} {u:Value} {a:Addr} {its:Array Value} (f:Dq v=true) (r:Ht v u) (p:s.heap.IsTuple a its) (g:A.units<cLine):SeqAt.EqAt A s (.ref a) u false:=by
 cases v with
 |non=>cases r;exact .tuple_none p g
 |bl b=>cases r;exact .tuple_bool b p g
 |int i=>obtain⟨t,rfl⟩:=r;exact .tuple_int i t p g
 |str i=>obtain⟨t,rfl⟩:=r;exact .tuple_str i t p g
 |_=>exact absurd (show false=true from f) zAk
def E3 {A:Around} {its g:List Value} {e:Nat->Bool} (h:∀ j u v,its[j]?=some u->g[j]?=some v->SeqAt.EqAt A s u v (e j)):∀ j (h1:j<its.toArray.size) (q:j<g.toArray.size),SeqAt.EqAt A s its.toArray[j] g.toArray[j] (e j):=λj h1 q=>by
 rw[zAh] at h1 q;rw[List.getElem_toArray,List.getElem_toArray];exact h j _ _ (zAe h1) (zAe q)
def Xc {A:Around} {a b:Addr} {xs ys:List V} {ds es:List D} (I:Dm X pins σ H s) (F:A.units<cLine) (h1:Dl X.K H a xs) (S:Dl X.K H b ys) (U:Reps X.K H ds xs) (Y:Reps X.K H es ys)
  (h:∀ g q,Fz xs g->Fz ys q->∀ j u v,g[j]?=some u->q[j]?=some v->SeqAt.EqAt A.in1 s u v (OF ds es j)):SeqAt.RcAt A s (.ref a) (.ref b) (eqDs ds es)/\SeqAt.RcNeAt A s (.ref a) (.ref b) (!eqDs ds es):=by
 obtain⟨g,M,B,Z⟩:=I.list h1;obtain⟨q,L,p2,z2⟩:=I.list S;have l1:=M.length;have l2:=L.length;have m1:=U.len;have m2:=Y.len;by_cases hl:ds.length=es.length
 .rw[<- Qw hl,show ds.length=g.toArray.size by rw[zAh];lia]
  have z:g.toArray.size=q.toArray.size:=by rw[zAh,zAh];lia
  exact⟨SeqAt.RcAt.lists B.isList p2.isList z F (E3 (h g q M L)),SeqAt.RcNeAt.lists B.isList p2.isList z F (E3 (h g q M L))⟩
 .rw[Pz hl]
  have z:(g.toArray.size != q.toArray.size)=true:=by simp only [zAh,bne_iff_ne,ne_eq];lia
  exact⟨SeqAt.RcAt.lists_lengths B.isList p2.isList z F,SeqAt.RcNeAt.lists_lengths B.isList p2.isList z F⟩
def K7 {A:Around} {a b:Addr} {xs ys:List V} {ds es:List D} (I:Dm X pins σ H s) (L:A.units<cLine) (h1:Jy X.K H a xs) (M:Jy X.K H b ys) (S:Reps X.K H ds xs) (U:Reps X.K H es ys)
  (h:∀ g q,Fz xs g->Fz ys q->∀ j u v,g[j]?=some u->q[j]?=some v->SeqAt.EqAt A.in1 s u v (OF ds es j)):SeqAt.RcAt A s (.ref a) (.ref b) (eqDs ds es)/\SeqAt.RcNeAt A s (.ref a) (.ref b) (!eqDs ds es):=by
 obtain⟨g,B,F,Y⟩:=I.tuple h1;obtain⟨q,z,p2,z2⟩:=I.tuple M;have l1:=B.length;have Z:=z.length;have m1:=S.len;have m2:=U.len;have e:((zAO (min g.toArray.size q.toArray.size)).all (OF ds es)&&g.toArray.size==q.toArray.size)=eqDs ds es:=by
  rw[zAh,zAh];by_cases hl:ds.length=es.length
  .rw[<- Qw hl,show min g.length q.length=ds.length by lia,show g.length=q.length by lia]
   simp
  .rw[Pz hl]
   have:(g.length==q.length)=false:=by simp;lia
   rw[this,zCs]
 rw[<- e];exact⟨SeqAt.RcAt.tuples F p2 L (E3 (h g q B z)),SeqAt.RcNeAt.tuples F p2 L (E3 (h g q B z))⟩
mutual
theorem KI (I:Dm X pins σ H s):∀ (d e:D) (A:Around) (x y:V) (u v:Value),A.units+DP d+DP e<cLine->Ma X.K H d x->Ma X.K H e y->Ht x u->Ht y v->SeqAt.EqAt A s u v (N4 d e)
 |.at a,.at b,A,x,y,u,v,U,h1,j,B,F=>by
  unfold Ma at h1 j;obtain⟨rfl,f⟩:=h1;obtain⟨rfl,g⟩:=j;unfold N4;exact X7 B F f g
 |.at a,.seq t es,A,x,y,u,v,U,h1,j,B,F=>by
  unfold Ma at h1 j;obtain⟨rfl,f⟩:=h1;obtain⟨b,ys,rfl,S,l2,_⟩:=j;cases F;unfold N4;cases t with
  |true=>obtain⟨_,_,p,_⟩:=I.tuple (S rfl);exact X8 f B p (by lia)
  |false=>obtain⟨_,_,p,_⟩:=I.list (l2 rfl);exact U3 f B p.isList (by lia)
 |.seq t ds,.at b,A,x,y,u,v,U,h1,j,B,F=>by
  unfold Ma at h1 j;obtain⟨rfl,f⟩:=j;obtain⟨a,xs,rfl,Y,Z,_⟩:=h1;cases B;unfold N4;cases t with
  |true=>obtain⟨_,_,p,_⟩:=I.tuple (Y rfl);exact Y6 f F p (by lia)
  |false=>obtain⟨_,_,p,_⟩:=I.list (Z rfl);exact Q7 f F p.isList (by lia)
 |.seq t ds,.seq t' es,A,x,y,u,v,U,h1,j,B,F=>by
  have k1:=h1;have k2:=j;unfold Ma at h1 j;obtain⟨a,xs,rfl,Y,Z,r1⟩:=h1;obtain⟨b,ys,rfl,S,l2,r2⟩:=j;cases B;cases F;unfold DP at U;have M:A.in1.units+deps ds+deps es<cLine:=by rw[Around.in1_units];lia
  have z:A.units<cLine:=by lia
  by_cases L:a=b
  .subst L
   rw[Wo I _ _ _ k1 k2];exact .same _
  .unfold N4
   cases t with
   |true=>
    cases t' with
    |true=>exact .of_refs L (K7 I z (Y rfl) (S rfl) r1 r2 (reps_at I ds es A.in1 xs ys M r1 r2)).1
    |false=>
     obtain⟨_,_,p,_⟩:=I.tuple (Y rfl);obtain⟨_,_,q,_⟩:=I.list (l2 rfl);exact .tuple_list p q.isList z
   |false=>
    cases t' with
    |true=>
     obtain⟨_,_,p,_⟩:=I.list (Z rfl);obtain⟨_,_,q,_⟩:=I.tuple (S rfl);exact .list_tuple p.isList q z
    |false=>exact .of_refs L (Xc I z (Z rfl) (l2 rfl) r1 r2 (reps_at I ds es A.in1 xs ys M r1 r2)).1
theorem reps_at (I:Dm X pins σ H s):∀ (ds es:List D) (A:Around) (xs ys:List V),A.units+deps ds+deps es<cLine->Reps X.K H ds xs->Reps X.K H es ys ->
  ∀ g B,Fz xs g->Fz ys B->∀ j u v,g[j]?=some u->B[j]?=some v->SeqAt.EqAt A s u v (OF ds es j)
 |[],es,A,xs,ys,U,h1,q,g,B,L,F,j,u,v,e1,e2=>by
  unfold Reps at h1;subst h1;cases L;simp at e1
 |d::ds,[],A,xs,ys,U,h1,q,g,B,L,F,j,u,v,e1,e2=>by
  unfold Reps at q;subst q;cases F;simp at e2
 |d::ds,e::es,A,xs,ys,U,h1,q,g,B,L,F,j,u,v,e1,e2=>by
  unfold Reps at h1 q;obtain⟨y,S,rfl,k1,r1⟩:=h1;obtain⟨z,M,rfl,k2,r2⟩:=q;unfold deps at U;cases L with
  |cons Z t1=>
   cases F with
   |cons rv Y=>
    cases j with
    |zero=>
     simp only [List.getElem?_cons_zero,Option.some.injEq] at e1 e2;subst e1 e2;exact KI I d e A y z _ _ (by lia) k1 k2 Z rv
    |succ j=>
     simp only [List.getElem?_cons_succ] at e1 e2;exact reps_at I ds es A S M (by lia) r1 r2 _ _ t1 Y j u v e1 e2
end
end
section
variable {X:Cx}
def NB (K:zAa) (neg:Bool):R2:=λx y H Q=>∃ t ds es,Ma K H (.seq t ds) x/\Ma K H (.seq t es) y/\deps ds+deps es<=40/\Q (.bl (if neg then !eqDs ds es else eqDs ds es)) H
def SO {X:Cx} (g:Bool) (hu:X.A.units+64<cLine):Kq X (compareOp (if g then .NotEq else .Eq)) (NB X.K g):=by
 intro pins s σ H x y v u Q I S ry h;obtain⟨t,ds,es,h1,M,hd,q⟩:=h;unfold Ma at h1 M;obtain⟨a,xs,rfl,Y,Z,L⟩:=h1;obtain⟨b,ys,rfl,U,l2,F⟩:=M;cases S;cases ry;have j:X.A.in1.units+deps ds+deps es<cLine:=by rw[Around.in1_units];lia
 have B:X.A.units<cLine:=by lia
 have z:SeqAt.RcAt X.A s (.ref a) (.ref b) (eqDs ds es)/\SeqAt.RcNeAt X.A s (.ref a) (.ref b) (!eqDs ds es):=by
  cases t with
  |true=>exact K7 I B (Y rfl) (U rfl) L F (reps_at I ds es X.A.in1 xs ys j L F)
  |false=>exact Xc I B (Z rfl) (l2 rfl) L F (reps_at I ds es X.A.in1 xs ys j L F)
 cases g with
 |true=>exact z.2 X.prog X.w _ _ ⟨.bl (!eqDs ds es),H,I,rfl,q⟩
 |false=>exact z.1 X.prog X.w _ _ ⟨.bl (eqDs ds es),H,I,rfl,q⟩
def Mf {K} (j:X.A.units+64<cLine) (g:X.K=K:=by rfl):Kq X (compareOp .NotEq) (NB K true):=g▸SO true j
def FR {k:Nat} {A:Around} (hr:VP k A):A.units+64<cLine:=hr.units
def FG {K} (h:X.K=K):MB X (LI K):=h▸KC
end
structure HP (K:zAa) (B:Addr) (m:Str) (f:Addr):Prop where
 ga:zCc K (.ref B) "__getattribute__"=some (some (.builtin "type.__getattribute__"))
 rd:PySem.W.readsIn K B (.type "type")=true
 fc:PySem.W.findCls K (.ref B) (.type "type") m=some (.val (.ref f))
 kp:zAN K (.ref f)=true
section
variable {X:Cx} {k:Nat} {m x:Str} {ps:List Str} {sp:Sp} {e:Expr} {es:List Expr} {p apos pos:Pos} {t:TA} {W:St->XK}
def Wg {A:Around} {E:Value->Shared->Prop} {s:Shared} {B g:Addr} {pl:Sem Bool} {Q:Value×List Value->Shared->Prop} (I:Dm X pins σ H s) (Z:HP X.K B m g) (h:Q (.ref g,[]) { s with toks:=s.toks+1 }) :
  wpAny (model X.prog X.w) A (getMethod (.ref B) m pl) Q E s:=PySem.W.method_cls I.kIn Z.ga (PySem.W.cls_value I.kIn Z.rd Z.fc rfl h)
structure JE (P:Program) (w:World) (K:zAa) (mg:Str->Option Value) (base:Heap) (k:Nat) (x m:Str) (ps:List Str) (sp:Sp):Prop where
 ex:∃ B f fd,Lp P w K mg base Ec k f fd ps sp/\VW K fd ps []/\HP K B m f/\mg x=some (.ref B)
def Po {pl:Sem Bool} (C:JE X.prog X.w X.K X.mg X.base k x m ps sp) (hr:VP k X.A) (z:Gl X x) (L:PA X (e::es) t) (g:(x==("__debug__" : Str))=false:=by decide)
  (hst:starEach (e::es) X.env=(false,eval e X.env)::starEach es X.env:=by rfl) (hpl:(backTo pos (starEach es X.env)).any (·.1)=false:=by rfl)
  (ht:eval (.Call (.Attribute (.Name x p) m apos) (e::es) [] pos) X.env=(do
   let ov <- eval (.Name x p) X.env
   standAt apos.atName
   let (f,first) <- holding [ov] (getMethod ov m pl)
   callWith pos f first (backTo pos (starEach (e::es) X.env)) (backToKw pos (keywordEach [] X.env))):=by rfl) :
  PE X (.Call (.Attribute (.Name x p) m apos) (e::es) [] pos) (K1 sp [] E0 t):=by
 intro pins s σ H Q I h;obtain⟨B,f,fd,F,b,Z,M⟩:=C.ex;refine zBM (pl:=pl) (Hq I z M ?_ g) ht;refine Wg I Z ?_;have S:=I.tok (s.toks+1);refine zBV (first:=[]) (h₀:=X.base) I.ok.mod.kin Z.kp (Bt (L pos pins _ σ H _ S h) λus U ⟨vs,Y,j,r,q⟩=>⟨j.kIn,?_⟩) hst hpl;exact Ox (us:=us) (vs:=vs) F hr b .nil Qx j r q
def II (Fam:Addr->Prop) (m:Str) (sp:Addr->Sp) (ta:TE) (t:TA):TE:=λσ H Q=>ta σ H λx H1=>∃ a C dx fs,x=.ref a/\H1 a=some (.ins C dx fs)/\Fam C/\fs.lookup m=none/\t σ H1 λvs H2=>sp C (.ref a::vs) H2 Q E0
structure Q4 (P:Program) (w:World) (K:zAa) (mg:Str->Option Value) (base:Heap) (k:Nat) (Fam:Addr->Prop) (m:Str) (ps:List Str) (sp:Addr->Sp):Prop where
 ex:∀ C,Fam C->C3 P w K mg base k C m ps (sp C)
def Fb {Fam:Addr->Prop} {g:Addr->Sp} {o:Expr} {pl:Sem Bool} (M:Q4 X.prog X.w X.K X.mg X.base k Fam m ps g) (hr:VP k X.A) (he:PE X o ta) (ha:PA X (e::es) t)
  (j:starEach (e::es) X.env=(false,eval e X.env)::starEach es X.env:=by rfl) (hpl:(backTo pos (starEach es X.env)).any (·.1)=false:=by rfl)
  (ht:eval (.Call (.Attribute o m apos) (e::es) [] pos) X.env=(do
   let ov <- eval o X.env
   standAt apos.atName
   let (f,first) <- holding [ov] (getMethod ov m pl)
   callWith pos f first (backTo pos (starEach (e::es) X.env)) (backToKw pos (keywordEach [] X.env))):=by rfl) :
  PE X (.Call (.Attribute o m apos) (e::es) [] pos) (II Fam m g ta t):=by
 intro pins s σ H Q I h;refine zBM (pl:=pl) (Bt (he pins s σ H _ I h) λu Y ⟨x,H1,z,Z,a,C,dx,fs,ex,ea,B,l,q⟩=>?_) ht;subst ex;obtain rfl:u=Value.ref a:=Z;obtain⟨f,fd,F,b,L⟩:=(M.ex C B).ex;refine Hh z ea (M.ex C B).cl L l ?_;refine zBV (first:=[.ref a]) (h₀:=X.base) I.ok.mod.kin L.kp (Bt (ha pos pins Y σ H1 _ z q) λus s2 ⟨vs,H2,S,r,U⟩=>⟨S.kIn,?_⟩) j hpl;exact Ox (us:=.ref a::us) (vs:=.ref a::vs) F hr b .nil Qx S (.cons rfl r) (by rw[zAL];exact U)
end
def OA (K:zAa) (mg:Str->Option Value) (x:Str) (xs:List V):Prop:=∃ a,mg x=some (.ref a)/\∀ H,Jy K H a xs
def EB {X:Cx} {x:Str} {xs:List V} (h:OA X.K X.mg x xs) (z:Gl X x) (g:(x==("__debug__" : Str))=false:=by decide):PE X (.Name x pos) (λ_ H Q=>∀ a,Jy X.K H a xs->Q (.ref a) H):=by
 obtain⟨a,e,j⟩:=h;exact λ_ _ _ H _ I q=>Hq I z e ⟨.ref a,H,I,rfl,q a (j H)⟩ g
section
theorem D7 {z:Str} {B:Nat}:∀ {ps},(∀ y∈ps,y.length<=B)->(Str.join z ps).length<=ps.length*(B+z.length)
 |[],_=>by show 0<=_;lia
 |[x],h=>by
  have:=h x zAg;show x.length<=1*(B+z.length)
  lia
 |x::y::r,h=>by
  have h1:=h x zAg;have ih:=D7 (z:=z) (B:=B) (ps:=y::r) λq g=>h q (zAd _ g);show (x++z++Str.join z (y::r)).length<=_;have j:(x++z++Str.join z (y::r)).length=x.length+z.length+(Str.join z (y::r)).length:=by
   show (x.cps++z.cps++(Str.join z (y::r)).cps).size=_;rw[zCe,zCe];rfl
  rw[j];have e:(x::y::r).length*(B+z.length)=(y::r).length*(B+z.length)+(B+z.length):=by rw[zAf,Nat.succ_mul]
  lia
end
structure UN (K:zAa) (mg:Str->Option Value) (x:Str) (C:Addr):Prop where
 makes:zCp K C=true
 init:zAK K (.ref C) "__init__"=some (some (.builtin "object.__init__"))
 kp:zAN K (.ref C)=true
 at_:mg x=some (.ref C)
def SR (C:Addr):TE:=λ_ H Q=>∀ y dx,H y=none->H dx=none->dx≠y->Q (.ref y) (upd (upd H dx (.own y)) y (.ins C dx []))
def FO {X:Cx} {x:Str} {C:Addr} {p pos:Pos} (M:UN X.K X.mg x C) (F:Gl X x) (q:(x==("__debug__" : Str))=false:=by decide):PE X (.Call (.Name x p) [] [] pos) (SR C):=by
 intro pins s σ H Q I h;refine wpAny_Call_Name_kw (Hq I F M.at_ ?_ q);refine PySem.W.callWith_K0 I.kIn M.kp (wpAny_call (U8 I.kIn M.makes M.init (λj=>PySem.W.Looks.of_pure (PySem.W.oi_bind j)) ?_));have U:=h (s.heap.objs.size+1) s.heap.objs.size (I.hok.fresh (zBD _)) (I.hok.fresh (zAi _)) (zAx (zBS _));have S:=Dm.made (C:=C) I;have Y:=PySem.W.makes_of (M:=model X.prog X.w) I.kIn M.makes;have L:((s.heap.push zAR).push (zBb C s.heap.objs.size)).get? (s.heap.objs.size+1)=some (zBb C s.heap.objs.size):=by
  have e:(s.heap.push zAR).objs.size=s.heap.objs.size+1:=by rw[zBR]
  rw[<- e];exact zAv _ rfl
 have Z:PySem.W.Looks (model X.prog X.w) ((s.heap.push zAR).push (zBb C s.heap.objs.size)) (typeOf (.ref (s.heap.objs.size+1))) (.ref C):=(PySem.W.Looks.ld L).andThen .now;have B:PySem.W.Looks (model X.prog X.w) ((s.heap.push zAR).push (zBb C s.heap.objs.size)) (isInstance (.ref (s.heap.objs.size+1)) (.type "object")) true:=Z.andThen (Y.top.keeps λb o e=>zAc _ (zAc _ e));obtain⟨z,g,d,t,os⟩:=s;refine codeAny_call_builtin PySem.W.oi_plain PySem.W.entry_oi (@PySem.W.check_slot (model X.prog X.w) _ _ _ "object.__init__" "object" "__init__" (.ref (z.objs.size+1)) [] [] _ PySem.W.oi_kind PySem.W.oi_split B (PySem.W.oi_args (.ref (z.objs.size+1))) ?_);rw[PySem.W.oi_run];exact zCD (And.intro rfl ⟨V.ref (z.objs.size+1),_,S,rfl,U⟩)
end L2
namespace CRS
open PySem PySem.W PyProof.Rows
def run {α:Type} (lt:Nat->Nat->Bool) (V:Nat->Prop):KasT α->(α->Prop)->Prop
 |.ret a,Q=>Q a
 |.ask i j k,Q=>V i/\V j/\run lt V (k (lt i j)) Q
section
variable {lt:Nat->Nat->Bool} {V:Nat->Prop}
theorem He {α β:Type} {f:α->KasT β} {Q:β->Prop}:∀ t:KasT α,run lt V t (λa=>run lt V (f a) Q)->run lt V (t.bind f) Q
 |.ret a,h=>h
 |.ask i j k,⟨h1,g,q⟩=>⟨h1,g,He (k (lt i j)) q⟩
theorem run_wp {α:Type} {g:Nat->Nat->(Bool->Shared->Prop)->Shared->Prop} {s:Shared} (q:∀ i j (C:Bool->Shared->Prop),V i->V j->C (lt i j) s->g i j C s) {Q:α->Prop} {G:α->Shared->Prop} (z:∀ a,Q a->G a s) :
  ∀ t:KasT α,run lt V t Q->t.kasWp g G s
 |.ret a,h=>z a h
 |.ask i j k,⟨h1,B,F⟩=>q i j _ h1 B (run_wp q z (k (lt i j)) F)
def Ej {α:Type} {c:Prop} {g} {t u} {Q:α->Prop} (h1:c->run lt V t Q) (j:¬ c->run lt V u Q):run lt V (@ite _ c g t u) Q:=by
 by_cases h:c
 .rw[if_pos h];exact h1 h
 .rw[if_neg h];exact j h
end
section
variable {O:KeyOrd} {key:Nat->O.α} {N:Nat}
abbrev ltK (key:Nat->O.α):Nat->Nat->Bool:=λi j=>O.blt (key i) (key j)
def kk (key:Nat->O.α) (p:Array Nat) (i:Nat):O.α:=key (p.getD i 0)
def Pm (N:Nat) (p:Array Nat):Prop:=p.Perm (zAO N).toArray
def Up (key:Nat->O.α) (p:Array Nat) (m:Nat):Prop:=∀ i j,i<=j->j<m->O.kle (kk key p i) (kk key p j)
def Dn (key:Nat->O.α) (p:Array Nat) (m:Nat):Prop:=∀ i j,i<=j->j<m->O.kle (kk key p j) (kk key p i)
def Pm.size {p:Array Nat} (h:Pm N p):p.size=N:=by rw[h.size_eq];simp
set_option tactic.hygienic true in
def Pm.lt {p:Array Nat} (h:Pm N p) (j:0<N) (i:Nat):p.getD i 0<N:=by
 unfold zBP
 split
 .rename_i hi
  have m:p[i]∈p.toList:=by simp
  have g:=(zBA.mp h).mem_iff.mp m
  simpa using g
 .exact j
def Pm.rev {p:Array Nat} (h:Pm N p) (i j:Nat):Pm N (kas_rev p i j):=(mirror_perm p i j _).trans h
def Pm.bub {p:Array Nat} (h:Pm N p) (i j:Nat):Pm N (bubble p i j):=(bubble_perm p i j).trans h
def Ks {p q:Array Nat} {i j:Nat} (h:p[i]?=q[j]?):p.getD i 0=q.getD j 0:=by
 have e:∀ (r:Array Nat) (k:Nat),r.getD k 0=(r[k]?).getD 0:=λr k=>by
  by_cases g:k<r.size <;> simp [zBP,g]
 rw[e,e,h]
def Zu {p:Array Nat} {i j:Nat} (g:j<=p.size) (k:Nat):kk key (kas_rev p i j) k=if i<=k/\k<j then kk key p (i+j-1-k) else kk key p k:=by
 have e:=getElem?_mirror_all (xs:=p) (i:=i) g k;unfold kk kas_rev;by_cases c:i<=k/\k<j
 .rw[if_pos c] at e ⊢;rw[Ks e]
 .rw[if_neg c] at e ⊢;rw[Ks e]
def IR {p:Array Nat} {b d:Nat} (g:b<p.size) (j:d<=b) (k:Nat):kk key (bubble p b d) k=if k=b-d then kk key p b else if b-d<k/\k<=b then kk key p (k-1) else kk key p k:=by
 have e:=getElem?_bubble g d j k;unfold kk;by_cases c:k=b-d
 .rw[if_pos c] at e ⊢;rw[Ks e]
 .rw[if_neg c] at e ⊢
  by_cases c2:b-d<k/\k<=b
  .rw[if_pos c2] at e ⊢;rw[Ks e]
  .rw[if_neg c2] at e ⊢;rw[Ks e]
def Ub {p:Array Nat} {i j:Nat} (g:j<=p.size) (h:∀ k,i<=k->k<j->kk key p k=kk key p (j-1)) (k:Nat):kk key (kas_rev p i j) k=kk key p k:=by
 rw[Zu g];by_cases c:i<=k/\k<j
 .rw[if_pos c,h _ (by lia) (by lia),h k c.1 c.2]
 .rw[if_neg c]
def Up.more {p:Array Nat} {n:Nat} (h:Up key p n) (e:O.kle (kk key p (n-1)) (kk key p n)):Up key p (n+1):=λi j g q=>by
 rcases Nat.lt_or_ge j n with z|z
 .exact h i j g z
 .obtain rfl:j=n:=by lia
  rcases Nat.eq_or_lt_of_le g with y|y
  .rw[y];exact KeyOrd.kle_refl _
  .exact KeyOrd.kle_trans (h i (j-1) (by lia) (by lia)) e
def Dn.more {p:Array Nat} {n:Nat} (h:Dn key p n) (e:O.kle (kk key p n) (kk key p (n-1))):Dn key p (n+1):=λi j g q=>by
 rcases Nat.lt_or_ge j n with z|z
 .exact h i j g z
 .obtain rfl:j=n:=by lia
  rcases Nat.eq_or_lt_of_le g with y|y
  .rw[y];exact KeyOrd.kle_refl _
  .exact KeyOrd.kle_trans e (h i (j-1) (by lia) (by lia))
def Dn.of {p q:Array Nat} {n:Nat} (h:Dn key p n) (e:∀ k,kk key q k=kk key p k):Dn key q n:=λi j a b=>by rw[e,e];exact h i j a b
theorem Vp {p:Array Nat} (g:Pm N p) (j:0<N) {Q:Nat->Prop}:∀ (f n:Nat),Up key p n->(∀ m,n<=m->m<=n+f->Up key p m->(m=n+f\/O.klt (kk key p m) (kk key p (m-1)))->Q m)->run (ltK key) (λi=>i<N) (kas_asc p f n) Q
 |0,n,h,q=>q n (zAi _) (zAi _) h (.inl rfl)
 |f+1,n,h,q=>by
  refine⟨g.lt j _,g.lt j _,?_⟩;refine Ej (λc=>?_) (λc=>?_)
  .exact q n (zAi _) (by lia) h (.inr c)
  .exact Vp g j f (n+1) (h.more (KeyOrd.kle_of_not_klt c)) λm a b u v=>q m (by lia) (by lia) u (v.imp (λz=>by lia) id)
def Tl (key:Nat->O.α) (p:Array Nat) (n q:Nat):Prop:=q+1<=n/\∀ i,n-(q+1)<=i->i<n->kk key p i=kk key p (n-1)
def Tl.one {p:Array Nat} {n:Nat}:Tl key p (n+1) 0:=⟨by lia,λi a b=>by rw[show i=n+1-1 by lia]⟩
theorem Lu (F:0<N) {Q:Array Nat×Nat×Nat->Prop}:∀ (f:Nat) (p:Array Nat) (n q:Nat),Pm N p->n+f<=N->Dn key p n->Tl key p n q->(∀ j m B,Pm N j->n<=m->m<=n+f->Dn key j m->Tl key j m B->Q (j,m,B))->run (ltK key) (λi=>i<N) (kas_desc f p n q) Q
 |0,p,n,q,g,_,d,t,k=>k p n q g (zAi _) (zAi _) d t
 |f+1,p,n,q,g,S,d,t,k=>by
  have sz:=g.size;refine⟨g.lt F _,g.lt F _,?_⟩;refine Ej (λc=>?_) (λc=>?_)
  .have M:=d.more (KeyOrd.kle_of_klt c)
   refine Ej (λ_=>?_) (λ_=>?_)
   .have L:∀ k,kk key (kas_rev p (n-(q+1)) n) k=kk key p k:=Ub (by lia) t.2
    exact Lu F f _ (n+1) 0 (g.rev _ _) (by lia) (M.of L) .one λj m B a b e=>k j m B a (by lia) (by lia)
   .exact Lu F f _ (n+1) 0 g (by lia) M .one λj m B a b e=>k j m B a (by lia) (by lia)
  .refine⟨g.lt F _,g.lt F _,?_⟩
   refine Ej (λc2=>?_) (λc2=>?_)
   .exact k p n q g (zAi _) (by lia) d t
   .have e:kk key p n=kk key p (n-1):=KeyOrd.kle_antisymm (KeyOrd.kle_of_not_klt c2) (KeyOrd.kle_of_not_klt c)
    refine Lu F f p (n+1) (q+1) g (by lia) (d.more (by rw[e];exact KeyOrd.kle_refl _)) ⟨by have:=t.1;lia,λi a b=>?_⟩ λj m B a b e=>k j m B a (by lia) (by lia);rw[show n+1-1=n by lia];rcases Nat.lt_or_ge i n with z|z
    .rw[e];exact t.2 i (by lia) z
    .rw[show i=n by lia]
def Xp {p:Array Nat} {n m:Nat} (B:0<N) (z:Pm N p) (L:m<=N) (F:n<=m) (d:Dn key p n) {Q:Nat×Array Nat->Prop} (q:∀ r g,Pm N g->n<=r->r<=m->Up key g r->Q (r,g)):run (ltK key) (λi=>i<N) (kas_tail3 n m p) Q:=by
 have sz:=z.size;refine He _ (Vp (z.rev 0 n) B (m-n) n (λi j a b=>?_) λr a b u _=>q r _ (z.rev 0 n) a (by lia) u);rw[Zu (by lia),Zu (by lia),if_pos ⟨by lia,by lia⟩,if_pos ⟨by lia,by lia⟩];exact d _ _ (by lia) (by lia)
def Xa {p:Array Nat} {n m:Nat} (F:0<N) (S:Pm N p) (M:m<=N) (U:n+1<=m) (d:Dn key p (n+1)) {Q:Nat×Array Nat->Prop} (q:∀ r j,Pm N j->n<=r->r<=m->Up key j r->Q (r,j)):run (ltK key) (λi=>i<N) (kas_descPart n m p) Q:=by
 refine He _ (Lu F (m-(n+1)) p (n+1) 0 S (by lia) d .one λj r c g a b L t=>?_);have sz:=g.size;refine Ej (λ_=>?_) (λ_=>?_)
 .have B:∀ k,kk key (kas_rev j (r-(c+1)) r) k=kk key j k:=Ub (by lia) t.2
  exact Xp F (g.rev _ _) M (by lia) (L.of B) λx y z u v=>q x y z (by lia) v
 .exact Xp F g M (by lia) L λx y z u v=>q x y z (by lia) v
def P6 {p:Array Nat} {m:Nat} (S:0<N) (L:Pm N p) (Y:m<=N) (h1:1<=m) {Q:Nat×Array Nat->Prop} (q:∀ r U,Pm N U->1<=r->r<=m->Up key U r->Q (r,U)):run (ltK key) (λi=>i<N) (kas_count m p) Q:=by
 have sz:=L.size;refine He _ (Vp L S (m-1) 1 (λi j a b=>?_) λn a b u v=>?_)
 .rw[show i=j by lia];exact KeyOrd.kle_refl _
 refine Ej (λc=>?_) (λc=>?_)
 .exact q n p L a (by lia) u
 have c':n≠m:=λe=>c (by rw[e];exact beq_self_eq_true _);have F:O.klt (kk key p n) (kk key p (n-1)):=v.resolve_left (by lia);refine Ej (λg=>?_) (λg=>?_)
 .refine⟨L.lt S _,L.lt S _,?_⟩
  refine Ej (λr=>?_) (λr=>?_)
  .exact q n p L a (by lia) u
  have B:∀ k,0<=k->k<n->kk key p k=kk key p (n-1):=λk _ Z=>
   KeyOrd.kle_antisymm (u k (n-1) (by lia) (by lia)) (KeyOrd.kle_trans (KeyOrd.kle_of_not_klt r) (u 0 k (by lia) Z))
  have M:∀ k,kk key (kas_rev p 0 n) k=kk key p k:=Ub (by lia) B;refine Xa S (L.rev 0 n) Y (by lia) (Dn.of (p:=p) (Dn.more (λi j x y=>?_) (KeyOrd.kle_of_klt F)) M) λx y z w=>q x y z (by lia);rw[B i (by lia) (by lia),B j (by lia) y];exact KeyOrd.kle_refl _
 .refine Xa S L Y (by lia) (Dn.more (λi j x y=>?_) (KeyOrd.kle_of_klt F)) λx y z w=>q x y z (by lia)
  rw[show i=j by lia];exact KeyOrd.kle_refl _
theorem Ml {p:Array Nat} {k:Nat} (B:0<N) (j:Pm N p) (u:Up key p k) {Q:Nat->Prop} (q:∀ l,l<=k->(∀ i,i<l->O.kle (kk key p i) (kk key p k))->(∀ i,l<=i->i<k->O.klt (kk key p k) (kk key p i))->Q l) :
  ∀ (f l r:Nat),l<=r->r<=k->r-l<=f->(∀ i,i<l->O.kle (kk key p i) (kk key p k))->(∀ i,r<=i->i<k->O.klt (kk key p k) (kk key p i))->run (ltK key) (λi=>i<N) (kas_place p k f l r) Q
 |0,l,r,a,b,c,x,y=>by
  obtain rfl:l=r:=by lia
  exact q l b x y
 |f+1,l,r,a,b,c,x,y=>by
  refine Ej (λg=>?_) (λg=>?_)
  .obtain rfl:l=r:=by lia
   exact q l b x y
  refine⟨j.lt B _,j.lt B _,?_⟩;refine Ej (λz=>?_) (λz=>?_)
  .exact Ml B j u q f l ((l+r)/2) (by lia) (by lia) (by lia) x λi v w=>KeyOrd.klt_of_klt_of_kle z (u _ i v w)
  .exact Ml B j u q f ((l+r)/2+1) r (by lia) b (by lia) (λi v=>KeyOrd.kle_trans (u i ((l+r)/2) (by lia) (by lia)) (KeyOrd.kle_of_not_klt z)) y
theorem G6 (L:0<N) {Q:Array Nat->Prop}:∀ (f:Nat) (p:Array Nat) (k:Nat),Pm N p->k+f<=N->Up key p k->(∀ g,Pm N g->Up key g (k+f)->Q g)->run (ltK key) (λi=>i<N) (kas_bin f p k) Q
 |0,p,k,B,_,u,q=>q p B u
 |f+1,p,k,B,M,u,q=>by
  have sz:=B.size;refine He _ (Ml L B u (λl a lo hi=>?_) k 0 k (by lia) (by lia) (by lia) (λi z=>by lia) λi z w=>by lia);refine G6 L f _ (k+1) (B.bub _ _) (by lia) (λi j x y=>?_) λg a b=>q g a (by rw[show k+(f+1)=k+1+f by lia];exact b);have F:∀ i,kk key (bubble p k (k-l)) i=if i=l then kk key p k else if l<i/\i<=k then kk key p (i-1) else kk key p i:=λi=>by
   rw[IR (by lia) (by lia),show k-(k-l)=l by lia]
  rw[F,F];rcases zBr i l with c|c|c
  .rw[if_neg (by lia),if_neg (by lia)]
   rcases zBr j l with e|e|e
   .rw[if_neg (by lia),if_neg (by lia)];exact u i j x (by lia)
   .rw[if_pos e];exact lo i c
   .rw[if_neg (by lia),if_pos (by lia)];exact u i (j-1) (by lia) (by lia)
  .rw[if_pos c]
   rcases Nat.eq_or_lt_of_le x with e|e
   .rw[if_pos (by lia)];exact KeyOrd.kle_refl _
   .rw[if_neg (by lia),if_pos (by lia)];exact KeyOrd.kle_of_klt (hi (j-1) (by lia) (by lia))
  .rw[if_neg (by lia),if_pos (by lia),if_neg (by lia),if_pos (by lia)]
   exact u (i-1) (j-1) (by lia) (by lia)
def run_sort (g:0<N) {Q:Array Nat->Prop} (q:∀ p,Pm N p->Up key p N->Q p):run (ltK key) (λi=>i<N) (kas_sort N) Q:=by
 refine He _ (P6 g (show Pm N _ from Array.Perm.refl _) (zAi _) g λr p j a b u=>?_);refine Ej (λc=>?_) (λc=>?_)
 .have z:r<N:=c
  show run _ _ (kas_bin (N-max r 1) p (max r 1)) Q;have e:max r 1=r:=by lia
  rw[e];exact G6 g _ p r j (by lia) u λB x y=>q B x (by rw[show r+(N-r)=N by lia] at y;exact y)
 .have z:¬ r<N:=c
  obtain rfl:r=N:=by lia
  exact q p j u
end
end CRS
namespace L2
open PySem PySem.Spec PyProof.Rows PySem.W
theorem Kn:∀ a:List Int,HT.lexLt a a=false
 |[]=>rfl
 |x::xs=>by unfold HT.lexLt;rw[if_pos rfl];exact Kn xs
theorem Tk:∀ a b c:List Int,HT.lexLt a b=true->HT.lexLt b c=true->HT.lexLt a c=true
 |[],[],_,h,_=>nomatch h
 |[],_::_,[],_,h=>nomatch h
 |[],_::_,_::_,_,_=>rfl
 |_::_,[],_,h,_=>nomatch h
 |_::_,_::_,[],_,h=>nomatch h
 |x::xs,y::ys,z::zs,h1,g=>by
  unfold HT.lexLt at h1 g ⊢;by_cases e1:x=y
  .by_cases e2:y=z
   .rw[if_pos e1] at h1;rw[if_pos e2] at g;rw[if_pos (e1.trans e2)];exact Tk xs ys zs h1 g
   .rw[if_neg e2] at g;rw[if_neg (by rw[e1];exact e2),e1];exact g
  .rw[if_neg e1] at h1
   have j:=of_decide_eq_true h1;by_cases e2:y=z
   .rw[if_neg (by rw[<- e2];exact e1),<- e2];exact h1
   .rw[if_neg e2] at g
    have q:=of_decide_eq_true g;rw[if_neg (by omega)];exact decide_eq_true (by omega)
theorem E8:∀ a b c:List Int,HT.lexLt a c=true->HT.lexLt a b=true\/HT.lexLt b c=true
 |[],[],_,h=>.inr h
 |[],_::_,_,_=>.inl rfl
 |_::_,_,[],h=>nomatch h
 |_::_,[],_::_,_=>.inr rfl
 |x::xs,y::ys,z::zs,h=>by
  unfold HT.lexLt at h ⊢;by_cases e1:x=y
  .by_cases e2:y=z
   .rw[if_pos (e1.trans e2)] at h;rw[if_pos e1,if_pos e2];exact E8 xs ys zs h
   .rw[if_neg (by rw[e1];exact e2)] at h;rw[if_neg e2];exact .inr (by rw[<- e1];exact h)
  .rw[if_neg e1]
   by_cases e2:y=z
   .rw[if_neg (by rw[<- e2];exact e1)] at h;exact .inl (by rw[e2];exact h)
   .rw[if_neg e2]
    by_cases l:x<y
    .exact .inl (decide_eq_true l)
    .right
     refine decide_eq_true ?_;by_cases e3:x=z
     .omega
     .rw[if_neg e3] at h
      have:=of_decide_eq_true h;omega
theorem Mr:∀ a b:List Int,HT.lexLt a b=false->HT.lexLt b a=false->a=b
 |[],[],_,_=>rfl
 |[],_::_,h,_=>nomatch h
 |_::_,[],_,h=>nomatch h
 |x::xs,y::ys,h1,g=>by
  unfold HT.lexLt at h1 g;by_cases e1:x=y
  .rw[if_pos e1] at h1;rw[if_pos e1.symm] at g;rw[e1,Mr xs ys h1 g]
  .rw[if_neg e1] at h1;rw[if_neg (Ne.symm e1)] at g
   have q:=of_decide_eq_false h1;have j:=of_decide_eq_false g;omega
def WN:KeyOrd:=⟨List Int,HT.lexLt,Kn,Tk,E8,Mr⟩
section
variable {prog:Program} {w:World} {A:Around} {E:Value->Shared->Prop} {s:Shared}
def BR (prog:Program) (w:World) (A:Around) (vs:List Value) (O:KeyOrd) (key:Nat->O.α) (s:Shared):Prop:=
 ∃ κ:SortKind,(∀ (Q:SortKind->Shared->Prop) (E:Value->Shared->Prop),Q κ s->wpAny (model prog w) A (keyKind' vs.toArray) Q E s) /\
  ∀ i j,i<vs.length->j<vs.length->∀ C:Bool->Shared->Prop,C (O.blt (key i) (key j)) s->wpAny (model prog w) A (keyLt' κ (vs.getD i Value.none) (vs.getD j Value.none)) C (λ_ _=>False) s
def Gp (vs:List Value) (p:Array Nat):List Value:=p.toList.map λi=>vs.getD i Value.none
def Qe {n:Nat} {vs:List Value} {p:Array Nat} (h:CRS.Pm n p):(Gp vs p).length=n:=by
 unfold Gp;rw[zAb,zAA,h.size]
theorem ED:∀ {vs},vs.length<2->((vs.toArray.zip vs.toArray).map (·.2))=(Gp vs (zAO vs.length).toArray).toArray
 |[],_=>by
  apply zCz.mp;simp [Gp]
 |[v],_=>by
  apply zCz.mp;simp [Gp]
 |_::_::_,h=>absurd h (by simp)
def FM {O} {key:Nat->O.α} {a} {vs} {n:Nat} {P:PySem.Fin->Shared->Prop} (ho:s.heap.get? a=some (seqObj "list" vs.toArray n)) (h64:vs.length<64)
  (ask:∀ h':Heap,(∀ b o,b≠a->s.heap.get? b=some o->h'.get? b=some o)->2<=vs.length->BR prog w A vs O key { s with heap:=h' })
  (h:∀ p,CRS.Pm vs.length p->CRS.Up key p vs.length->P (.done (.ret .none)) { s with heap:=sortedHeap s.heap a vs (Gp vs p).toArray }) :
  wpAny (model prog w) A (Builtin.«list.sort» ⟨[.ref a],[]⟩) P E s:=by
 have lt:a<s.heap.objs.size:=zAr ho;have line:∀ k:Nat,k<64->k<=sizeLine:=λk hk=>by rw[zCE];lia
 rw[list_sort_plain];refine zCC (listItems_at ho rfl (zCC (listUpdate_at ho rfl ?_ (by rw[zAh];exact line _ h64) (zAu _))));obtain⟨e1,ho1⟩:∃ e1,(s.heap.update a (Obj.mapSeq λ_=>(#[]:Array Value))).get? a=some (seqObj "list" #[] e1):=⟨_,get?_update_seq ho λ_ => #[]⟩;refine zCC (seqEpoch_at ho1 rfl (zCC (wpAny_newTuple (zCC (wpAny_newList (wpAny_holding ?_) (zAu _))) (by rw[zAA,zAh];exact line _ h64))));have sb:=zBo.update s.heap a (Obj.mapSeq λ_=>(#[]:Array Value));have old:∀ b o,b≠a->s.heap.get? b=some o->(((s.heap.update a (Obj.mapSeq λ_=>(#[]:Array Value))).push (seqObj "tuple" vs.toArray 0)).push (seqObj "list" #[] 0)).get? b=some o:=λb o nb e=>
  zAc _ (zAc _ ((sb.2 b nb).trans e))
 have ho3:(((s.heap.update a (Obj.mapSeq λ_=>(#[]:Array Value))).push (seqObj "tuple" vs.toArray 0)).push (seqObj "list" #[] 0)).get? a=some (seqObj "list" #[] e1):=zAc _ (zAc _ ho1);show wpAny (model prog w) A _ P E { s with heap:=((s.heap.update a (Obj.mapSeq λ_=>(#[]:Array Value))).push (seqObj "tuple" vs.toArray 0)).push (seqObj "list" #[] 0) }
 dsimp only
 have sz:vs.toArray.size=vs.length:=zAh ..;by_cases few:vs.toArray.size<2
 .rw[if_pos few,if_pos few]
  refine zCC (zCD ?_);rw[StateT.run_pure];refine zCC (zCD ?_);have eo:(arrOf (SortSt.mk' general' (vs.toArray.zip vs.toArray) #[] 7 none)).map (·.2)=(Gp vs (zAO vs.length).toArray).toArray:=ED (by lia);show wpAny (model prog w) A (do
   let x <- seqEpoch a
   let _ <- Builtin.List.listUpdate (.ref a) λ_=>(arrOf (SortSt.mk' general' (vs.toArray.zip vs.toArray) #[] 7 none)).map (·.2)
   _) P E _
  rw[eo];refine zCC (seqEpoch_at ho3 rfl (zCC (listUpdate_at ho3 rfl ?_ (zAu _) (by rw[zAh,Qe (n:=vs.length) (Array.Perm.refl _)];have:=line _ h64;lia))));simp only [bne_self_eq_false,zBj,if_false];refine zCD (h _ (Array.Perm.refl _) λi j hij hj=>?_);rw[show i=j by lia];exact KeyOrd.kle_refl _
 .rw[if_neg few,if_neg few]
  have two:2<=vs.length:=by lia
  obtain⟨κ,kind,less⟩:=ask _ old two;refine zCC (kind _ _ ?_);have tree:(kas_sort vs.length).kasWp (kas_ask prog w A κ vs) (λp s'=>s'={ s with heap:=((s.heap.update a (Obj.mapSeq λ_=>(#[]:Array Value))).push (seqObj "tuple" vs.toArray 0)).push (seqObj "list" #[] 0) }/\CRS.Pm vs.length p/\CRS.Up key p vs.length)
    { s with heap:=((s.heap.update a (Obj.mapSeq λ_=>(#[]:Array Value))).push (seqObj "tuple" vs.toArray 0)).push (seqObj "list" #[] 0) }:=
   CRS.run_wp (lt:=CRS.ltK key) (V:=λi=>i<vs.length) (λi j C hi hj hC=>less i j hi hj C hC) (λp hp=>⟨rfl,hp⟩) _ (CRS.run_sort (by lia) λp h1 h2=>⟨h1,h2⟩)
  refine zCC (wpAny_mono (kat_run (ks:=vs) (vs:=vs) (Q:=λst' s'=>s'={ s with heap:=((s.heap.update a (Obj.mapSeq λ_=>(#[]:Array Value))).push (seqObj "tuple" vs.toArray 0)).push (seqObj "list" #[] 0) }/\failedOf st'=none/\∃ p,CRS.Pm vs.length p/\CRS.Up key p vs.length/\(arrOf st').map (·.2)=(Gp vs p).toArray)
   rfl two h64 (λp st' s' _ har hf ⟨es,g1,g2⟩=>⟨es,hf,p,g1,g2,kat_snds rfl har⟩) tree) ?_ λ_ _ e=>e)
  rintro ⟨⟨⟩,st'⟩ s' ⟨rfl,hf,p,hp,hu,eo⟩;show wpAny (model prog w) A (do
   let x <- seqEpoch a
   let _ <- Builtin.List.listUpdate (.ref a) λ_=>(arrOf st').map (·.2)
   _) P E _
  rw[eo];refine zCC (seqEpoch_at ho3 rfl (zCC (listUpdate_at ho3 rfl ?_ (zAu _) (by rw[zAh,Qe hp];have:=line _ h64;lia))));rw[hf];simp only [bne_self_eq_false,zBj,if_false];exact zCD (h p hp hu)
def P4 {O} {key:Nat->O.α} {l} {vs} {Q:Value->Shared->Prop} (hl:s.heap.IsList l vs.toArray) (h64:vs.length<64)
  (ask:∀ (A:Around) (h':Heap),(∀ b o,s.heap.get? b=some o->h'.get? b=some o)->2<=vs.length->BR prog w A vs O key { s with heap:=h' })
  (h:∀ p,CRS.Pm vs.length p->CRS.Up key p vs.length->Q (.ref (s.heap.objs.size+1)) { s with heap:=sortedAll s.heap vs (Gp vs p).toArray }) :
  wpAny (model prog w) A (call (.builtin "sorted") [.ref l]) Q E s:=by
 have line:vs.length<=sizeLine:=by rw[zCE];omega
 refine Calls.call_function_entry kind_sorted plain_sorted entry_sorted (args_sorted1 _) ?_;unfold Builtin.«sorted»;refine zCC (m:=checkCount "sorted" 1 1 _) (zCD (zCC (collect_list hl (zCC (wpAny_newList ?_ line)))));have sz:((s.heap.push (seqObj "list" #[] 0)).update s.heap.objs.size (Obj.mapSeq (· ++ vs.toArray))).objs.size=s.heap.objs.size+1:=by rw[Heap.size_update,size_push']
 have at1:(((s.heap.push (seqObj "list" #[] 0)).update s.heap.objs.size (Obj.mapSeq (· ++ vs.toArray))).push (seqObj "list" vs.toArray 0)).get? (s.heap.objs.size+1)=some (seqObj "list" vs.toArray 0):=by
  rw[<- sz];exact zAv _ rfl
 have old:∀ b o,s.heap.get? b=some o->(((s.heap.push (seqObj "list" #[] 0)).update s.heap.objs.size (Obj.mapSeq (· ++ vs.toArray))).push (seqObj "list" vs.toArray 0)).get? b=some o:=λb o e=>
  zAc _ (((zBo.update (s.heap.push (seqObj "list" #[] 0)) s.heap.objs.size (Obj.mapSeq (· ++ vs.toArray))).2 b (zAx (zAr e))).trans (zAc _ e))
 show wpAny (model prog w) _ _ _ _ { s with heap:=((s.heap.push (seqObj "list" #[] 0)).update s.heap.objs.size (Obj.mapSeq (· ++ vs.toArray))).push (seqObj "list" vs.toArray 0) };rw[sz];refine zCC (wpAny_holding (wpAny_call_entry slot_list_sort ⟨_,at1,rfl⟩ entry_list_sort (FM (O:=O) (key:=key) at1 h64 (λh' k two=>?_) λp hp hu=>⟨_,rfl,?_⟩) (args_list_sort _)))
 .exact ask _ h' (λb o e=>k b o (zAx (zCd (zAr e))) (old b o e)) two
 .exact zCD ⟨_,rfl,h p hp hu⟩
theorem Wd {Q:Bool->Shared->Prop}:∀ {xs ys} {ns g:List Int} (i:Nat),IntsAre xs ns->IntsAre ys g->ns.length=g.length->Q (HT.lexLt ns g) s->KatLex prog w A true false Q (xs.zip ys) i s
 |_,_,_,_,i,.nil,.nil,_,h=>kat_nil h
 |_,_,_,_,_,.nil,.cons _ _ _,e,_=>by simp at e
 |_,_,_,_,_,.cons _ _ _,.nil,e,_=>by simp at e
 |_,_,_,_,i,.cons a t r,.cons b u j,e,h=>by
  rw[List.zip_cons_cons];refine kat_cons (wpAny_eqBool_int ?_);rw[HT.lexLt_cons] at h;by_cases c:a=b
  .rw[if_pos c] at h
   have e2:(a==b)=true:=by rw[c];exact beq_self_eq_true b
   rw[e2];exact kat_yes (Wd (i+1) r j (by simpa using e) h)
  .rw[if_neg c] at h
   have e2:(a==b)=false:=by simpa using c
   rw[e2];refine kat_no ?_;cases i with
   |zero=>exact oneLt_int h
   |succ i=>exact kat_one _ _ (PyProof.Rows.lt_int h)
def XE (h:Heap) (k:Nat):List Value->List (List Int)->Prop
 |[],[]=>True
 |v::vs,r::rs=>(∃ (t:Addr) (xs:List Value),v=.ref t/\IsTup h t xs.toArray/\IntsAre xs r/\r.length=k)/\XE h k vs rs
 |_,_=>False
theorem XE.at {h:Heap} {k:Nat}:∀ {vs} {g:List (List Int)} {i:Nat},XE h k vs g->i<vs.length->∃ (t:Addr) (xs:List Value),vs.getD i Value.none=.ref t/\IsTup h t xs.toArray/\IntsAre xs (g.getD i [])/\(g.getD i []).length=k
 |[],[],_,_,z=>by simp at z
 |[],_::_,_,z,_=>z.elim
 |_::_,[],_,z,_=>z.elim
 |v::vs,r::g,0,⟨⟨t,xs,e,z⟩,q⟩,_=>⟨t,xs,e,z⟩
 |v::vs,r::g,i+1,⟨_,q⟩,l=>q.at (i:=i) (by simpa using l)
theorem XE.firsts {h:Heap} {k:Nat}:∀ {vs} {g:List (List Int)},XE h (k+1) vs g->∃ fs:List Value,KatTups h vs fs/\fs.length=vs.length/\∀ v∈fs,∃ (n:Int) (t:Tok),v=.int n t
 |[],[],_=>⟨[],trivial,rfl,λ_ z=>nomatch z⟩
 |[],_::_,z=>z.elim
 |_::_,[],z=>z.elim
 |v::vs,r::g,⟨⟨t,xs,e,⟨o,B,F,n,M⟩,S,l⟩,q⟩=>by
  obtain⟨fs,h1,L,U⟩:=q.firsts;cases S with
  |nil=>simp at l
  |cons a u Y=>
   refine⟨.int a u::fs,⟨⟨t,o,_,n,e,B,F,M,by simp⟩,h1⟩,by rw[zAf,zAf,L],λy j=>?_⟩;rcases zAn.mp j with z|z
   .exact⟨a,u,z⟩
   .exact U y z
def Th {M:Model} {h:Heap} (n:Int) (t:Tok):Looks M h (typeOf (.int n t)) (.type "int"):=λA Q E s _ q=>wpAny_of_eq rfl q
def V0 {vs:List Value} {L:List (List Int)} {k:Nat} (T:XE s.heap (k+1) vs L) (ab:2<=vs.length):BR prog w A vs WN (λi=>L.getD i []) s:=by
 obtain⟨fs,h1,h2,Y⟩:=T.firsts;refine⟨tuples' (Value.type "int" != Value.type "tuple"),λQ E q=>kat_kind h1 (by lia) (λv hv=>?_) rfl q,λi j hi hj C S=>?_⟩
 .obtain⟨n,t,rfl⟩:=Y v hv
  exact Th n t
 .obtain⟨t,xs,e,⟨o,U,hc,n,hd⟩,M,l⟩:=T.at hi
  obtain⟨t',F,e',⟨o',B,ac,n',z⟩,g,Z⟩:=T.at hj;rw[e,e'];have ls:=M.length;have aa:=g.length;have nb:(Value.type "int" != Value.type "tuple")=true:=by ac_nf
  rw[nb];refine kat_lt U hd B z ?_;have ef:decide (xs.toArray.size<F.toArray.size)=false:=decide_eq_false (by simp only [zAh];lia);rw[ef];exact Wd 0 M g (l.trans Z.symm) S
end
def WM (K:zAa) (H:Hp) (k:Nat):List V->List (List Int)->Prop
 |[],[]=>True
 |y::ys,r::rs=>(∃ t,y=.ref t/\Jy K H t (r.map V.int)/\r.length=k)/\WM K H k ys rs
 |_,_=>False
theorem Pn:∀ {r:List Int} {us},Fz (r.map V.int) us->IntsAre us r
 |[],_,.nil=>.nil
 |a::r,_,.cons ⟨t,e⟩ g=>by subst e;exact .cons a t (Pn g)
section
variable {X:Cx}
theorem WM.vals {s:Shared} {k:Nat} (I:Dm X pins σ H s):∀ {ys} {j:List (List Int)} {us},WM X.K H k ys j->Fz ys us->XE s.heap k us j
 |[],[],_,_,.nil=>trivial
 |[],_::_,_,z,_=>z.elim
 |_::_,[],_,z,_=>z.elim
 |y::ys,r::j,_,⟨⟨t,e,h,l⟩,q⟩,.cons F L=>by
  subst e;cases F;obtain⟨g,B,p,_⟩:=I.tuple h;exact⟨⟨t,g,rfl,p,Pn B,l⟩,q.vals I L⟩
theorem Yo:∀ {ys} {us} (i:Nat),Fz ys us->Ht (ys.getD i .non) (us.getD i Value.none)
 |_,_,_,.nil=>rfl
 |_,_,0,.cons r _=>r
 |_,_,i+1,.cons _ g=>by
  rw[List.getD_cons_succ,List.getD_cons_succ];exact Yo i g
theorem Ow {ys:List V} {us:List Value} (r:Fz ys us):∀ l:List Nat,Fz (l.map λi=>ys.getD i .non) (l.map λi=>us.getD i Value.none)
 |[]=>.nil
 |i::l=>.cons (Yo i r) (Ow r l)
def TW (K:zAa) (t:TE):TT:=λσ H Q=>t σ H λx H1=>∃ k,OH K x H1 k/\Q k H1
def V9 {e:Expr} {t:TE} (h:PE X e t) (z:∀ g,isTrue e X.env g=(do let v <- g;standAt e.pos;holding [v] (truthy v)):=by intro _;rfl):PT X e (TW X.K t):=by
 intro pins s σ H Q I j;exact isTrue_plain (Bt (h pins s σ H _ I j) λv q ⟨x,H1,F,L,B⟩=>IS pins q σ H1 x v Q F L B) (z _)
end
end L2
namespace L2
open PySem PySem.Spec PyProof.Rows
structure XH (K:zAa) (x qual:Str) (st:Stmt) (f:Addr) (fd:zCG):Prop where
 ex:∃ (oc:Value) (od:Option Addr) (dV kV doc pm:Value) (an:Option Addr) (cdv ct:Value) (osl:Array (Option Value)),
  fd=zAQ x qual (Cd st) (Bn st) (Ao st) dV kV doc pm an cdv ct/\K.lookup f=some ⟨oc,od,.func fd,osl⟩/\zBi K cdv qual=true
 kp:zAN K (.ref f)=true
section
variable {P:Program} {w:World} {K:zAa} {mg:Str->Option Value} {base:Heap}
def XH.ok {x qual} {st} {f} {fd} {N ps} {k:Nat} {sp} (F:XH K x qual st f fd) (S:Bz N ps (Ao st)) (len:∀ vs H Q E,sp vs H Q E->vs.length=ps.length)
  (g:∀ (cdv:Value) (A:Around) (outer:List Env) (s:Shared) (H:Hp) (vs:List V) (Q:VK) (E:XK),VP k (A.deeper (envOfC qual (Ao st) s.heap.objs.size f cdv))->sp vs H Q E ->
   ∃ t,PSs (Kd Ec P w K mg base N qual (Ao st) f cdv A outer s H E).nox (Bn st) t/\t { nx:=λ_ H'=>Q .non H',rt:=Q } (Fa N vs) H):Lp P w K mg base Ec (k+1) f fd ps sp:=by
 obtain⟨Z,od,dV,kV,L,U,Y,cdv,ct,B,e,M,z⟩:=F.ex;subst e;refine Y2 M z S len λA outer s H vs Q E hr j=>?_;obtain⟨t,h,q⟩:=g cdv A outer s H vs Q E hr j;exact⟨t,h.nox,q⟩
def DZ {x qual} {st} {f} {L} {M z} {j} {B kV g q cdv F} (l:K.lookup f=some ⟨L,M,.func (zAQ x qual (Cd st) (Bn st) (Ao st) B kV g q z cdv F),j⟩)
  (c:zBi K cdv qual=true) (k:zAN K (.ref f)=true):XH K x qual st f (zAQ x qual (Cd st) (Bn st) (Ao st) B kV g q z cdv F):=⟨⟨L,M,B,kV,g,q,z,cdv,F,j,rfl,l,c⟩,k⟩
end
def Ls {K K':zAa} {a:Addr} {xs:List V} {F L:Nat} {tb:TS} {D:Mn} {σ:St} {H:Hp} (g:Nat->St->Hp->Prop) (h0:g 0 σ H) (hl:∀ i σ H,i<=xs.length->g i σ H->Dl K H a xs)
  (S:∀ i x σ H t,xs[i]?=some x->g i σ H->H t=none->tb { D with nx:=g (i+1),ct:=g (i+1),bk:=D.nx } ((σ.set F (some (.int i))).set L (some x)) (upd H t (.tup [.int i,x]))) (hd:∀ σ H,g xs.length σ H->D.nx σ H) :
  ∃ W:Nat->Nat->St->Hp->Prop,(∃ m,W 0 m σ H)/\∀ i m σ H,W i m σ H ->
   ((DH K a).stop i H/\D.nx σ H)\/((DH K a).go i H/\∃ N:St->Hp->Prop,(∀ B H',N B H'->∃ M,M<m/\W (i+1) M B H')/\∀ x H',(DH K a).yld i H x H'->Zq K' 2 (Gw (Cg F) (Gw (Cg L) V2)) x σ H' λU H2=>tb { D with nx:=N,ct:=N,bk:=D.nx } U H2):=by
 refine⟨λi m σ H=>m=xs.length-i/\i<=xs.length/\g i σ H,⟨xs.length,by simp,zAu _,h0⟩,?_⟩;rintro i m σ H ⟨rfl,hi,p⟩;have q:=hl i σ H hi p;by_cases j:i<xs.length
 .refine .inr ⟨⟨xs,xs[i],q,by simp [j]⟩,g (i+1),λB H' Z=>⟨xs.length-(i+1),by omega,rfl,j,Z⟩,λx H' y=>?_⟩
  obtain⟨t,z,ex,Y,hz,e3⟩:=y;subst ex e3;exact⟨t,_,rfl,Jy.of Aa,rfl,_,_,rfl,_,_,rfl,rfl,S i z σ H t (hz xs q) p Y⟩
 .obtain rfl:i=xs.length:=by omega
  exact .inl ⟨⟨xs,q,zAi _⟩,hd σ H p⟩
def QE (K:zAa) (a b:Addr):It:=
 ⟨λi H=>∃ xs ys x y,Dl K H a xs/\Dl K H b ys/\xs[i]?=some x/\ys[i]?=some y,
   λi H v H'=>∃ t x y,v=.ref t/\H t=none/\(∀ xs,Dl K H a xs->xs[i]?=some x)/\(∀ ys,Dl K H b ys->ys[i]?=some y)/\H'=upd H t (.tup [x,y]),
   λi H=>∃ xs ys,Dl K H a xs/\Dl K H b ys/\(xs.length<=i\/ys.length<=i)⟩
structure Zp (z u o i j:Addr):Prop where
 uz:u≠z
 oz:o≠z
 iz:i≠z
 jz:j≠z
 uo:u≠o
 ui:u≠i
 uj:u≠j
 oi:o≠i
 oj:o≠j
 ij:i≠j
def IX (n:Nat):Zp (n+4) (n+2) (n+3) n (n+1):=
 ⟨zAx (by lia),zAx (by lia),zAx (by lia),zAx (by lia),zAx (by lia),zBz (by lia),zBz (by lia),zBz (by lia),zBz (by lia),zAx (by lia)⟩
def GM (a b z u o i j:Addr) (k:Nat) (h:Heap):Prop:=IsZip h z u o .none/\IsPair h u (.ref i) (.ref j)/\(∃ x y,IsPair h o x y)/\h.IsListIter i a k/\h.IsListIter j b k
def Sf {a b z u o i j:Addr} {k:Nat} {h:Heap} {xs ys:Array Value} (D:Zp z u o i j) (st:GM a b z u o i j k h) (M:h.IsList a xs) (F:h.IsList b ys):ZipApart z u o i j a b:=by
 obtain⟨hz,hu,⟨x,y,U⟩,⟨g,Z,ci,_⟩,⟨oj,ej,cj,_⟩⟩:=st;have ne:∀ {c d:Addr} {p q:Obj} {zs:Array Value},h.IsList c zs->h.get? d=some q->q.cls≠.type "list"->c≠d:=λ{c d p q zs} hl hd hn e=>by
  obtain⟨p',hp,hc,_⟩:=hl;rw[e,hd] at hp;cases hp;exact hn hc
 have nz:(Value.type "zip")≠.type "list":=by ac_nf
 have S:(Value.type "tuple")≠.type "list":=by ac_nf
 have Y:(Value.type "list_iterator")≠.type "list":=by ac_nf
 have B:g.cls≠.type "list":=by rw[ci];exact Y
 have L:oj.cls≠.type "list":=by rw[cj];exact Y
 constructor <;> first
  |exact D.uz|exact D.oz|exact D.iz|exact D.jz|exact D.uo|exact D.ui|exact D.uj|exact D.oi|exact D.oj|exact D.ij
  |exact ne (p:=g) M hz nz|exact ne (p:=g) F hz nz|exact ne (p:=g) M U S|exact ne (p:=g) F U S|exact ne (p:=g) M hu S|exact ne (p:=g) F hu S
  |exact ne (p:=g) M Z B|exact ne (p:=g) F Z B|exact ne (p:=g) M ej L|exact ne (p:=g) F ej L
def AD {P} {w} {K} {ai} {n:Nat} {tp} (a b z u o i j:Addr) (D:Zp z u o i j) :
  Ug P w K (.Tuple ai n tp) (QE K a b) [z,u,o,i,j] z (GM a b z u o i j) where
 mem:=by simp
 obj:=λk h st c g=>by
  obtain⟨hz,hu,⟨x,y,ho⟩,⟨oi,ei,ci,di⟩,⟨oj,ej,cj,dj⟩⟩:=st;simp only [zAn,zBc,or_false] at g;rcases g with rfl|rfl|rfl|rfl|rfl
  .exact⟨_,hz,λv q=>by
    have q':Data.fields _=Data.cell v:=q;cases q'⟩
  .exact⟨_,hu,λv q=>by
    have q':Data.seq _ _=Data.cell v:=q;cases q'⟩
  .exact⟨_,ho,λv q=>by
    have q':Data.seq _ _=Data.cell v:=q;cases q'⟩
  .exact⟨oi,ei,λv q=>by rw[di] at q;cases q⟩
  .exact⟨oj,ej,λv q=>by rw[dj] at q;cases q⟩
 keep:=λk h h' st kk=>by
  obtain⟨hz,hu,⟨x,y,ho⟩,h1,h2⟩:=st;exact⟨kk z (by simp) _ hz,kk u (by simp) _ hu,⟨x,y,kk o (by simp) _ ho⟩,h1.at λob e=>kk i (by simp) ob e,h2.at λob e=>kk j (by simp) ob e⟩
 item:=by
  intro X hP hw hK g k pins s σ H E I hf st hg;subst hP hw hK;obtain⟨xs,ys,x,y,ab,ac,hx,hy⟩:=hg;obtain⟨am,rv,p,hz⟩:=I.list ab;obtain⟨ao,ad,p',al⟩:=I.list ac;obtain⟨v,hv,ru⟩:=rv.get hx;obtain⟨v',aj,aq⟩:=ad.get hy;have DD:=Sf D st p.isList p'.isList;obtain⟨sz,su,⟨x0,y0,so⟩,s1,s2⟩:=id st;have Z:=hf z (by simp);have fu:=hf u (by simp);have fo:=hf o (by simp);have fi:=hf i (by simp);have fj:=hf j (by simp);refine wpAny_pyNext_zip_item DD sz su so s1 s2 p.isList p'.isList (x:=v) (y:=v') (by simpa using hv) (by simpa using aj) λh1 a1 a2 a3 a4 a5 a6 hk=>⟨_,rfl,?_⟩;refine wpAny_letOwnedTupleGo_zip a1 λh2 ak an=>?_;have F:zBo z h1 h2:=an;have ah:z<s.heap.objs.size:=zAr sz;have Y:H s.heap.objs.size=none:=I.hok.fresh (zAi _);have up:∀ c ob,c≠z->c≠o->c≠i->c≠j->s.heap.get? c=some ob->h2.get? c=some ob:=λc ob c1 c2 c3 c4 q=>(F.2 c c1).trans (hk c ob c1 c2 c3 c4 q);have M:∀ c,c∉[z,o,i,j]->c≠z/\c≠o/\c≠i/\c≠j:=λc g=>by
   simp only [zAn,zBc,or_false,not_or] at g;exact g
  have L:∀ c ob,H c=some ob->c≠z/\c≠o/\c≠i/\c≠j:=λc ob q=>
   ⟨λe=>by (rw[e,Z.1] at q;cases q),λe=>by (rw[e,fo.1] at q;cases q),λe=>by (rw[e,fi.1] at q;cases q),λe=>by (rw[e,fj.1] at q;cases q)⟩
  have S:∀ c ob,c∉[z,o,i,j]->s.heap.get? c=some ob->h2.get? c=some ob:=λc ob g q=>up c ob (M c g).1 (M c g).2.1 (M c g).2.2.1 (M c g).2.2.2 q;have aa:∀ c ob B,H c=some B->s.heap.get? c=some ob->h2.get? c=some ob:=λc ob B g q=>up c ob (L c B g).1 (L c B g).2.1 (L c B g).2.2.1 (L c B g).2.2.2 q;have ag:h2.get? s.heap.objs.size=some { cls:=.type "tuple",data:=.seq #[v,v'] }:=(F.2 _ (zBz ah)).trans a5;have I1:Dm X pins σ (upd H s.heap.objs.size (.tup [x,y])) { s with heap:=h2,gens:=s.gens,drawn:=s.drawn,toks:=s.toks }:=by
   refine I.step (ch:=[z,o,i,j]) (λc g=>?_) (λc ob _ _ g q _=>S c ob g q) (λc ob _ _ g q _=>⟨ob.slots,S c ob g q⟩) (λc ob _ q n=>by rw[Ag (zAx (zAr q))];exact n)
    (λc ob g q=>⟨ob,S c ob g q⟩) (λc xs q=>by rw[Ag (Ae q Y)];exact q) (λc ob u q=>by rw[Ag (Ae q Y)];exact q) (λc ps q=>⟨#[],by rw[Ag (Ae q Y),q];simp⟩)
    (λm hm=>?_) (λc ob q=>?_) I.bare
   .simp only [zAn,zBc,or_false] at g
    rcases g with rfl|rfl|rfl|rfl
    .exact⟨Z.2.2.2.1,Z.2.1,Z.2.2.2.2.1,Z.2.2.2.2.2⟩
    .exact⟨fo.2.2.2.1,fo.2.1,fo.2.2.2.2.1,fo.2.2.2.2.2⟩
    .exact⟨fi.2.2.2.1,fi.2.1,fi.2.2.2.2.1,fi.2.2.2.2.2⟩
    .exact⟨fj.2.2.2.1,fj.2.1,fj.2.2.2.2.1,fj.2.2.2.2.2⟩
   .obtain⟨ob,es,ep,ae,r⟩:=hm
    exact⟨ob,es,ep,up _ ob (Ne.symm Z.2.1) (Ne.symm fo.2.1) (Ne.symm fi.2.1) (Ne.symm fj.2.1) ae,r⟩
   .by_cases hb:c=s.heap.objs.size
    .subst hb
     rw[Aa] at q;cases q;exact⟨Dk (by show 2<=1000;decide),[v,v'],.cons ru (.cons aq .nil),_,ag,rfl,_,rfl⟩
    .rw[Ag hb] at q
     refine (I.hok c ob q).stay (λd w' hd U=>?_) (λd U=>by rw[Ag (Ae U Y)];exact U) (λd zs U=>by rw[Ag (Ae U Y)];exact U);rcases hd with rfl|hd
     .exact aa _ w' _ q U
     .exact aa _ w' _ hd U
  refine⟨.ref s.heap.objs.size,_,I1,rfl,⟨_,x,y,rfl,Y,λzs af=>by rw[I.list_inj af ab];exact hx,λzs af=>by rw[I.list_inj af ac];exact hy,rfl⟩,⟨ak,?_,⟨v,v',?_⟩,?_,?_⟩,λc g=>?_⟩
  .exact (F.2 u D.uz).trans (hk u _ D.uz D.uo D.ui D.uj su)
  .exact (F.2 o D.oz).trans a2
  .exact a3.at λob q=>(F.2 i D.iz).trans q
  .exact a4.at λob q=>(F.2 j D.jz).trans q
  .have hl:c<s.heap.objs.size:=by
    simp only [zAn,zBc,or_false] at g;rcases g with rfl|rfl|rfl|rfl|rfl
    .exact zAr sz
    .exact zAr su
    .exact zAr so
    .obtain⟨_,q,_⟩:=s1;exact zAr q
    .obtain⟨_,q,_⟩:=s2;exact zAr q
   rw[Ag (zAx hl)];exact (hf c g).1
 done:=by
  intro X hP hw hK g k pins s σ H E I hf st hg;subst hP hw hK;obtain⟨xs,ys,ab,ac,ap⟩:=hg;obtain⟨am,rv,p,hz⟩:=I.list ab;obtain⟨ao,ad,p',al⟩:=I.list ac;have DD:=Sf D st p.isList p'.isList;obtain⟨sz,su,⟨x0,y0,so⟩,s1,s2⟩:=id st;have Z:=hf z (by simp);have fo:=hf o (by simp);have fi:=hf i (by simp);have fj:=hf j (by simp);have hl:=rv.length;have ar:=ad.length;refine wpAny_pyNext_zip_end (I.ok.hd g) DD sz su so s1 s2 p.isList p'.isList ?_ λh' hk=>⟨rfl,?_⟩
  .rcases ap with e|e
   .exact .inl (by simp;lia)
   .exact .inr (by simp;lia)
  .have M:∀ c,c∉[z,o,i,j]->c≠z/\c≠o/\c≠i/\c≠j:=λc g=>by
    simp only [zAn,zBc,or_false,not_or] at g;exact g
   have L:∀ c ob,H c=some ob->c≠z/\c≠o/\c≠i/\c≠j:=λc ob q=>
    ⟨λe=>by (rw[e,Z.1] at q;cases q),λe=>by (rw[e,fo.1] at q;cases q),λe=>by (rw[e,fi.1] at q;cases q),λe=>by (rw[e,fj.1] at q;cases q)⟩
   have S:∀ c ob,c∉[z,o,i,j]->s.heap.get? c=some ob->h'.get? c=some ob:=λc ob g q=>hk c ob (M c g).1 (M c g).2.1 (M c g).2.2.1 (M c g).2.2.2 q;have aa:∀ c ob B,H c=some B->s.heap.get? c=some ob->h'.get? c=some ob:=λc ob B g q=>hk c ob (L c B g).1 (L c B g).2.1 (L c B g).2.2.1 (L c B g).2.2.2 q;refine I.step (H':=H) (ch:=[z,o,i,j]) (λc g=>?_) (λc ob _ _ g q _=>S c ob g q) (λc ob _ _ g q _=>⟨ob.slots,S c ob g q⟩) (λc ob _ q n=>n)
    (λc ob g q=>⟨ob,S c ob g q⟩) (λc xs q=>q) (λc ob u q=>q) (λc ps q=>⟨#[],by rw[q];simp⟩)
    (λm hm=>?_) (λc ob q=>?_) I.bare
   .simp only [zAn,zBc,or_false] at g
    rcases g with rfl|rfl|rfl|rfl
    .exact⟨Z.2.2.2.1,Z.2.1,Z.2.2.2.2.1,Z.2.2.2.2.2⟩
    .exact⟨fo.2.2.2.1,fo.2.1,fo.2.2.2.2.1,fo.2.2.2.2.2⟩
    .exact⟨fi.2.2.2.1,fi.2.1,fi.2.2.2.2.1,fi.2.2.2.2.2⟩
    .exact⟨fj.2.2.2.1,fj.2.1,fj.2.2.2.2.1,fj.2.2.2.2.2⟩
   .obtain⟨ob,es,ep,ae,r⟩:=hm
    exact⟨ob,es,ep,hk _ ob (Ne.symm Z.2.1) (Ne.symm fo.2.1) (Ne.symm fi.2.1) (Ne.symm fj.2.1) ae,r⟩
   .refine (I.hok c ob q).stay (λd w' hd U=>?_) (λd U=>U) (λd zs U=>U)
    rcases hd with rfl|hd
    .exact aa _ w' _ q U
    .exact aa _ w' _ hd U
 self:=λ_ _ _ _ _ st h=>wpAny_pyIter_zip st.1 h
def TZ (K:zAa) (ta:TA):TI:=λσ H R=>ta σ H λvs H1=>∃ a b,vs=[.ref a,.ref b]/\(∃ xs,Dl K H1 a xs)/\(∃ ys,Dl K H1 b ys)/\R (QE K a b) H1
def KD {X} {e1 e2} {ta} {p pos tp} {z} {n:Nat} (hg:Gl X "zip") (hm:X.mg "zip"=none) (ha:PA X [e1,e2] ta) (hs:starEach [e1,e2] X.env=[(false,eval e1 X.env),(false,eval e2 X.env)]:=by rfl) (hs2:starEach [e2] X.env=[(false,eval e2 X.env)]:=by rfl) :
  PI X (.Tuple z n tp) (.Call (.Name "zip" p) [e1,e2] [] pos) (TZ X.K ta):=by
 intro pins s σ H R I h;refine Call_ (Ev I hg hm (show zCF "zip"=some (.type "zip") from rfl) (PyProof.Rows.callWith_type1 (Bt (ha pos pins s σ H _ I h) λus g ⟨vs,H1,j,r1,q1⟩=>?_) (by rw[hs,hs2]) (by rw[hs2];rfl)));obtain⟨a,b,ev,⟨xs,B⟩,⟨ys,L⟩,q⟩:=q1;subst ev;cases r1 with
 |cons ra M=>
  cases M with
  |cons rb M=>
   cases M
   cases ra
   cases rb
   obtain⟨ad,rv,pl,hz⟩:=j.list B;obtain⟨ac,aa,F,ab⟩:=j.list L;refine call_zip_2 pl.isList F.isList λh' U b2 Z b4 b5 b6 hk=>?_;refine wpAny_pyIter_zip U ?_;have I2:Dm X pins σ H1 { g with heap:=h' }:=j.kept (t':=g.toks) hk;refine⟨_,[g.heap.objs.size+4,g.heap.objs.size+2,g.heap.objs.size+3,g.heap.objs.size,g.heap.objs.size+1],_,_,H1,rfl,I2,AD a b (g.heap.objs.size+4) (g.heap.objs.size+2) (g.heap.objs.size+3) g.heap.objs.size (g.heap.objs.size+1) (IX _),⟨U,b2,⟨_,_,Z⟩,b4,b5⟩,λc Y=>?_,q⟩;have S:g.heap.objs.size<=c:=by
    simp only [zAn,zBc,or_false] at Y;rcases Y with rfl|rfl|rfl|rfl|rfl <;> lia
   exact j.fpOk S (j.hok.fresh S)
def EV {K K':zAa} {a b:Addr} {xs ys:List V} {i1 i2:Nat} {tb:TS} {D:Mn} {σ:St} {H:Hp} (Pv:Nat->St->Hp->Prop) (h0:Pv 0 σ H) (hl:∀ i σ H,i<=min xs.length ys.length->Pv i σ H->Dl K H a xs/\Dl K H b ys)
  (hs:∀ i x y σ H t,xs[i]?=some x->ys[i]?=some y->Pv i σ H->H t=none->tb { D with nx:=Pv (i+1),ct:=Pv (i+1),bk:=D.nx } ((σ.set i1 (some x)).set i2 (some y)) (upd H t (.tup [x,y]))) (hd:∀ σ H,Pv (min xs.length ys.length) σ H->D.nx σ H) :
  ∃ W:Nat->Nat->St->Hp->Prop,(∃ m,W 0 m σ H)/\∀ i m σ H,W i m σ H ->
   ((QE K a b).stop i H/\D.nx σ H)\/((QE K a b).go i H/\∃ N:St->Hp->Prop,(∀ σ' H',N σ' H'->∃ m',m'<m/\W (i+1) m' σ' H')/\∀ x H',(QE K a b).yld i H x H'->Zq K' 2 (Gw (Cg i1) (Gw (Cg i2) V2)) x σ H' λσ2 H2=>tb { D with nx:=N,ct:=N,bk:=D.nx } σ2 H2):=by
 refine⟨λi m σ H=>m=min xs.length ys.length-i/\i<=min xs.length ys.length/\Pv i σ H,⟨min xs.length ys.length,rfl,zAu _,h0⟩,?_⟩;rintro i m σ H ⟨rfl,hi,p⟩;obtain⟨q1,q2⟩:=hl i σ H hi p;by_cases hlt:i<min xs.length ys.length
 .have l1:i<xs.length:=by lia
  have l2:i<ys.length:=by lia
  refine .inr ⟨⟨xs,ys,xs[i],ys[i],q1,q2,by simp [l1],by simp [l2]⟩,Pv (i+1),λσ' H' p'=>⟨min xs.length ys.length-(i+1),by lia,rfl,by lia,p'⟩,λv H' y=>?_⟩;obtain⟨t,x,z,ex,ht,hx,hz,e3⟩:=y;subst ex e3;exact⟨t,_,rfl,Jy.of Aa,rfl,_,_,rfl,_,_,rfl,rfl,hs i x z σ H t (hx xs q1) (hz ys q2) p ht⟩
 .obtain rfl:i=min xs.length ys.length:=by lia
  exact .inl ⟨⟨xs,ys,q1,q2,by lia⟩,hd σ H p⟩
end L2
namespace L2
open PySem PySem.Spec PyProof.Rows PySem.W
section
variable {X:Cx} {pins:List (Addr×Obj)} {σ:St} {H:Hp} {s:Shared}
def Dm.trackN {a:Addr} {o:HO} (I:Dm X pins σ H s) (fp:Hs X pins H a) (B:VQ X.prog X.w (upd H a o) s.heap a o):Dm X pins σ (upd H a o) s:=by
 obtain⟨F,M,_,h1,S,Y⟩:=fp;have g:∀ b u,H b=some u->b≠a:=λb u e z=>by rw[z,F] at e;cases e
 refine I.step (h':=s.heap) (g':=s.gens) (d':=s.drawn) (t':=s.toks) (ch:=[a]) (λb j=>?_) (λb o _ _ _ e _=>e) (λb o _ _ _ e _=>⟨o.slots,e⟩) (λb o L e n=>?_) (λb o _ e=>⟨o,e⟩)
  (λb xs e=>by rw[Ag (g _ _ e)];exact e) (λb Z u e=>by rw[Ag (g _ _ e)];exact e) (λb ps e=>⟨#[],by rw[Ag (g _ _ e),e];simp⟩) (λm U=>U) (λb u e=>?_) I.bare
 .have e:b=a:=by simpa using j
  subst e;exact⟨h1,M,S,Y⟩
 .rw[Ag (λz=>L (by simp [z]))]
  exact n
 .by_cases j:b=a
  .subst j
   rw[Aa] at e;cases e;exact B
  .rw[Ag j] at e
   exact (I.hok b u e).stay (λ_ _ _ q=>q) (λc q=>by rw[Ag (g _ _ q)];exact q) λc xs q=>by rw[Ag (g _ _ q)];exact q
def Dm.unpin {p:Addr×Obj} (I:Dm X (p::pins) σ H s):Dm X pins σ H s:=
 I.pins_of λq g=>I.pin q (zAF _ (zAd _ g))
def Dm.pin1 (I:Dm X pins σ H s) {a:Addr} (e:s.heap.get? a=some ob) (j:H a=none) (B:a≠X.env.locals) (g:a∉X.fs) (F:∀ v,ob.data≠.cell v):Dm X ((a,ob)::pins) σ H s:=
 I.pins_of λq L=>by
  rcases zAn.mp L with z|z
  .subst z;exact⟨e,j,B,g,F⟩
  .exact I.pin q (zAF _ z)
def EK {P} {w} {K} {mg:Str->Option Value} {base} {A} {outer} {s} {H} {f L} {name qual} {j} {z} {g} {pm M} {N ps}
  {vs} {us} {Q} {t} (S:Bz N ps g) (hr:VP 1 A) (Z:WW P w K mg base A outer s H) (hf:s.heap.get? f=some (kla_obj name qual j z g [] pm L M)) (U:s.heap.CodeRec (.ref L) qual)
  (hb:bindArgs (kla_fn name qual j z g [] pm (.ref L) M) ⟨us,[]⟩=pure (ps.zip us)) (r:Fz vs us) (hl:vs.length=ps.length)
  (F:PE (Kd Ec P w K mg base N qual g f (.ref L) A outer s H E0).nox z t) (q:t (Fa N vs) H Q) :
  codeAny (model P w) A (.call (.ref f) ⟨us,[]⟩) (CR Ec outer P w H s Q E0) s:=by
 have Y:s.heap.NoLimit:=Z.mod.nolimit.keeps λb o e=>(Z.bs b o e).1;have B:∀ y∈ps.zip us,g.names.lookup y.1=some .local\/(g.names.lookup y.1=some .cell/\((cellsFrom (s.heap.objs.size+1) g.names []).lookup y.1).isSome=true):=λ⟨n,v⟩ hy=>by
  rcases S.par n (List.of_mem_zip hy).1 with q|q
  .exact .inl q
  .exact .inr ⟨q,zCv _ _ _ (.inl q)⟩
 refine kla_callFunE hr.depth hf rfl S.co S.gen rfl U ?_;rw[hb];refine zCD ?_;refine wpAny_newFunctionEnv_cells S.kind B λaa he s1 x=>?_;subst he;refine⟨Y.keeps x.toInCall.keep,kla_codeExpr ?_⟩;have I:Dm (Kd Ec P w K mg base N qual g f (.ref L) A outer s H E0) [] (Fa N vs) H s1:=Tn S hr.hd Z hl r x;refine wpAny_mono (F [] s1 (Fa N vs) H Q (I.wish _) q) (λu s' ⟨v,H',J,rv,q'⟩=>?_) λe s' hs=>(hs:False).elim;exact⟨v,H',J.os,J.bare,J.base,J.hok,rv,q'⟩
def Hi (c:Addr) (qual:Str):Heap->Prop:=λh=>h.CodeRec (.ref c) qual
def LamAt (T:Addr) (pos:Pos) (qual:Str) (H:Hp):Prop:=H T=some (.tbl #[])\/∃ c,H T=some (.tbl #[rawInt pos.line,rawInt pos.col,.ref c])/\H c=some (.ext (Hi c qual))
def BI (mg:Str->Option Value) (base:Heap):Prop:=∃ bm ob,mg "__builtins__"=some (.ref bm)/\bm≠builtinsNs/\base.get? bm=some ob/\ob.cls=.type "module"/\ob.dict=some builtinsNs/\ob.data=.plain
def Q3 {c:Addr} {qual:Str} (h1 h2:Heap) (x:Hi c qual h1) (k:∀ o,h1.get? c=some o->h2.get? c=some o):Hi c qual h2:=by
 obtain⟨j,o,vs,t,e,g,r⟩:=x;cases e;exact⟨c,o,vs,t,rfl,k o g,r⟩
def AH {c T:Addr} {qual:Str} {n:Nat} {A:Around} {E:Value->Shared->Prop} {Q:Value->Shared->Prop} (I:Dm X pins σ H s) (F:X.env.code=.ref c) (C:CodeHd X.base c T) (ae:closureFor scope X.env=pure []) (L:LamAt T pos qual H) (j:BI X.mg X.base)
  (h:∀ (f c':Addr) (pm g:Value) (h':Heap) (tk:Nat) (H':Hp),Dm X pins σ H' { s with heap:=h',toks:=tk }->(∀ b o,H b=some o->b≠T->H' b=some o)->(∀ b,b<s.heap.objs.size->H b=none->H' b=none) ->
   H' T=some (.tbl #[rawInt pos.line,rawInt pos.col,.ref c'])->H' c'=some (.ext (Hi c' qual))->Hs X pins H' f ->
   h'.get? f=some (kla_obj "<lambda>" qual params body scope [] pm c' g)->Q (.ref f) { s with heap:=h',toks:=tk }) :
  wpAny (model X.prog X.w) A (makeFunction "<lambda>" qual params (.expr body) scope X.env [] [] [] pos n) Q E s:=by
 obtain⟨bm,ob,b1,b2,b3,b4,b5,b6⟩:=j;have ht:∃ ps,H T=some (.tbl ps):=by
  rcases L with L|⟨c',L,_⟩
  .exact⟨_,L⟩
  .exact⟨_,L⟩
 obtain⟨al,aj⟩:=ht;have aa:∀ b o,X.base.get? b=some o->b≠T:=λb o e z=>by
  have:=(I.bs b o e).2;rw[z,aj] at this;cases this
 have ab:=I.mod.glob.keeps I.bk;have ai:zCH≠T:=by
  obtain⟨o,es,ep,e,_⟩:=I.mod.glob;exact aa _ _ e
 have af:bm≠zCH:=λq=>by
  obtain⟨o,es,ep,e,hd,_⟩:=I.mod.glob;rw[q,e] at b3;cases b3;rw[hd] at b6;cases b6
 have BA:s.heap.BuiltinsAt X.mg T:=⟨bm,ob,b1,b2,af,aa _ _ b3,I.bk _ _ b3,b4,b5,b6⟩;rcases L with L|⟨c',L,Lc⟩
 .have hP:s.heap.get? T=some (tabObj #[]):=I.hok T _ L
  refine kla_makeFunction (mg:=X.mg) ae I.ok.glob ab F (C.keeps I.bk) hP (by exact True.intro) (by rfl) ai BA λc' g h' tk hx M Z Y ah=>?_;have ag:H c'=none:=I.hok.fresh M;have nT:∀ b,H b=none->b≠T:=λb n z=>by rw[z,L] at n;cases n
  have nc:∀ b,b<s.heap.objs.size->b≠c':=λb l z=>absurd (zAG l M) (by rw[z];exact zBn _);have B:∀ b u,H b=some u->b≠c':=λb u e z=>by rw[z,ag] at e;cases e
  have cT:c'≠T:=(B T _ L).symm;have keep:∀ b o,b≠T->s.heap.get? b=some o->(h'.push (kla_obj "<lambda>" qual params body scope [] ((X.mg "__name__").getD .none) c' g)).get? b=some o:=λb o j e=>zAc _ (hx b o j e);have U:(h'.push (kla_obj "<lambda>" qual params body scope [] ((X.mg "__name__").getD .none) c' g)).get? T=some (tabObj #[rawInt pos.line,rawInt pos.col,.ref c']):=zAc _ (by simpa using ah);have u:Un X.fs [] H (upd (upd H T (.tbl #[rawInt pos.line,rawInt pos.col,.ref c'])) c' (.ext (Hi c' qual))) s.heap (h'.push (kla_obj "<lambda>" qual params body scope [] ((X.mg "__name__").getD .none) c' g)):=by
   have ad:∀ b u,H b=some u->(∀ ps,u≠.tbl ps)->upd (upd H T (.tbl #[rawInt pos.line,rawInt pos.col,.ref c'])) c' (.ext (Hi c' qual)) b=some u:=λb u e n=>by
    rw[Ag (B b u e),Ag (λz=>by rw[z,L] at e;cases e;exact n _ rfl)];exact e
   refine⟨λb o e n _ _=>keep b o (nT b n) e,λb o e n _ _=>⟨o.slots,keep b o (nT b n) e⟩,λb o e n _=>?_,λb o e _=>?_,λb xs e=>ad b _ e (λ_ z=>by cases z),λb o u e=>ad b _ e (λ_ z=>by cases z),λb ps e=>?_⟩
   .rw[Ag (nc b (zAr e)),Ag (nT b n)]
    exact n
   .by_cases j:b=T
    .rw[j];exact⟨_,U⟩
    .exact⟨o,keep b o j e⟩
   .by_cases j:b=T
    .subst j
     rw[L] at e;cases e;exact⟨#[rawInt pos.line,rawInt pos.col,.ref c'],by rw[Ag cT.symm,Aa];simp⟩
    .exact⟨#[],by rw[Ag (B b _ e),Ag j,e];simp⟩
  have ak:WJ X.prog X.w (upd (upd H T (.tbl #[rawInt pos.line,rawInt pos.col,.ref c'])) c' (.ext (Hi c' qual))) (h'.push (kla_obj "<lambda>" qual params body scope [] ((X.mg "__name__").getD .none) c' g)):=λb o e=>by
   by_cases j:b=c'
   .subst j
    rw[Aa] at e;cases e;obtain⟨c2,oc,vs,t,e2,ac,r⟩:=Y;cases e2;exact⟨⟨b,oc,vs,t,rfl,zAc _ ac,r⟩,⟨oc,zAc _ ac⟩,λh1 h2=>Q3 h1 h2⟩
   .rw[Ag j] at e
    by_cases S:b=T
    .subst S
     rw[Aa] at e;cases e;exact U
    .rw[Ag S] at e
     refine (I.hok b o e).stay (λd v hd q=>keep d v ?_ q) (λd q=>?_) λd xs q=>?_
     .rcases hd with z|z
      .rw[z];exact S
      .intro y
       rw[y,L] at z;cases z
     .rw[Ag (B d _ q),Ag (λz=>by rw[z,L] at q;cases q)]
      exact q
     .rw[Ag (B d _ q),Ag (λz=>by rw[z,L] at q;cases q)]
      exact q
  have big:s.heap.objs.size<=h'.objs.size:=zCg (zBW M Z);have fn:H h'.objs.size=none:=I.hok.fresh big;have ff:upd (upd H T (.tbl #[rawInt pos.line,rawInt pos.col,.ref c'])) c' (.ext (Hi c' qual)) h'.objs.size=none:=by
   rw[Ag (zBz Z),Ag (nT _ fn)];exact fn
  refine h h'.objs.size c' _ g _ tk _ (I.un (t':=tk) u ak) (λb o e j=>?_) (λb l n=>?_) (by rw[Ag cT.symm,Aa]) Aa (I.fpOk big ff) (zAv _ rfl)
  .rw[Ag (B b _ e),Ag j]
   exact e
  .rw[Ag (nc b l),Ag (nT b n)]
   exact n
 .have hP:s.heap.get? T=some (tabObj #[rawInt pos.line,rawInt pos.col,.ref c']):=I.hok T _ L
  refine kla_makeFunctionHit (mg:=X.mg) (cv:=.ref c') ae I.ok.glob ab F (C.keeps I.bk) hP (by simp [TriplesOk,rawInt]) (by simp [codeAmong,rawInt]) BA λg h' tk hk big=>?_;have fn:H h'.objs.size=none:=I.hok.fresh big;refine h h'.objs.size c' _ g _ tk H (I.kept (t':=tk) λb u e=>zAc _ (hk b u e)) (λb o e _=>e) (λb _ n=>n) L Lc (I.fpOk big fn) (zAv _ rfl)
end
section
variable {prog:Program} {w:World} {A:Around} {E:Value->Shared->Prop} {s:Shared}
theorem AX:∀ {ks vs:List Value},ks.length=vs.length->vs.length<2->((ks.toArray.zip vs.toArray).map (·.2))=(Gp vs (zAO vs.length).toArray).toArray
 |[],[],_,_=>by
  apply zCz.mp;simp [Gp]
 |[k],[v],_,_=>by
  apply zCz.mp;simp [Gp]
 |[],_::_,h,_=>by simp at h
 |_::_,[],h,_=>by simp at h
 |_::_::_,[_],h,_=>by simp at h
 |_,_::_::_,_,h=>absurd h (by simp)
def F9 {a z:Addr} {ks vs:List Value} {n e1:Nat} {p:Array Nat} {st:SortSt} {P:PySem.Fin->Shared->Prop} (M:s.heap.get? z=some (seqObj "list" ks.toArray n)) (U:s.heap.get? a=some (seqObj "list" #[] e1)) (L:z≠a)
  (F:ks.length<64) (B:vs.length<64) (Y:CRS.Pm vs.length p) (q:(arrOf st).map (·.2)=(Gp vs p).toArray) (S:failedOf st=none)
  (h:P (.done (.ret .none)) { s with heap:=(s.heap.update z (Obj.mapSeq λ_=>(#[]:Array Value))).update a (Obj.mapSeq λ_=>(Gp vs p).toArray) }) :
  wpAny (model prog w) A (ksk_tail a false e1 (.ref z) st) P E s:=by
 have g:∀ k:Nat,k<64->k<=sizeLine:=λk M=>by rw[zCE];lia
 have j:(s.heap.update z (Obj.mapSeq λ_=>(#[]:Array Value))).get? a=some (seqObj "list" #[] e1):=(Heap.get?_update_ne _ _ _ _ (Ne.symm L)).trans U;unfold ksk_tail
 dsimp only
 rw[q];refine zCC (listUpdate_at M rfl ?_ (by rw[zAh];exact g _ F) (zAu _));refine zCC (wpAny_letGo ?_);refine zCC (seqEpoch_at j rfl ?_);simp only [zBj,if_false];refine zCC (listUpdate_at j rfl ?_ (zAu _) (by rw[zAh,Qe Y];exact Nat.le_succ_of_le (g _ B)));rw[S];simp only [bne_self_eq_false,zBj,if_false];exact zCD h
def ID {O:KeyOrd} {key:Nat->O.α} {a U:Addr} {ks vs:List Value} {n e1:Nat} {P:PySem.Fin->Shared->Prop} (hk:s.heap.get? U=some (seqObj "list" ks.toArray n)) (ha:s.heap.get? a=some (seqObj "list" #[] e1)) (L:U≠a)
  (hl:ks.length=vs.length) (z:vs.length<64) (aa:2<=vs.length->BR prog w A ks O key s)
  (h:∀ p,CRS.Pm vs.length p->CRS.Up key p vs.length->P (.done (.ret .none)) { s with heap:=(s.heap.update U (Obj.mapSeq λ_=>(#[]:Array Value))).update a (Obj.mapSeq λ_=>(Gp vs p).toArray) }) :
  wpAny (model prog w) A (ksk_end a false vs.toArray e1 (.ref U) ks.toArray) P E s:=by
 have sz:vs.toArray.size=vs.length:=zAh ..;unfold ksk_end
 dsimp only
 simp only [zBj,if_false];by_cases g:vs.toArray.size<2
 .rw[if_pos g,if_pos g]
  refine zCC (zCD ?_);rw[StateT.run_pure];refine zCC (zCD ?_);refine F9 (p:=(zAO vs.length).toArray) hk ha L (by lia) z (Array.Perm.refl _) (AX hl (by lia)) rfl (h _ (Array.Perm.refl _) λi j ab hj=>?_);rw[show i=j by lia];exact KeyOrd.kle_refl _
 .rw[if_neg g,if_neg g]
  have M:2<=vs.length:=by lia
  obtain⟨κ,F,B⟩:=aa M;refine zCC (F _ _ ?_);have S:(kas_sort vs.length).kasWp (kas_ask prog w A κ ks) (λp s'=>s'=s/\CRS.Pm vs.length p/\CRS.Up key p vs.length) s:=
   CRS.run_wp (lt:=CRS.ltK key) (V:=λi=>i<vs.length) (λi j C hi hj hC=>B i j (by lia) (by lia) C hC) (λp Y=>⟨rfl,Y⟩) _ (CRS.run_sort (by lia) λp h1 h2=>⟨h1,h2⟩)
  refine zCC (wpAny_mono (kat_run (ks:=ks) (vs:=vs) (Q:=λq s'=>s'=s/\failedOf q=none/\∃ p,CRS.Pm vs.length p/\CRS.Up key p vs.length/\(arrOf q).map (·.2)=(Gp vs p).toArray)
   hl M z (λp q s' _ Z hf ⟨es,g1,g2⟩=>⟨es,hf,p,g1,g2,kat_snds hl Z⟩) S) ?_ λ_ _ e=>e)
  rintro ⟨⟨⟩,q⟩ s' ⟨rfl,hf,p,Y,hu,eo⟩;exact F9 hk ha L (by lia) z Y eo hf (h p Y hu)
end
def WV (K:zAa) (H:Hp):List V->List (List Int)->Prop
 |[],[]=>True
 |y::ys,r::rs=>(∃ (t:Addr) (d k n:Int) (v:V),y=.ref t/\Jy K H t [.int d,.int k,.int n,v]/\r=[d,k,n])/\WV K H ys rs
 |_,_=>False
theorem WV.len {K} {H}:∀ {ys} {g:List (List Int)},WV K H ys g->ys.length=g.length
 |[],[],_=>rfl
 |[],_::_,z=>z.elim
 |_::_,[],z=>z.elim
 |v::vs,r::g,z=>by rw[zAf,zAf,z.2.len]
theorem WV.get {K} {H}:∀ {ys} {g:List (List Int)} {i:Nat} {y},WV K H ys g->ys[i]?=some y->∃ (t:Addr) (d k n:Int) (v:V),y=.ref t/\Jy K H t [.int d,.int k,.int n,v]/\g[i]?=some [d,k,n]
 |[],[],_,_,_,e=>by simp at e
 |[],_::_,_,_,z,_=>z.elim
 |_::_,[],_,_,z,_=>z.elim
 |y::ys,r::g,0,z,⟨⟨t,d,k,n,v,e,h,j⟩,_⟩,q=>by
  simp at q;subst q;exact⟨t,d,k,n,v,e,h,by rw[j];rfl⟩
 |y::ys,r::g,i+1,z,⟨_,q⟩,e=>by
  obtain⟨t,d,k,n,v,h1,B,F⟩:=q.get (i:=i) (by simpa using e);exact⟨t,d,k,n,v,h1,B,by simpa using F⟩
theorem WM.app {K} {H} {k:Nat} {t} {r:List Int} (h:Jy K H t (r.map V.int)) (l:r.length=k):∀ {ys} {g:List (List Int)},WM K H k ys g->WM K H k (ys++[.ref t]) (g++[r])
 |[],[],_=>⟨⟨t,rfl,h,l⟩,trivial⟩
 |[],_::_,z=>z.elim
 |_::_,[],z=>z.elim
 |y::ys,q::g,⟨z,j⟩=>⟨z,WM.app h l j⟩
theorem WM.mono {K} {H H'} {k:Nat} (s:∀ t xs,Jy K H t xs->Jy K H' t xs):∀ {ys} {g:List (List Int)},WM K H k ys g->WM K H' k ys g
 |[],[],_=>trivial
 |[],_::_,z=>z.elim
 |_::_,[],z=>z.elim
 |y::ys,q::g,⟨⟨t,e,h,l⟩,j⟩=>⟨⟨t,e,s _ _ h,l⟩,WM.mono s j⟩
theorem WM.len {K} {H} {k:Nat}:∀ {ys} {g:List (List Int)},WM K H k ys g->ys.length=g.length
 |[],[],_=>rfl
 |[],_::_,z=>z.elim
 |_::_,[],z=>z.elim
 |y::ys,q::g,z=>by rw[zAf,zAf,z.2.len]
def EE {K} {H} {l} {xs ys} (hl:H l=some (.lst xs)):∀ t zs,Jy K H t zs->Jy K (upd H l (.lst ys)) t zs:=λt zs h=>by
 rcases h with (h|⟨o,h⟩)|h
 .exact .inl (.inl (by rw[Ag (λz=>by rw[z,hl] at h;cases h)];exact h))
 .exact .inl (.inr ⟨o,by rw[Ag (λz=>by rw[z,hl] at h;cases h)];exact h⟩)
 .exact .inr h
def Xg {K} {H H'} (s:∀ b o,H b=some o->H' b=some o):∀ t zs,Jy K H t zs->Jy K H' t zs:=λt zs h=>by
 rcases h with (h|⟨o,h⟩)|h
 .exact .inl (.inl (s _ _ h))
 .exact .inl (.inr ⟨o,s _ _ h⟩)
 .exact .inr h
section
variable {X:Cx} {pins:List (Addr×Obj)} {σ:St} {H:Hp} {s:Shared}
def LJ (X:Cx) (qual:Str) (params:Arguments) (body:Expr) (scope:Scope):Prop:=Bz ["entry"] ["entry"] scope /\
 (∀ (pm:Value) (c':Addr) (ctv u:Value),bindArgs (kla_fn "<lambda>" qual params body scope [] pm (.ref c') ctv) ⟨[u],[]⟩=pure [(("entry" : Str),u)]) /\
 ∀ (A:Around) (outer:List Env) (s:Shared) (H:Hp) (f c':Addr),PE (Kd Ec X.prog X.w X.K X.mg X.base ["entry"] qual scope f (.ref c') A outer s H E0).nox body (UG (OK X.K) (Q5 0) K9 (HJ (tC (.int 3))))
def DU {f c':Addr} {qual:Str} {params:Arguments} {body:Expr} {scope:Scope} {pm ctv:Value} {A:Around} {t:Addr} {d k n:Int} {v:V} {E:Value->Shared->Prop} {R:Value->Shared->Prop} (B:LJ X qual params body scope) (hA:A.frames=some X.stack) (hr:VP 1 A)
  (I:Dm X pins σ H s) (hf:s.heap.get? f=some (kla_obj "<lambda>" qual params body scope [] pm c' ctv)) (hc:H c'=some (.ext (Hi c' qual))) (ht:Jy X.K H t [.int d,.int k,.int n,v])
  (h:∀ p s',Dm X pins σ (upd H p (.tup [.int d,.int k,.int n])) s'->H p=none->R (.ref p) s'):wpAny (model X.prog X.w) A (call (.ref f) [.ref t]) R E s:=by
 obtain⟨S,bd,pb⟩:=B;have e0:=I.env0;have e1:WW X.prog X.w X.K X.mg X.base A X.stack s H:=⟨hA,e0.mod,e0.bs,e0.bsz,e0.funs,e0.frf,e0.hok,e0.bare⟩;have cr:s.heap.CodeRec (.ref c') qual:=(I.hok c' _ hc).1;refine wpAny_call (codeAny_mono (EK (vs:=[.ref t]) (us:=[.ref t]) (ps:=["entry"]) (N:=["entry"]) (Q:=λx H'=>∃ p,x=.ref p/\H p=none/\H'=upd H p (.tup [.int d,.int k,.int n])) S hr e1 hf cr (bd pm c' ctv _) (.cons rfl .nil) rfl (pb A X.stack s H f c') ?_) λr s' hq=>?_)
 .refine⟨_,rfl,_,rfl,t,_,rfl,ht,by show ¬ (HT.sIx 4 0 none=0/\HT.sIx 4 4 (some 3)=4);decide,λp hp=>⟨p,rfl,hp,rfl⟩⟩
 .cases r with
  |error e=>exact False.elim hq
  |ok fl=>
   cases fl with
   |ret u=>
    obtain⟨x,H',I',rx,p,rfl,hp,rfl⟩:=I.after hq;cases rx;exact h p s' I' hp
   |next=>exact False.elim hq
   |brk=>exact False.elim hq
   |cont=>exact False.elim hq
def KH (K:zAa) (T:Addr) (lpos:Pos) (qual:Str) (te:TE):TE:=λσ H Q=>te σ H λx H1=>∃ l ys rs,x=.ref l/\Dl K H1 l ys/\WV K H1 ys rs/\ys.length<64/\LamAt T lpos qual H1 /\
 ∀ (p:Array Nat) (a:Addr) (H':Hp),H1 a=none->(∀ b o,H1 b=some o->b≠T->H' b=some o)->LamAt T lpos qual H'->CRS.Pm ys.length p->CRS.Up (O:=WN) (λi=>rs.getD i []) p ys.length->H' a=some (.lst (p.toList.map λi=>ys.getD i .non))->Q (.ref a) H'
theorem WV.mono {K} {H H'} (s:∀ t xs,Jy K H t xs->Jy K H' t xs):∀ {ys} {g:List (List Int)},WV K H ys g->WV K H' ys g
 |[],[],_=>trivial
 |[],_::_,z=>z.elim
 |_::_,[],z=>z.elim
 |y::ys,q::g,⟨⟨t,d,k,n,v,e,h,l⟩,j⟩=>⟨⟨t,d,k,n,v,e,s _ _ h,l⟩,j.mono s⟩
end
def AL (T:Addr) (H:Hp):Prop:=H T=some (.tbl #[])/\∀ b,b≠T->H b=none\/∃ o xs,H b=some (.frz o (.lst xs))
def P0 {P} {w} {K} {mg mb:Str->Option Value} {CX} {k:Nat} {fa a c T} {fd} {x} {sp} {s₁} {vs} {ns:List Int}
  (KX:K.In s₁.heap) (ai:s₁.heap.Ns zCH mg) (g:s₁.heap.Ns builtinsNs mb) (al:∀ x:Str,x ≠ "__name__"->mb x=zCF x) (ab:s₁.heap.NoLimit) (hg:s₁.gens = #[])
  (Z:s₁.heap.get? a=some { cls:=.type "list",data:=.seq vs.toArray }) (hi:IntsAre vs ns) (hl:ns.length<=sizeLine) (hr:VP k callerA) (hT:s₁.heap.get? T=some (tabObj #[])) (hKT:K.lookup T=none) (hcT:codeHdIn K c T=true) (bi:BI mg s₁.heap)
  (F:∀ base:Heap,K.In base->base.Ns zCH mg->BI mg base->Lp P w K mg base CX k fa fd [x] sp) (hbind:∀ (s:Shared) (u:Value),BindsTo s fd ⟨[u],[]⟩ [(x,u)])
  (hsp:∀ H:Hp,AL T H->Dl K H a (ns.map V.int)->sp [.ref a] H (λv _=>v=.bl true) λ_ _ _=>False)
  (hCX:∀ H e s',CX [] H s₁ (λ_ _ _=>False) e s'->False) :
  codeAny (model P w) callerA (.call (.ref fa) ⟨[.ref a],[]⟩) (λr s'=>r=.ok (.ret (.bool true))/\OldK s₁.heap s'.heap/\s'.os=s₁.os/\AllBare s'.gens) s₁:=by
 have rv:=Sk hi;have ag:=hi.length;have ae:a≠T:=λz=>by rw[z,hT] at Z;cases Z
 have S:∀ H:Hp,AL T H->Dl K H a (ns.map V.int)->WJ P w H s₁.heap->(∀ b,H b≠none->b=a\/b=T)->(H a≠none->K.lookup a=none) ->
   codeAny (model P w) callerA (.call (.ref fa) ⟨[.ref a],[]⟩) (λr s'=>r=.ok (.ret (.bool true))/\OldK s₁.heap s'.heap/\s'.os=s₁.os/\AllBare s'.gens) s₁:=by
  intro H hO hS ah hA hK;have j:∀ {b:Addr} {o:Obj},s₁.heap.get? b=some o->H b=none->(Rh s₁.heap H).get? b=some o:=λe n=>V7 e n;have ac:∀ {b:Addr} {o:Obj},s₁.heap.get? b=some o->(∀ xs n,o.data≠.seq xs n)->(∀ xs,o.data≠.fields xs)->H b=none:=λ{b o} e d1 d2=>by
   cases q:H b with
   |none=>rfl
   |some u=>
    rcases hA b (by rw[q];simp) with Y|Y
    .subst Y
     rw[Z] at e;cases e;exact absurd rfl (d1 _ _)
    .subst Y
     rw[hT] at e;cases e;exact absurd rfl (d2 _)
  have M:∀ {b:Addr} {m:Str->Option Value},s₁.heap.Ns b m->(Rh s₁.heap H).Ns b m:=λ{b m} ⟨o,es,ep,e,d,r⟩=>⟨o,es,ep,j e (ac e (λ_ _ z=>by rw[d] at z;cases z) (λ_ z=>by rw[d] at z;cases z)),d,r⟩;have ad:K.In (Rh s₁.heap H):=λb o e=>j (KX b o e) (by
   cases q:H b with
   |none=>rfl
   |some u=>
    rcases hA b (by rw[q];simp) with Y|Y
    .subst Y
     rw[hK (by rw[q];simp)] at e;cases e
    .subst Y
     rw[hKT] at e;cases e)
  have hM:Mod K mg (Rh s₁.heap H):=⟨ad,M ai,⟨mb,M g,al⟩,let ⟨mc,h1,h2⟩:=ab;⟨mc,M h1,h2⟩⟩;have ak:BI mg (Rh s₁.heap H):=by
   obtain⟨bm,ob,b1,b2,b3,b4,b5,b6⟩:=bi;exact⟨bm,ob,b1,b2,j b3 (ac b3 (λ_ _ z=>by rw[b6] at z;cases z) (λ_ z=>by rw[b6] at z;cases z)),b4,b5,b6⟩
  have e0:WW P w K mg (Rh s₁.heap H) callerA [] s₁ H:=⟨rfl,hM,λb o e=>FZ e,Nat.le_of_eq (R0 _ _),trivial,λb g=>absurd (show b∈([]:List Addr) from g) (by simp),ah,.of_eq hg⟩;refine codeAny_mono ((F _ ad (M ai) ak).run callerA [] s₁ H ⟨[.ref a],[]⟩ [.ref a] [.ref a] _ _ hr e0 (hbind s₁ (.ref a)) (.cons rfl .nil) (hsp H hO hS)) λr s' h=>?_;cases r with
  |error e=>exact (hCX H e s' h).elim
  |ok fl=>
   cases fl with
   |next=>exact False.elim h
   |brk=>exact False.elim h
   |cont=>exact False.elim h
   |ret u=>
    obtain⟨v,H',os,af,un,U,r',q⟩:=h;have q':v=.bl true:=q;subst q';obtain rfl:u=Value.bool true:=r';obtain⟨more,aj⟩:=un.tbls T _ hO.1;have aa:s'.heap.get? T=some { cls:=.none,data:=.fields (#[]++more) }:=U T _ aj;have keep:∀ b o,b≠T->s₁.heap.get? b=some o->s'.heap.get? b=some o:=λb o nb e=>by
     cases q:H b with
     |none=>exact un.keep b o e q (by intro z;exact absurd (show b∈([]:List Addr) from z) (by simp)) (by simp)
     |some u=>
      rcases hO.2 b nb with z|⟨ob,xs,z⟩
      .rw[q] at z;cases z
      .have z2:=un.frzs b ob _ z
       obtain⟨e1,_⟩:=ah b _ z;obtain⟨e2,_⟩:=U b _ z2;rw[e] at e1;cases e1;exact e2
    have ct:isCodeTable s₁.heap T:=((codeHd_of_K KX hcT).tab hT).isCodeTable;refine⟨rfl,⟨λb o e=>?_,λb o e=>?_⟩,os,af⟩
    .by_cases g:b=T
     .subst g
      rw[hT] at e;cases e;exact .inr (.inl ⟨ct,rfl,#[],more,rfl,aa⟩)
     .exact .inl (keep b o g e)
    .by_cases g:b=T
     .subst g
      exact⟨_,aa⟩
     .exact⟨o,keep b o g e⟩
 cases hk:K.lookup a with
 |some o=>
  have e:=KX a o hk;rw[Z] at e;cases e;refine S (λb=>if b=T then some (.tbl #[]) else none) ⟨if_pos rfl,λb g=>.inl (if_neg g)⟩ (.inr ⟨_,vs.toArray,_,hk,rfl,rfl,rfl,by rw[zAh,ag];exact hl,by simpa using rv⟩) (λb u z=>?_) (λb z=>?_) λz=>absurd (if_neg ae) z
  .by_cases g:b=T
   .have L:=(if_pos g).symm.trans z
    cases L
    subst g;exact hT
   .have L:=(if_neg g).symm.trans z
    cases L
  .by_cases g:b=T
   .exact .inr g
   .exact absurd (if_neg g) z
 |none=>
  refine S (λb=>if b=T then some (.tbl #[]) else if b=a then some (.frz { cls:=.type "list",data:=.seq vs.toArray } (.lst (ns.map V.int))) else none) ⟨if_pos rfl,λb g=>?_⟩ (.inl (.inr ⟨{ cls:=.type "list",data:=.seq vs.toArray },(if_neg ae).trans (if_pos rfl)⟩)) (λb u z=>?_) (λb z=>?_) λ_=>hk
  .by_cases B:b=a
   .exact .inr ⟨_,_,(if_neg g).trans (if_pos B)⟩
   .exact .inl ((if_neg g).trans (if_neg B))
  .by_cases g:b=T
   .have L:=(if_pos g).symm.trans z
    cases L
    subst g;exact hT
   .have z1:=(if_neg g).symm.trans z
    by_cases B:b=a
    .have L:=(if_pos B).symm.trans z1
     cases L
     subst B;exact⟨Z,by rw[zAb];exact hl,vs,_,rv,Z⟩
    .have L:=(if_neg B).symm.trans z1
     cases L
  .by_cases g:b=T
   .exact .inr g
   .by_cases B:b=a
    .exact .inl B
    .exact absurd ((if_neg g).trans (if_neg B)) z
def walk_ofT {l:PySem.W.OpenLaw} {n k:Nat} {q:Program} {j:List Str} {XP:(Str->Option Value)->Heap->Prop} {YP:World->Heap->Prop} {d:DefRec} {K:Params->zAa} {CX:World->DE} {sp:World->Sp} {x:Str} {c T:Addr}
  (hn:l.most=some n) (S:n<=sizeLine) (M:d.params.defaults=[]) (hr:VP k callerA)
  (hY:∀ (w:World) (h:Heap),YP w h->(K w.params).In h) (Z:∀ (w:World) (h:Heap),YP w h->h.get? T=some (tabObj #[])) (ab:∀ w:World,(K w.params).lookup T=none) (ad:∀ w:World,codeHdIn (K w.params) c T=true)
  (F:∀ (w:World) (mg:Str->Option Value) (L:Addr) (h:Heap),(K w.params).In h->h.Ns zCH mg->mg d.name=some (.ref L) ->
   ∃ fd:zCG,(∀ (s:Shared) (u:Value),BindsTo s fd ⟨[u],[]⟩ [(x,u)]) /\
    ∀ base:Heap,(K w.params).In base->base.Ns zCH mg->BI mg base->Lp l.prog w (K w.params) mg base (CX w) k L fd [x] (sp w))
  (aa:∀ (w:World) (H:Hp) (a:Addr) (ns:List Int),ns.length<=n->AL T H->Dl (K w.params) H a (ns.map V.int)->sp w [.ref a] H (λv _=>v=.bl true) λ_ _ _=>False)
  (ac:∀ (w:World) (H:Hp) (s:Shared) (e:Value) (s':Shared),CX w [] H s (λ_ _ _=>False) e s'->False) :
  PySem.W.WalkO q j XP YP l.row.toRowW d [] (λf vs=>PySem.call f vs):=by
 refine Att.attach_call hn M λw s₀ s₁ mg mb L o pm cd af a vs ns G Y ho hd ae U B z g hg=>?_;have KX:=hY w _ Y;obtain⟨fd,hb,hF⟩:=F w mg L _ KX G.T.g U;exact P0 KX G.T.g G.T.b G.T.builtins G.T.nolimit hg B z (zAz g S) hr (Z w _ Y) (ab w) (ad w) G.T.bmain hF hb (λH hO hS=>aa w H a ns g hO hS) λH e s'=>ac w H s₁ e s'
def WC.okC {P} {w} {K} {mg:Str->Option Value} {base} {x qual} {st} {f c} {fd} {N ps} {k:Nat} {sp} (F:WC K x qual st f fd) (M:fd.code=.ref c) (S:Bz N ps (Ao st)) (len:∀ vs H Q E,sp vs H Q E->vs.length=ps.length)
  (g:∀ (A:Around) (outer:List Env) (s:Shared) (H:Hp) (vs:List V) (Q:VK) (E:XK),VP k (A.deeper (envOfC qual (Ao st) s.heap.objs.size f (.ref c)))->sp vs H Q E ->
   ∃ t,PSs (Kd Ec P w K mg base N qual (Ao st) f (.ref c) A outer s H E).nox (Bn st) t/\t { nx:=λ_ H'=>Q .non H',rt:=Q } (Fa N vs) H):Lp P w K mg base Ec (k+1) f fd ps sp:=by
 obtain⟨oc,od,kV,L,Y,Z,cdv,ct,B,rfl,U,z⟩:=F.ex;obtain rfl:cdv=.ref c:=M;refine Y2 U z S len λA outer s H vs Q E hr j=>?_;obtain⟨t,h,q⟩:=g A outer s H vs Q E hr j;exact⟨t,h.nox,q⟩
def Sw {X:Cx} {k:Nat} {x:Str} {C:Addr} {ps:List Str} {sp:Sp} {p pos:Pos} (M:O6 X.prog X.w X.K X.mg X.base k x C ps sp) (hr:VP (k+1) X.A) (q:Gl X x) (g:(x==("__debug__" : Str))=false:=by decide) :
  PE X (.Call (.Name x p) [] [] pos) (L7 C sp [] E0 Xs):=by
 obtain⟨f,fd,mk,F,b,j⟩:=M.ex;exact Y8 mk F hr q j b .nil Qx g
def MX {X:Cx} {qual:Str} {j:Nat} (S:Bz ["entry"] ["entry"] scope)
  (bd:∀ (z:Value) (q:Addr) (g u:Value),bindArgs (kla_fn "<lambda>" qual params (.Subscript (.Name "entry" p1) (.Slice none (some (.Constant (.int 3) j p2)) none p3) p4) scope [] z (.ref q) g) ⟨[u],[]⟩=pure [(("entry" : Str),u)]) :
  LJ X qual params (.Subscript (.Name "entry" p1) (.Slice none (some (.Constant (.int 3) j p2)) none p3) p4) scope:=by
 refine⟨S,bd,λA outer s H f q=>Ek KJ (pv 0 rfl ?_) Hl (Eh Ad)⟩;rcases S.par "entry" (by simp) with h|h
 .exact .inl h
 .exact .inr (.inl h)
end L2
namespace CRL
open PySem L2
def W6 (H H':Hp):Prop:=∀ t xs,H t=some (.tup xs)->H' t=some (.tup xs)
def Aq {H H':Hp} (s:De H H'):W6 H H':=λt xs h=>s t _ h
def Cj {l:Addr} {xs:List V} (h:H l=some (.lst xs)) (o:HO):W6 H (upd H l o):=λt zs z=>by
 rw[Ag (Ar z h (by intro e;cases e))];exact z
inductive Rw where
 |at (v:V)
 |pr (k:Int) (s:Str)
def TU (H:Hp):Rw->V->Prop
 |.at u,v=>v=u/\Dq u=true
 |.pr k s,v=>∃ t,v=.ref t/\H t=some (.tup [.int k,.str s])
abbrev UO:=Int×Int×Int×Rw
abbrev Tr:=Int×Int×Int
def RK (H:Hp) (x:V) (e:UO):Prop:=∃ t v,x=.ref t/\H t=some (.tup [.int e.1,.int e.2.1,.int e.2.2.1,v])/\TU H e.2.2.2 v
def US (H:Hp):List V->List UO->Prop
 |[],[]=>True
 |x::xs,e::es=>RK H x e/\US H xs es
 |_,_=>False
def HA {n:Nat} {p:Array Nat} (h:CRS.Pm n p):∀ i∈p.toList,i<n:=λi hi=>by
 have:=(zBA.mp h).mem_iff.mp hi
 simpa using this
def WU (H:Hp):List V->List Tr->Prop
 |[],[]=>True
 |x::xs,p::ps=>(∃ t,x=.ref t/\H t=some (.tup [.int p.1,.int p.2.1,.int p.2.2]))/\WU H xs ps
 |_,_=>False
theorem WU.len:∀ {xs} {ps},WU H xs ps->xs.length=ps.length
 |[],[],_=>rfl
 |[],_::_,h=>h.elim
 |_::_,[],h=>h.elim
 |x::xs,p::ps,h=>by rw[zAf,zAf,WU.len h.2]
theorem WU.mono {H H':Hp} (s:W6 H H'):∀ {xs} {ps},WU H xs ps->WU H' xs ps
 |[],[],_=>trivial
 |[],_::_,h=>h.elim
 |_::_,[],h=>h.elim
 |x::xs,p::ps,⟨⟨t,e,h⟩,r⟩=>⟨⟨t,e,s _ _ h⟩,WU.mono s r⟩
theorem WU.get:∀ {xs} {ps} {i:Nat} {x},WU H xs ps->xs[i]?=some x->∃ t p,ps[i]?=some p/\x=.ref t/\H t=some (.tup [.int p.1,.int p.2.1,.int p.2.2])
 |[],[],_,_,_,e=>by simp at e
 |[],_::_,_,_,h,_=>h.elim
 |_::_,[],_,_,h,_=>h.elim
 |x::xs,p::ps,0,y,⟨⟨t,e,h⟩,r⟩,q=>by
  simp at q;subst q;exact⟨t,p,rfl,e,h⟩
 |x::xs,p::ps,i+1,y,⟨_,r⟩,q=>by
  obtain⟨t,j,h1,g⟩:=WU.get (i:=i) r (by simpa using q);exact⟨t,j,by simpa using h1,g⟩
theorem WU.snoc:∀ {xs} {ps} {t} {a b c:Int},WU H xs ps->H t=some (.tup [.int a,.int b,.int c])->WU H (xs++[.ref t]) (ps++[(a,b,c)])
 |[],[],t,_,_,_,_,h=>⟨⟨t,rfl,h⟩,trivial⟩
 |[],_::_,_,_,_,_,r,_=>r.elim
 |_::_,[],_,_,_,_,r,_=>r.elim
 |x::xs,p::ps,_,_,_,_,⟨z,r⟩,h=>⟨z,WU.snoc r h⟩
abbrev Fh:Str:="Days.up_to.<locals>.<lambda>"
def _root_.L2.LamAt.mono {T:Addr} {qual:Str} {H H':Hp} (h:LamAt T pos qual H) (s:∀ b o,H b=some o->(∃ ps,o=.tbl ps)\/(∃ φ,o=.ext φ)->H' b=some o):LamAt T pos qual H':=by
 rcases h with h|⟨c,h,g⟩
 .exact .inl (s _ _ h (.inl ⟨_,rfl⟩))
 .exact .inr ⟨c,s _ _ h (.inl ⟨_,rfl⟩),s _ _ g (.inr ⟨_,rfl⟩)⟩
def _root_.L2.LamAt.same {T:Addr} {qual:Str} {H H':Hp} (h:LamAt T pos qual H) (s:De H H'):LamAt T pos qual H':=h.mono λb o e _=>s b o e
def _root_.L2.LamAt.ins {T l C dx:Addr} {qual:Str} {fs:List (Str×V)} (h:LamAt T pos qual H) (e:H l=some (.ins C dx fs)) (o:HO):LamAt T pos qual (upd H l o):=h.mono λb u z k=>by
 rw[Ag (λy=>by rw[y,e] at z;cases z;rcases k with ⟨_,k⟩|⟨_,k⟩ <;> cases k)];exact z
def Dy (C:Addr) (H:Hp) (x wl nl:Addr):Prop:=∃ dx,H x=some (.ins C dx [("waiting",.ref wl),("numbers",.ref nl)])
def LC {l n:Addr} {xs:List V} {kvs:List (Fl×V)} (h:H n=some (.dK kvs)) (e:H l=some (.lst xs)) (o:HO):upd H l o n=some (.dK kvs):=by
 rw[Ag (Ar h e (by intro y;cases y))];exact h
end CRL
namespace CST
open PySem
abbrev Rs (xs:Array Nat):Prop:=xs.toList.Pairwise (· < ·)
def C7 {xs:Array Nat} (h:Rs xs) {i k:Nat} (g:i<k) (j:k<xs.size):xs[i]'(by lia)<xs[k]:=by
 have:=zAH.mp h i k (by simpa using (by lia:i<xs.size)) (by simpa using j) g
 simpa using this
structure UI (xs:Array Nat) (j p:Nat):Prop where
 le:p<=xs.size
 lo:∀ i (h:i<xs.size),i<p->xs[i]<j
 hi:∀ i (h:i<xs.size),p<=i->j<=xs[i]
theorem Pd {xs:Array Nat} {j:Nat} (r:Rs xs):∀ (f lo hi:Nat),hi-lo<=f->lo<=hi->hi<=xs.size->(∀ i (h:i<xs.size),i<lo->xs[i]<j)->(∀ i (h:i<xs.size),hi<=i->j<=xs[i])->UI xs j (SetTable.below.go xs j f lo hi)
 |0,lo,hi,F,h1,g,a,b=>by
  have e:lo=hi:=by omega
  subst e;unfold SetTable.below.go;exact⟨g,a,b⟩
 |f+1,lo,hi,F,h1,g,a,b=>by
  unfold SetTable.below.go;by_cases c:lo<hi
  .rw[if_pos c]
   have B:(lo+hi)/2<xs.size:=by omega
   have e:xs.getD ((lo+hi)/2) j=xs[(lo+hi)/2]:=by simp [zBP,B]
   dsimp only
   rw[e];by_cases d:xs[(lo+hi)/2]<j
   .rw[if_pos d]
    refine Pd r f _ hi (by omega) (by omega) g (λi h z=>?_) b;by_cases q:i=(lo+hi)/2
    .subst q;exact d
    .exact Nat.lt_trans (C7 r (by omega) B) d
   .rw[if_neg d]
    refine Pd r f lo _ (by omega) (by omega) (by omega) a (λi h z=>?_);by_cases q:i=(lo+hi)/2
    .subst q;omega
    .have:=C7 r (i:=(lo+hi)/2) (k:=i) (by omega) h
     omega
  .rw[if_neg c]
   have e:lo=hi:=by omega
   subst e;exact⟨g,a,b⟩
def Qd {xs:Array Nat} {j:Nat} (r:Rs xs):UI xs j (SetTable.below xs j):=by
 unfold SetTable.below;exact Pd r _ _ _ (by lia) (zAu _) (zAi _) (λi _ h=>absurd h (zBE _)) (λi h h'=>absurd h' (by lia))
structure Jv (by_:Bool) (t:SetTable):Prop where
 rs:Rs t.place
 dm:t.dummies = #[]
 ld:by_=false->t.led=true
def Zx (b:Bool):Jv b (.fresh 0 0 (!b)):=⟨List.Pairwise.nil,rfl,λh=>by rw[h];rfl⟩
def Fs {b:Bool} {t:SetTable} (g:Jv b t) (n:Nat):Jv b (t.standIn n):=by
 refine⟨?_,rfl,g.ld⟩;show (Array.range n).toList.Pairwise (· < ·);rw[Array.toList_range];exact List.pairwise_lt_range
def B9 {b:Bool} {t:SetTable} (g:Jv b t) (p:Bool):Jv b { t with plain:=p }:=⟨g.rs,g.dm,g.ld⟩
def Xu (j:Nat):SetTable.has #[] j=false:=by
 unfold SetTable.has;have:(#[]:Array Nat)[SetTable.below #[] j]?=none:=by simp
 rw[this];rfl
def Zb {t:SetTable} {j:Nat} (g:t.dummies = #[]):t.slot j=.empty\/∃ i,t.slot j=.live i:=by
 unfold SetTable.slot
 dsimp only
 by_cases c:(t.place[SetTable.below t.place j]?==some j)=true
 .rw[if_pos c];exact .inr ⟨_,rfl⟩
 .rw[if_neg c,g,Xu]
  exact .inl rfl
def Zc {t:SetTable} {j:Nat} (r:Rs t.place) (h:t.slot j=.empty):∀ i (hi:i<t.place.size),t.place[i]≠j:=λi hi e=>by
 have b:=Qd (j:=j) r;have q:SetTable.below t.place j<=i:=by
  rcases Nat.lt_or_ge i (SetTable.below t.place j) with z|z
  .have:=b.lo i hi z;lia
  .exact z
 have g:SetTable.below t.place j<t.place.size:=by lia
 have e2:t.place[SetTable.below t.place j]=j:=by
  have h1:=b.hi _ g (zAi _);rcases Nat.lt_or_eq_of_le q with z|z
  .have:=C7 r z hi;lia
  .have:t.place[SetTable.below t.place j]=t.place[i]:=by congr 1
   lia
 unfold SetTable.slot at h
 dsimp only at h
 have c:(t.place[SetTable.below t.place j]?==some j)=true:=by
  rw[zBa g,e2];simp
 rw[if_pos c] at h;cases h
theorem Ws {t:SetTable} {F:Nat->Int} {h:Int} (B:t.dummies = #[]):∀ (f:Nat) (p:SetTable.Probe) (j:Nat) (d:Option Nat),p.dummy=none->SetTable.probe.go t F h f p=some (.empty j d)->d=none/\t.slot j=.empty
 |0,p,j,d,_,e=>by unfold SetTable.probe.go at e;cases e
 |f+1,p,j,d,q,e=>by
  unfold SetTable.probe.go at e;have g:(t.advance p).dummy=none:=by
   unfold SetTable.advance
   split
   .exact q
   .exact q
  rcases Zb (t:=t) (j:=p.j) B with z|⟨i,z⟩
  .rw[z] at e
   dsimp only at e
   injection e with e;injection e with e1 e2;subst e1;exact⟨e2▸q,z⟩
  .rw[z] at e
   dsimp only at e
   split at e
   .injection e with e;cases e
   .exact Ws B f _ j d g e
def JY {t:SetTable} {j:Nat} (r:Rs t.place) (h:∀ i (hi:i<t.place.size),t.place[i]≠j):Rs (t.put j).1.place:=by
 have b:=Qd (j:=j) r;show (SetTable.insertAt t.place (SetTable.below t.place j) j).toList.Pairwise (· < ·);rw[SetTable.toList_insertAt];have e1:∀ x∈t.place.toList.take (SetTable.below t.place j),x<j:=λx B=>by
  obtain⟨i,hi,q⟩:=zAW B;rw[List.getElem_take] at q;have g:i<SetTable.below t.place j/\i<t.place.size:=by
   rw[zAo,zAA] at hi;lia
  have:=b.lo i g.2 g.1;rw[<- q]
  simpa using this
 have e2:∀ x∈t.place.toList.drop (SetTable.below t.place j),j<x:=λx B=>by
  obtain⟨i,hi,q⟩:=zAW B;rw[List.getElem_drop] at q;have g:SetTable.below t.place j+i<t.place.size:=by
   rw[zBm,zAA] at hi;lia
  have h1:=b.hi _ g (Nat.le_add_right _ _);have S:=h _ g;rw[<- q];have:j<t.place[SetTable.below t.place j+i]:=by lia
  simpa using this
 refine List.pairwise_append.mpr ⟨r.sublist (zBF _ _),zAM.mpr ⟨e2,r.sublist (List.drop_sublist _ _)⟩,λa F M L=>?_⟩;rcases zAn.mp L with z|z
 .rw[z];exact e1 a F
 .exact Nat.lt_trans (e1 a F) (e2 M z)
def Wq {b:Bool} {t:SetTable} {j:Nat} (g:Jv b t) (h:t.slot j=.empty):Jv b (t.put j).1:=by
 refine⟨JY g.rs (Zc g.rs h),?_,g.ld⟩;show (if SetTable.has t.dummies j then _ else t.dummies) = #[];rw[g.dm,Xu];rfl
set_option tactic.hygienic true in
def Xl {b:Bool} {t:SetTable} (g:Jv b t) (es:Array (Int×Value)) (h:Int) (x:Value):Jv b (layNew t es h x).2.1/\(layNew t es h x).2.2.1=false:=by
 unfold layNew;cases e:t.freeSlot h with
 |none=>exact⟨Fs g _,rfl⟩
 |some p=>
  obtain⟨sl,F⟩:=p;unfold SetTable.freeSlot at e
  split at e
  .rename_i j d hp
   injection e with e;injection e with e1 e2;obtain⟨B,z⟩:=Ws g.dm _ _ j d rfl hp;subst B
   dsimp only at e1 e2 ⊢
   have q:j=sl:=e1;subst q;refine⟨?_,e2.symm⟩;unfold SetTable.orStandIn
   split
   .exact Wq g z
   .exact Fs (Wq g z) _
  .cases e
theorem Ov (o:Nat->Option Nat):∀ l:List Nat,((l.filterMap λj=>(o j).map (j,·)).map (·.1)).Sublist l
 |[]=>List.Sublist.slnil
 |j::l=>by
  rw[zBk];cases e:o j with
  |none=>exact (Ov o l).cons j
  |some k=>exact (Ov o l).cons₂ j
def Rr {b:Bool} {t:SetTable} (g:Jv b t) (es:Array (Int×Value)) (j:Nat):Jv b (relayAll t es j).2.1:=by
 unfold relayAll;cases e:t.relaid (es.map (·.1)) j with
 |none=>exact Fs g _
 |some p=>
  obtain⟨F,q⟩:=p
  dsimp only
  split
  .unfold SetTable.relaid SetTable.laid at e
   cases e2:SetTable.layClean (SetTable.sizeAbove j-1) (es.map (·.1)) with
   |none=>rw[e2] at e;cases e
   |some z=>
    rw[e2] at e;have e3:=Option.some.inj e;injection e3 with B _;subst B;refine⟨?_,rfl,g.ld⟩;show (List.toArray _).toList.Pairwise (· < ·);rw[List.toList_toArray];exact List.pairwise_lt_range.sublist (Ov _ _)
  .exact Fs g _
section
variable {prog:Program} {w:World} {K:Type} [DecidableEq K] (knd:KeyKind prog w K)
def JF (e:Int×Value) (k:K):Prop:=knd.is k e.2=true/\e.1=knd.hash k/\e.2.scannable=true
def WI (h:Heap) (a:Addr) (ks:List K):Prop:=∃ o es ep t,h.get? a=some o/\o.ExactSet/\o.data=.set es ep t/\Paired (JF knd) es.toList ks/\ks.Nodup/\es.size<scanBound/\t.fits es.size=true/\Jv (w.params.followText "set-order") t
variable {knd}
variable {A:Around} {E:Value->Shared->Prop} {s:Shared}
def Nc {α β:Type} {F:α->β->Prop}:∀ {l g:List α} {ks},g.Perm l->Paired F l ks->∃ ks',ks'.Perm ks/\Paired F g ks':=by
 intro l g ks p;have q:=p.symm;clear p
 induction q generalizing ks with
 |nil=>intro h;exact⟨ks,List.Perm.refl _,h⟩
 |cons x _ ih=>
  intro h;cases h with
  |cons r t=>
   obtain⟨ks',M,h'⟩:=ih t;exact⟨_,M.cons _,.cons r h'⟩
 |swap x y l=>
  intro h;cases h with
  |cons r t=>
   cases t with
   |cons U B=>exact⟨_,List.Perm.swap _ _ _,.cons U (.cons r B)⟩
 |trans _ _ z j=>
  intro h;obtain⟨Z,Y,h1⟩:=z h;obtain⟨S,p2,L⟩:=j h1;exact⟨S,p2.trans Y,L⟩
theorem Nf {α β:Type} {F:α->β->Prop} {a:α} {b:β} (r:F a b):∀ {l:List α} {ks},Paired F l ks->Paired F (l++[a]) (ks++[b])
 |_,_,.nil=>.cons r .nil
 |_,_,.cons q t=>.cons q (Nf r t)
theorem Ko {α β:Type} {F:α->β->Prop}:∀ {l:List α} {ks},Paired F l ks->∀ a∈l,∃ b∈ks,F a b
 |_,_,.nil,_,h=>nomatch h
 |_,_,.cons q t,a,h=>by
  rcases zAn.mp h with z|z
  .subst z;exact⟨_,zAg,q⟩
  .obtain⟨b,g,r⟩:=Ko t a z
   exact⟨b,zAd _ g,r⟩
theorem Np {α β:Type} {F:α->β->Prop}:∀ {l:List α} {ks},Paired F l ks->∀ b∈ks,∃ a∈l,F a b
 |_,_,.nil,_,h=>nomatch h
 |_,_,.cons q t,a,h=>by
  rcases zAn.mp h with z|z
  .subst z;exact⟨_,zAg,q⟩
  .obtain⟨b,g,r⟩:=Np t a z
   exact⟨b,zAd _ g,r⟩
def NH {l:List (Int×Value)} {ks:List K} (h:Paired (JF knd) l ks):ElemsOf knd l:=λe z=>by
 obtain⟨k,_,q,j,g⟩:=Ko h e z;exact⟨⟨k,q,j⟩,g⟩
def Xq {l:List (Int×Value)} {ks:List K} {k:K} (h:Paired (JF knd) l ks):(l.findIdx? λe=>knd.is k e.2)=none↔k∉ks:=by
 rw[List.findIdx?_eq_none_iff];constructor
 .intro z q
  obtain⟨e,j,r⟩:=Np h k q;have:=z e j;rw[r.1] at this;cases this
 .intro z e j
  obtain⟨B,g,r⟩:=Ko h e j;cases c:knd.is k e.2 with
  |false=>rfl
  |true=>exact absurd (knd.inj _ _ _ c r.1▸g) z
def stored {h:Heap} {a:Addr} {o:Obj} {es j:Array (Int×Value)} {ep:Nat} {t t':SetTable} {ks:List K} (S:h.get? a=some o) (z:o.ExactSet) (F:o.data=.set es ep t) (U:Paired (JF knd) j.toList ks) (nd:ks.Nodup) (L:j.size<scanBound) (M:t'.fits j.size=true)
  (g:Jv (w.params.followText "set-order") t'):(h.update a (Obj.putSet j t')).get? a=some { o with data:=.set j (ep+1) t' }/\WI knd (h.update a (Obj.putSet j t')) a ks:=by
 have B:(h.update a (Obj.putSet j t')).get? a=some { o with data:=.set j (ep+1) t' }:=by
  have q:=zCh (Obj.putSet j t') S (by rw[putSet_of j t' F];rfl)
  rwa [putSet_of j t' F] at q
 exact⟨B,_,j,ep+1,t',B,z,rfl,U,nd,L,M,g⟩
def Xr {a:Addr} {o:Obj} {es j:Array (Int×Value)} {ep:Nat} {t q:SetTable} {ks1:List K} (ho:s.heap.get? a=some o) (F:o.ExactSet) (hd:o.data=.set es ep t) (hp:Paired (JF knd) j.toList ks1) (nd:ks1.Nodup) (L:j.size<scanBound) (hf:q.fits j.size=true)
  (g:Jv (w.params.followText "set-order") q) {wd:Bool} {gw:Bool->Sem Unit} (aa:∀ (b:Bool) (s₁:Shared) (Q':Unit->Shared->Prop),Q' () s₁->wpAny (model prog w) A (gw b) Q' E s₁) {R:Option Bool->Shared->Prop}
  (h:∀ h' B,zBo a s.heap h'->WI knd h' a B->B.Perm ks1->R (some true) { s with heap:=h' }) :
  wpAny (model prog w) A (do
   storeSet a j q
   if (!wd&&q.tooFull)=true then do
    gw (relayAll q j (SetTable.grown j.size)).2.2
    storeSet a (relayAll q j (SetTable.grown j.size)).1 (relayAll q j (SetTable.grown j.size)).2.1
    pure (some true)
   else pure (some true)) R E s:=by
 obtain⟨z,G1⟩:=stored (knd:=knd) ho F hd hp nd L hf g;have sb:=zBo.update s.heap a (Obj.putSet j q);refine zCC (wpAny_storeSet_of ho hd ?_ (fits_of_scanBound L));by_cases c:(!wd&&q.tooFull)=true
 .rw[if_pos c]
  have p2:=relayAll_perm q j (SetTable.grown j.size);have f2:=relayAll_fits q j (SetTable.grown j.size);have S:=Rr g j (SetTable.grown j.size);generalize relayAll q j (SetTable.grown j.size)=Y at p2 f2 S;obtain⟨U,t3,gv⟩:=Y
  dsimp only at p2 f2 S
  have z2:U.size=j.size:=by rw[<- zAA,p2.length_eq,zAA]
  obtain⟨M,q2,Z⟩:=Nc p2 hp;refine zCC (aa _ _ _ (zCC (wpAny_storeSet_of z rfl ?_ (fits_of_scanBound (by rw[z2];exact L)))));obtain⟨_,G2⟩:=stored (knd:=knd) z F rfl Z (q2.nodup_iff.mpr nd) (by rw[z2];exact L) f2 S;exact zCD (h _ M (sb.trans (zBo.update _ a _)) G2 q2)
 .rw[if_neg c]
  exact zCD (h _ ks1 sb G1 (List.Perm.refl _))
def ML {a:Addr} {ks:List K} {k:K} {x:Value} {Q:Bool->Shared->Prop} (B:knd.is k x=true) (F:x.scannable=true) (hS:WI knd s.heap a ks) (L:ks.length+1<scanBound)
  (h:∀ b h' q,zBo a s.heap h'->WI knd h' a q->q.Perm (if k∈ks then ks else ks++[k])->Q b { s with heap:=h' }) :
  wpAny (model prog w) A (setAddHashed a x (knd.hash k)) Q E s:=by
 obtain⟨o,es,ep,t,ho,ab,hd,hp,nd,hb,hf,g⟩:=id hS;have M:=NH hp;have lk:es.size=ks.length:=by rw[<- zAA];exact Paired.length hp
 unfold setAddHashed setAddHashedIn;refine wpAny_holding (zCC (wpAny_setState_of ho hd hf ?_))
 dsimp only
 rw[byScan_of F hb M];simp only [↓reduceIte];unfold setAddByScan;refine zCC (zCC (wpAny_rule (zCC (wpAny_setScan_of B ho hd hf M ?_))));cases hr:List.findIdx? (λe=>knd.is k e.2) es.toList with
 |some j=>
  have hk:k∈ks:=Classical.byContradiction λz=>by rw[(Xq hp).mpr z] at hr;cases hr
  dsimp only
  refine zCD (zCD ?_);have e:s={ s with heap:=s.heap }:=by cases s;rfl
  rw[e];exact h false s.heap ks (zBo.refl a s.heap) hS (by rw[if_pos hk])
 |none=>
  have hk:k∉ks:=(Xq hp).mp hr
  dsimp only
  have p1:=layNew_perm t es (knd.hash k) x;have f1:=layNew_fits t es (knd.hash k) x;have Z:=(Xl g es (knd.hash k) x).1;generalize layNew t es (knd.hash k) x=Y at p1 f1 Z ⊢;obtain⟨ad,t1,wd,gv⟩:=Y
  dsimp only at p1 f1 Z ⊢
  rw[Array.toList_push] at p1;obtain⟨ks1,q1,S⟩:=Nc p1 (Nf (show JF knd (knd.hash k,x) k from ⟨B,rfl,F⟩) hp);have ac:ks1.Nodup:=q1.nodup_iff.mpr (zCf.mpr ⟨nd,by simp,λa ha b U=>by rw[zAm] at U;subst U;rintro rfl;exact hk ha⟩);have b1:ad.size<scanBound:=by rw[<- zAA,p1.length_eq,zAj,zAA,lk];exact L
  have aa:∀ h' q,zBo a s.heap h'->WI knd h' a q->q.Perm ks1->Q true { s with heap:=h' }:=λh' q sb G p=>h true h' q sb G (by rw[if_neg hk];exact p.trans q1);have gw:∀ (b:Bool) (s₁:Shared) (Q':Unit->Shared->Prop),Q' () s₁->wpAny (model prog w) A (match b with|true=>rule "set.scan.the-table-gave-way" |false=>pure ()) Q' E s₁ :=
   λb s₁ Q' hq=>by cases b <;> first|exact zCD hq|exact wpAny_rule hq
  refine zCC (gw _ _ _ ?_)
  split
  .refine zCC ?_
   rw[hashByValue_scannable 8 F];refine zCD ?_;refine Xr (ks1:=ks1) (knd:=knd) ho ab hd S ac b1 ?_ ?_ gw λh' q sb G p=>?_
   .split
    .exact f1
    .exact SetTable.fits_plain_off f1
   .split
    .exact Z
    .exact B9 Z _
   .exact zCD (aa h' q sb G p)
  .refine zCC (zCD ?_)
   simp only [↓reduceIte];exact Xr (ks1:=ks1) (knd:=knd) ho ab hd S ac b1 f1 Z gw λh' q sb G p=>zCD (aa h' q sb G p)
end
def VU:Slot "set_iterator" "__next__" "set_iterator.__next__":=
 .of (owner:="set_iterator") (n:="__next__") (by rw[typeLookup_type,builtinLookup_eq_fast];kernel_rfl) (by ac_nf) (by ac_nf) (by ac_nf) (by first|exact .inl (by ac_nf)|exact .inr (by ac_nf)) (by rw[isSubtype_type];kernel_rfl)
def Jl:entryFor table "set_iterator.__next__"=some Builtin.«set_iterator.__next__» := entryFor_of_fast (by kernel_rfl)
def Ly (a:Value):argsOk "set_iterator.__next__" ⟨[a],[]⟩:=by unfold argsOk;kernel_rfl
def Ye:Slot "set_iterator" "__iter__" "set_iterator.__iter__":=
 .of (owner:="set_iterator") (n:="__iter__") (by rw[typeLookup_type,builtinLookup_eq_fast];kernel_rfl) (by ac_nf) (by ac_nf) (by ac_nf) (by first|exact .inl (by ac_nf)|exact .inr (by ac_nf)) (by rw[isSubtype_type];kernel_rfl)
def W7 (a:Value):argsOk "set_iterator.__iter__" ⟨[a],[]⟩:=by unfold argsOk;kernel_rfl
def R9:entryFor table "set_iterator.__iter__"=some Builtin.«dict_keyiterator.__iter__» :=
 entryFor_alias (id':="dict_keyiterator.__iter__") (by kernel_rfl) rfl (by ac_nf) (by kernel_rfl)
def BC:entryFor table "set.__iter__"=some Builtin.«frozenset.__iter__» :=
 entryFor_alias (id':="frozenset.__iter__") (by kernel_rfl) rfl (by ac_nf) (by kernel_rfl)
def B4 (h:Heap) (I:Addr) (first:Value) (i:Nat) (a:Addr) (n ep:Nat):Prop:=h.get? I=some { cls:=.type "set_iterator",dict:=none,data:=.fields #[first,rawInt i,.ref a,rawInt n,rawInt ep],slots := #[] }
section
variable {prog:Program} {w:World} {A:Around} {E:Value->Shared->Prop} {s:Shared} {I a:Addr} {i n ep slot nx:Nat} {x:Value} {o:Obj} {es:Array (Int×Value)} {t:SetTable} {Q:Option Value->Shared->Prop}
def Ya (g:B4 s.heap I (rawInt slot) i a n ep) (M:s.heap.get? a=some o) (Y:o.data=.set es ep t) (F:t.fits es.size=true) (L:es.size=n)
  (S:∀ (Z:Around) (z:Option (Value×Nat)->Shared->Prop) (B:Value->Shared->Prop),z (some (x,nx)) s->wpAny (model prog w) Z (setNext a slot i ep) z B s)
  (h:∀ h',B4 h' I (rawInt nx) (i+1) a n ep->zBo I s.heap h'->Q (some x) { s with heap:=h' }):wpAny (model prog w) A (pyNext (.ref I)) Q E s:=by
 have ty:s.TypeIs (.ref I) "set_iterator":=⟨_,g,rfl⟩;unfold pyNext;refine zCC (wpAny_attempt (wpAny_callSpecial?_slot (name:=Str.ofString "__next__") ty VU (wpAny_call_entry VU ty Jl ?_ (Ly _))));unfold Builtin.«set_iterator.__next__»;refine zCC (m:=slotArgs "__next__" 0 _) (zCD (zCC (wpAny_fieldsOf g rfl ?_)))
 dsimp only [rawInt]
 refine zCC (wpAny_setEntries_of M Y F ?_);rw[L];rw[if_neg (by simp)];refine zCC (S _ _ _ ?_)
 dsimp only
 refine zCC (wpAny_setField_rec g (by simp) λh1 e1 j=>?_);refine zCC (wpAny_setField_rec e1 (by simp) λU e2 q=>?_);refine zCD ⟨_,rfl,zCD (h U ?_ (j.trans q))⟩;unfold B4;rw[e2];simp [rawInt]
end
theorem Kj {α:Type}:∀ {l:List α} {i:Nat} (h:i<l.length),(l[i]::l.eraseIdx i).Perm l
 |[],_,h=>absurd h (zBE _)
 |x::l,0,_=>List.Perm.refl _
 |x::l,i+1,h=>(List.Perm.swap x _ _).trans ((Kj (l:=l) (i:=i) (by simpa using h)).cons x)
theorem E2 {α:Type} (f:Nat->Nat):∀ (m k:Nat) (l:List α) (out:Array α),l.length=m->(pickOrder.go f m k l out).toList.Perm (out.toList++l)
 |0,k,l,out,h=>by
  have e:l=[]:=List.length_eq_zero_iff.mp h;subst e;unfold pickOrder.go;rw[zAL]
 |m+1,k,l,out,h=>by
  have hl:f k%l.length<l.length:=Nat.mod_lt _ (by lia);unfold pickOrder.go;rw[zAe hl]
  dsimp only
  refine (E2 f m (k+1) _ _ (by rw[List.length_eraseIdx,if_pos hl];lia)).trans ?_;rw[Array.toList_push,zAZ];exact (Kj hl).append_left _
def VZ {α:Type} (f:Nat->Nat) (xs:Array α):(pickOrder f xs).toList.Perm xs.toList:=by
 unfold pickOrder;exact (E2 f xs.size 0 xs.toList #[] zAA).trans (by simp)
def Hj (p:Array Nat) (i:Nat):Nat:=if i=0 then 0 else p.getD (i-1) 0+1
def Qk {p:Array Nat} (r:Rs p) {i:Nat} (hi:i<=p.size):SetTable.below p (Hj p i)=i:=by
 have b:=Qd (j:=Hj p i) r;unfold Hj at b ⊢;by_cases c:i=0
 .rw[if_pos c] at b ⊢
  rw[c];rcases Nat.eq_zero_or_pos (SetTable.below p 0) with z|z
  .exact z
  .have B:0<p.size:=zAG z b.le
   exact absurd (b.lo 0 B z) (zBE _)
 .rw[if_neg c] at b ⊢
  have g:i-1<p.size:=by lia
  have e:p.getD (i-1) 0=p[i-1]:=by simp [zBP,g]
  rw[e] at b ⊢;rcases zBr (SetTable.below p (p[i-1]+1)) i with z|z|z
  .have:=b.hi (i-1) g (by lia)
   lia
  .exact z
  .have q:i<p.size:=zAG z b.le
   have h1:=b.lo i q z;have F:=C7 r (i:=i-1) (k:=i) (by lia) q
   lia
section
variable {prog:Program} {w:World} {A:Around} {E:Value->Shared->Prop} {s:Shared} {a:Addr} {o:Obj} {es:Array (Int×Value)} {ep:Nat} {t:SetTable}
def Oo {Q:Bool->Shared->Prop} (h:Q (w.params.followText "set-order") s):wpAny (model prog w) A setsByText Q E s:=by
 unfold setsByText;exact zCC (wpAny_askSetting (zCD h))
def Tb {slot i:Nat} {Q:Option (Value×Nat)->Shared->Prop} (q:w.params.followText "set-order"=true) (g:s.heap.get? a=some o) (j:o.data=.set es ep t) (z:t.fits es.size=true)
  (h:Q (((pickOrder (w.params.setOrder a ep) es)[i]?).map λe=>(e.2,slot)) s):wpAny (model prog w) A (setNext a slot i ep) Q E s:=by
 unfold setNext;refine zCC (wpAny_setState_of g j z ?_)
 dsimp only
 refine zCC (Oo ?_);rw[q,if_pos rfl,if_neg (by simp)];refine zCC ?_;unfold setWalk;refine zCC (wpAny_setState_of g j z ?_)
 dsimp only
 refine zCC (Oo ?_);rw[q,if_pos rfl];exact zCC (wpAny_askSetting (zCD (zCD h)))
def Qt {slot i:Nat} {Q:Option (Value×Nat)->Shared->Prop} (g:w.params.followText "set-order"=false) (z:s.heap.get? a=some o) (B:o.data=.set es ep t) (q:t.fits es.size=true) (hl:t.led=true) (F:(!t.plain&&decide (es.size>1))=false)
  (h:Q (match es[SetTable.below t.place slot]?,t.place[SetTable.below t.place slot]? with
   |some (_,x),some j=>some (x,j+1)
   | _,_=>none) s):wpAny (model prog w) A (setNext a slot i ep) Q E s:=by
 unfold setNext;refine zCC (wpAny_setState_of z B q ?_)
 dsimp only
 refine zCC (Oo ?_);rw[g,if_neg zAk];show wpAny _ _ (if (!t.plain&&decide (es.size>1))=true then _ else _) _ _ _;rw[F,if_neg zAk];refine zCC ?_;show wpAny _ _ (if (!t.led && !es.isEmpty)=true then unsupported "set:maker-not-led" else pure ()) _ _ _;rw[hl,if_neg (by simp)];exact zCD (zCD h)
def Yz {place:Nat} {k:Int} {x:Value} {Q:Value->Shared->Prop} (g:s.heap.get? a=some o) (j:o.data=.set es ep t) (z:t.fits es.size=true) (q:es[place]?=some (k,x)) (h:Q x s):wpAny (model prog w) A (setNextDrawn a place ep) Q E s:=by
 unfold setNextDrawn;refine zCC (wpAny_setState_of g j z ?_)
 dsimp only
 rw[if_neg (by simp),q];exact zCD h
def Zl {n:Nat} {Q:Nat->Shared->Prop} (g:n≠0) (h:∀ i,i<n->Q i { s with drawn:=s.drawn.bump src }):wpAny (model prog w) A (choose src n) Q E s:=λ_ _ _=>by
 unfold choose;rw[Sem.wp_choose];exact⟨g,h _ (Nat.mod_lt _ (by lia))⟩
theorem Pp {α:Type}:∀ (n:Nat) (xs:List α) (s:Shared) (Q:List α->Shared->Prop),xs.length=n->(∀ ys d,ys.Perm xs->Q ys { s with drawn:=d })->wpAny (model prog w) A (drawOrder n xs) Q E s
 |0,xs,s,Q,hl,h=>by
  have e:xs=[]:=List.length_eq_zero_iff.mp hl;subst e;unfold drawOrder;exact zCD (h [] s.drawn (List.Perm.refl _))
 |n+1,xs,s,Q,hl,h=>by
  cases xs with
  |nil=>simp at hl
  |cons x xs=>
   unfold drawOrder;refine zCC (Zl (by simp) λi hi=>?_);rw[zAe hi]
   dsimp only
   refine zCC (Pp n _ _ _ (by rw[List.length_eraseIdx,if_pos hi];lia) λys d p=>zCD ?_);exact h _ d ((p.cons _).trans (Kj hi))
end
section
variable {prog:Program} {w:World} {A:Around} {E:Value->Shared->Prop} {s:Shared} {I a T:Addr} {i n ep slot:Nat} {o:Obj} {es:Array (Int×Value)} {t:SetTable} {Q:Option Value->Shared->Prop}
def BU {q:Nat} {pl:Nat} {tk:Tok} {k:Int} {x:Value} (g:B4 s.heap I (.ref T) i a n ep) (hT:s.heap.get? T=some { cls:=.type "tuple",dict:=none,data:=.seq places q,slots := #[] }) (ho:s.heap.get? a=some o) (hd:o.data=.set es ep t) (hf:t.fits es.size=true) (hn:es.size=n)
  (hp:places[i]?=some (.int (pl:Int) tk)) (hx:es[pl]?=some (k,x))
  (h:∀ h',B4 h' I (.ref T) (i+1) a n ep->zBo I s.heap h'->Q (some x) { s with heap:=h' }):wpAny (model prog w) A (pyNext (.ref I)) Q E s:=by
 have ty:s.TypeIs (.ref I) "set_iterator":=⟨_,g,rfl⟩;unfold pyNext;refine zCC (wpAny_attempt (wpAny_callSpecial?_slot (name:=Str.ofString "__next__") ty VU (wpAny_call_entry VU ty Jl ?_ (Ly _))));unfold Builtin.«set_iterator.__next__»;refine zCC (m:=slotArgs "__next__" 0 _) (zCD (zCC (wpAny_fieldsOf g rfl ?_)))
 dsimp only [rawInt]
 refine zCC (wpAny_setEntries_of ho hd hf ?_);rw[hn,if_neg (by simp)];refine zCC (wpAny_seqItems hT rfl ?_)
 dsimp only
 rw[show ((i:Int)).toNat=i from rfl,hp]
 dsimp only
 refine zCC (Yz ho hd hf (place:=pl) hx ?_);refine zCC (wpAny_setField_rec g (by simp) λh1 e1 j=>?_);refine zCD ⟨_,rfl,zCD (h h1 ?_ j)⟩;unfold B4;rw[e1];simp [rawInt]
def Qu {α:Type} {Q:α->Shared->Prop} (g:A.handled=none) (h:∀ h' e,(∀ b o,s.heap.get? b=some o->h'.get? b=some o)->Shared.TypeIs { s with heap:=h' } e "StopIteration"->E e { s with heap:=h' }):wpAny (model prog w) A (newExc (.type "StopIteration") [] >>= raiseNew) Q E s:=by
 refine zCC ?_;simp only [newExc,newTuple];refine zCC (wpAny_newObj_type ?_ (by size_fits));refine zCC (m:=firstArgMember _ _) (wpAny_of_eq (a:=Value.none) (by first|rfl|(simp only [firstArgMember];rfl)) ?_);refine wpAny_newObj_type ?_ (by size_fits);refine wpAny_raiseNew_none g (h _ _ (λb j e=>zAc _ (zAc _ e)) ⟨_,zAv _ rfl,rfl⟩)
def L5 (F:A.handled=none) (g:B4 s.heap I (rawInt slot) i a n ep) (S:s.heap.get? a=some o) (Z:o.data=.set es ep t) (L:t.fits es.size=true) (M:es.size=n)
  (U:∀ (A':Around) (q:Option (Value×Nat)->Shared->Prop) (B:Value->Shared->Prop),q none s->wpAny (model prog w) A' (setNext a slot i ep) q B s)
  (h:∀ h',Heap.ExtBut I s.heap h'->Q none { s with heap:=h' }):wpAny (model prog w) A (pyNext (.ref I)) Q E s:=by
 have ty:s.TypeIs (.ref I) "set_iterator":=⟨_,g,rfl⟩;unfold pyNext;refine zCC (wpAny_attempt (wpAny_callSpecial?_slot (name:=Str.ofString "__next__") ty VU (wpAny_call_entry VU ty Jl ?_ (Ly _))));unfold Builtin.«set_iterator.__next__»;refine zCC (m:=slotArgs "__next__" 0 _) (zCD (zCC (wpAny_fieldsOf g rfl ?_)))
 dsimp only [rawInt]
 refine zCC (wpAny_setEntries_of S Z L ?_);rw[M,if_neg (by simp)];refine zCC (U _ _ _ ?_)
 dsimp only
 refine zCC (wpAny_setField_rec g (by simp) λh1 e1 j=>?_);refine Qu (s:={ s with heap:=h1 }) (by exact F) λY e z te=>?_
 dsimp only
 refine zCC (wpAny_isInstance (T:="StopIteration") (b:=true) te isSubtype_stop ?_);exact zCD (h Y (λb ob nb e'=>z b ob ((j.2 b nb).trans e')))
def FC {B:Nat} (Y:A.handled=none) (g:B4 s.heap I (.ref T) i a n ep) (hT:s.heap.get? T=some { cls:=.type "tuple",dict:=none,data:=.seq places B,slots := #[] }) (ho:s.heap.get? a=some o) (hd:o.data=.set es ep t) (hf:t.fits es.size=true) (hn:es.size=n) (hp:places[i]?=none)
  (h:∀ h',Heap.ExtBut I s.heap h'->Q none { s with heap:=h' }):wpAny (model prog w) A (pyNext (.ref I)) Q E s:=by
 have ty:s.TypeIs (.ref I) "set_iterator":=⟨_,g,rfl⟩;unfold pyNext;refine zCC (wpAny_attempt (wpAny_callSpecial?_slot (name:=Str.ofString "__next__") ty VU (wpAny_call_entry VU ty Jl ?_ (Ly _))));unfold Builtin.«set_iterator.__next__»;refine zCC (m:=slotArgs "__next__" 0 _) (zCD (zCC (wpAny_fieldsOf g rfl ?_)))
 dsimp only [rawInt]
 refine zCC (wpAny_setEntries_of ho hd hf ?_);rw[hn,if_neg (by simp)];refine zCC (wpAny_seqItems hT rfl ?_)
 dsimp only
 rw[show ((i:Int)).toNat=i from rfl,hp]
 dsimp only
 refine zCC (wpAny_setField_rec g (by simp) λh1 e1 j=>?_);refine zCC (wpAny_setField_rec e1 (by simp) λF e2 q=>?_);refine Qu (s:={ s with heap:=F }) (by exact Y) λS e M te=>?_
 dsimp only
 refine zCC (wpAny_isInstance (T:="StopIteration") (b:=true) te isSubtype_stop ?_);exact zCD (h S (λb L z U=>M b L ((q.2 b z).trans ((j.2 b z).trans U))))
def Uq {first:Value} {Q:Value->Shared->Prop} (g:B4 s.heap I first i a n ep) (h:Q (.ref I) s):wpAny (model prog w) A (pyIter (.ref I)) Q E s:=by
 have ty:s.TypeIs (.ref I) "set_iterator":=⟨_,g,rfl⟩;refine wpAny_pyIter_slot ty Ye (wpAny_call_entry Ye ty R9 ?_ (W7 _));unfold Builtin.«dict_keyiterator.__iter__»;exact zCC (m:=slotArgs "__iter__" 0 _) (zCD (zCD ⟨_,rfl,"set_iterator",_,ty,VU.lookup,h⟩))
def Yb:Slot "set" "__iter__" "set.__iter__":=
 .of (owner:="set") (n:="__iter__") (by rw[typeLookup_type,builtinLookup_eq_fast];kernel_rfl) (by ac_nf) (by ac_nf) (by ac_nf) (by first|exact .inl (by ac_nf)|exact .inr (by ac_nf)) (by rw[isSubtype_type];kernel_rfl)
def Z6 (a:Value):argsOk "set.__iter__" ⟨[a],[]⟩:=by unfold argsOk;kernel_rfl
def TL (w:World) (h0 h:Heap) (I a:Addr) (es:Array (Int×Value)) (ep:Nat) (t:SetTable):Prop:=
 (B4 h I (rawInt 0) 0 a es.size ep/\(w.params.followText "set-order"=true\/(w.params.followText "set-order"=false/\(!t.plain&&decide (es.size>1))=false))) \/
 ∃ T ps,B4 h I (.ref T) 0 a es.size ep/\h.get? T=some { cls:=.type "tuple",dict:=none,data:=.seq ((ps:List Nat).map λi:Nat=>rawInt i).toArray 0,slots := #[] }/\ps.Perm (zAO es.size)/\T≠I/\h0.get? T=none
def X6 {Q:Value->Shared->Prop} (hc:o.cls=.type "set") (B:s.heap.get? a=some o) (M:o.data=.set es ep t) (L:t.fits es.size=true) (hz:es.size<=sizeLine)
  (h:∀ h' d I,TL w s.heap h' I a es ep t->(∀ b g,s.heap.get? b=some g->h'.get? b=some g)->s.heap.get? I=none->Q (.ref I) { s with heap:=h',drawn:=d }):wpAny (model prog w) A (pyIter (.ref a)) Q E s:=by
 have ty:s.TypeIs (.ref a) "set":=⟨_,B,hc⟩;refine wpAny_pyIter_slot ty Yb (wpAny_call_entry Yb ty BC ?_ (Z6 _));unfold Builtin.«frozenset.__iter__»;refine zCC (m:=Builtin.Frozenset.slot0 "__iter__" _) (zCD ?_);refine zCC (zCC (wpAny_setEntries_of B M L (zCD ?_)));refine zCC ?_;unfold setDrawn;refine zCC (wpAny_setState_of B M L ?_)
 dsimp only
 refine zCC (Oo (zCD ?_));show wpAny _ _ (if (!(w.params.followText "set-order")&&(!t.plain&&decide (es.size>1)))=true then _ else _) _ _ _;have last:∀ (first:Value) (h1:Heap) (q:Drawn),(∀ b g,s.heap.get? b=some g->h1.get? b=some g)->s.heap.objs.size<=h1.objs.size->(∀ j,(∀ b g,h1.get? b=some g->j.get? b=some g)->B4 j h1.objs.size first 0 a es.size ep->TL w s.heap j h1.objs.size a es ep t) ->
   wpAny (model prog w) A.in1 (do
    let x <- setEpoch a
    let y <- newFields "set_iterator" [first,rawInt 0,Value.ref a,rawInt ↑es.size,rawInt ↑x]
    ret y) (λS s'=>∃ v,S=.done (.ret v)/\∃ U r,s'.TypeIs v U/\typeLookup (Value.type U) (Str.ofString "__next__")=pure (some r)/\Q v s') E { s with heap:=h1,drawn:=q }:=λfirst h1 q Z le bg=>by
  refine zCC ?_;unfold setEpoch;refine zCC (wpAny_setState_of (s:={ s with heap:=h1,drawn:=q }) (Z _ _ B) M L (zCD ?_));refine zCC (wpAny_newObj_type (zCD ⟨_,rfl,"set_iterator",_,⟨_,zAv _ rfl,rfl⟩,VU.lookup,?_⟩));refine h _ q h1.objs.size (bg _ (λb g e=>zAc _ e) (zAv _ rfl)) (λb g e=>zAc _ (Z b g e)) ?_;cases z:s.heap.get? h1.objs.size with
  |none=>rfl
  |some g=>
   have:=zAr z;exact absurd le (Nat.not_le.mpr this)
 by_cases c:(!(w.params.followText "set-order")&&(!t.plain&&decide (es.size>1)))=true
 .rw[if_pos c]
  refine zCC (Pp _ _ _ _ zBe λps d p=>?_);refine zCC (wpAny_newTuple ?_ (by rw[zAb,p.length_eq,zBe];exact hz));refine last _ _ d (λb g e=>zAc _ e) (by rw[zBR];exact zBD _) λj Y F=>.inr ⟨s.heap.objs.size,ps,F,Y _ _ (zAv _ rfl),p,?_,?_⟩
  .show s.heap.objs.size≠(s.heap.push _).objs.size
   rw[zBR];exact zAx (zBS _)
  .cases z:s.heap.get? s.heap.objs.size with
   |none=>rfl
   |some g=>exact absurd (zAr z) (zBn _)
 .rw[if_neg c]
  refine zCC (zCD ?_);have e:s={ s with heap:=s.heap,drawn:=s.drawn }:=by cases s;rfl
  rw[e];refine last _ s.heap s.drawn (λ_ _ z=>z) (zAi _) λj Y F=>.inl ⟨F,?_⟩;cases b:w.params.followText "set-order" with
  |true=>exact .inl rfl
  |false=>
   rw[b] at c;exact .inr ⟨rfl,by simpa using c⟩
end
section
variable {prog:Program} {w:World} {A:Around} {E:Value->Shared->Prop} {I a:Addr} {es:Array (Int×Value)} {ep:Nat} {t:SetTable}
def F8 (h:Heap) (a:Addr) (es:Array (Int×Value)) (ep:Nat) (t:SetTable):Prop:=∃ o,h.get? a=some o/\o.data=.set es ep t
def Qg (g:t.fits es.size=true):t.place.size=es.size:=by
 unfold SetTable.fits at g;simp at g;exact g.1
def A9 (es:Array (Int×Value)):(zAO es.size).map (λp=>(es.getD p (0,.none)).2)=es.toList.map (·.2):=by
 refine List.ext_getElem? λi=>?_;rw[zAy,zAy];by_cases h:i<es.size
 .rw[List.getElem?_range h,zBv,zBa h]
  simp [zBP,h]
 .rw[zCi (by simpa using h),zBv,zCa (by lia)]
  rfl
def Kk {s:Shared} {h':Heap} (j:zBo I s.heap h'):Moved [I] (λx y:Array GenState=>y=x) s { s with heap:=h' }:=⟨λb o g e=>(j.2 b (λz=>g (by rw[z];exact zAm.mpr rfl))).trans e,rfl,rfl,rfl,zAi _⟩
def Ms {s:Shared} {h':Heap} (j:Heap.ExtBut I s.heap h'):Moved [I] (λx y:Array GenState=>y=x) s { s with heap:=h' }:=⟨λb o g e=>j b o (λz=>g (by rw[z];exact zAm.mpr rfl)) e,rfl,rfl,rfl,zAi _⟩
def C1 (hh:A.handled=none) (M:w.params.followText "set-order"=true) (B:t.fits es.size=true) (na:a≠I) :
  WalksS prog w A I [I,a] [I] (λx y=>y=x) es.size (λi v=>(((pickOrder (w.params.setOrder a ep) es).toList.map (·.2))[i]?)=some v) (λi s=>B4 s.heap I (rawInt 0) i a es.size ep/\F8 s.heap a es ep t) where
 sub:=λb U=>by rw[zAm.mp U];exact zAg
 grefl:=λ_=>rfl
 gtrans:=λ_ _ _ h1 Z=>Z.trans h1
 frame:=λi s h' tk ⟨z,o,g,j⟩ _ k=>⟨k I zAg _ z,o,k a (by simp) _ g,j⟩
 item:=λi s Q E hi ⟨z,o,g,j⟩ h=>by
  have sz:(pickOrder (w.params.setOrder a ep) es).size=es.size:=by rw[<- zAA,(VZ _ es).length_eq,zAA]
  have S:(pickOrder (w.params.setOrder a ep) es)[i]?=some ((pickOrder (w.params.setOrder a ep) es)[i]'(by lia)):=zBa (by lia);refine Ya (slot:=0) (nx:=0) z g j B rfl (λA' Q' Y q=>Tb M g j B (by rw[S];exact q)) λh' L F=>?_;refine h _ _ ?_ ⟨L,o,(F.2 a na).trans g,j⟩ (Kk F);rw[zAy,zBv,S];rfl
 done:=λs Q E ⟨z,o,g,j⟩ h=>by
  have sz:(pickOrder (w.params.setOrder a ep) es).size=es.size:=by rw[<- zAA,(VZ _ es).length_eq,zAA]
  refine L5 (slot:=0) hh z g j B rfl (λA' Q' Y q=>Tb M g j B (by rw[zCa (by lia)];exact q)) λh' F=>h _ (Ms F)
 self:=λi s Q E ⟨z,_⟩ h=>Uq z h
def Wk (hh:A.handled=none) (Y:w.params.followText "set-order"=false) (B:t.fits es.size=true) (hl:t.led=true) (S:Rs t.place) (Z:(!t.plain&&decide (es.size>1))=false) (na:a≠I) :
  WalksS prog w A I [I,a] [I] (λx y=>y=x) es.size (λi v=>((es.toList.map (·.2))[i]?)=some v) (λi s=>B4 s.heap I (rawInt (Hj t.place i)) i a es.size ep/\F8 s.heap a es ep t) where
 sub:=λb hb=>by rw[zAm.mp hb];exact zAg
 grefl:=λ_=>rfl
 gtrans:=λ_ _ _ h1 h2=>h2.trans h1
 frame:=λi s h' tk ⟨z,o,g,j⟩ _ k=>⟨k I zAg _ z,o,k a (by simp) _ g,j⟩
 item:=λi s Q E hi ⟨z,o,g,j⟩ h=>by
  have sz:=Qg B;have M:=Qk S (i:=i) (by lia);have U:es[i]?=some (es[i]'hi):=zBa hi;have pi:t.place[i]?=some (t.place[i]'(by lia)):=zBa (by lia);have en:Hj t.place (i+1)=t.place[i]'(by lia)+1:=by
   unfold Hj;rw[if_neg (by lia),Nat.add_sub_cancel];simp [zBP,show i<t.place.size by lia]
  refine Ya (slot:=Hj t.place i) (nx:=Hj t.place (i+1)) z g j B rfl (λA' Q' E' q=>Qt Y g j B hl Z (by rw[M,U,pi];dsimp only;rw[<- en];exact q)) λh' L F=>?_;refine h _ _ ?_ ⟨L,o,(F.2 a na).trans g,j⟩ (Kk F);rw[zAy,zBv,U];rfl
 done:=λs Q E ⟨z,o,g,j⟩ h=>by
  have sz:=Qg B;have M:=Qk S (i:=es.size) (by lia);refine L5 (slot:=Hj t.place es.size) hh z g j B rfl (λA' Q' E' q=>Qt Y g j B hl Z (by rw[M,zCa (zAi _)];exact q)) λh' F=>h _ (Ms F)
 self:=λi s Q E ⟨z,_⟩ h=>Uq z h
def Yd {T:Addr} {ps:List Nat} (hh:A.handled=none) (L:t.fits es.size=true) (B:ps.Perm (zAO es.size)) (Z:a≠I) (nT:T≠I) :
  WalksS prog w A I [I,a,T] [I] (λx y=>y=x) es.size (λi v=>((ps.map λp=>(es.getD p (0,.none)).2)[i]?)=some v)
   (λi s=>B4 s.heap I (.ref T) i a es.size ep/\F8 s.heap a es ep t/\s.heap.get? T=some { cls:=.type "tuple",dict:=none,data:=.seq (ps.map λi:Nat=>rawInt i).toArray 0,slots := #[] }) where
 sub:=λb S=>by rw[zAm.mp S];exact zAg
 grefl:=λ_=>rfl
 gtrans:=λ_ _ _ h1 Y=>Y.trans h1
 frame:=λi s h' tk ⟨g,⟨o,j,q⟩,hT⟩ _ k=>⟨k I zAg _ g,⟨o,k a (by simp) _ j,q⟩,k T (by simp) _ hT⟩
 item:=λi s Q E hi ⟨g,⟨o,j,q⟩,hT⟩ h=>by
  have U:ps.length=es.size:=by rw[B.length_eq,zBe]
  have M:ps[i]?=some (ps[i]'(by lia)):=zAe (by lia);have pl:ps[i]'(by lia)<es.size:=zBH.mp (B.mem_iff.mp (zBw _));have ex:es[ps[i]'(by lia)]?=some (es[ps[i]'(by lia)]'pl):=zBa pl;refine BU (pl:=ps[i]'(by lia)) (k:=(es[ps[i]'(by lia)]'pl).1) (x:=(es[ps[i]'(by lia)]'pl).2) g hT j q L rfl (tk:=0) ?_ ex λh' F z=>?_
  .rw[zBO,zAy,M]
   rfl
  .refine h _ _ ?_ ⟨F,⟨o,(z.2 a Z).trans j,q⟩,(z.2 T nT).trans hT⟩ (Kk z)
   rw[zAy,M];simp [zBP,pl]
 done:=λs Q E ⟨g,⟨o,j,q⟩,hT⟩ h=>by
  have U:ps.length=es.size:=by rw[B.length_eq,zBe]
  refine FC hh g hT j q L rfl ?_ λh' z=>h _ (Ms z);rw[zBO,zAy,zCi (by lia)];rfl
 self:=λi s Q E ⟨g,_⟩ h=>Uq g h
def T4 (Z:A.handled=none) {U h:Heap} (F:F8 h a es ep t) (L:t.fits es.size=true) (g:Jv (w.params.followText "set-order") t) (Y:a≠I) (S:U.get? I=none) (b:TL w U h I a es ep t) :
  ∃ (os:List Value) (fp:List Addr) (St:Nat->Shared->Prop),os.Perm (es.toList.map (·.2))/\WalksS prog w A I fp [I] (λx y=>y=x) es.size (λi v=>os[i]?=some v) St/\(∀ s:Shared,s.heap=h->St 0 s)/\∀ x∈fp,x=a\/U.get? x=none:=by
 rcases b with ⟨B,q|⟨q,hp⟩⟩|⟨T,ps,B,hT,pm,nT,M⟩
 .refine⟨_,_,_,(VZ (w.params.setOrder a ep) es).map _,C1 Z q L Y,λs e=>by rw[e];exact⟨B,F⟩,λx j=>?_⟩
  rcases zAn.mp j with z|z
  .rw[z];exact .inr S
  .exact .inl (zAm.mp z)
 .refine⟨_,_,_,List.Perm.refl _,Wk Z q L (g.ld q) g.rs hp Y,λs e=>by rw[e];exact⟨B,F⟩,λx j=>?_⟩
  rcases zAn.mp j with z|z
  .rw[z];exact .inr S
  .exact .inl (zAm.mp z)
 .refine⟨_,_,_,(pm.map _).trans (List.Perm.of_eq (A9 es)),Yd Z L pm Y nT,λs e=>by rw[e];exact⟨B,F,hT⟩,λx j=>?_⟩
  rcases zAn.mp j with z|z
  .rw[z];exact .inr S
  .rcases zAn.mp z with z|z
   .exact .inl z
   .rw[zAm.mp z];exact .inr M
end
section
variable {prog:Program} {w:World} {A:Around} {E:Value->Shared->Prop} {s:Shared} {a:Addr} {o:Obj} {es:Array (Int×Value)} {ep:Nat} {t:SetTable}
def FW:typeLookup (.type "set") (Str.ofString "__len__")=pure (some (.builtin "set.__len__")):=F.slot_set_len.lookup
def JK:isSubtype (.type "set") (.type "set")=pure true:=by rw[isSubtype_type];kernel_rfl
def Y9 {Q:Bool->Shared->Prop} (ty:s.TypeIs (.ref a) "set") (h:Q false s):wpAny (model prog w) A (Builtin.List.listLengthHint (.ref a)) Q E s:=by
 unfold Builtin.List.listLengthHint;refine zCC (wpAny_specialOf ty FW ?_);generalize g:("set.__len__" : String)=j
 wp_delta
 rw[show splitId j=some ("set","__len__") from by subst g;decide +kernel];subst g;refine zCC (wpAny_isInstance ty JK ?_);show wpAny _ A (typeOf (Value.ref a) >>= _) _ _ _;refine zCC (wpAny_typeOf ty ?_);exact zCD h
def Xb {Q:List Value->Shared->Prop} (hh:A.handled=none) (hc:o.cls=.type "set") (S:s.heap.get? a=some o) (hd:o.data=.set es ep t) (hf:t.fits es.size=true) (g:Jv (w.params.followText "set-order") t) (hz:es.size<=sizeLine)
  (h:∀ s' vs,vs.Perm (es.toList.map (·.2))->(∀ b ob,s.heap.get? b=some ob->s'.heap.get? b=some ob)->s'.gens=s.gens->s'.os=s.os->Q vs s'):wpAny (model prog w) A (collect (.ref a)) Q E s:=by
 unfold collect;refine zCC (wpAny_runValue (codeAny_builtin F.entry_proto_collect ?_));rw[Around.under_plainId F.plain_proto_collect _];show wpAny _ A.in1 (newList [] >>= λl=>again (.builtin "list.__iadd__" ⟨[l,.ref a],[]⟩)) _ _ s;refine zCC (wpAny_newObj_type (zCD ⟨plainId_quiet F.plain_list_iadd _,codeAny_builtin F.entry_list_iadd ?_⟩));rw[Around.under_plainId F.plain_list_iadd _];have lt:a<s.heap.objs.size:=zAr S;have B:∀ b ob,s.heap.get? b=some ob->(s.heap.push { cls:=.type "list",data:=.seq ([]:List Value).toArray }).get? b=some ob:=λb ob e=>zAc _ e;have M:(s.heap.push { cls:=.type "list",data:=.seq ([]:List Value).toArray }).get? s.heap.objs.size=some { cls:=.type "list",data:=.seq ([]:List Value).toArray }:=zAv _ rfl;generalize hL:s.heap.objs.size=L at M;generalize s.heap.push { cls:=.type "list",data:=.seq ([]:List Value).toArray }=H at B M;have nL:s.heap.get? L=none:=by
  cases z:s.heap.get? L with
  |none=>rfl
  |some ob=>exact absurd (zAr z) (by rw[hL];exact zBn _)
 show wpAny _ A.in1 (Builtin.List.listExtendWith (.ref L) (.ref a) (.ref L)) _ _ { s with heap:=H };unfold Builtin.List.listExtendWith;have ty:Shared.TypeIs { s with heap:=H } (.ref a) "set":=⟨_,B _ _ S,hc⟩;refine zCC (wpAny_typeOf ty ?_);have c1:Builtin.List.listSameRef (.ref L) (.ref a)=false:=by
  have:L≠a:=by rw[<- hL];exact zBz lt
  simp [Builtin.List.listSameRef,this]
 rw[if_neg (by rw[c1];decide)];refine zCC (X6 (s:={ s with heap:=H }) hc (B _ _ S) hd hf hz λh1 d I bg k1 U=>?_);have af:Shared.TypeIs { s with heap:=h1,drawn:=d } (.ref a) "set":=⟨_,k1 _ _ (B _ _ S),hc⟩;refine zCC (wpAny_holding (Y9 af ?_));show wpAny _ A.in1 (rule "list.extend.makes-room" >>= λ_=>Builtin.List.listTouch (.ref L) >>= λ_=>again (.builtin "list.extend.loop" ⟨[.ref L,.ref I,.ref L],[]⟩)) _ _ _;refine zCC (wpAny_rule (zCC ?_));show wpAny _ A.in1 (updateSeq L (·.push .none) >>= λ_=>updateSeq L (·.pop)) _ _ _;have ab:=k1 _ _ M;refine zCC (wpAny_updateSeq (s:={ s with heap:=h1,drawn:=d }) ab rfl ?_);have Y:=zCh (Obj.mapSeq (·.push Value.none)) ab rfl;refine wpAny_updateSeq Y rfl ?_;have aj:=zCh (Obj.mapSeq (·.pop)) Y rfl;have Z:∀ b ob,b≠L->h1.get? b=some ob->((h1.update L (Obj.mapSeq (·.push Value.none))).update L (Obj.mapSeq (·.pop))).get? b=some ob:=λb ob nb e=>
  (zBY _ _ (Ne.symm nb)).trans ((zBY _ _ (Ne.symm nb)).trans e)
 have ae:a≠I:=λz=>by
  rw[<- z] at U;have:=B _ _ S;have q:H.get? a=none:=U;rw[this] at q;cases q
 have ak:L≠I:=λz=>by
  rw[<- z] at U;have q:H.get? L=none:=U;rw[M] at q;cases q
 obtain⟨vs,fp,St,pm,W,ad,ai⟩:=T4 (prog:=prog) (A:=A.in1.in1) (by exact hh) (h:=h1) ⟨o,k1 _ _ (B _ _ S),hd⟩ hf g ae U bg;have nf:L∉fp:=λz=>by
  rcases ai L z with e|e
  .exact absurd e (by rw[<- hL];exact zBz lt)
  .have e':H.get? L=none:=e
   rw[M] at e';cases e'
 have ag:=W.frame 0 { s with heap:=h1,drawn:=d } _ s.toks (ad _ rfl) (zAi _) λb hb ob e=>Z b ob (λz=>nf (z▸hb)) e;refine zCD ⟨plainId_quiet F.plain_extend_loop _,codeAny_extend_loopS W.of_in1 hz L nf _ es.size 0 _ _ _ rfl (zAu _) ag aj (ItemsOf.nil _) λs' aa c' hm ah ac=>?_⟩;show wpAny _ A (load L >>= _) _ _ s';refine zCC (wpAny_load ah (zCD ?_));have ea:aa.toList=vs:=by
  obtain⟨z1,z2⟩:=ac;have lv:vs.length=es.size:=by rw[pm.length_eq,zAb,zAA]
  refine List.ext_getElem? λj=>?_;rw[zBv];by_cases hj:j<aa.size
  .rw[zBa hj]
   exact (z2 j _ (zBa hj)).symm
  .rw[zCa (by omega),zCi (by omega)]
 rw[ea];refine h s' vs pm (λb ob e=>hm.heap b ob (λz=>?_) (Z b ob (λz=>?_) (k1 b ob (B b ob e)))) hm.gens hm.os
 .rcases zAn.mp z with z|z
  .rw[z,nL] at e
   cases e
  .rw[zAm.mp z] at e
   have e':=B _ _ e;have q:H.get? I=none:=U;rw[e'] at q;cases q
 .rw[z,nL] at e
  cases e
end
section
variable {prog:Program} {w:World} {A:Around} {E:Value->Shared->Prop} {s:Shared}
def DL {x:Value} {Q:Value->Shared->Prop} (h:Q (.ref s.heap.objs.size) { s with heap:=s.heap.push { cls:=.type "set",dict:=none,data:=.set #[] 0 (.fresh 0 0 (!w.params.followText "set-order")) } }) :
  codeAny (model prog w) A (.call (.builtin "set.__new__") ⟨[.type "set",x],[]⟩) (wants Q E) s:=by
 refine codeAny_of_tree ?_;show wpAny _ A.in1 (do checkBuiltinCall "set.__new__" ⟨[.type "set",x],[]⟩;again (.builtin "set.__new__" ⟨[.type "set",x],[]⟩)) _ _ s;refine zCC (wpAny_of_eq (F.newCall_set_1 x) (zCD ⟨plainId_quiet F.plain_set_new _,codeAny_builtin F.entry_set_new ?_⟩));rw[Around.under_plainId F.plain_set_new _];unfold Builtin.«set.__new__» Builtin.Frozenset.newClass;have g:=sub_set_self;obtain⟨q,z,d,B,j⟩:=s
 dsimp only
 wp_walk
 refine wpAny_askSetting (zCD ?_)
 dsimp only
 simp only [newObj];exact zCC (wpAny_alloc (zCD (zCD h)))
variable {R:Result->Shared->Prop} {I:Addr} {fp wr:List Addr} {G:Array GenState->Array GenState->Prop} {n:Nat} {P:Nat->Value->Prop} {St:Nat->Shared->Prop}
def WI.keep {h h':Heap} {a:Addr} {K:Type} [DecidableEq K] {knd:KeyKind prog w K} {ks:List K} (g:WI knd h a ks) (k:∀ o,h.get? a=some o->h'.get? a=some o):WI knd h' a ks:=by
 obtain⟨o,es,ep,t,j,r⟩:=g;exact⟨o,es,ep,t,k o j,r⟩
def Ys {K:Type} [DecidableEq K] {knd:KeyKind prog w K} {mk:K->Nat->Value} (U:∀ k t,knd.is k (mk k t)=true) (ac:∀ k t,(mk k t).scannable=true) (W:WalksS prog w A.in1 I fp wr G n P St) (S:Addr) (nS:S∉fp) (val:Nat->K) (hv:∀ i v,P i v->∃ t,v=mk (val i) t) (M:n+1<scanBound) :
  ∀ (k i:Nat) (s:Shared) (ks:List K),n-i=k->i<=n->St i s->WI knd s.heap S ks->(∀ y,y∈ks↔∃ j,j<i/\val j=y)->ks.length<=i ->
   (∀ s' q,Moved (S::wr) G s s'->WI knd s'.heap S q->(∀ y,y∈q↔∃ j,j<n/\val j=y)->q.length<=n->R (.ok (.ret .none)) s') ->
   codeAny (model prog w) A (.builtin "set.update.loop" ⟨[.ref S,.ref I],[]⟩) R s:=by
 have nw:S∉wr:=λz=>nS (W.sub _ z);have sub:∀ b∈wr,b∈S::wr:=λb M=>zAd _ M;intro k
 induction k with
 |zero=>
  intro i s ks hk hi st g B len L;have e:i=n:=by lia
  subst e;refine codeAny_builtin PyProof.Rows.F.entry_set_update_loop ?_;rw[Around.under_plainId PyProof.Rows.F.plain_set_update_loop _];show wpAny _ A.in1 (pyNext (.ref I) >>= _) _ _ s;refine zCC (W.done s _ _ st λs' hm=>?_);show wpAny _ A.in1 (ret Value.none) _ _ s';exact zCD (L s' ks (hm.mono sub) (g.keep λo e=>hm.heap S o nw e) B len)
 |succ k ih=>
  intro i s ks hk hi st g B len L;refine codeAny_builtin PyProof.Rows.F.entry_set_update_loop ?_;rw[Around.under_plainId PyProof.Rows.F.plain_set_update_loop _];show wpAny _ A.in1 (pyNext (.ref I) >>= _) _ _ s;refine zCC (W.item i s _ _ (by lia) st λv s' hP ae hm=>?_);obtain⟨tk,rfl⟩:=hv i v hP;have g':=g.keep λo e=>hm.heap S o nw e;show wpAny _ A.in1 (holding [mk (val i) tk] (setAdd S (mk (val i) tk)) >>= _) _ _ s';refine zCC (wpAny_holding ?_);unfold setAdd;refine wpAny_holding (zCC (knd.pyHash (k:=val i) (U _ _) ?_));refine ML (knd:=knd) (s:={ s' with toks:=s'.toks+1 }) (U _ _) (ac _ _) g' (by lia) λb h' q sb g2 pm=>?_;have Z:q.length<=i+1:=by
   rw[pm.length_eq]
   split
   .lia
   .rw[zAj,zAU];lia
  have Y:∀ y,y∈q↔∃ j,j<i+1/\val j=y:=λy=>by
   rw[pm.mem_iff];constructor
   .intro hy
    split at hy
    .obtain⟨j,h1,F⟩:=(B y).mp hy
     exact⟨j,by lia,F⟩
    .rcases zAs.mp hy with z|z
     .obtain⟨j,h1,F⟩:=(B y).mp z
      exact⟨j,by lia,F⟩
     .exact⟨i,by lia,(zAm.mp z).symm⟩
   .rintro ⟨j,h1,F⟩
    have ad:∀ {z},z∈ks->z∈(if val i∈ks then ks else ks++[val i]):=λ{z} hz=>by
     split
     .exact hz
     .exact List.mem_append_left _ hz
    by_cases c:j<i
    .exact ad ((B y).mpr ⟨j,c,F⟩)
    .have e:j=i:=by lia
     subst e
     split
     .rw[<- F];assumption
     .rw[<- F];exact zAF _ (zAm.mpr rfl)
  refine zCD ⟨plainId_quiet PyProof.Rows.F.plain_set_update_loop _,ih (i+1) _ q (by lia) (by lia) (W.frame _ s' _ _ ae (zBD _) λb M o e=>?_) g2 Y Z λs2 aa ab g3 m3 l3=>?_⟩
  .rw[sb.2 b (λz:b=S=>nS (by rw[<- z];exact M))];exact e
  .refine L s2 aa (Moved.trans W.gtrans ((hm.mono sub).then_heap (zBD _) λb o M e=>?_) ab) g3 m3 l3
   rw[sb.2 b (λz:b=S=>M (by rw[z];exact zAg))];exact e
end
section
variable {prog:Program} {w:World} {A:Around} {E:Value->Shared->Prop} {s:Shared}
abbrev Rm (w:World):Obj:={ cls:=.type "set",dict:=none,data:=.set #[] 0 (.fresh 0 0 (!w.params.followText "set-order")) }
def BV {h:Heap} {a:Addr} {K:Type} [DecidableEq K] {knd:KeyKind prog w K} (g:h.get? a=some (Rm w)):WI knd h a []:=by
 refine⟨_,#[],0,_,g,⟨rfl,rfl,rfl⟩,rfl,.nil,List.nodup_nil,by decide,rfl,?_⟩;exact Zx (w.params.followText "set-order")
set_option maxRecDepth 100000 in
def Xv {K:Type} [DecidableEq K] {knd:KeyKind prog w K} {mk:K->Nat->Value} (aa:∀ k t,knd.is k (mk k t)=true) (af:∀ k t,(mk k t).scannable=true) (U:K) {l:Addr} {items:Array Value} {ns:List K} {Q:Value->Shared->Prop} (hh:A.handled=none) (hl:s.heap.IsList l items) (hi:∀ (i:Nat) (v:Value),items[i]?=some v->∃ t,v=mk (ns.getD i U) t) (ln:items.size=ns.length) (hb:items.size+1<scanBound)
  (h:∀ (h':Heap) (tk:Nat) (ks:List K),WI knd h' s.heap.objs.size ks->(∀ y,y∈ks↔y∈ns)->ks.length<=items.size->(∀ b o,s.heap.get? b=some o->h'.get? b=some o)->Q (.ref s.heap.objs.size) { s with heap:=h',toks:=tk }) :
  wpAny (model prog w) A (call (.type "set") [.ref l]) Q E s:=by
 obtain⟨c,tl,aj⟩:=F.called_set.mro;have ad:=F.called_set.made;have ak:=F.called_set.sub;have h1:=F.called_set.notType;have h2:=F.called_set.canCreate;have an:=F.typeCall_set_1 (.ref l);refine wpAny_call (codeAny_of_tree (show wpAny _ _ (callAny (.type "set") _) _ _ _ from ?_));refine zCD ⟨Code.quiet_builtin _ (by ac_nf),codeAny_builtin F.entry_type_call ?_⟩;rw[Around.under_plain (weight_type_call_type "set" [.ref l] []) rfl]
 repeat (any_goals (first|assumption|wp_step))
 refine codeAny_mono (DL (x:=.ref l) (E:=E) (Q:=λv s₁=>v=.ref s.heap.objs.size/\s₁={ s with heap:=s.heap.push (Rm w) }) ⟨rfl,rfl⟩) λr s₁ hr=>?_;cases r with
 |error e=>exact hr
 |ok fl=>
  cases fl with
  |ret obj=>
   obtain⟨rfl,rfl⟩:=hr;have L:(s.heap.push (Rm w)).get? s.heap.objs.size=some (Rm w):=zAv _ rfl;have hT:Shared.TypeIs { s with heap:=s.heap.push (Rm w) } (.ref s.heap.objs.size) "set":=⟨_,L,rfl⟩;have am:=F.called_set.init.lookup;have al:=F.called_set.init.bind (.ref s.heap.objs.size)
   repeat (any_goals (first|assumption|wp_step))
   refine codeAny_mono (codeAny_call_builtin (R:=wants (λr s₂=>r=.none/\∃ h' tk ks,s₂={ s with heap:=h',toks:=tk }/\WI knd h' s.heap.objs.size ks/\(∀ y,y∈ks↔y∈ns)/\ks.length<=items.size/\(∀ b o,s.heap.get? b=some o->h'.get? b=some o)) E)
    F.called_set.init.plain F.entry_set_init (check_set_init_1 hT ?_)) λr₂ s₂ q=>?_
   .obtain⟨⟨oc,od,ao,ah⟩,S,B,nl,M⟩:=id hl
    simp only at B M;subst B M;have ag:(s.heap.push (Rm w)).get? l=some { cls:=.type "list",dict:=od,data:=.seq items nl,slots:=ah }:=zAc _ S;have il:(s.heap.push (Rm w)).IsList l items:=⟨_,ag,rfl,nl,rfl⟩;have lt:l<s.heap.objs.size:=zAr S;have u1:=F.sub_list_set;have u2:=F.sub_list_frozenset;have u3:(Value.type "list"== Value.type "dict")=false:=by decide
    unfold Builtin.«set.__init__» noKeywords Builtin.Frozenset.updateFrom;generalize ab:pyIter=PI
    wp_walk
    subst ab;refine wpAny_pyIter_list il (zCC (wpAny_runValue ?_));have sz:(s.heap.push (Rm w)).objs.size=s.heap.objs.size+1:=zBR ..;have ne:l≠(s.heap.push (Rm w)).objs.size:=by rw[sz];exact zAx (zCd lt)
    have h3:A.in1.in1.in1.handled=none:=by simp [hh]
    have nf:s.heap.objs.size∉[(s.heap.push (Rm w)).objs.size,l]:=by
     rw[sz];intro z;rcases zAn.mp z with z|z
     .exact absurd z (zAx (zBS _))
     .exact absurd (zAm.mp z) (zBz lt)
    refine Ys aa af ((Walks.list h3 _ l ne items).toS) s.heap.objs.size nf (λi=>ns.getD i U) hi hb (items.size-0) 0 _ [] (by lia) (zAu _) ⟨⟨_,zAv _ rfl,rfl,rfl⟩,il.push _⟩ (BV (zAc _ L)) (λy=>⟨λz=>(nomatch z),λ⟨j,z,_⟩=>absurd z (zBE _)⟩) (zAu _) λs' ks Y g m ac=>?_;obtain⟨h',g',d',Z,ae⟩:=s';have eg:g'=s.gens:=Y.gens;have ed:d'=s.drawn:=Y.drawn;have eo:ae=s.os:=Y.os;subst eg ed eo;refine zCD (zCD ⟨rfl,h',Z,ks,rfl,g,λy=>?_,ac,λb o e=>?_⟩)
    .rw[m y]
     constructor
     .rintro ⟨j,z1,z2⟩
      rw[<- z2];show ns.getD j U∈ns;rw[zAq,zAe (by lia)];exact zBw _
     .intro z
      obtain⟨j,hj,e⟩:=zAW z;refine⟨j,by lia,?_⟩;show ns.getD j U=y;rw[zAq,zAe hj];exact e
    .refine Y.heap b o (λz=>?_) (zAc _ (zAc _ e))
     have lb:=zAr e;rcases zAn.mp z with z|z
     .exact absurd z (zAx lb)
     .exact absurd (zAm.mp z) (by rw[sz];exact zAx (zCd lb))
   .cases r₂ with
    |error e=>exact q
    |ok ai=>
     cases ai with
     |ret r=>
      obtain⟨rfl,h',tk,ks,rfl,g,m,ln,k⟩:=q
      repeat (any_goals (first|assumption|wp_step))
      exact h _ _ ks g m ln k
     |_=>exact q.elim
  |_=>exact hr.elim
def set_of_list {l:Addr} {items:Array Value} {ns:List Int} {Q:Value->Shared->Prop} (j:A.handled=none) (hl:s.heap.IsList l items) (hi:PyProof.Rows.IntsAre items.toList ns) (g:items.size+1<scanBound)
  (h:∀ (h':Heap) (tk:Nat) (ks:List Int),WI (intKind prog w) h' s.heap.objs.size ks->(∀ y,y∈ks↔y∈ns)->ks.length<=items.size->(∀ b o,s.heap.get? b=some o->h'.get? b=some o)->Q (.ref s.heap.objs.size) { s with heap:=h',toks:=tk }) :
  wpAny (model prog w) A (call (.type "set") [.ref l]) Q E s:=
 Xv (mk:=.int) (λ_ _=>intKind_is _ _ _ _) (λ_ _=>rfl) 0 j hl (λi v e=>PyProof.Rows.IntsAre.int_at hi i v (by rw[zBv];exact e)) (by rw[<- zAA];exact hi.length) g h
end
end CST
namespace CST
open PySem PyProof.Rows
section
variable {prog:Program} {w:World} {A:Around} {E:Value->Shared->Prop} {s:Shared}
theorem Nh:∀ {l} {ks:List Int},Paired (JF (intKind prog w)) l ks->IntsAre (l.map (·.2)) ks
 |_,_,.nil=>.nil
 |e::l,k::ks,.cons r t=>by
  obtain⟨g,h⟩:=Value.isInt_shape r.1;rw[zAw,h];exact .cons k g (Nh t)
def N2:∀ {vs us},vs.Perm us->∀ {ns:List Int},IntsAre us ns->∃ g:List Int,IntsAre vs g/\g.Perm ns:=by
 intro vs us p;have q:=p.symm;clear p
 induction q with
 |nil=>intro ns h;exact⟨ns,h,List.Perm.refl _⟩
 |cons x _ ih=>
  intro ns h;cases h with
  |cons n t r=>
   obtain⟨g,h1,j⟩:=ih r;exact⟨n::g,.cons n t h1,j.cons n⟩
 |swap x y l=>
  intro ns h;cases h with
  |cons n t r=>
   cases r with
   |cons m u L=>exact⟨_,.cons m u (.cons n t L),List.Perm.swap _ _ _⟩
 |trans _ _ B z=>
  intro ns h;obtain⟨S,h1,F⟩:=B h;obtain⟨M,j,p2⟩:=z h1;exact⟨M,j,p2.trans F⟩
def sorted_set {a:Addr} {ks:List Int} {Q:Value->Shared->Prop} (hh:A.handled=none) (g:WI (intKind prog w) s.heap a ks) (aa:ks.length<64)
  (h:∀ (s':Shared) (l:Addr) (out:Array Value) (F:List Int) (e:Nat),IntsAre out.toList F->F.Perm ks->F.Pairwise (· <= ·)->(∀ b o,s.heap.get? b=some o->s'.heap.get? b=some o)->a<l->s'.heap.get? l=some (seqObj "list" out e)->s'.gens=s.gens->s'.os=s.os->Q (.ref l) s') :
  wpAny (model prog w) A (call (.builtin "sorted") [.ref a]) Q E s:=by
 obtain⟨o,es,ep,t,S,M,hd,Z,nd,hb,hf,gd⟩:=g;have U:es.size=ks.length:=by rw[<- zAA];exact Paired.length Z
 have j:es.size<=sizeLine:=by rw[zCE];lia
 refine Calls.call_function_entry kind_sorted plain_sorted entry_sorted (args_sorted1 _) ?_;unfold Builtin.«sorted»;refine zCC (m:=checkCount "sorted" 1 1 _) (zCD (zCC (Xb (by exact hh) M.1 S hd hf gd j λs' vs Y k eg eo=>?_)));have lv:vs.length=ks.length:=by rw[Y.length_eq,zAb,zAA,U]
 obtain⟨F,im,mp⟩:=N2 Y (Nh Z);refine zCC (wpAny_newList ?_ (by rw[lv,<- U];exact j));have B:(s'.heap.push (seqObj "list" vs.toArray 0)).get? s'.heap.objs.size=some (seqObj "list" vs.toArray 0):=zAv _ rfl;refine zCC (wpAny_holding (wpAny_call_entry slot_list_sort ⟨_,B,rfl⟩ entry_list_sort (list_sort_tree (s:={ s' with heap:=s'.heap.push (seqObj "list" vs.toArray 0) }) B im (by lia) λout L a1 a2 a3=>⟨_,rfl,?_⟩) (args_list_sort _)));refine zCD ⟨_,rfl,?_⟩;obtain⟨e,he⟩:=sortedHeap_at (out:=out) B;have lt:∀ b q,s.heap.get? b=some q->b<s'.heap.objs.size:=λb q z=>zAr (k b q z);refine h _ s'.heap.objs.size out L e a1 (a2.trans mp) a3 (λb q z=>?_) ?_ he eg eo
 .show (sortedHeap _ _ _ _).get? b=_
  rw[sortedHeap_old (zAx (lt b q z)) (by rw[size_push'];exact zCd (lt b q z))];exact zAc _ (k b q z)
 .exact lt a o S
end
end CST
namespace L2
open PySem PySem.Spec PyProof.Rows PySem.W
theorem Ti:∀ {us} {ns:List Int},IntsAre us ns->Fz (ns.map V.int) us
 |_,_,.nil=>.nil
 |_,_,.cons n t r=>.cons ⟨t,rfl⟩ (Ti r)
section
variable {X:Cx}
def W8 (K:zAa) (te:TE):TE:=λσ H Q=>te σ H λx H1=>∃ (a:Addr) (ns:List Int),x=.ref a/\Dl K H1 a (ns.map V.int)/\ns.length<64 /\
 ∀ (l:Addr) (ms:List Int),H1 l=none->ms.Pairwise (· < ·)->(∀ y,y∈ms↔y∈ns)->Q (.ref l) (upd H1 l (.lst (ms.map V.int)))
theorem Nx:∀ {g:List Int},g.Pairwise (· <= ·)->g.Nodup->g.Pairwise (· < ·)
 |[],_,_=>.nil
 |x::g,h,n=>by
  rw[zAM] at h;rw[zBt] at n;rw[zAM];refine⟨λy j=>?_,Nx h.2 n.2⟩;have:=h.1 y j;have ne:x≠y:=λz=>n.1 (by rw[z];exact j)
  lia
def C5 {e:Expr} (he:PE X e te) (hc:X.calm=true) (ae:Gl X "sorted") (ac:X.mg "sorted"=none) (aa:Gl X "set") (M:X.mg "set"=none)
  (U:zCF "sorted"=some (.builtin "sorted"):=by rfl) (hv2:zCF "set"=some (.type "set"):=by rfl)
  (hs1:starEach [.Call (.Name "set" p2) [e] [] pos2] X.env=[(false,eval (.Call (.Name "set" p2) [e] [] pos2) X.env)]:=by rfl) (hs2:starEach [e] X.env=[(false,eval e X.env)]:=by rfl) :
  PE X (.Call (.Name "sorted" p1) [.Call (.Name "set" p2) [e] [] pos2] [] pos1) (W8 X.K te):=by
 intro pins s σ H Q I h;refine wpAny_Call_Name_kw (Ev I ae ac U ?_ (by decide) (by decide));refine PyProof.Rows.callWith_builtin1 ?_ hs1 rfl;rw[hs1];show wpAny _ _ (spliced ((false,eval (.Call (.Name "set" p2) [e] [] pos2) X.env)::backTo pos1 [])) _ _ s;refine Calls.spliced_cons ?_;refine wpAny_Call_Name_kw (Ev I aa M hv2 ?_ (by decide) (by decide));refine PyProof.Rows.callWith_type1 ?_ hs2 rfl;rw[hs2];show wpAny _ _ (spliced ((false,eval e X.env)::backTo pos2 [])) _ _ s;refine Calls.spliced_cons (Bt (he pins s σ H _ I h) λu S ⟨x,H1,j,r1,a,ns,ex,hq,af,q⟩=>?_);subst ex;cases r1;refine Calls.spliced_nil ?_;obtain⟨ad,rv,pl,hz⟩:=j.list hq;have hl:=rv.length;rw[zAb] at hl;have hh:X.A.handled=none:=I.ok.hd hc;refine CST.set_of_list (items:=ad.toArray) (ns:=ns) hh pl.isList (Pn rv) (by rw[zAh];unfold scanBound;lia) λh2 tk ks g Y len k2=>?_;refine Calls.spliced_nil ?_;rw[zAh] at len;refine CST.sorted_set (s:={ S with heap:=h2,toks:=tk }) hh g (by lia) λs' l Z B ee im pm pw k3 al L eg eo=>?_;have nd:B.Nodup:=by
  obtain⟨_,_,_,_,_,_,_,_,nd,_⟩:=g;exact pm.nodup_iff.mpr nd
 have lt:=Nx pw nd;have kk:∀ b ob,S.heap.get? b=some ob->s'.heap.get? b=some ob:=λb ob z=>k3 b ob (k2 b ob z);have F:S.heap.objs.size<=l:=zCg al;have lp:(B.map V.int).length<=sizeLine:=by rw[zAb,pm.length_eq,zCE];lia
 have ab:VQ X.prog X.w (upd H1 l (.lst (B.map V.int))) s'.heap l (.lst (B.map V.int)):=⟨lp,Z.toList,ee,Ti im,L⟩;refine⟨.ref l,upd H1 l (.lst (B.map V.int)),j.call' (s':=s') (ch:=[]) eo (Un.laid kk F (j.hok.fresh F)) (j.hok.laid kk F ab) (by rw[eg];exact j.bare) (λb z=>(nomatch z)),rfl,q l B (j.hok.fresh F) lt λy=>?_⟩;rw[pm.mem_iff];exact Y y
def Pj {ns:List Int} {its:List Value} (j:Fz (ns.map V.int) its):∃ ys,its.toArray=intItems ys/\ys.size=ns.length/\∀ i,(h:i<ns.length)->numAt ys i=ns[i]:=by
 have hi:IntsAre its ns:=Qf j;obtain⟨ys,g⟩:=hi.allInts.items;have q:its.length=ns.length:=hi.length;have B:ys.size=ns.length:=by
  have z:=congrArg Array.size g;rw[zAh] at z;unfold intItems at z;rw[Array.size_map] at z
  lia
 refine⟨ys,g,B,λi h=>?_⟩;obtain⟨u,L,t,F⟩:=j.get (i:=i) (x:=.int ns[i]) (by rw[zAy,zAe h];rfl);have e1:(intItems ys)[i]?=some u:=by rw[<- g,zBO];exact L
 obtain⟨M,e2⟩:=intItems_at e1;rw[F] at e2;injection e2 with e3;exact e3.symm
def HL (K:zAa) (le:Int->Int->Prop):List V->Hp->VK->Prop:=λxs H Q=>∃ p,∃ ns:List Int,xs=[.ref p]/\Dl K H p (ns.map V.int)/\ns≠[]/\∀ m∈ns,(∀ k∈ns,le m k)->Q (.int m) H
def M8 (hc:X.calm=true):Fn X (.builtin "min") (HL X.K (λm k=>m<=k)):=by
 intro pins s σ H xs us Q I r h;obtain⟨p,ns,rfl,hq,B,q⟩:=h;obtain⟨u,rfl,rx⟩:=Jx r;cases rx;obtain⟨aa,S,pl,hz⟩:=I.list hq;obtain⟨ys,ey,hy,M⟩:=Pj S;have hl:s.heap.IsList p (intItems ys):=ey▸pl.isList;have L:0<ns.length:=List.length_pos_iff.mpr B;refine min_intList (I.ok.hd hc) hl (by lia) λv h' tk Z U=>?_;obtain⟨b1,F⟩:=argBest_lt (numAt ys) (ys.size-1);obtain⟨t,rfl⟩:=intItems_at Z;generalize argBest (λi j=>decide (numAt ys i<numAt ys j)) (ys.size-1)=z at b1 F;have Y:z<ns.length:=by lia
 refine⟨.int (numAt ys z),H,I.kept U,⟨t,rfl⟩,q _ ?_ λk g=>?_⟩
 .rw[M z Y]
  exact zBw _
 .obtain⟨j,hj,e⟩:=zAW g
  rw[<- e,<- M j hj];exact F j (by lia)
def O9 (hc:X.calm=true):Fn X (.builtin "max") (HL X.K (λm k=>k<=m)):=by
 intro pins s σ H xs us Q I r h;obtain⟨p,ns,rfl,hq,B,q⟩:=h;obtain⟨u,rfl,rx⟩:=Jx r;cases rx;obtain⟨aa,S,pl,hz⟩:=I.list hq;obtain⟨ys,ey,hy,M⟩:=Pj S;have hl:s.heap.IsList p (intItems ys):=ey▸pl.isList;have L:0<ns.length:=List.length_pos_iff.mpr B;refine max_intList (I.ok.hd hc) hl (by lia) λv h' tk Z U=>?_;obtain⟨b1,F⟩:=argBest_gt (numAt ys) (ys.size-1);obtain⟨t,rfl⟩:=intItems_at Z;generalize argBest (λi j=>decide (numAt ys i>numAt ys j)) (ys.size-1)=z at b1 F;have Y:z<ns.length:=by lia
 refine⟨.int (numAt ys z),H,I.kept U,⟨t,rfl⟩,q _ ?_ λk g=>?_⟩
 .rw[M z Y]
  exact zBw _
 .obtain⟨j,hj,e⟩:=zAW g
  rw[<- e,<- M j hj];exact F j (by lia)
def BW:V->List V->Hp->VK->Prop:=λx vs H Q=>∃ l b xs zs,x=.ref l/\vs=[.ref b]/\H l=some (.lst xs)/\H b=some (.tup zs)/\xs.length+zs.length<=sizeLine/\Q .non (upd H l (.lst (xs++zs)))
def Zm:MC X "list.extend" BW:=by
 intro pins s σ H x vs v us Q I U Z h;obtain⟨l,b,xs,zs,rfl,rfl,M,hB,hz,q⟩:=h;cases U;obtain⟨u,rfl,Y⟩:=Z.one;cases Y;obtain⟨z,j,n,r,hl,e⟩:=I.lstM M;obtain⟨z2,g,S,ob,e2,L,n2,B⟩:=(show VQ X.prog X.w H s.heap b (.tup zs) from I.hok b _ hB);have l1:=r.length;have l2:=S.length;have sz:j.toArray.size+g.toArray.size<=sizeLine:=by rw[zAh,zAh];lia
 have no:¬ (!j.toArray.isEmpty&&Builtin.List.listTooLong (j.toArray.size+g.toArray.size))=true:=by rw[Yj sz,zCs];exact zAk
 refine wpAny_call_entry F.slot_list_extend ⟨_,e,rfl⟩ F.entry_list_extend ?_ (F.args_list_extend_2 _ _);show wpAny _ _ (Builtin.List.listExtendWith (.ref l) (.ref b) .none) _ _ _;unfold Builtin.List.listExtendWith;refine zCC (wpAny_typeOf (T:="tuple") ⟨_,e2,L⟩ ?_);rw[if_pos (by simp)];refine zCC (listItems_at e2 B (zCC (listItems_at e rfl ?_)));rw[if_neg no];refine zCC (listUpdate_at e rfl ?_ (by rw[zAh];lia) (by rw[zCe];lia));refine zCD ⟨_,rfl,.non,_,I.lset (its':=j++g) M e (by simp) (r.append S) ?_,rfl,q⟩;rw[zAj]
 lia
end
end L2
namespace L2
open PySem PySem.Spec PyProof.Rows
inductive Co where
 |alw|cau (n:Str)|thi (n:Str)|day (a b:Int)|ovr (m:Int)
inductive Ia where
 |at (c:Co)|no (t:Ia)|al (ts:List Ia)|so (ts:List Ia)
structure A8 where
 a0:Addr
 a1:Addr
 a2:Addr
 a3:Addr
 a4:Addr
 a5:Addr
 a6:Addr
 a7:Addr
def A8.l (κ:A8):List Addr:=[κ.a0,κ.a1,κ.a2,κ.a3,κ.a4,κ.a5,κ.a6,κ.a7]
def A8.cl (κ:A8) (i:Nat):Addr:=κ.l.getD i 0
def A8.inj {κ:A8} (nd:κ.l.Nodup) {i j:Nat} (hi:i<8) (g:j<8) (h:κ.cl i=κ.cl j):i=j:=by
 have hl:κ.l.length=8:=rfl;unfold A8.cl at h;rw[zAq,zAq,zAe (by lia),zAe (by lia)] at h;have p:=zAH.mp nd;rcases zBr i j with c|c|c
 .exact absurd h (p i j (by lia) (by lia) c)
 .exact c
 .exact absurd h.symm (p j i (by lia) (by lia) c)
def kd:Ia->Nat
 |.at .alw=>0
 |.at (.cau _)=>1
 |.at (.thi _)=>2
 |.at (.day _ _)=>3
 |.at (.ovr _)=>4
 |.no _=>5
 |.al _=>6
 |.so _=>7
def Nu (t:Ia):kd t<8:=by
 cases t with
 |«at» c=>cases c <;> simp [kd]
 |no t=>exact (by decide:5<8)
 |al g=>exact (by decide:6<8)
 |so g=>exact (by decide:7<8)
def A8.of (κ:A8) (t:Ia):Addr:=κ.cl (kd t)
def A8.Fam (κ:A8) (C:Addr):Prop:=C=κ.a0\/C=κ.a1\/C=κ.a2\/C=κ.a3\/C=κ.a4\/C=κ.a5\/C=κ.a6\/C=κ.a7
def A8.fam (κ:A8) (t:Ia):κ.Fam (κ.of t):=by
 cases t with
 |«at» c=>
  cases c with
  |alw=>exact .inl rfl
  |cau _=>exact .inr (.inl rfl)
  |thi _=>exact .inr (.inr (.inl rfl))
  |day _ _=>exact .inr (.inr (.inr (.inl rfl)))
  |ovr _=>exact .inr (.inr (.inr (.inr (.inl rfl))))
 |no t=>exact .inr (.inr (.inr (.inr (.inr (.inl rfl)))))
 |al g=>exact .inr (.inr (.inr (.inr (.inr (.inr (.inl rfl))))))
 |so g=>exact .inr (.inr (.inr (.inr (.inr (.inr (.inr rfl))))))
section
variable {κ:A8} {t:Ia}
def VH (nd:κ.l.Nodup) (h:κ.of t=κ.a0):t=.at .alw:=by
 have e:kd t=0:=A8.inj nd (Nu t) (by decide) h;cases t with
 |«at» c=>cases c <;> first|rfl|(simp [kd] at e)
 |_=>simp [kd] at e
def VG (nd:κ.l.Nodup) (h:κ.of t=κ.a1):∃ n,t=.at (.cau n):=by
 have e:kd t=1:=A8.inj nd (Nu t) (by decide) h;cases t with
 |«at» c=>cases c <;> first|exact⟨_,rfl⟩|(simp [kd] at e)
 |_=>simp [kd] at e
def UQ (nd:κ.l.Nodup) (h:κ.of t=κ.a2):∃ n,t=.at (.thi n):=by
 have e:kd t=2:=A8.inj nd (Nu t) (by decide) h;cases t with
 |«at» c=>cases c <;> first|exact⟨_,rfl⟩|(simp [kd] at e)
 |_=>simp [kd] at e
def VA (nd:κ.l.Nodup) (h:κ.of t=κ.a3):∃ a b,t=.at (.day a b):=by
 have e:kd t=3:=A8.inj nd (Nu t) (by decide) h;cases t with
 |«at» c=>cases c <;> first|exact⟨_,_,rfl⟩|(simp [kd] at e)
 |_=>simp [kd] at e
def DF (nd:κ.l.Nodup) (h:κ.of t=κ.a4):∃ n,t=.at (.ovr n):=by
 have e:kd t=4:=A8.inj nd (Nu t) (by decide) h;cases t with
 |«at» c=>cases c <;> first|exact⟨_,rfl⟩|(simp [kd] at e)
 |_=>simp [kd] at e
def UU (nd:κ.l.Nodup) (h:κ.of t=κ.a5):∃ u,t=.no u:=by
 have e:kd t=5:=A8.inj nd (Nu t) (by decide) h;cases t with
 |«at» c=>cases c <;> simp [kd] at e
 |no u=>exact⟨_,rfl⟩
 |_=>simp [kd] at e
def UW (nd:κ.l.Nodup) (h:κ.of t=κ.a6):∃ u,t=.al u:=by
 have e:kd t=6:=A8.inj nd (Nu t) (by decide) h;cases t with
 |«at» c=>cases c <;> simp [kd] at e
 |al u=>exact⟨_,rfl⟩
 |_=>simp [kd] at e
def VE (nd:κ.l.Nodup) (h:κ.of t=κ.a7):∃ u,t=.so u:=by
 have e:kd t=7:=A8.inj nd (Nu t) (by decide) h;cases t with
 |«at» c=>cases c <;> simp [kd] at e
 |so u=>exact⟨_,rfl⟩
 |_=>simp [kd] at e
end
def Ju:Co->List (Str×V)
 |.alw=>[]
 |.cau n=>Ap "name" (.str n) []
 |.thi n=>Ap "name" (.str n) []
 |.day a b=>Ap "last" (.int b) (Ap "first" (.int a) [])
 |.ovr m=>Ap "cents" (.int m) []
mutual
def VN (κ:A8) (H:Hp):V->Ia->Prop
 |v,.at c=>∃ p dx,v=.ref p/\H p=some (.ins (κ.of (.at c)) dx (Ju c))
 |v,.no t=>∃ p dx w,v=.ref p/\H p=some (.ins κ.a5 dx (Ap "part" w []))/\VN κ H w t
 |v,.al ts=>∃ p dx l vs,v=.ref p/\H p=some (.ins κ.a6 dx (Ap "several" (.ref l) []))/\H l=some (.lst vs)/\CdsAt κ H vs ts
 |v,.so ts=>∃ p dx l vs,v=.ref p/\H p=some (.ins κ.a7 dx (Ap "several" (.ref l) []))/\H l=some (.lst vs)/\CdsAt κ H vs ts
def CdsAt (κ:A8) (H:Hp):List V->List Ia->Prop
 |[],[]=>True
 |v::vs,t::ts=>VN κ H v t/\CdsAt κ H vs ts
 |[],_::_=>False
 |_::_,[]=>False
end
mutual
def VR (H:Hp):V->Ia->Prop
 |v,.at .alw=>∃ p,v=.ref p/\H p=some (.tup [.str "always"])
 |v,.at (.cau n)=>∃ p,v=.ref p/\H p=some (.tup [.str "cause",.str n])
 |v,.at (.thi n)=>∃ p,v=.ref p/\H p=some (.tup [.str "thing",.str n])
 |v,.at (.day a b)=>∃ p,v=.ref p/\H p=some (.tup [.str "days",.int a,.int b])
 |v,.at (.ovr m)=>∃ p,v=.ref p/\H p=some (.tup [.str "over",.int m])
 |v,.no t=>∃ p w,v=.ref p/\H p=some (.tup [.str "not",w])/\VR H w t
 |v,.al ts=>∃ p l vs,v=.ref p/\H p=some (.tup [.str "all",.ref l])/\H l=some (.lst vs)/\TrsAt H vs ts
 |v,.so ts=>∃ p l vs,v=.ref p/\H p=some (.tup [.str "some",.ref l])/\H l=some (.lst vs)/\TrsAt H vs ts
def TrsAt (H:Hp):List V->List Ia->Prop
 |[],[]=>True
 |v::vs,t::ts=>VR H v t/\TrsAt H vs ts
 |[],_::_=>False
 |_::_,[]=>False
end
mutual
def Ob:Ia->Nat
 |.at _=>0
 |.no t=>Ob t+1
 |.al ts=>hgts ts+1
 |.so ts=>hgts ts+1
def hgts:List Ia->Nat
 |[]=>0
 |t::ts=>max (Ob t) (hgts ts)
end
structure LS where
 d:Int
 th:Str
 ca:Str
 ct:Int
def KE:Co->LS->Bool
 |.alw,_=>true
 |.cau n,x=>decide (V.str x.ca=V.str n)
 |.thi n,x=>decide (V.str x.th=V.str n)
 |.day a b,x=>decide (a<=x.d)&&decide (x.d<=b)
 |.ovr m,x=>decide (m<x.ct)
mutual
def hT:Ia->LS->Bool
 |.at c,x=>KE c x
 |.no t,x => !hT t x
 |.al ts,x=>hAll ts x
 |.so ts,x=>hSom ts x
def hAll:List Ia->LS->Bool
 |[],_=>true
 |t::ts,x=>hT t x&&hAll ts x
def hSom:List Ia->LS->Bool
 |[],_=>false
 |t::ts,x=>hT t x||hSom ts x
end
mutual
theorem VN.same {κ:A8} {H H':Hp} (s:De H H'):∀ {v} (t:Ia),VN κ H v t->VN κ H' v t
 |v,.at c,h=>by
  unfold VN at h ⊢;obtain⟨p,dx,e,h⟩:=h;exact⟨p,dx,e,s _ _ h⟩
 |v,.no t,h=>by
  unfold VN at h ⊢;obtain⟨p,dx,w,e,h,r⟩:=h;exact⟨p,dx,w,e,s _ _ h,VN.same s t r⟩
 |v,.al j,h=>by
  unfold VN at h ⊢;obtain⟨p,dx,l,vs,e,h,g,r⟩:=h;exact⟨p,dx,l,vs,e,s _ _ h,s _ _ g,CdsAt.same s j r⟩
 |v,.so j,h=>by
  unfold VN at h ⊢;obtain⟨p,dx,l,vs,e,h,g,r⟩:=h;exact⟨p,dx,l,vs,e,s _ _ h,s _ _ g,CdsAt.same s j r⟩
theorem CdsAt.same {κ:A8} {H H':Hp} (s:De H H'):∀ {vs} (g:List Ia),CdsAt κ H vs g->CdsAt κ H' vs g
 |[],[],_=>by unfold CdsAt;trivial
 |v::vs,t::g,h=>by
  unfold CdsAt at h ⊢;exact⟨VN.same s t h.1,CdsAt.same s g h.2⟩
 |[],_::_,h=>by unfold CdsAt at h;exact h.elim
 |_::_,[],h=>by unfold CdsAt at h;exact h.elim
end
mutual
theorem VR.same {H H':Hp} (s:De H H'):∀ {v} (t:Ia),VR H v t->VR H' v t
 |v,.at .alw,h=>by unfold VR at h ⊢;obtain⟨p,e,h⟩:=h;exact⟨p,e,s _ _ h⟩
 |v,.at (.cau n),h=>by unfold VR at h ⊢;obtain⟨p,e,h⟩:=h;exact⟨p,e,s _ _ h⟩
 |v,.at (.thi n),h=>by unfold VR at h ⊢;obtain⟨p,e,h⟩:=h;exact⟨p,e,s _ _ h⟩
 |v,.at (.day a b),h=>by unfold VR at h ⊢;obtain⟨p,e,h⟩:=h;exact⟨p,e,s _ _ h⟩
 |v,.at (.ovr m),h=>by unfold VR at h ⊢;obtain⟨p,e,h⟩:=h;exact⟨p,e,s _ _ h⟩
 |v,.no t,h=>by
  unfold VR at h ⊢;obtain⟨p,w,e,h,r⟩:=h;exact⟨p,w,e,s _ _ h,VR.same s t r⟩
 |v,.al j,h=>by
  unfold VR at h ⊢;obtain⟨p,l,vs,e,h,g,r⟩:=h;exact⟨p,l,vs,e,s _ _ h,s _ _ g,TrsAt.same s j r⟩
 |v,.so j,h=>by
  unfold VR at h ⊢;obtain⟨p,l,vs,e,h,g,r⟩:=h;exact⟨p,l,vs,e,s _ _ h,s _ _ g,TrsAt.same s j r⟩
theorem TrsAt.same {H H':Hp} (s:De H H'):∀ {vs} (g:List Ia),TrsAt H vs g->TrsAt H' vs g
 |[],[],_=>by unfold TrsAt;trivial
 |v::vs,t::g,h=>by
  unfold TrsAt at h ⊢;exact⟨VR.same s t h.1,TrsAt.same s g h.2⟩
 |[],_::_,h=>by unfold TrsAt at h;exact h.elim
 |_::_,[],h=>by unfold TrsAt at h;exact h.elim
end
theorem CdsAt.len {κ:A8}:∀ {vs} {g},CdsAt κ H vs g->vs.length=g.length
 |[],[],_=>rfl
 |v::vs,t::g,h=>by
  unfold CdsAt at h;rw[zAf,zAf,CdsAt.len h.2]
 |[],_::_,h=>by unfold CdsAt at h;exact h.elim
 |_::_,[],h=>by unfold CdsAt at h;exact h.elim
theorem TrsAt.len:∀ {vs} {g},TrsAt H vs g->vs.length=g.length
 |[],[],_=>rfl
 |v::vs,t::g,h=>by
  unfold TrsAt at h;rw[zAf,zAf,TrsAt.len h.2]
 |[],_::_,h=>by unfold TrsAt at h;exact h.elim
 |_::_,[],h=>by unfold TrsAt at h;exact h.elim
theorem CdsAt.get {κ:A8}:∀ {vs} {g} {i:Nat} {v},CdsAt κ H vs g->vs[i]?=some v->∃ t,g[i]?=some t/\VN κ H v t
 |[],[],_,_,_,e=>by simp at e
 |v::vs,t::g,0,u,h,e=>by
  unfold CdsAt at h;simp at e;subst e;exact⟨t,rfl,h.1⟩
 |v::vs,t::g,i+1,u,h,e=>by
  unfold CdsAt at h;obtain⟨q,j,r⟩:=CdsAt.get (i:=i) h.2 (by simpa using e);exact⟨q,by simpa using j,r⟩
 |[],_::_,_,_,h,_=>by unfold CdsAt at h;exact h.elim
 |_::_,[],_,_,h,_=>by unfold CdsAt at h;exact h.elim
theorem TrsAt.get:∀ {vs} {g} {i:Nat} {v},TrsAt H vs g->vs[i]?=some v->∃ t,g[i]?=some t/\VR H v t
 |[],[],_,_,_,e=>by simp at e
 |v::vs,t::g,0,u,h,e=>by
  unfold TrsAt at h;simp at e;subst e;exact⟨t,rfl,h.1⟩
 |v::vs,t::g,i+1,u,h,e=>by
  unfold TrsAt at h;obtain⟨q,j,r⟩:=TrsAt.get (i:=i) h.2 (by simpa using e);exact⟨q,by simpa using j,r⟩
 |[],_::_,_,_,h,_=>by unfold TrsAt at h;exact h.elim
 |_::_,[],_,_,h,_=>by unfold TrsAt at h;exact h.elim
theorem CdsAt.snoc {κ:A8}:∀ {vs} {g} {v} {t},CdsAt κ H vs g->VN κ H v t->CdsAt κ H (vs++[v]) (g++[t])
 |[],[],v,t,_,r=>by
  show CdsAt κ H [v] [t];unfold CdsAt;exact⟨r,by unfold CdsAt;trivial⟩
 |v::vs,t::g,j,q,h,r=>by
  unfold CdsAt at h;show CdsAt κ H (v::(vs++[j])) (t::(g++[q]));unfold CdsAt;exact⟨h.1,CdsAt.snoc h.2 r⟩
 |[],_::_,_,_,h,_=>by unfold CdsAt at h;exact h.elim
 |_::_,[],_,_,h,_=>by unfold CdsAt at h;exact h.elim
def Oh {t:Ia} {m:Nat} (h:hgts ts<m) (i:Nat) (e:ts[i]?=some t):Ob t<m:=by
 induction ts generalizing i with
 |nil=>simp at e
 |cons u g ih=>
  unfold hgts at h;cases i with
  |zero=>simp at e;subst e;lia
  |succ i=>exact ih (by lia) i (by simpa using e)
def Q2 {g:List Ia} {t:Ia} {x:LS} {i:Nat} (e:g[i]?=some t):hAll (g.drop i) x=(hT t x&&hAll (g.drop (i+1)) x):=by
 rw[zBC (zAl.mp e).1,(zAl.mp e).2,hAll]
def O8 {g:List Ia} {t:Ia} {x:LS} {i:Nat} (e:g[i]?=some t):hSom (g.drop i) x=(hT t x||hSom (g.drop (i+1)) x):=by
 rw[zBC (zAl.mp e).1,(zAl.mp e).2,hSom]
def TH:¬ (("first" : Str)="last"):=by ac_nf
def Y5 (n:Str):(Ju (.cau n)).lookup ("name" : Str)=some (.str n):=by unfold Ju;rw[Am,if_pos rfl]
def CF (n:Str):(Ju (.thi n)).lookup ("name" : Str)=some (.str n):=by unfold Ju;rw[Am,if_pos rfl]
def FF (a b:Int):(Ju (.day a b)).lookup ("last" : Str)=some (.int b):=by unfold Ju;rw[Am,if_pos rfl]
def AY (a b:Int):(Ju (.day a b)).lookup ("first" : Str)=some (.int a):=by unfold Ju;rw[Am,if_neg TH,Am,if_pos rfl]
def AW (m:Int):(Ju (.ovr m)).lookup ("cents" : Str)=some (.int m):=by unfold Ju;rw[Am,if_pos rfl]
def A3 (f:Str) (v:V):(Ap f v []).lookup f=some v:=by rw[Am,if_pos rfl]
def Fi {f g:Str} (h:¬ g=f) (v:V):(Ap f v []).lookup g=none:=by rw[Am,if_neg h];rfl
def C8 (c:Co) {m:Str} (h1:¬ m="name") (j:¬ m="first") (q:¬ m="last") (g:¬ m="cents"):(Ju c).lookup m=none:=by
 cases c with
 |alw=>rfl
 |cau n=>unfold Ju;rw[Am,if_neg h1];rfl
 |thi n=>unfold Ju;rw[Am,if_neg h1];rfl
 |day a b=>unfold Ju;rw[Am,if_neg q,Am,if_neg j];rfl
 |ovr m=>unfold Ju;rw[Am,if_neg g];rfl
def VN.obj {κ:A8} {H:Hp} {v:V} {t:Ia} (h:VN κ H v t):∃ p dx fs,v=.ref p/\H p=some (.ins (κ.of t) dx fs) /\
  fs.lookup ("holds" : Str)=none/\fs.lookup ("rank" : Str)=none/\fs.lookup ("words" : Str)=none/\fs.lookup ("marks" : Str)=none:=by
 cases t with
 |«at» c=>
  unfold VN at h;obtain⟨p,dx,e,h⟩:=h;exact⟨p,dx,_,e,h,C8 c (by ac_nf) (by ac_nf) (by ac_nf) (by ac_nf),C8 c (by ac_nf) (by ac_nf) (by ac_nf) (by ac_nf),C8 c (by ac_nf) (by ac_nf) (by ac_nf) (by ac_nf),C8 c (by ac_nf) (by ac_nf) (by ac_nf) (by ac_nf)⟩
 |no t=>
  unfold VN at h;obtain⟨p,dx,w,e,h,_⟩:=h;exact⟨p,dx,_,e,h,Fi (by ac_nf) _,Fi (by ac_nf) _,Fi (by ac_nf) _,Fi (by ac_nf) _⟩
 |al g=>
  unfold VN at h;obtain⟨p,dx,l,vs,e,h,_⟩:=h;exact⟨p,dx,_,e,h,Fi (by ac_nf) _,Fi (by ac_nf) _,Fi (by ac_nf) _,Fi (by ac_nf) _⟩
 |so g=>
  unfold VN at h;obtain⟨p,dx,l,vs,e,h,_⟩:=h;exact⟨p,dx,_,e,h,Fi (by ac_nf) _,Fi (by ac_nf) _,Fi (by ac_nf) _,Fi (by ac_nf) _⟩
def Nw (H H':Hp):Hp:=λb=>match H b with
 |none=>H' b
 |some _=>none
def Nw.of {H H':Hp} {b:Addr} {o:HO} (h:H b=none) (e:H' b=some o):Nw H H' b=some o:=by
 unfold Nw;rw[h];exact e
def Nw.at {H H':Hp} {b:Addr} {o:HO} (e:Nw H H' b=some o):H b=none/\H' b=some o:=by
 unfold Nw at e;cases h:H b with
 |none=>rw[h] at e;exact⟨rfl,e⟩
 |some o'=>rw[h] at e;cases e
def Nw.sub (H H':Hp):De (Nw H H') H':=λb o e=>(Nw.at e).2
def Nw.grow (s:∀ b o,H b=none->H1 b=some o->H2 b=some o):De (Nw H H1) (Nw H H2):=λb o e=>Nw.of (Nw.at e).1 (s b o (Nw.at e).1 (Nw.at e).2)
def OV (H:Hp) (t:Addr) (x:LS):Prop:=∃ ev,∃ n:Int,H t=some (.tup [.int n,.int x.d,.str ev,.str x.th,.str x.ca,.int x.ct])
mutual
def Yv (φ:Co->Prop):Ia->Prop
 |.at c=>φ c
 |.no t=>Yv φ t
 |.al ts=>2<=ts.length/\ts.length<=8/\okTs φ ts
 |.so ts=>2<=ts.length/\ts.length<=8/\okTs φ ts
def okTs (φ:Co->Prop):List Ia->Prop
 |[]=>True
 |t::ts=>Yv φ t/\okTs φ ts
end
def G8 {φ:Co->Prop} (h:okTs φ g):∀ t∈g,Yv φ t:=by
 induction g with
 |nil=>intro t q;cases q
 |cons t g ih=>
  unfold okTs at h;intro u j;rcases zAn.mp j with rfl|j
  .exact h.1
  .exact ih h.2 u j
end L2
namespace L2
open PySem PySem.Spec PyProof PyProof.Rows
def Jn {X} {K} {f} {pos} {e} {ta} (j:PE X e ta) (g:attributeBase e f X.env (eval e X.env)=eval e X.env) (q:X.K=K:=by rfl):PE X (.Attribute e f pos) (QF K ta f):=q▸Aw j g
def BJ {X:Cx}:MC X "str.join" (λx vs H Q=>∃ z p ps,x=.str z/\vs=[.ref p]/\Dl X.K H p (ps.map V.str)/\ps.length<=1000/\z.length<=100/\(∀ y∈ps,y.length<=1000)/\Q (.str (Str.join z ps)) H):=by
 intro pins s σ H x vs v us Q I U rv h;obtain⟨z,p,ps,rfl,rfl,hl,M,hz,L,q⟩:=h;obtain⟨t,rfl⟩:=U;obtain⟨w,rfl,Y⟩:=rv.one;cases Y;obtain⟨Z,r,pl,_⟩:=I.list hl;obtain⟨l,rfl,e⟩:=K4 r;have z1:ps.length*1000<=1000*1000:=Nat.mul_le_mul_right _ M;have z2:ps.length*z.length<=1000*100:=Nat.mul_le_mul M hz;have j:Builtin.Str.tooLong (ps.toArray.foldl (· + ·.length+z.length) 0)=false:=StrLaws.joinFits L (by lia);have S:(Str.join z ps).length<=sizeLine:=by
  refine zAz (D7 L) ?_;rw[zCE,Nat.mul_add]
  lia
 refine call_meets F.slot_str_join (typeIs_str _ _ _) F.entry_str_join (F.args_str_join_2 _ _) (meets_str_join_list z t p l (by rw[e];exact j)) ⟨pl.isList,?_⟩;have el:l.length=ps.length:=by rw[<- e,zAb]
 match l,el,e with
 |[],_,e=>
  have B:ps=[]:=by rw[<- e];rfl
  subst B;have g:joinMade z []=.str (Str.join z []):=by show Made.str (Builtin.Str.glued _ _)=_;rw[StrLaws.glued_eq_join];rfl
  rw[g];exact⟨S,⟨.str _,H,I.tok _,⟨_,rfl⟩,q⟩⟩
 |[(y,u)],_,e=>
  have B:ps=[y]:=by rw[<- e];rfl
  subst B;exact⟨.str y,H,I,⟨u,rfl⟩,q⟩
 |a::b::c,_,e=>
  have g:joinMade z (a::b::c)=.str (Str.join z ps):=by show Made.str (Builtin.Str.glued _ _)=_;rw[StrLaws.glued_eq_join,e]
  rw[g];exact⟨S,⟨.str _,H,I.tok _,⟨_,rfl⟩,q⟩⟩
end L2
namespace CST
open PySem
section
variable {prog:Program} {w:World} {A:Around} {E:Value->Shared->Prop} {s:Shared}
def set_of_strs {l:Addr} {items:Array Value} {ns:List Str} {Q:Value->Shared->Prop} (q:A.handled=none) (hl:s.heap.IsList l items) (hi:∀ (i:Nat) (v:Value),items[i]?=some v->∃ t,v=.str (ns.getD i Str.empty) t) (j:items.size=ns.length) (g:items.size+1<scanBound)
  (h:∀ (h':Heap) (tk:Nat) (ks:List Str),WI (strKind prog w) h' s.heap.objs.size ks->(∀ y,y∈ks↔y∈ns)->ks.length<=items.size->(∀ b o,s.heap.get? b=some o->h'.get? b=some o)->Q (.ref s.heap.objs.size) { s with heap:=h',toks:=tk }) :
  wpAny (model prog w) A (call (.type "set") [.ref l]) Q E s:=
 Xv (mk:=.str) (λ_ _=>strKind_is _ _ _ _) (λ_ _=>rfl) Str.empty q hl hi j g h
end
end CST
namespace L2
open PySem PySem.Spec PyProof PyProof.Rows
section
variable {α:Type} [DecidableEq α]
theorem Kx:∀ {ks ss:List α},ks.Nodup->(∀ y∈ks,y∈ss)->ks.length<=ss.length
 |[],_,_,_=>zAu _
 |k::ks,ss,nd,h=>by
  rw[zBt] at nd;have g:=h k zAg;have ih:=Kx (ks:=ks) (ss:=ss.erase k) nd.2 λy j=>(zCk (λz=>nd.1 (by rw[<- z];exact j))).mpr (h y (zAd _ j));rw[zBT g] at ih;have:0<ss.length:=zCb g;rw[zAf]
  lia
theorem Yg:∀ {ss:List α},¬ ss.Nodup->∃ x,x∈ss/\x∈ss.erase x
 |[],h=>absurd List.nodup_nil h
 |y::t,h=>by
  by_cases c:y∈t
  .exact⟨y,zAg,by rw[List.erase_cons_head];exact c⟩
  .obtain⟨x,h1,g⟩:=Yg (ss:=t) (λz=>h (zBt.mpr ⟨c,z⟩))
   have ne:¬ (y==x)=true:=λz=>c (by rw[beq_iff_eq.mp z];exact h1);exact⟨x,zAd _ h1,by rw[List.erase_cons_tail ne];exact zAd _ g⟩
def AN {ks ss:List α} (nd:ks.Nodup) (m:∀ y,y∈ks↔y∈ss):(ss.Nodup->ks.length=ss.length)/\(¬ ss.Nodup->ks.length<ss.length):=by
 refine⟨λh=>Nat.le_antisymm (Kx nd λy g=>(m y).mp g) (Kx h λy g=>(m y).mpr g),λh=>?_⟩;obtain⟨x,h1,j⟩:=Yg h;have:=Kx (ss:=ss.erase x) nd λy g=>by
  by_cases c:y=x
  .rw[c];exact j
  .exact (zCk c).mpr ((m y).mp g)
 rw[zBT h1] at this;have:0<ss.length:=zCb h1
 lia
end
theorem F0:∀ {ss:List Str} {us:List Value},Fz (ss.map V.str) us->∀ (i:Nat) (v:Value),us[i]?=some v->∃ t,v=.str (ss.getD i Str.empty) t
 |[],_,.nil,i,v,e=>by simp at e
 |_::_,_::_,.cons r _,0,v,e=>by
  simp at e;subst e;obtain⟨t,rfl⟩:=r;exact⟨t,rfl⟩
 |_::ss,_::us,.cons _ q,i+1,v,e=>by
  obtain⟨t,rfl⟩:=F0 q i v (by simpa using e);exact⟨t,by simp⟩
def EN (K:zAa) (te:TE):TE:=λσ H Q=>te σ H λx H1=>∃ a ss,x=.ref a/\Dl K H1 a (List.map V.str ss)/\ss.length<60/\∀ n:Nat,(ss.Nodup->n=ss.length)->(¬ ss.Nodup->n<ss.length)->Q (.int (n:Int)) H1
section
variable {X:Cx}
def N8 {e:Expr} {te:TE} {p1 p2 z j:Pos} (he:PE X e te) (hc:X.calm=true) (Z:Gl X "len") (Y:X.mg "len"=none) (S:Gl X "set") (F:X.mg "set"=none)
  (L:zCF "len"=some (.builtin "len"):=by rfl) (hv2:zCF "set"=some (.type "set"):=by rfl)
  (hs1:starEach [.Call (.Name "set" p2) [e] [] j] X.env=[(false,eval (.Call (.Name "set" p2) [e] [] j) X.env)]:=by rfl) (hs2:starEach [e] X.env=[(false,eval e X.env)]:=by rfl) :
  PE X (.Call (.Name "len" p1) [.Call (.Name "set" p2) [e] [] j] [] z) (EN X.K te):=by
 intro pins s σ H Q I h;refine wpAny_Call_Name_kw (Ev I Z Y L ?_ (by decide) (by decide));refine PyProof.Rows.callWith_builtin1 ?_ hs1 rfl;rw[hs1];show wpAny _ _ (spliced ((false,eval (.Call (.Name "set" p2) [e] [] j) X.env)::backTo z [])) _ _ s;refine Calls.spliced_cons ?_;refine wpAny_Call_Name_kw (Ev I S F hv2 ?_ (by decide) (by decide));refine PyProof.Rows.callWith_type1 ?_ hs2 rfl;rw[hs2];show wpAny _ _ (spliced ((false,eval e X.env)::backTo j [])) _ _ s;refine Calls.spliced_cons (Bt (he pins s σ H _ I h) λu s1 ⟨x,H1,I1,r1,a,ss,ex,hq,ab,q⟩=>?_);subst ex;cases r1;refine Calls.spliced_nil ?_;obtain⟨B,rv,pl,hz⟩:=I1.list hq;have hl:=rv.length;rw[zAb] at hl;have hh:X.A.handled=none:=I.ok.hd hc;have hv:∀ (i:Nat) (v:Value),B.toArray[i]?=some v->∃ t,v=.str (ss.getD i Str.empty) t:=λi v e=>by
  rw[zBO] at e;exact F0 rv i v e
 refine CST.set_of_strs (items:=B.toArray) (ns:=ss) hh pl.isList hv (by rw[zAh];exact hl.symm) (by rw[zAh];unfold scanBound;lia) λh2 tk ks g M len k2=>?_;refine Calls.spliced_nil ?_;rw[zAh] at len;obtain⟨o,es,ep,t,ho,U,hd,hp,nd,aa,hf,_⟩:=g;obtain⟨z1,z2⟩:=AN nd M;have le:es.size=ks.length:=by rw[<- zAA];exact hp.length
 refine call_len_set (s:={ s1 with heap:=h2,toks:=tk }) ho U hd hf (by lia) ?_;exact⟨.int (ks.length:Int),H1,I1.kept (h':=h2) k2,⟨_,by rw[le]⟩,q ks.length z1 z2⟩
end
end L2
namespace L2
open PySem PySem.Spec PyProof.Rows PySem.W
section
variable {prog:Program} {w:World} {A:Around} {E:Value->Shared->Prop} {s:Shared}
def G5:Value->Prop
 |.int _ _=>True
 |.str _ _=>True
 |_=>False
theorem Wf {Q:Bool->Shared->Prop}:∀ {xs:List Value} (i:Nat),(∀ v∈xs,G5 v)->Q false s->KatLex prog w A true false Q (xs.zip xs) i s
 |[],i,_,h=>kat_nil h
 |v::xs,i,p,h=>by
  have ih:=Wf (xs:=xs) (i+1) (λu g=>p u (zAd _ g)) h;have pv:=p v zAg;rw[List.zip_cons_cons];cases v with
  |int n t=>
   refine kat_cons (wpAny_eqBool_int ?_);rw[beq_self_eq_true];exact kat_yes ih
  |str n t=>
   refine kat_cons (wpAny_eqBool_str ?_);rw[decide_eq_true rfl];exact kat_yes ih
  |_=>exact pv.elim
def WR (h:Heap):List Value->List Int->Prop
 |[],[]=>True
 |v::vs,r::rs=>(∃ (t:Addr) (u:Tok) (more:List Value),v=.ref t/\IsTup h t (Value.int r u::more).toArray/\∀ z∈more,G5 z)/\WR h vs rs
 |_,_=>False
theorem WR.keep {h h':Heap} (j:∀ b o,h.get? b=some o->h'.get? b=some o):∀ {vs} {g:List Int},WR h vs g->WR h' vs g
 |[],[],_=>trivial
 |[],_::_,z=>z.elim
 |_::_,[],z=>z.elim
 |v::vs,r::g,⟨⟨t,u,m,e,⟨o,B,F⟩,z⟩,q⟩=>⟨⟨t,u,m,e,⟨o,j _ _ B,F⟩,z⟩,q.keep j⟩
theorem WR.at {h:Heap}:∀ {vs} {g:List Int} {i:Nat},WR h vs g->i<vs.length->∃ (t:Addr) (u:Tok) (more:List Value),vs.getD i Value.none=.ref t/\IsTup h t (Value.int (g.getD i 0) u::more).toArray/\∀ z∈more,G5 z
 |[],[],_,_,z=>by simp at z
 |[],_::_,_,z,_=>z.elim
 |_::_,[],_,z,_=>z.elim
 |v::vs,r::g,0,⟨⟨t,u,m,e,z⟩,q⟩,_=>⟨t,u,m,e,z⟩
 |v::vs,r::g,i+1,⟨_,q⟩,l=>q.at (i:=i) (by simpa using l)
theorem WR.len {h:Heap}:∀ {vs} {g:List Int},WR h vs g->vs.length=g.length
 |[],[],_=>rfl
 |[],_::_,z=>z.elim
 |_::_,[],z=>z.elim
 |v::vs,r::g,z=>by rw[zAf,zAf,z.2.len]
theorem WR.firsts {h:Heap}:∀ {vs} {g:List Int},WR h vs g->∃ fs:List Value,KatTups h vs fs/\fs.length=vs.length/\∀ v∈fs,∃ (n:Int) (t:Tok),v=.int n t
 |[],[],_=>⟨[],trivial,rfl,λ_ z=>nomatch z⟩
 |[],_::_,z=>z.elim
 |_::_,[],z=>z.elim
 |v::vs,r::g,⟨⟨t,u,m,e,⟨o,B,F,n,M⟩,U⟩,q⟩=>by
  obtain⟨fs,h1,L,S⟩:=q.firsts;refine⟨.int r u::fs,⟨⟨t,o,_,n,e,B,F,M,by simp⟩,h1⟩,by rw[zAf,zAf,L],λy j=>?_⟩;rcases zAn.mp j with z|z
  .exact⟨r,u,z⟩
  .exact S y z
def ER {g:List Int} (nd:g.Nodup) {i j:Nat} (hi:i<g.length) (q:j<g.length) (e:g.getD i 0=g.getD j 0):i=j:=by
 rw[zAq,zAq,zAe hi,zAe q] at e;have z:g[i]=g[j]:=e;rcases zBr i j with c|c|c
 .exact absurd z ((zAH.mp nd) i j hi q c)
 .exact c
 .exact absurd z.symm ((zAH.mp nd) j i q hi c)
def Wm {vs:List Value} {g:List Int} (T:WR s.heap vs g) (nd:g.Nodup) (aa:2<=vs.length):BR prog w A vs WN (λi=>[g.getD i 0]) s:=by
 obtain⟨fs,h1,h2,U⟩:=T.firsts;have lr:=T.len;refine⟨tuples' (Value.type "int" != Value.type "tuple"),λQ E q=>kat_kind h1 (by lia) (λv Z=>?_) rfl q,λi j hi hj C B=>?_⟩
 .obtain⟨n,t,rfl⟩:=U v Z
  exact Th n t
 .have nb:(Value.type "int" != Value.type "tuple")=true:=by ac_nf
  rw[nb];obtain⟨t,u,m,e,⟨o,F,hc,n,S⟩,pm⟩:=T.at hi;by_cases c:i=j
  .subst c
   rw[e];refine kat_lt F S F S ?_;rw[decide_eq_false (zBn _)];rw[show WN.blt [g.getD i 0] [g.getD i 0]=false from Kn _] at B;refine Wf 0 (λz hz=>?_) B;rcases zAn.mp hz with y|y
   .rw[y];trivial
   .exact pm z y
  .obtain⟨t',u',m',e',⟨o',M,ab,n',L⟩,Y⟩:=T.at hj
   have ne:¬ g.getD i 0=g.getD j 0:=λz=>c (ER nd (by lia) (by lia) z);rw[e,e'];refine kat_lt F S M L ?_;show KatLex prog w A true _ C ((Value.int (g.getD i 0) u::m).zip (Value.int (g.getD j 0) u'::m')) 0 s;rw[List.zip_cons_cons];refine kat_cons (wpAny_eqBool_int ?_);rw[show (g.getD i 0==g.getD j 0)=false by simpa using ne];refine kat_no (oneLt_int ?_);have eb:WN.blt [g.getD i 0] [g.getD j 0]=decide (g.getD i 0<g.getD j 0):=by
    show HT.lexLt [g.getD i 0] [g.getD j 0]=_;rw[HT.lexLt_cons,if_neg ne]
   rw[eb] at B;exact B
end
def V5:V->Bool
 |.int _=>true
 |.str _=>true
 |_=>false
def XI (K:zAa) (H:Hp):List V->List Int->Prop
 |[],[]=>True
 |y::ys,r::rs=>(∃ t more,y=.ref t/\Jy K H t (.int r::more)/\more.all V5=true)/\XI K H ys rs
 |_,_=>False
theorem Ot:∀ {g} {us},g.all V5=true->Fz g us->∀ z∈us,G5 z
 |_,_,_,.nil,_,h=>nomatch h
 |x::g,u::us,a,.cons r q,z,h=>by
  rw[zCm,zAt] at a;rcases zAn.mp h with e|e
  .subst e
   cases x with
   |int n=>obtain⟨t,rfl⟩:=r;trivial
   |str n=>obtain⟨t,rfl⟩:=r;trivial
   |_=>exact absurd a.1 zAk
  .exact Ot a.2 q z e
section
variable {X:Cx}
theorem XI.vals {s:Shared} (I:Dm X pins σ H s):∀ {ys} {g:List Int} {us},XI X.K H ys g->Fz ys us->WR s.heap us g
 |[],[],_,_,.nil=>trivial
 |[],_::_,_,z,_=>z.elim
 |_::_,[],_,z,_=>z.elim
 |y::ys,r::g,_,⟨⟨t,m,e,h,F⟩,q⟩,.cons L M=>by
  subst e;cases L;obtain⟨B,j,p,_⟩:=I.tuple h;cases j with
  |cons U S=>
   obtain⟨u,rfl⟩:=U;exact⟨⟨t,u,_,rfl,p,Ot F S⟩,q.vals I M⟩
def LR (K:zAa):List V->Hp->VK->Prop:=λxs H Q=>∃ a ys rs,xs=[.ref a]/\Dl K H a ys/\ys.length<64/\XI K H ys rs/\rs.Nodup /\
 ∀ (l:Addr) (p:Array Nat),H l=none->CRS.Pm ys.length p->CRS.Up (O:=WN) (λi=>[rs.getD i 0]) p ys.length->Q (.ref l) (upd H l (.lst (p.toList.map λi=>ys.getD i .non)))
def Vv:Fn X (.builtin "sorted") (LR X.K):=by
 intro pins s σ H xs us Q I r h;obtain⟨a,ys,Z,rfl,hq,aa,T,nd,q⟩:=h;obtain⟨u,rfl,L⟩:=Jx r;cases L;obtain⟨g,j,S,hz⟩:=I.list hq;have hl:=j.length;have Y:=T.vals I j;refine P4 (O:=WN) (key:=λi=>[Z.getD i 0]) S.isList (by lia) (λA' h' kp B=>Wm (s:={ s with heap:=h' }) (Y.keep kp) nd B) λp z F=>?_;obtain⟨e,M⟩:=sortedAll_at s.heap g (Gp g p).toArray;have U:(p.toList.map λi=>ys.getD i .non).length<=sizeLine:=by
  rw[zAb,zAA,z.size]
  lia
 rw[<- hl] at z F;exact⟨.ref (s.heap.objs.size+1),_,I.laid (t':=s.toks) (λb o q=>sortedAll_old q) (zBD _) (show VQ X.prog X.w _ _ _ (.lst _) from ⟨U,Gp g p,e,Ow j _,M⟩),rfl,q _ p (I.hok.fresh (zBD _)) z F⟩
end
def M6 {α:Type} {S:List α} {d:α} {f:α->Int} {p:Array Nat} (hp:CRS.Pm S.length p) (up:CRS.Up (O:=WN) (λi=>[(S.map f).getD i 0]) p S.length) (nd:(S.map f).Nodup) :
  (p.toList.map λi=>S.getD i d).Perm S/\(p.toList.map λi=>S.getD i d).Pairwise (λx y=>f x<f y):=by
 have U:p.toList.Perm (zAO S.length):=by
  have:=zBA.mp hp
  simpa using this
 have e:(zAO S.length).map (λi=>S.getD i d)=S:=by
  apply List.ext_getElem
  .simp
  .intro i h1 h2
   simp [zAq,zAe h2]
 have Z:(p.toList.map λi=>S.getD i d).Perm S:=by
  have:=U.map (λi=>S.getD i d);rw[e] at this;exact this
 refine⟨Z,?_⟩;have M:((p.toList.map λi=>S.getD i d).map f).Nodup:=(Z.map f).nodup_iff.mpr nd;have sz:=hp.size;rw[zAH];intro i j hi hj L;have q:i<p.size:=by simpa using hi
 have g:j<p.size:=by simpa using hj
 have u:=up i j (by lia) (by lia);have lt:∀ k (F:k<p.size),p.getD k 0=p[k]/\p[k]<S.length:=λk F=>by
  refine⟨by simp [zBP,F],?_⟩;have m:p[k]∈p.toList:=by simp
  have:=U.mem_iff.mp m
  simpa using this
 obtain⟨a1,a2⟩:=lt i q;obtain⟨b1,b2⟩:=lt j g;have Y:∀ k (F:k<S.length),(S.map f).getD k 0=f (S.getD k d):=λk F=>by
  simp [zAq,zAy,zAe F]
 have ne:f (S.getD p[i] d)≠f (S.getD p[j] d):=by
  have:=(zAH.mp (zAS.mp M)) i j (by simpa using q) (by simpa using g) L
  simpa using this
 have le:¬ WN.blt [(S.map f).getD (p.getD j 0) 0] [(S.map f).getD (p.getD i 0) 0]=true:=by
  have u':WN.blt [(S.map f).getD (p.getD j 0) 0] [(S.map f).getD (p.getD i 0) 0]=false:=u;rw[u'];exact zAk
 rw[a1,b1,Y _ a2,Y _ b2] at le;have B:¬ HT.lexLt [f (S.getD p[j] d)] [f (S.getD p[i] d)]=true:=le;rw[HT.lexLt_cons,if_neg ne.symm] at B;have:¬ f (S.getD p[j] d)<f (S.getD p[i] d):=λz=>B (decide_eq_true z);simp only [zAX,Array.getElem_toList]
 lia
end L2
namespace L2
open PySem PySem.Spec PyProof.Rows
def Yx {K K'} {a} {xs} {tc} {te} {σ} {ix:List Nat} {QQ:Hp->Prop} {H1} {p} (g:Nat->List V->Hp->Prop) (h0:g 0 [] (upd H1 p (.lst [])))
  (hp:∀ i ys H,i<=xs.length->g i ys H->H p=some (.lst ys)/\ys.length<=i/\Dl K H a xs) (hn:xs.length<=sizeLine)
  (hs:∀ i x ys H,xs[i]?=some x->g i ys H->∃ t y z u w,x=.ref t/\Jy K' H t [y,z,u,w]/\tc (some y::some z::some u::some w::Dh ix σ) H λb H5=>if b=true then te (some y::some z::some u::some w::Dh ix σ) H5 λv H6=>H6 p=some (.lst ys) /\
   (some y::some z::some u::some w::Dh ix σ)=(some y::some z::some u::some w::Dh ix σ)/\g (i+1) (ys++[v]) (upd H6 p (.lst (ys++[v]))) else (some y::some z::some u::some w::Dh ix σ)=(some y::some z::some u::some w::Dh ix σ)/\g (i+1) ys H5)
  (hd:∀ ys H,g xs.length ys H->QQ H) :
  Nd (Zq K' 4 (Gw (Cg 0) (Gw (Cg 1) (Gw (Cg 2) (Gw (Cg 3) V2))))) tc te 4 ix σ (V3 K a) p H1 QQ:=by
 refine⟨λi m ys Z L=>m=xs.length-i/\i<=xs.length/\(∃ o o' U o3,Z=o::o'::U::o3::Dh ix σ)/\g i ys L,⟨xs.length,by simp,zAu _,⟨none,none,none,none,rfl⟩,h0⟩,?_⟩;rintro i m ys Z L ⟨rfl,hi,⟨o,o',U,o3,rfl⟩,pv⟩;obtain⟨S,aa,j⟩:=hp i ys L hi pv;refine⟨S,?_⟩;by_cases B:i<xs.length
 .refine .inr ⟨⟨xs,xs[i],j,by simp [B]⟩,by lia,λx H3 M=>?_⟩
  obtain⟨e,M⟩:=M;subst e;obtain⟨t,y,z,u,w,ex,ht,q⟩:=hs i x ys _ (M xs j) pv;subst ex;refine⟨λF Y H'=>Y=(some y::some z::some u::some w::Dh ix σ)/\g (i+1) F H',λF Y H' ⟨e,q⟩=>⟨xs.length-(i+1),by lia,rfl,B,⟨_,_,_,_,e⟩,q⟩,?_⟩;exact⟨t,_,rfl,ht,rfl,_,_,rfl,_,_,rfl,_,_,rfl,_,_,rfl,rfl,q⟩
 .obtain rfl:i=xs.length:=by lia
  exact .inl ⟨⟨xs,j,zAi _⟩,hd ys L pv⟩
def TsAt {α:Type} (f:α->List V) (H:Hp):List V->List α->Prop
 |[],[]=>True
 |x::xs,z::zs=>(∃ t,x=.ref t/\H t=some (.tup (f z)))/\TsAt f H xs zs
 |_,_=>False
section
variable {α:Type} {f:α->List V}
theorem TsAt.len:∀ {xs} {zs:List α},TsAt f H xs zs->xs.length=zs.length
 |[],[],_=>rfl
 |[],_::_,h=>h.elim
 |_::_,[],h=>h.elim
 |x::xs,p::ps,h=>by rw[zAf,zAf,TsAt.len h.2]
theorem TsAt.mono {H H':Hp} (s:∀ t g,H t=some (.tup g)->H' t=some (.tup g)):∀ {xs} {zs:List α},TsAt f H xs zs->TsAt f H' xs zs
 |[],[],_=>trivial
 |[],_::_,h=>h.elim
 |_::_,[],h=>h.elim
 |x::xs,p::ps,⟨⟨t,e,h⟩,r⟩=>⟨⟨t,e,s _ _ h⟩,TsAt.mono s r⟩
theorem TsAt.snoc:∀ {xs} {zs:List α} {t} {z:α},TsAt f H xs zs->H t=some (.tup (f z))->TsAt f H (xs++[.ref t]) (zs++[z])
 |[],[],t,_,_,h=>⟨⟨t,rfl,h⟩,trivial⟩
 |[],_::_,_,_,r,_=>r.elim
 |_::_,[],_,_,r,_=>r.elim
 |x::xs,p::ps,_,_,⟨z,r⟩,h=>⟨z,TsAt.snoc r h⟩
theorem TsAt.get:∀ {xs} {zs:List α} {i:Nat} {x},TsAt f H xs zs->xs[i]?=some x->∃ t z,zs[i]?=some z/\x=.ref t/\H t=some (.tup (f z))
 |[],[],_,_,_,e=>by simp at e
 |[],_::_,_,_,h,_=>h.elim
 |_::_,[],_,_,h,_=>h.elim
 |x::xs,p::ps,0,y,⟨⟨t,e,h⟩,r⟩,q=>by
  simp at q;subst q;exact⟨t,p,rfl,e,h⟩
 |x::xs,p::ps,i+1,y,⟨_,r⟩,q=>by
  obtain⟨t,j,h1,g⟩:=TsAt.get (i:=i) r (by simpa using q);exact⟨t,j,by simpa using h1,g⟩
end
structure DfIn (K:zAa) (x:Str) (st:Stmt) (f:Addr):Prop where
 ns:zAI K zCH x=some (some (.ref f))
 ex:∃ (od an:Option Addr) (sl:Array (Option Value)) (oc kV dc pm cd ct:Value),K.lookup f=some ⟨oc,od,.func (zAQ x x (Cd st) (Bn st) (Ao st) .none kV dc pm an cd ct),sl⟩/\zBi K cd x=true
 kp:zAN K (.ref f)=true
structure MtIn (K:zAa) (x qual:Str) (st:Stmt) (f:Addr):Prop where
 fn:zBK K (.ref f)=true
 ex:∃ (od an:Option Addr) (sl:Array (Option Value)) (oc kV dc pm cd ct:Value),K.lookup f=some ⟨oc,od,.func (zAQ x qual (Cd st) (Bn st) (Ao st) .none kV dc pm an cd ct),sl⟩/\zBi K cd qual=true
 kp:zAN K (.ref f)=true
structure VY (K:zAa) (x:Str) (C:Addr):Prop where
 ns:zAI K zCH x=some (some (.ref C))
 pg:zCj K C Str.empty=true
 hd:zCt K C=true
 po:PySem.W.plainOver K C=true
 sa:zAK K (.ref C) "__setattr__"=some (some (.builtin "object.__setattr__"))
 mi:zCp K C=true
 kp:zAN K (.ref C)=true
def VY.cl {K} {x} {C} (c:VY K x C):WZ K C:=⟨c.pg,c.hd,c.po,c.sa⟩
section
variable {K:zAa} {x qual:Str} {st:Stmt} {f:Addr} {ps:List Str}
def MtIn.get (d:MtIn K x qual st f)
  (L:∀ (kV j z:Value) (q:Option Addr) (g B:Value) (us:List Value),us.length=ps.length->bindArgs (zAQ x qual (Cd st) (Bn st) (Ao st) .none kV j z q g B) ⟨us,[]⟩=pure (ps.zip us)):∃ fd,WC K x qual st f fd/\VW K fd ps []:=by
 obtain⟨U,q,M,S,kV,j,z,g,B,l,c⟩:=d.ex;have F:=Uu (x:=x) (qual:=qual) (st:=st) l c d.kp;exact⟨_,F,F.binds L⟩
end
def vE {α β:Type} {f:α->β} {y:β} {v:α} {R:α->Prop} (e:y=f v) (h:R v):∃ x,y=f x/\R x:=⟨v,e,h⟩
def DfIn.of {K} {x} {st} {f} {M q} {B} {F kV z j g L} (n:zAI K zCH x=some (some (.ref f))) (l:K.lookup f=some ⟨F,M,.func (zAQ x x (Cd st) (Bn st) (Ao st) .none kV z j q g L),B⟩) (c:zBi K g x=true) (k:zAN K (.ref f)=true):DfIn K x st f:=⟨n,⟨M,q,B,F,kV,z,j,g,L,l,c⟩,k⟩
def MtIn.of {K} {x qual} {st} {f} {M q} {B} {F kV z j g L} (n:zBK K (.ref f)=true) (l:K.lookup f=some ⟨F,M,.func (zAQ x qual (Cd st) (Bn st) (Ao st) .none kV z j q g L),B⟩) (c:zBi K g qual=true) (k:zAN K (.ref f)=true):MtIn K x qual st f:=⟨n,⟨M,q,B,F,kV,z,j,g,L,l,c⟩,k⟩
def vF {α β γ δ:Type} {f:α->β} {g:γ->δ} {x:β} {y} {a:α} {b:γ} {R:α->γ->Prop} (e:x=f a) (q:y=g b) (h:R a b):∃ i j,x=f i/\y=g j/\R i j:=⟨a,b,e,q,h⟩
def vI {x y:V} {A:Addr->List V->Prop} {B:List V->Int->V->Prop} {R:V->Prop} {p:Addr} {xs:List V} {i:Int} {v:V} (e:x=.ref p) (g:y=.int i) (a:A p xs) (b:B xs i v) (h:R v):∃ p xs i v,x=.ref p/\y=.int i/\A p xs/\B xs i v/\R v:=⟨p,xs,i,v,e,g,a,b,h⟩
def vC {α:Type} {l:List α} {a:α} {t:List α} {R:α->List α->Prop} (e:l=a::t) (h:R a t):∃ v r,l=v::r/\R v r:=⟨a,t,e,h⟩
end L2
namespace L2
open PySem PySem.Spec PyProof.Rows PySem.W
theorem Ps:∀ {xs},xs.all Dq=true->GK xs xs=true
 |[],_=>rfl
 |x::xs,h=>by
  rw[zCm,zAt] at h;unfold GK;rw[Xt h.1,Ps h.2];rfl
theorem Mc {K} {H}:∀ {vs},vs.all Dq=true->Reps K H (vs.map D.at) vs
 |[],_=>by rw[zAY];unfold Reps;rfl
 |v::vs,h=>by
  rw[zCm,zAt] at h;rw[zAw];unfold Reps;exact⟨v,vs,rfl,by unfold Ma;exact⟨rfl,h.1⟩,Mc h.2⟩
theorem Mq:∀ (vs us:List V),eqDs (vs.map D.at) (us.map D.at)=GK vs us
 |[],[]=>by rw[zAY];unfold eqDs GK;rfl
 |v::vs,u::us=>by
  rw[zAw,zAw];unfold eqDs GK N4;rw[Mq vs us]
 |[],_::_=>by rw[zAY,zAw];unfold eqDs GK;rfl
 |_::_,[]=>by rw[zAY,zAw];unfold eqDs GK;rfl
theorem My:∀ (vs:List V),deps (vs.map D.at)=0
 |[]=>by rw[zAY];unfold deps;rfl
 |v::vs=>by
  rw[zAw];unfold deps DP;rw[My vs];rfl
def FL {K} {H} {t} {vs} (h:H t=some (.tup vs)) (f:vs.all Dq=true):Ma K H (.seq true (vs.map D.at)) (.ref t):=by
 unfold Ma;exact⟨t,vs,rfl,λ_=>Jy.of h,λe=>Bool.noConfusion e,Mc f⟩
def DQ {K} {H} {t} {vs} (h:H t=some (.lst vs)) (f:vs.all Dq=true):Ma K H (.seq false (vs.map D.at)) (.ref t):=by
 unfold Ma;exact⟨t,vs,rfl,λe=>Bool.noConfusion e,λ_=>Dl.of h,Mc f⟩
def Nz (t:Bool) (r:List V):D:=.seq t (r.map D.at)
theorem AK:∀ {g:List (List V)},(∀ r∈g,r.all Dq=true)->∀ t,eqDs (g.map (Nz t)) (g.map (Nz t))=true
 |[],_,_=>by rw[zAY];unfold eqDs;rfl
 |r::g,h,t=>by
  rw[zAw];unfold eqDs;rw[AK (λr hr=>h r (zAd _ hr)) t];unfold Nz N4;rw[Mq,Ps (h r zAg)];cases t <;> rfl
theorem Wc:∀ (g:List (List V)) (t:Bool),deps (g.map (Nz t))<=1
 |[],_=>by rw[zAY];unfold deps;omega
 |r::g,t=>by
  rw[zAw];unfold deps;have:=Wc g t;have e:DP (Nz t r)=1:=by
   unfold Nz DP;rw[My]
  omega
section
variable {X:Cx} {pins:List (Addr×Obj)} {σ:St} {H:Hp} {s:Shared}
def MY (sp:Sp) (n:Nat) (H:Hp) (ys:List V) (rs:List (List Int)):Prop:=rs.length=ys.length/\∀ (j:Nat) y,ys[j]?=some y->∃ r,rs[j]?=some r/\r.length=n/\∀ H',(∀ b o,H b=some o->H' b=some o)->∀ Q:VK,(∀ p,H' p=none->Q (.ref p) (upd H' p (.tup (r.map V.int))))->sp [y] H' Q E0
def DI {f:Addr} {k:Nat} {x:Str} {sp:Sp} {A:Around} {y:V} {u:Value} {r:List Int} {E:Value->Shared->Prop} {R:Value->Shared->Prop} (L:Lp X.prog X.w X.K X.mg X.base Ec k f fd [x] sp) (Y:VW X.K fd [x] []) (B:A.frames=some X.stack) (hr:VP k A)
  (I:Dm X pins σ H s) (F:Ht y u) (M:∀ Q:VK,(∀ p,H p=none->Q (.ref p) (upd H p (.tup (r.map V.int))))->sp [y] H Q E0)
  (h:∀ p s',Dm X pins σ (upd H p (.tup (r.map V.int))) s'->H p=none->R (.ref p) s'):wpAny (model X.prog X.w) A (call (.ref f) [u]) R E s:=by
 have g:=I.env0;have e1:WW X.prog X.w X.K X.mg X.base A X.stack s H:=⟨B,g.mod,g.bs,g.bsz,g.funs,g.frf,g.hok,g.bare⟩;refine wpAny_call (codeAny_mono (L.run A X.stack s H ⟨[u],[]⟩ [u] [y] (λv H'=>∃ p,v=.ref p/\H p=none/\H'=upd H p (.tup (r.map V.int))) E0 hr e1 (Y s [u] I.kIn rfl) (.cons F .nil) (M _ λp q=>⟨p,rfl,q,rfl⟩)) λS s' j=>?_);cases S with
 |error e=>exact False.elim j
 |ok Z=>
  cases Z with
  |ret u=>
   obtain⟨x,H',U,z,p,rfl,q,rfl⟩:=I.after j;cases z;exact h p s' U q
  |next=>exact False.elim j
  |brk=>exact False.elim j
  |cont=>exact False.elim j
def IK (K:zAa) (sp:Sp) (n:Nat) (te:TE):TE:=λσ H Q=>te σ H λx H1=>∃ l ys rs,x=.ref l/\Dl K H1 l ys/\MY sp (n+1) H1 ys rs/\ys.length<64 /\
 ∀ (p:Array Nat) (a:Addr) (H':Hp),H1 a=none->(∀ b o,H1 b=some o->H' b=some o)->CRS.Pm ys.length p->CRS.Up (O:=WN) (λi=>rs.getD i []) p ys.length->H' a=some (.lst (p.toList.map λi=>ys.getD i .non))->Q (.ref a) H'
end
end L2
namespace CRL
open PySem L2
def LQ {α:Type} (key:α->List Int) (a b:α):Prop:=HT.lexLt (key b) (key a)=false
def P5 {α:Type} (d:α) (ps:List α):(zAO ps.length).map (λi=>ps.getD i d)=ps:=by
 apply List.ext_getElem
 .simp
 .intro i h1 g
  simp [g]
def VZ {α:Type} {p:Array Nat} {es:List α} (d:α) (key:α->List Int) (h:CRS.Pm es.length p) (u:CRS.Up (O:=WN) (λi=>(es.map key).getD i []) p es.length) :
  (p.toList.map λi=>es.getD i d).Perm es/\(p.toList.map λi=>es.getD i d).Pairwise (LQ key):=by
 constructor
 .have z:=(zBA.mp h).map λi=>es.getD i d
  simp only [List.toList_toArray] at z;rw[P5] at z;exact z
 .rw[zAH]
  intro i j hi Z B;have sz:=h.size;have q:j<es.length:=by simpa [sz] using Z
  have S:i<es.length:=by lia
  have L:0<es.length:=by lia
  have z:=u i j (zCg B) q;have U:p.getD i 0=p[i]'(by lia):=by simp [zBP,show i<p.size by lia]
  have aj:p.getD j 0=p[j]'(by lia):=by simp [zBP,show j<p.size by lia]
  have li:=h.lt L i;have M:=h.lt L j;have g:∀ k,k<es.length->(es.map key).getD k []=key (es.getD k d):=λk Y=>by simp [Y]
  have F:HT.lexLt ((es.map key).getD (p.getD j 0) []) ((es.map key).getD (p.getD i 0) [])=false:=z;rw[g _ li,g _ M] at F;rw[zAX,zAX,Array.getElem_toList,Array.getElem_toList,<- U,<- aj];exact F
theorem _root_.L2.TsAt.pick {α:Type} {f:α->List V} {xs:List V} {es:List α} (d:α) (h:TsAt f H xs es):∀ l:List Nat,(∀ i∈l,i<xs.length)->TsAt f H (l.map λi=>xs.getD i .non) (l.map λi=>es.getD i d)
 |[],_=>trivial
 |i::l,hl=>by
  have hi:=hl i zAg;obtain⟨t,e,q,ex,z⟩:=h.get (i:=i) (zAe hi);refine⟨⟨t,?_,?_⟩,h.pick d l λj g=>hl j (zAd _ g)⟩
  .show xs.getD i .non=_
   rw[zAq,zAe hi];exact ex
  .show H t=some (.tup (f (es.getD i d)))
   rw[zAq,q];exact z
def K2 {α:Type} {fv:α->List V} {K:zAa} {a p:Addr} {xs:List V} {es:List α} {ix:List Nat} {QQ:Hp->Prop} (f:α->Bool) (Y:H1 a=some (.lst xs)) (Z:H1 p=none) (h:TsAt fv H1 xs es) (hl:es.length<=1000)
  (S:∀ (t:Addr) (e:α) (g:Hp) (Q:Bool->Hp->Prop),e∈es->De H1 g->g t=some (.tup (fv e))->Q (f e) g->tc (some (.ref t)::Dh ix σ) g Q) (M:∀ (x:V) (g:Hp) (Q:VK),Q x g->te (some x::Dh ix σ) g Q)
  (U:∀ ys,TsAt fv H1 ys (es.filter f)->QQ (upd H1 p (.lst ys))):Nd (Cg 0) tc te 1 ix σ (V3 K a) p H1 QQ:=by
 have L:=h.len;have F:∀ ys:List V,De H1 (upd H1 p (.lst ys)):=λys=>Af Z _;refine Bi (K:=K) (a:=a) (xs:=xs) (λi ys g=>g=upd H1 p (.lst ys)/\ys.length<=i/\TsAt fv H1 ys ((es.take i).filter f)) ⟨rfl,zAi _,by rw[zAV];trivial⟩ (λi ys g _ ⟨e,l,_⟩=>⟨by rw[e];exact Aa,l,by rw[e];exact Dl.of (F ys _ _ Y)⟩) (by rw[zCE];lia) (λi x ys g hi ⟨e,l,B⟩=>?_) (λys g ⟨e,l,B⟩=>?_)
 .obtain⟨t,j,q,ex,z⟩:=h.get hi
  subst e ex;refine S t j _ _ (zAC q) (F ys) (F ys _ _ z) ?_;have fs:(es.take (i+1)).filter f=(es.take i).filter f++(if f j=true then [j] else []):=by
   rw[zAT,q,zBL]
   congr 1
   by_cases c:f j=true
   .rw[if_pos c]
    exact zBf c
   .rw[if_neg c]
    exact zBg c
  rw[fs];by_cases c:f j=true
  .rw[if_pos c,if_pos c]
   refine M _ _ _ ⟨Aa,rfl,by rw[Uc],by rw[zAj];exact zBU l,B.snoc z⟩
  .rw[if_neg c,if_neg c,zAL]
   exact⟨rfl,rfl,by lia,B⟩
 .rw[L,zAB] at B
  rw[e];exact U ys B
def Ul {α:Type} {fv:α->List V} {g:α->V} {K:zAa} {a p:Addr} {xs:List V} {es:List α} {ix:List Nat} {QQ:Hp->Prop} (Y:H1 a=some (.lst xs)) (Z:H1 p=none) (h:TsAt fv H1 xs es) (hl:es.length<=1000)
  (S:∀ (t:Addr) (e:α) (j:Hp) (Q:VK),e∈es->De H1 j->j t=some (.tup (fv e))->Q (g e) j->te (some (.ref t)::Dh ix σ) j Q)
  (U:QQ (upd H1 p (.lst (es.map g)))):Nd (Cg 0) GO te 1 ix σ (V3 K a) p H1 QQ:=by
 have M:=h.len;have F:∀ ys:List V,De H1 (upd H1 p (.lst ys)):=λys=>Af Z _;refine Bi (K:=K) (a:=a) (xs:=xs) (λi ys j=>j=upd H1 p (.lst ys)/\ys.length<=i/\ys=(es.take i).map g) ⟨rfl,zAi _,by rw[zAV];rfl⟩ (λi ys j _ ⟨e,l,_⟩=>⟨by rw[e];exact Aa,l,by rw[e];exact Dl.of (F ys _ _ Y)⟩) (by rw[zCE];lia) (λi x ys j hi ⟨e,l,B⟩=>?_) (λys j ⟨e,l,B⟩=>?_)
 .obtain⟨t,L,q,ex,z⟩:=h.get hi
  subst e ex;refine (S t L _ _ (zAC q) (F ys) (F ys _ _ z) ⟨Aa,rfl,by rw[Uc],by rw[zAj];exact zBU l,?_⟩);rw[zAT,q,zAp,B];rfl
 .rw[M,zAB] at B
  rw[e,B];exact U
end CRL
namespace L2
open PySem PySem.Spec PyProof.Rows
section
variable {X:Cx}
def Ie (xs:List V) (lo:Option Int) (j:Int):List V:=(sliceRange (sliceBounds lo none (some j) xs.length).1 (sliceBounds lo none (some j) xs.length).2.1 (sliceBounds lo none (some j) xs.length).2.2).filterMap (xs[·]?)
theorem Uh {xs:List V} {its:List Value} (r:Fz xs its):∀ l:List Nat,Fz (l.filterMap (xs[·]?)) (l.filterMap (its.toArray[·]?))
 |[]=>.nil
 |i::l=>by
  have q:=Uh r l;rw[zBk,zBk,zBO];cases e:xs[i]? with
  |none=>
   rw[r.none_of e];exact q
  |some x=>
   obtain⟨u,j,g⟩:=r.get e;rw[j];exact .cons g q
def OP (K:zAa) (te tk:TE):TE:=λσ H Q=>te σ H λx H1=>tk σ H1 λk H2=>∃ a xs j,x=.ref a/\k=.int j/\j≠0/\Dl K H2 a xs/\(Ie xs none j).length<=1000/\∀ p,H2 p=none->Q (.ref p) (upd H2 p (.lst (Ie xs none j)))
def FH {e k:Expr} {te tk:TE} (he:PE X e te) (hk:PE X k tk):PE X (.Subscript e (.Slice none none (some k) p2) pos) (OP X.K te tk):=by
 intro pins s σ H Q I h;refine Subscript_ (Bt (he pins s σ H _ I h) λv s1 ⟨x,H1,Y,r1,U⟩=>?_);refine wpAny_Slice ?_;rw[evalPart_none];refine zCD (zCD ?_);rw[evalPart_some];refine Bt (hk pins s1 σ H1 _ Y U) λvk B ⟨z,H2,I2,r2,a,xs,j,ex,M,Z,hx,L,q⟩=>?_;subst M ex;cases r1;obtain⟨t,rfl⟩:=r2;have F:Dm X pins σ H2 { B with heap:=B.heap.push { cls:=.type "slice",data:=.fields #[.none,.none,.int j t] } }:=I2.kept (t':=B.toks) λb ob q=>zAc _ q;obtain⟨aa,r,S,M⟩:=F.list hx;have g:=r.length;refine tail_any (ops:=[.ref a,.ref B.heap.objs.size]) S.isList.typeIs slot_list_getitem.lookup ?_ (by with_unfolding_all rfl);refine wpAny_getItem_list_slice S.isList (Heap.IsSliceOf.new ..) .none .none (.int j t) (by simpa using Z) ?_ (by rw[zAh] <;> lia);refine⟨.ref _,_,F.laid (t':=B.toks) (o:=.lst (Ie xs none j)) (λb ob q=>zAc _ q) (zAi _) ?_,rfl,q _ (F.hok.fresh (zAi _))⟩;refine⟨by rw[zCE];lia,_,0,Uh r _,?_⟩;rw[g];unfold slicePick;exact zAv _ rfl
def JI (K:zAa) (te tl tk:TE):TE:=λσ H Q=>te σ H λx H1=>tl σ H1 λl H2=>tk σ H2 λk H3=>∃ a xs i j,x=.ref a/\l=.int i/\k=.int j/\j≠0/\Dl K H3 a xs/\(Ie xs (some i) j).length<=1000/\∀ p,H3 p=none->Q (.ref p) (upd H3 p (.lst (Ie xs (some i) j)))
def BQ {e l k:Expr} {te tl tk:TE} (he:PE X e te) (hl:PE X l tl) (hk:PE X k tk):PE X (.Subscript e (.Slice (some l) none (some k) p2) pos) (JI X.K te tl tk):=by
 intro pins s σ H Q I h;refine Subscript_ (Bt (he pins s σ H _ I h) λv s1 ⟨x,H1,Z,r1,Y⟩=>?_);refine wpAny_Slice ?_;rw[evalPart_some];refine Bt (hl pins s1 σ H1 _ Z Y) λvl s2 ⟨z,H2,I2,r2,q2⟩=>?_;rw[evalPart_none];refine zCD ?_;rw[evalPart_some];refine Bt (hk pins s2 σ H2 _ I2 q2) λvk F ⟨z',H3,I3,r3,a,xs,i,j,ex,el,ek,j0,hx,S,q⟩=>?_;subst ex el ek;cases r1;obtain⟨L,rfl⟩:=r2;obtain⟨g,rfl⟩:=r3;have M:Dm X pins σ H3 { F with heap:=F.heap.push { cls:=.type "slice",data:=.fields #[.int i L,.none,.int j g] } }:=I3.kept (t':=F.toks) λb ob q=>zAc _ q;obtain⟨aa,r,U,hz⟩:=M.list hx;have B:=r.length;refine tail_any (ops:=[.ref a,.ref F.heap.objs.size]) U.isList.typeIs slot_list_getitem.lookup ?_ (by with_unfolding_all rfl);refine wpAny_getItem_list_slice U.isList (Heap.IsSliceOf.new ..) (.int i L) .none (.int j g) (by simpa using j0) ?_ (by rw[zAh] <;> lia);refine⟨.ref _,_,M.laid (t':=F.toks) (o:=.lst (Ie xs (some i) j)) (λb ob q=>zAc _ q) (zAi _) ?_,rfl,q _ (M.hok.fresh (zAi _))⟩;refine⟨by rw[zCE];lia,_,0,Uh r _,?_⟩;rw[B];unfold slicePick;exact zAv _ rfl
def O0 {k:Nat} {C:Addr} {m:Str} {ps:List Str} {sp:Sp} {o:Expr} {pl:Sem Bool} (M:C3 X.prog X.w X.K X.mg X.base k C m ps sp) (hr:VP k X.A) (q:PE X o ta)
  (g:eval (.Call (.Attribute o m apos) [] [] pos) X.env=(do
   let ov <- eval o X.env
   standAt apos.atName
   let (f,first) <- holding [ov] (getMethod ov m pl)
   callWith pos f first (backTo pos (starEach [] X.env)) (backToKw pos (keywordEach [] X.env))):=by rfl) :
  PE X (.Call (.Attribute o m apos) [] [] pos) (Xz C m sp [] E0 ta Xs):=by
 obtain⟨f,fd,F,b,j⟩:=M.ex;exact AV q M.cl j F hr b .nil Qx g
end
def So (n:Nat) (lo:Option Int):List Nat:=sliceRange (sliceBounds lo none (some 2) n).1 (sliceBounds lo none (some 2) n).2.1 (sliceBounds lo none (some 2) n).2.2
def AR:∀ n,n<41->(So n none++So n (some 1)).isPerm (zAO n)=true:=by ac_nf
end L2
namespace CRL
open PySem L2
theorem Sc {α:Type}:∀ xs:List α,(zAO xs.length).filterMap (xs[·]?)=xs
 |[]=>rfl
 |a::g=>by
  rw[zAf,List.range_succ_eq_map,zBk];show a::((zAO g.length).map Nat.succ).filterMap _=_;rw[List.filterMap_map];exact congrArg (a :: ·) (Sc g)
theorem _root_.L2.TsAt.picks {α:Type} {f:α->List V} {xs:List V} {zs:List α} (h:TsAt f H xs zs):∀ l:List Nat,TsAt f H (l.filterMap (xs[·]?)) (l.filterMap (zs[·]?))
 |[]=>trivial
 |i::l=>by
  have q:=h.picks l;rw[zBk,zBk];cases e:xs[i]? with
  |none=>
   have e2:zs[i]?=none:=by
    rw[zCo] at e ⊢;rw[<- h.len];exact e
   rw[e2];exact q
  |some x=>
   obtain⟨t,z,j,ex,g⟩:=h.get e;rw[j];exact⟨⟨t,ex,g⟩,q⟩
def BD {α:Type} (xs:List α) (h:xs.length<41):((So xs.length none).filterMap (xs[·]?)++(So xs.length (some 1)).filterMap (xs[·]?)).Perm xs:=by
 have p:=List.isPerm_iff.mp (AR xs.length h);rw[<- List.filterMap_append];refine (p.filterMap _).trans ?_;rw[Sc]
end CRL
namespace L2
open PySem PySem.Spec PyProof.Rows
section
variable {X:Cx} {K:zAa}
def Iw (h:X.K=K):MJ X (NW K):=h▸EF
def Bx (h:X.K=K):Fn X (.type "list") (λxs H Q=>∃ p ys,xs=[.ref p]/\(Dl K H p ys\/Jy K H p ys)/\∀ l,H l=none->Q (.ref l) (upd H l (.lst ys))):=h▸Uk
def X5 {l:Expr} (h:X.K=K) (hl:PE X l tl):PI X tg l (CY K tl):=h▸GC hl
end
section
variable {x qual:Str} {st:Stmt} {ps:List Str}
abbrev GE (x qual:Str) (st:Stmt) (ps:List Str):Prop:=∀ (kV dc pm:Value) (an:Option Addr) (cd ct:Value) (us:List Value),us.length=ps.length->bindArgs (zAQ x qual (Cd st) (Bn st) (Ao st) .none kV dc pm an cd ct) ⟨us,[]⟩=pure (ps.zip us)
end
def Pt {lo:Int} {n:Nat} {g:TG} {tb:TS} {D:Mn} {σ:St} {H:Hp} (j:Nat->St->Hp->Prop) (S:j 0 σ H)
  (M:∀ i σ H,i<n->j i σ H->∀ N:St->Hp->Prop,(∀ σ H,j (i+1) σ H->N σ H)->g (.int (lo+i)) σ H λq B=>tb { D with nx:=N,ct:=N,bk:=D.nx } q B) (hd:∀ σ H,j n σ H->D.nx σ H) :
  ∃ W:Nat->Nat->St->Hp->Prop,(∃ m,W 0 m σ H)/\∀ i m σ H,W i m σ H ->
   ((R7 lo n).stop i H/\D.nx σ H)\/((R7 lo n).go i H/\∃ N:St->Hp->Prop,(∀ F H',N F H'->∃ L,L<m/\W (i+1) L F H')/\∀ x H',(R7 lo n).yld i H x H'->g x σ H' λq B=>tb { D with nx:=N,ct:=N,bk:=D.nx } q B):=
 Ji j S (λi σ H hi p=>M i σ H hi p _ λ_ _ z=>z) hd
def Ea {K:zAa} {a:Addr} {xs:List V} {g:TG} {tb:TS} {D:Mn} {σ:St} {H:Hp} (j:Nat->St->Hp->Prop) (S:j 0 σ H) (hl:∀ i σ H,i<=xs.length->j i σ H->Dl K H a xs)
  (M:∀ i x σ H,xs[i]?=some x->j i σ H->∀ N:St->Hp->Prop,(∀ σ H,j (i+1) σ H->N σ H)->g x σ H λq B=>tb { D with nx:=N,ct:=N,bk:=D.nx } q B) (hd:∀ σ H,j xs.length σ H->D.nx σ H) :
  ∃ W:Nat->Nat->St->Hp->Prop,(∃ m,W 0 m σ H)/\∀ i m σ H,W i m σ H ->
   ((V3 K a).stop i H/\D.nx σ H)\/((V3 K a).go i H/\∃ N:St->Hp->Prop,(∀ F H',N F H'->∃ L,L<m/\W (i+1) L F H')/\∀ x H',(V3 K a).yld i H x H'->g x σ H' λq B=>tb { D with nx:=N,ct:=N,bk:=D.nx } q B):=
 Cp j S hl (λi x σ H hi p=>M i x σ H hi p _ λ_ _ z=>z) hd
def Tp {K K':zAa} {a:Addr} {xs:List V} {j B:Nat} {tb:TS} {D:Mn} {σ:St} {H:Hp} (g:Nat->St->Hp->Prop) (S:g 0 σ H) (hl:∀ i σ H,i<=xs.length->g i σ H->Dl K H a xs)
  (L:∀ i x σ H t,xs[i]?=some x->g i σ H->H t=none->∀ N:St->Hp->Prop,(∀ σ H,g (i+1) σ H->N σ H)->tb { D with nx:=N,ct:=N,bk:=D.nx } ((σ.set j (some (.int i))).set B (some x)) (upd H t (.tup [.int i,x]))) (hd:∀ σ H,g xs.length σ H->D.nx σ H) :
  ∃ W:Nat->Nat->St->Hp->Prop,(∃ m,W 0 m σ H)/\∀ i m σ H,W i m σ H ->
   ((DH K a).stop i H/\D.nx σ H)\/((DH K a).go i H/\∃ N:St->Hp->Prop,(∀ q H',N q H'->∃ F,F<m/\W (i+1) F q H')/\∀ x H',(DH K a).yld i H x H'->Zq K' 2 (Gw (Cg j) (Gw (Cg B) V2)) x σ H' λM U=>tb { D with nx:=N,ct:=N,bk:=D.nx } M U):=
 Ls g S hl (λi x σ H t hi p n=>L i x σ H t hi p n _ λ_ _ z=>z) hd
section
variable {P:Program} {w:World} {K:zAa} {mg:Str->Option Value} {base:Heap} {x y qual:Str} {st:Stmt} {C:Addr} {k:Nat} {ps:List Str} {sp:Sp}
abbrev Eo (K:zAa) (x:Str) (st:Stmt):Prop:=∃ f,DfIn K x st f
abbrev Fg (K:zAa) (C:Addr) (x qual:Str) (st:Stmt):Prop:=∃ f,zAK K (.ref C) x=some (some (.ref f))/\MtIn K x qual st f
def Hf (K:zAa) (x:Str) (n:Int):Prop:=∃ t,zAI K zCH x=some (some (.int n t))
def JM (K:zAa) (x:Str) (y:Str):Prop:=∃ t,zAI K zCH x=some (some (.str y t))
def MtD (K:zAa) (C:Addr) (x qual:Str) (st:Stmt) (ds:Array Value):Prop:=∃ (f dv:Addr) (od an:Option Addr) (sl:Array (Option Value)) (oc kV dc pm cd ct:Value) (nd:Nat),zAK K (.ref C) x=some (some (.ref f))/\zBK K (.ref f)=true /\
 K.lookup f=some ⟨oc,od,.func (zAQ x qual (Cd st) (Bn st) (Ao st) (.ref dv) kV dc pm an cd ct),sl⟩/\zBi K cd qual=true/\zAN K (.ref f)=true/\K.lookup dv=some ⟨.type "tuple",none,.seq ds nd,#[]⟩
def MtC (K:zAa) (C:Addr) (x qual:Str) (st:Stmt) (T:Addr):Prop:=∃ (f c:Addr) (od an:Option Addr) (sl:Array (Option Value)) (oc kV dc pm ct:Value),zAK K (.ref C) x=some (some (.ref f))/\zBK K (.ref f)=true /\
 K.lookup f=some ⟨oc,od,.func (zAQ x qual (Cd st) (Bn st) (Ao st) .none kV dc pm an (.ref c) ct),sl⟩/\zBi K (.ref c) qual=true/\zAN K (.ref f)=true/\PySem.W.codeHdIn K c T=true
def BsE (K:zAa) (C:Addr) (x qual:Str) (st:Stmt):Prop:=∃ f,PySem.W.findCls K (.ref C) (.type "type") x=some (.val (.ref f))/\zCc K (.ref C) "__getattribute__"=some (some (.builtin "type.__getattribute__"))/\PySem.W.readsIn K C (.type "type")=true/\MtIn K x qual st f
def MtD.of {K} {C} {x qual} {st} {ds} {f j} {S z} {F} {L kV q B g M} {nd:Nat} (a:zAK K (.ref C) x=some (some (.ref f))) (i:zBK K (.ref f)=true)
  (l:K.lookup f=some ⟨L,S,.func (zAQ x qual (Cd st) (Bn st) (Ao st) (.ref j) kV q B z g M),F⟩) (c:zBi K g qual=true) (k:zAN K (.ref f)=true) (d:K.lookup j=some ⟨.type "tuple",none,.seq ds nd,#[]⟩):MtD K C x qual st ds:=⟨_,_,_,_,_,_,_,_,_,_,_,_,a,i,l,c,k,d⟩
def MtC.of {K} {C T} {x qual} {st} {f c} {L q} {z} {B kV j g F} (a:zAK K (.ref C) x=some (some (.ref f))) (i:zBK K (.ref f)=true)
  (l:K.lookup f=some ⟨B,L,.func (zAQ x qual (Cd st) (Bn st) (Ao st) .none kV j g q (.ref c) F),z⟩) (d:zBi K (.ref c) qual=true) (k:zAN K (.ref f)=true) (h:PySem.W.codeHdIn K c T=true):MtC K C x qual st T:=⟨_,_,_,_,_,_,_,_,_,_,a,i,l,d,k,h⟩
def BsE.of {K:zAa} {C f:Addr} {x qual:Str} {st:Stmt} (b:PySem.W.findCls K (.ref C) (.type "type") x=some (.val (.ref f))) (g:zCc K (.ref C) "__getattribute__"=some (some (.builtin "type.__getattribute__"))) (r:PySem.W.readsIn K C (.type "type")=true) (i:MtIn K x qual st f):BsE K C x qual st:=⟨_,b,g,r,i⟩
def NT4 (K:zAa) (x p q r s:Str):Prop:=∃ (w:Addr) (n:Nat) (a b c d:Tok),zAI K zCH x=some (some (.ref w))/\K.lookup w=some ⟨.type "tuple",none,.seq #[.str p a,.str q b,.str r c,.str s d] n,#[]⟩
def NT4.of {K} {x p q r s} {w} {n:Nat} {a b c d} (h:zAI K zCH x=some (some (.ref w))) (l:K.lookup w=some ⟨.type "tuple",none,.seq #[.str p a,.str q b,.str r c,.str s d] n,#[]⟩):NT4 K x p q r s:=⟨_,_,_,_,_,_,h,l⟩
structure RH (K:zAa) (C:Addr):Prop where
 ha:zAK K (.ref C) "__class__"=some (some (.builtin "object.__class__"))
 hm:PySem.W.mroIn K C (.type "object")=some true
 gs:zCc K (.builtin "object.__class__") "__get__"=some (some (.builtin "getset_descriptor.__get__"))
 tk:PySem.W.takesIn K (.builtin "object.__class__")=some true
structure Zy (P:Program) (w:World) (K:zAa) (mg:Str->Option Value) (base:Heap):Prop where
 nv:∀ {x:Str} {v:Value},zAI K zCH x=some (some v)->mg x=some v
 nn:∀ {x:Str},zAI K zCH x=some none->mg x=none
def Zy.gi (z:Zy P w K mg base) {n:Int} (h:Hf K x n):PZ mg x n:=h.imp λ_=>z.nv
def Zy.gs (z:Zy P w K mg base) {n:Str} (h:JM K x n):OG mg x n:=h.imp λ_=>z.nv
def UM:Nat->(List Value->Prop)->Prop
 |0,P=>P []
 |n+1,P=>∀ a,UM n λl=>P (a::l)
theorem UD:∀ {n:Nat} {j:List Value->Prop},UM n j->∀ g:List Value,g.length=n->j g
 |0,_,h,[],_=>h
 |_+1,_,h,a::g,e=>UD (h a) g (Nat.succ.inj e)
def bd (h:GE x qual st ps:=by exact λ_ _ _ _ _ _=>UD (by (repeat intro _);rfl)):GE x qual st ps:=h
def GP (z:Zy P w K mg base) (d:Eo K x st) (g:GE x x st ps) (h:∀ f fd,WC K x x st f fd->Lp P w K mg base Ec k f fd ps sp):HQ P w K mg base k x ps sp:=by
 obtain⟨_,d⟩:=d;obtain⟨_,_,_,_,_,_,_,_,_,l,c⟩:=d.ex;have F:=Uu l c d.kp;exact⟨_,_,h _ _ F,F.binds g,d.kp,z.nv d.ns⟩
def Jr (z:Zy P w K mg base) (m:Fg K C x qual st) (c:WZ K C) (g:GE x qual st ps) (h:∀ f fd,WC K x qual st f fd->Lp P w K mg base Ec k f fd ps sp):C3 P w K mg base k C x ps sp:=by
 obtain⟨_,a,i⟩:=m;obtain⟨_,F,B⟩:=i.get g;exact⟨⟨_,_,h _ _ F,B,⟨a,i.fn,i.kp⟩⟩,c⟩
def UJ (z:Zy P w K mg base) (q:VY K y C) (m:Fg K C "__init__" qual st) (g:GE "__init__" qual st ps) (h:∀ f fd,WC K "__init__" qual st f fd->Lp P w K mg base Ec k f fd ps sp):O6 P w K mg base k y C ps sp:=by
 obtain⟨_,a,i⟩:=m;obtain⟨_,F,B⟩:=i.get g;exact⟨_,_,⟨q.mi,a,i.fn,q.kp⟩,h _ _ F,B,z.nv q.ns⟩
def VI {ds:Array Value} (z:Zy P w K mg base) (q:VY K y C) (m:MtD K C "__init__" qual st ds) (h:∀ f fd,XH K "__init__" qual st f fd->Lp P w K mg base Ec k f fd ps sp)
  (j:∀ (g:Addr) (kV F M:Value) (L:Option Addr) (B U:Value) (nd:Nat),K.lookup g=some ⟨.type "tuple",none,.seq ds nd,#[]⟩->VW K (zAQ "__init__" qual (Cd st) (Bn st) (Ao st) (.ref g) kV F M L B U) ps []):O6 P w K mg base k y C ps sp:=by
 obtain⟨_,_,_,_,_,_,_,_,_,_,_,_,a,i,l,c,e,S⟩:=m;exact⟨_,_,⟨q.mi,a,i,q.kp⟩,h _ _ (DZ l c e),j _ _ _ _ _ _ _ _ S,z.nv q.ns⟩
def UT {T:Addr} (kb:K.In base) (m:MtC K C x qual st T) (c:WZ K C) (h:∀ f fd c,WC K x qual st f fd->fd.code=.ref c->PySem.W.CodeHd base c T->Lp P w K mg base Ec k f fd ps sp) (g:GE x qual st ps):C3 P w K mg base k C x ps sp:=by
 obtain⟨_,_,_,_,_,_,_,_,_,_,a,i,l,d,e,t⟩:=m;have F:=Uu l d e;exact⟨⟨_,_,h _ _ _ F rfl (PySem.W.codeHd_of_K kb t),F.binds g,⟨a,i,e⟩⟩,c⟩
def UP (z:Zy P w K mg base) (q:VY K y C) (m:BsE K C x qual st) (h:∀ f fd,WC K x qual st f fd->Lp P w K mg base Ec k f fd ps sp) (j:GE x qual st ps):JE P w K mg base k y x ps sp:=by
 obtain⟨_,b,g,r,i⟩:=m;obtain⟨_,F,B⟩:=i.get j;exact⟨_,_,_,h _ _ F,B,⟨g,r,b,i.kp⟩,z.nv q.ns⟩
def FY {CX:DE} {f:Addr} (h:∀ vs H Q E,¬ sp vs H Q E):Lp P w K mg base CX k f fd ps sp:=
 ⟨λvs H Q E z=>absurd z (h vs H Q E),λ_ _ _ _ _ _ _ _ _ _ _ _ _ z=>absurd z (h _ _ _ _)⟩
end
section
variable {X:Cx} {pos pos' p:Pos} {x:Str} {e a b:Expr} {es:List Expr} {te ta tb:TE} {t:TA} {ps:List Str} {sp:Sp} {d:Scope} {k n:Nat}
def Ce (S:Bz X.N ps d) (i:Nat) (g:PE X e te) (hi:X.N[i]?=some x:=by rfl) (hx:LV X.env.scope x:=by exact Or.inl rfl) (hs:swapsWith e (some (.Name x pos')) pos.line X.env=pure false:=by rfl) (hf:X.fn x=true\/X.env.scope.names.lookup x=some .local:=by first|exact .inl rfl|exact .inr rfl|assumption) :
  PS X (.Assign [.Name x pos'] e pos) (BX te (Cg i)):=Mm S.nd hi hx g hs hf
def Fj (S:Bz X.N ps d) (i:Nat) (hi:X.N[i]?=some x:=by rfl) (hx:LV X.env.scope x:=by exact Or.inl rfl) (hf:X.fn x=true\/X.env.scope.names.lookup x=some .local:=by first|exact .inl rfl|exact .inr rfl|assumption):PG X (.Name x pos) (Cg i):=Uf S.nd hi hx hf
def Jq {NC:List Str} (i:Nat) (g:NC.Nodup:=by ac_nf) (hi:(Pf X NC d s3 H3 fp).N[i]?=some x:=by rfl) (hx:LV (Pf X NC d s3 H3 fp).env.scope x:=by exact Or.inl rfl) (hf:(Pf X NC d s3 H3 fp).fn x=true\/(Pf X NC d s3 H3 fp).env.scope.names.lookup x=some .local:=by first|exact .inl rfl|exact .inr rfl|assumption):PG (Pf X NC d s3 H3 fp) (.Name x pos) (Cg i):=Uf g hi hx hf
def Cb (C:HQ X.prog X.w X.K X.mg X.base k x ps sp) (hr:VP n X.A) (j:PA X (e::es) t) (g:k<=n:=by decide) (hg:Gl X x:=by exact rfl) (hdb:(x==("__debug__" : Str))=false:=by decide) (he:starEach (e::es) X.env=(false,eval e X.env)::starEach es X.env:=by rfl) (hpl:(backTo pos (starEach es X.env)).any (·.1)=false:=by rfl) :
  PE X (.Call (.Name x p) (e::es) [] pos) (K1 sp [] E0 t):=Li C (hr.mono g) hg j hdb he hpl
def Da (K:zAa) (j:PE X a ta) (g:PE X b tb) (q:X.K=K:=by exact rfl) (hs:Vd b:=by exact λ_ _=>rfl):PE X (.Subscript a b pos) (LB (LI K) ta tb):=K8 (FG q) j g hs
def Jo (K:zAa) (j:PE X a ta) (g:PE X b tb) (q:X.K=K:=by exact rfl) (hs:Vd b:=by exact λ_ _=>rfl):PE X (.Subscript a b pos) (LB (JV K) ta tb):=K8 (X9 q) j g hs
def Lh {id} {r:List V->Hp->VK->Prop} (q:Fn X (.builtin id) r) (z:Zy X.prog X.w X.K X.mg X.base) (B:zAI X.K zCH x=some none) (j:PA X (e::es) t) (g:zCF x=some (.builtin id):=by exact rfl) (hg:Gl X x:=by exact rfl) (hn:x ≠ "__name__":=by decide) (hdb:(x==("__debug__" : Str))=false:=by decide)
  (he:starEach (e::es) X.env=(false,eval e X.env)::starEach es X.env:=by rfl) (hpl:(backTo pos (starEach es X.env)).any (·.1)=false:=by rfl):PE X (.Call (.Name x p) (e::es) [] pos) (TB r t):=Cw q hg (z.nn B) g j hn hdb he hpl
def Op {i:Int} (z:Zy X.prog X.w X.K X.mg X.base) (h:Hf X.K x i) (g:Gl X x:=by exact rfl) (hd:(x==("__debug__" : Str))=false:=by decide):PE X (.Name x pos) (tC (.int i)):=EH (z.gi h) g hd
def Go (K:zAa) {tg l:Expr} (hl:PE X l tl) (h:X.K=K:=by exact rfl):PI X tg l (CY K tl):=X5 h hl
def Bj (g:PE X a ta) (j:starEach [a] X.env=(false,eval a X.env)::starEach [] X.env:=by rfl):PA X [a] (Wv ta Xs):=Ah g Cn j
def Bb (j:PE X a ta) (g:PE X b tb) (q:starEach [a,b] X.env=(false,eval a X.env)::starEach [b] X.env:=by rfl) (ht:starEach [b] X.env=(false,eval b X.env)::starEach [] X.env:=by rfl):PA X [a,b] (Wv ta (Wv tb Xs)):=Ah j (Ah g Cn ht) q
end
section
variable {P:Program} {w:World} {K:zAa} {mg:Str->Option Value} {base:Heap} {x y qual:Str} {st:Stmt} {C:Addr} {k:Nat} {ps:List Str} {sp:Sp}
structure PF (x qual:Str) (st:Stmt) (N ps:List Str) (sp:Sp):Prop where
 b:GE x qual st ps
 s:Bz N ps (Ao st)
 l:∀ vs H Q E,sp vs H Q E->vs.length=ps.length
def df {N:List Str} (b:GE x qual st ps:=by exact bd) (s:Bz N ps (Ao st):=by exact⟨rfl,rfl,rfl,by ac_nf,rfl,by ac_nf,by ac_nf⟩) (l:∀ vs H Q E,sp vs H Q E->vs.length=ps.length:=by intro _ _ _ _ h;first|(cases h;subst_vars;rfl)|(obtain⟨_,rfl,_⟩:=h;rfl)|(obtain⟨_,_,rfl,_⟩:=h;rfl)|(obtain⟨_,_,_,rfl,_⟩:=h;rfl)):PF x qual st N ps sp:=⟨b,s,l⟩
def Kt {f:Addr} (F:WC K x qual st f fd) (N:List Str) (D:PF x qual st N ps sp) (h:∀ {f:Addr} {cdv:Value} {A:Around} {outer:List Env} {s:Shared} {vs:List V} {E:XK},Bz N ps (Ao st)->∀ (H:Hp) (Q:VK),VP k (A.deeper (envOfC qual (Ao st) s.heap.objs.size f cdv))->sp vs H Q E ->
   ∃ t,PSs (Kd Ec P w K mg base N qual (Ao st) f cdv A outer s H E).nox (Bn st) t/\t { nx:=λ_ H'=>Q .non H',rt:=Q } (Fa N vs) H):Lp P w K mg base Ec (k+1) f fd ps sp:=F.ok D.s D.l λ_ _ _ _ H _ Q _=>h D.s H Q
def Gb (z:Zy P w K mg base) (d:Eo K x st) (N:List Str) (D:PF x x st N ps sp) (h:∀ {f:Addr} {cdv:Value} {A:Around} {outer:List Env} {s:Shared} {vs:List V} {E:XK},Bz N ps (Ao st)->∀ (H:Hp) (Q:VK),VP k (A.deeper (envOfC x (Ao st) s.heap.objs.size f cdv))->sp vs H Q E ->
   ∃ t,PSs (Kd Ec P w K mg base N x (Ao st) f cdv A outer s H E).nox (Bn st) t/\t { nx:=λ_ H'=>Q .non H',rt:=Q } (Fa N vs) H):HQ P w K mg base (k+1) x ps sp:=GP z d D.b λ_ _ F=>Kt F N D h
def GR (z:Zy P w K mg base) (m:Fg K C x qual st) (c:WZ K C) (N:List Str) (D:PF x qual st N ps sp) (h:∀ {f:Addr} {cdv:Value} {A:Around} {outer:List Env} {s:Shared} {vs:List V} {E:XK},Bz N ps (Ao st)->∀ (H:Hp) (Q:VK),VP k (A.deeper (envOfC qual (Ao st) s.heap.objs.size f cdv))->sp vs H Q E ->
   ∃ t,PSs (Kd Ec P w K mg base N qual (Ao st) f cdv A outer s H E).nox (Bn st) t/\t { nx:=λ_ H'=>Q .non H',rt:=Q } (Fa N vs) H):C3 P w K mg base (k+1) C x ps sp:=Jr z m c D.b λ_ _ F=>Kt F N D h
def C9 (z:Zy P w K mg base) (q:VY K y C) (m:Fg K C "__init__" qual st) (N:List Str) (D:PF "__init__" qual st N ps sp) (h:∀ {f:Addr} {cdv:Value} {A:Around} {outer:List Env} {s:Shared} {vs:List V} {E:XK},Bz N ps (Ao st)->∀ (H:Hp) (Q:VK),VP k (A.deeper (envOfC qual (Ao st) s.heap.objs.size f cdv))->sp vs H Q E ->
   ∃ t,PSs (Kd Ec P w K mg base N qual (Ao st) f cdv A outer s H E).nox (Bn st) t/\t { nx:=λ_ H'=>Q .non H',rt:=Q } (Fa N vs) H):O6 P w K mg base (k+1) y C ps sp:=UJ z q m D.b λ_ _ F=>Kt F N D h
end
end L2
namespace L2
open PySem PySem.Spec PyProof.Rows PySem.W
def MV (X:Cx) (σ:St) (P:List (Addr×Obj)) (A:Around) (f:Addr) (n:Nat) (H:Hp) (ys:List V) (rs:List (List Int)):Prop:=rs.length=ys.length/\∀ (j:Nat) y,ys[j]?=some y->∃ r,rs[j]?=some r/\r.length=n/\∀ (e:Addr×Obj) (H':Hp) (s:Shared) (u:Value) {E R:Value->Shared->Prop},Dm X (e::P) σ H' s->(∀ b o,H b=some o->H' b=some o)->Ht y u ->
 (∀ p s',Dm X (e::P) σ (upd H' p (.tup (r.map V.int))) s'->H' p=none->R (.ref p) s')->wpAny (model X.prog X.w) A (call (.ref f) [u]) R E s
section
variable {X:Cx} {pins:List (Addr×Obj)} {σ:St} {H:Hp} {s:Shared}
def Q8 {a f:Addr} {n:Nat} {A:Around} {ys:List V} {rs:List (List Int)} {vs:List Value} {nn:Nat} {E:Value->Shared->Prop} {R:PySem.Fin->Shared->Prop}
  (I:Dm X pins σ H s)
  (ha:s.heap.get? a=some (seqObj "list" vs.toArray nn)) (fa:Hs X pins H a) (rv:Fz ys vs) (KY:MV X σ pins A f (n+1) H ys rs) (h64:ys.length<64)
  (h:∀ p s' H',Dm X pins σ H' s'->(∀ b o,H b=some o->H' b=some o)->CRS.Pm ys.length p->CRS.Up (O:=WN) (λi=>rs.getD i []) p ys.length->H' a=some (.lst (p.toList.map λi=>ys.getD i .non))->R (.done (.ret .none)) s') :
  wpAny (model X.prog X.w) A (ksk_tree a (.ref f) false) R E s:=by
 have lv:=rv.length;have line:∀ k:Nat,k<64->k<=sizeLine:=λk hk=>by rw[zCE];lia
 have s1:=zBo.update s.heap a (Obj.mapSeq λ_=>(#[]:Array Value));obtain⟨e1,ho1⟩:∃ e1,(s.heap.update a (Obj.mapSeq λ_=>(#[]:Array Value))).get? a=some (seqObj "list" #[] e1):=⟨_,get?_update_seq ha λ_ => #[]⟩;unfold ksk_tree;refine zCC (listItems_at ha rfl ?_);refine zCC (listUpdate_at ha rfl ?_ (by rw[zAh];exact line _ (by lia)) (zAu _));refine zCC (seqEpoch_at ho1 rfl ?_);refine zCC (wpAny_newTuple ?_ (by show vs.length<=_;exact line _ (by lia)));refine zCC (wpAny_newList ?_ (zAu _));refine wpAny_holding ?_;have J1:Dm X pins σ H { s with heap:=s.heap.update a (Obj.mapSeq λ_=>(#[]:Array Value)),toks:=s.toks }:=
  I.turned (λb o hb e=>(s1.2 b hb).trans e) fa.1 fa.2.1 fa.2.2.2.1 fa.2.2.2.2.1 fa.2.2.2.2.2
 have J2:Dm X pins σ H { s with heap:=(s.heap.update a (Obj.mapSeq λ_=>(#[]:Array Value))).push (seqObj "tuple" vs.toArray 0),toks:=s.toks }:=
  J1.kept λb o e=>zAc _ e
 have ho2:((s.heap.update a (Obj.mapSeq λ_=>(#[]:Array Value))).push (seqObj "tuple" vs.toArray 0)).get? a=some (seqObj "list" #[] e1):=zAc _ ho1;have nf:H ((s.heap.update a (Obj.mapSeq λ_=>(#[]:Array Value))).push (seqObj "tuple" vs.toArray 0)).objs.size=none:=J2.fresh;have J3:=J2.lnew (ys:=[]) (its:=[]) (t':=s.toks) .nil (zAu _);have ho3:(((s.heap.update a (Obj.mapSeq λ_=>(#[]:Array Value))).push (seqObj "tuple" vs.toArray 0)).push (seqObj "list" #[] 0)).get? a=some (seqObj "list" #[] e1):=zAc _ ho2;have nea:a≠((s.heap.update a (Obj.mapSeq λ_=>(#[]:Array Value))).push (seqObj "tuple" vs.toArray 0)).objs.size:=zAx (zAr ho2);show wpAny _ _ _ _ _ { s with heap:=((s.heap.update a (Obj.mapSeq λ_=>(#[]:Array Value))).push (seqObj "tuple" vs.toArray 0)).push (seqObj "list" #[] 0),toks:=s.toks };have J4:Dm X ((a,seqObj "list" #[] e1)::pins) σ (upd H ((s.heap.update a (Obj.mapSeq λ_=>(#[]:Array Value))).push (seqObj "tuple" vs.toArray 0)).objs.size (.lst [])) { s with heap:=((s.heap.update a (Obj.mapSeq λ_=>(#[]:Array Value))).push (seqObj "tuple" vs.toArray 0)).push (seqObj "list" #[] 0),toks:=s.toks }:=
  J3.pin1 ho3 (by rw[Ag nea];exact fa.1) fa.2.1 fa.2.2.1 (λv z=>by cases z)
 revert J4
 generalize ((s.heap.update a (Obj.mapSeq λ_=>(#[]:Array Value))).push (seqObj "tuple" vs.toArray 0)).objs.size=kS at nf nea ⊢;intro J4;have S4:∀ b o,H b=some o->upd H kS (.lst []) b=some o:=λb o e=>by rw[Ag (Ae e nf)];exact e
 have hk4:upd H kS (.lst []) kS=some (.lst []):=Aa;generalize upd H kS (.lst [])=H4 at J4 S4 hk4;unfold ksk_rest;refine zCC (wpAny_rule ?_)
 first
  |rw[List.forIn_toArray]
  |(rw[<- Array.forIn_toList];simp only [List.toList_toArray])
  |rw[<- Array.forIn_toList]
 refine zCC (ksk_fold (λi s'=>∃ H' ts,Dm X ((a,seqObj "list" #[] e1)::pins) σ H' s'/\(∀ b o,H b=some o->H' b=some o)/\H' kS=some (.lst ts)/\WM X.K H' (n+1) ts (rs.take i))
  vs 0 _ ⟨H4,[],J4,S4,hk4,by rw[zAV];trivial⟩ (λj x s' hx ⟨H',ts,J,SH,hk,TI⟩=>?_) (λs' ⟨H',ts,J,SH,hk,TI⟩=>?_))
 .rw[Nat.zero_add] at TI ⊢
  have hj:j<vs.length:=(zAl.mp hx).1;have hj':j<ys.length:=by lia
  obtain⟨rw',er,ln,ky⟩:=KY.2 j _ (zAe hj');obtain⟨u,hu,ru⟩:=rv.get (zAe hj');rw[hx] at hu;cases hu;refine zCC (wpAny_attempt (ky _ H' s' _ J SH ru λp s'' J2 hp=>?_));have hk2:upd H' p (.tup (rw'.map V.int)) kS=some (.lst ts):=by rw[Ag (Ae hk hp)];exact hk
  obtain⟨z,its,n',ri,li,e⟩:=J2.lstM hk2;have lt:=TI.len;have lt':ts.length<=j:=by rw[lt,zAo];lia
  dsimp only
  refine zCC (listUpdate_at e rfl ?_ (by rw[zAh,<- li];exact line _ (by lia)) (zAz (Nat.le_of_eq (Array.size_push ..)) (by rw[zAh,<- li,zCE];lia)));have J3:=J2.lset (t':=s''.toks) (f:=(·.push (.ref p))) (its':=its++[.ref p]) (ys:=ts++[.ref p]) hk2 e (by simp) (ri.append (Paired.cons (show Ht (.ref p) (.ref p) from rfl) .nil)) (by rw[zAj];exact line _ (by show ts.length+1<64;lia));refine zCD ⟨rfl,_,_,J3,λb o q=>?_,Aa,?_⟩
  .rw[Ag (Ae q nf),Ag (Ae (SH _ _ q) hp)]
   exact SH _ _ q
  .have hp2:Jy X.K (upd H' p (.tup (rw'.map V.int))) p (rw'.map V.int):=Jy.of Aa
   have T2:WM X.K (upd H' p (.tup (rw'.map V.int))) (n+1) ts (rs.take j):=TI.mono (Xg λb o q=>by rw[Ag (Ae q hp)];exact q);rw[zAT,er];exact (T2.app hp2 ln).mono (EE hk2)
 .rw[Nat.zero_add] at TI
  have lr:=KY.1;rw[zBZ (by lia)] at TI;obtain⟨z,its,n',ri,li,e⟩:=J.lstM hk;have lt:=TI.len;refine zCC (listItems_at e rfl ?_);have ha':=(J.pin (a,seqObj "list" #[] e1) (zAF _ (by simp))).1;have ha'':=(J.pin (a,seqObj "list" #[] e1) (zAF _ (by simp))).2.1;refine ID (O:=WN) (key:=λi=>rs.getD i []) e ha' (Ne.symm nea) (by lia) (by lia) (λtwo=>V0 (TI.vals J ri) (by lia)) λp hp hu=>?_;have J5:=J.unpin.lset (t':=s'.toks) (f:=λ_=>(#[]:Array Value)) (its':=[]) (ys:=[]) hk e (by simp) .nil (zAu _);have s2:=zBo.update (s'.heap.update kS (Obj.mapSeq λ_=>(#[]:Array Value))) a (Obj.mapSeq λ_=>(Gp vs p).toArray);have ha2:(s'.heap.update kS (Obj.mapSeq λ_=>(#[]:Array Value))).get? a=some (seqObj "list" #[] e1):=(Heap.get?_update_ne _ _ _ _ nea).trans ha';have an:upd H' kS (.lst []) a=none:=by rw[Ag nea];exact ha''
  have fa':Hs X pins (upd H' kS (.lst [])) a:=⟨an,fa.2.1,fa.2.2.1,fa.2.2.2.1,fa.2.2.2.2.1,λq hq=>fa.2.2.2.2.2 q (by
   exact hq)⟩
  have J6:=J5.turned (t':=s'.toks) (λb o hb e=>(s2.2 b hb).trans e) fa'.1 fa'.2.1 fa'.2.2.2.1 fa'.2.2.2.2.1 fa'.2.2.2.2.2;have lp:(p.toList.map λi=>ys.getD i .non).length<=sizeLine:=by
   rw[zAb,zAA,hp.size];exact line _ (by lia)
  have J7:=J6.trackN (o:=.lst (p.toList.map λi=>ys.getD i .non)) fa' ⟨lp,Gp vs p,_,Ow rv _,get?_update_seq ha2 λ_=>(Gp vs p).toArray⟩;rw[<- lv] at hp hu;refine h p _ _ J7 (λb o q=>?_) hp hu Aa;rw[Ag (Ae q fa.1),Ag (Ae q nf)];exact SH _ _ q
def Nn {l f:Addr} {k n:Nat} {ys:List V} {rs:List (List Int)} {E:Value->Shared->Prop} {Q:VK}
  (hr:VP (k+2) X.A) (I:Dm X pins σ H s)
  (hl:Dl X.K H l ys) (KY:∀ A:Around,A.frames=some X.stack->VP k A->MV X σ pins A f (n+1) H ys rs) (h64:ys.length<64)
  (h:∀ p a H',H a=none->(∀ b o,H b=some o->H' b=some o)->CRS.Pm ys.length p->CRS.Up (O:=WN) (λi=>rs.getD i []) p ys.length->H' a=some (.lst (p.toList.map λi=>ys.getD i .non))->Q (.ref a) H') :
  wpAny (model X.prog X.w) X.A (call (.builtin "sorted") [.ref l] [(Str.ofString "key",.ref f)]) (EP X pins σ Q) E s:=by
 obtain⟨vs,rv,pl,hz⟩:=I.list hl;have lv:=rv.length;have line:vs.length<=sizeLine:=by rw[zCE];omega
 refine call_function_entry_kw kind_sorted plain_sorted entry_sorted (ksk_s1 _ _) ?_;unfold Builtin.«sorted»;refine zCC (m:=checkCount "sorted" 1 1 _) (zCD (zCC (collect_list pl.isList (zCC (wpAny_newList ?_ line)))));have sz:((s.heap.push (seqObj "list" #[] 0)).update s.heap.objs.size (Obj.mapSeq (· ++ vs.toArray))).objs.size=s.heap.objs.size+1:=by rw[Heap.size_update,size_push']
 have at1:(((s.heap.push (seqObj "list" #[] 0)).update s.heap.objs.size (Obj.mapSeq (· ++ vs.toArray))).push (seqObj "list" vs.toArray 0)).get? (s.heap.objs.size+1)=some (seqObj "list" vs.toArray 0):=by
  rw[<- sz];exact zAv _ rfl
 have old:∀ b o,s.heap.get? b=some o->(((s.heap.push (seqObj "list" #[] 0)).update s.heap.objs.size (Obj.mapSeq (· ++ vs.toArray))).push (seqObj "list" vs.toArray 0)).get? b=some o:=λb o e=>
  zAc _ (((zBo.update (s.heap.push (seqObj "list" #[] 0)) s.heap.objs.size (Obj.mapSeq (· ++ vs.toArray))).2 b (zAx (zAr e))).trans (zAc _ e))
 show wpAny (model X.prog X.w) _ _ _ _ { s with heap:=((s.heap.push (seqObj "list" #[] 0)).update s.heap.objs.size (Obj.mapSeq (· ++ vs.toArray))).push (seqObj "list" vs.toArray 0) };rw[sz];have fn:H (s.heap.objs.size+1)=none:=I.hok.fresh (zBD _);have J:=I.kept (t':=s.toks) old;have fa:Hs X (pins) H (s.heap.objs.size+1):=I.fpOk (zBD _) fn;refine zCC (wpAny_holding (wpAny_call_entry_kw slot_list_sort ⟨_,at1,rfl⟩ entry_list_sort ?_ (ksk_l1 _ _)));rw[ksk_t1];refine Q8 (s:={ s with heap:=((s.heap.push (seqObj "list" #[] 0)).update s.heap.objs.size (Obj.mapSeq (· ++ vs.toArray))).push (seqObj "list" vs.toArray 0) }) J at1 fa rv (KY _ I.ok.frames ((hr.in1).in1)) h64 λp s' H' J' SH hp hu ha=>⟨_,rfl,?_⟩;exact zCD ⟨_,rfl,.ref (s.heap.objs.size+1),H',J',rfl,h p _ H' fn SH hp hu ha⟩
def U1 {x y:Str} {sp:Sp} {k n:Nat} {e:Expr} {p p2 pos g:Pos} (he:PE X e te) (C:HQ X.prog X.w X.K X.mg X.base k x [y] sp) (hr:VP (k+2) X.A) (B:Gl X x) (hg:Gl X "sorted") (hm:X.mg "sorted"=none) (L:starEach [e] X.env=[(false,eval e X.env)]:=by rfl) (hd:(x==("__debug__" : Str))=false:=by decide) :
  PE X (.Call (.Name "sorted" p) [e] [⟨some "key",.Name x p2,g⟩] pos) (IK X.K sp n te):=by
 obtain⟨f,fd,F,b,kp,M⟩:=C.ex;intro pins s σ H Q I h;refine wpAny_Call_Name_kw (Ev (u:=.builtin "sorted") I hg hm (by rfl) ?_);refine callWith_kw ?_ (by rw[L];rfl) (by rw[L];rfl);rw[L];refine Calls.spliced_cons (Bt (he pins s σ H _ I h) λu U ⟨x',H1,I1,r1,Z⟩=>Calls.spliced_nil ?_);obtain⟨l,ys,rs,rfl,hl,S,z,q⟩:=Z;cases r1;show wpAny _ _ (evalAll ((do let v <- eval (.Name x p2) X.env;standAt pos;pure v)::[])) _ _ U;refine wpAny_evalAll_cons (zCC (Bt (Ol (v:=.ref f) B M rfl hd pins U σ H1 (λv H'=>v=.ref f/\H'=H1) I1 ⟨rfl,rfl⟩) λu2 s2 ⟨x2,H2,I2,r2,e2,e3⟩=>?_));subst e2 e3;cases r2;refine zCC (wpAny_standAt (zCD (wpAny_evalAll_nil ?_)));exact Nn hr I2 hl (λA Y hr=>⟨S.1,λj y hy=>by
  obtain⟨r,a,b',c⟩:=S.2 j y hy;exact⟨r,a,b',λe H' s u {_ _} J SH ru h=>DI F b Y hr J ru (c H' SH) h⟩⟩) z λp a H' na S2 hp hu ha=>q p a H' na S2 hp hu ha
def P9 {c T:Addr} {qual:Str} {F e:Expr} {p pos g U:Pos} (he:PE X e te) (B:LJ X qual params F scope) (hr:VP 3 X.A) (S:X.env.code=.ref c) (C:CodeHd X.base c T) (hb:BI X.mg X.base) (ac:closureFor scope X.env=pure [])
  (hq:X.env.qual++"<lambda>"=qual) (aa:defaultsOf params X.env=([],[])) (hg:Gl X "sorted") (hm:X.mg "sorted"=none) (hs:starEach [e] X.env=[(false,eval e X.env)]:=by rfl) :
  PE X (.Call (.Name "sorted" p) [e] [⟨some "key",.Lambda params F scope g,U⟩] pos) (KH X.K T g qual te):=by
 intro pins s σ H Q I h;refine wpAny_Call_Name_kw (Ev (u:=.builtin "sorted") I hg hm (by rfl) ?_);refine callWith_kw ?_ (by rw[hs];rfl) (by rw[hs];rfl);rw[hs];refine Calls.spliced_cons (Bt (he pins s σ H _ I h) λu s1 ⟨x,H1,I1,r1,q1⟩=>Calls.spliced_nil ?_);obtain⟨l,ys,rs,rfl,hl,KY,ab,L,q⟩:=q1;cases r1;show wpAny _ _ (evalAll ((do let v <- eval (.Lambda params F scope g) X.env;standAt pos;pure v)::[])) _ _ s1;refine wpAny_evalAll_cons (zCC (kla_eval aa ?_));rw[hq];refine AH I1 S C ac L hb λf c' pm ad h' tk H' J M nn hT hc fp hf=>?_;refine zCC (wpAny_standAt (zCD (wpAny_evalAll_nil ?_)));have nT:∀ b u,H1 b=some u->(∀ ps,u≠.tbl ps)->b≠T:=λb u e n z=>by
  rcases L with L|⟨_,L,_⟩
  .rw[z,L] at e;cases e;exact n _ rfl
  .rw[z,L] at e;cases e;exact n _ rfl
 have sT:∀ t xs,Jy X.K H1 t xs->Jy X.K H' t xs:=λt xs z=>by
  rcases z with (z|⟨o,z⟩)|z
  .exact .inl (.inl (M _ _ z (nT _ _ z λ_ y=>by cases y)))
  .exact .inl (.inr ⟨o,M _ _ z (nT _ _ z λ_ y=>by cases y)⟩)
  .exact .inr z
 have sL:Dl X.K H' l ys:=by
  rcases hl with (z|⟨o,z⟩)|z
  .exact .inl (.inl (M _ _ z (nT _ _ z λ_ y=>by cases y)))
  .exact .inl (.inr ⟨o,M _ _ z (nT _ _ z λ_ y=>by cases y)⟩)
  .exact .inr z
 have KZ:=KY.mono sT;refine Bt (Nn (k:=1) (n:=2) hr (J.pin1 hf fp.1 fp.2.1 fp.2.2.1 (λv z=>by cases z)) sL (λA hA hr=>⟨KZ.len.symm,λj y hy=>?_⟩) ab λp a Z Y S2 hp hu ha=>?_) λu s' ⟨x,Z,I2,r2,q2⟩=>⟨x,Z,I2.unpin,r2,q2⟩
 .obtain⟨t,d,k,m,v,rfl,ht,er⟩:=KZ.get hy
  refine⟨_,er,rfl,λe Z s u {_ _} J M ru h=>?_⟩;cases ru;have fo:=(J.pin _ (zAF _ (zAd _ zAg))).1;exact DU B hA hr J fo (M _ _ hc) (Xg M _ _ ht) h
 refine q p a Z ?_ (λb o e n=>S2 _ _ (M b o e n)) (.inr ⟨c',S2 _ _ hT,S2 _ _ hc⟩) hp hu ha;cases z:H1 a with
 |none=>rfl
 |some o=>
  by_cases n:a=T
  .rw[n,hT] at Y;cases Y
  .rw[M a o z n] at Y;cases Y
end
end L2
namespace L2
open PySem PySem.Spec PyProof.Rows
abbrev oR (a:Addr):Option V:=some (.ref a)
abbrev oN (i:Int):Option V:=some (.int i)
abbrev oS (x:Str):Option V:=some (.str x)
abbrev oL (xs:List V):Option HO:=some (.lst xs)
abbrev oT (xs:List V):Option HO:=some (.tup xs)
abbrev oI (C d:Addr) (fs:List (Str×V)):Option HO:=some (.ins C d fs)
end L2
namespace CRP
abbrev Tr3:=Int×Int×Int
def fwFrom:List (Int×Int)->Int->Int->Int
 |[],_,_ => -1
 |(a,b)::r,k,c=>if c<a\/b<=c then k else fwFrom r (k+1) c
def fw (sp:List (Int×Int)) (c:Int):Int:=fwFrom sp 0 c
theorem M1 {l c:Int} (h:l<=c):∀ (sp:List (Int×Int)) (k:Int),(∀ p∈sp,¬ (l<p.1/\p.1<=c)/\¬ (l<p.2/\p.2<=c))->fwFrom sp k c=fwFrom sp k l
 |[],_,_=>rfl
 |(a,b)::r,k,g=>by
  have ih:=M1 h r (k+1) λp j=>g p (zAd _ j);obtain⟨n1,n2⟩:=g (a,b) zAg;unfold fwFrom
  dsimp only at n1 n2
  by_cases z:c<a\/b<=c
  .rw[if_pos z,if_pos (by lia)]
  .rw[if_neg z,if_neg (by lia),ih]
def Fo:List Tr3->Int->Int->Int->List Tr3
 |[],lo,hi,k=>[(lo,hi,k)]
 |[(l,h,k')],lo,hi,k=>if k'=k then [(l,hi,k)] else [(l,h,k'),(lo,hi,k)]
 |x::y::r,lo,hi,k=>x::Fo (y::r) lo hi k
theorem stepP_snoc (l h g lo hi k:Int):∀ j:List Tr3,Fo (j++[(l,h,g)]) lo hi k=if g=k then j++[(l,hi,k)] else j++[(l,h,g)]++[(lo,hi,k)]
 |[]=>by
  show Fo [(l,h,g)] lo hi k=_;unfold Fo;by_cases z:g=k
  .rw[if_pos z,if_pos z];rfl
  .rw[if_neg z,if_neg z];rfl
 |[x]=>by
  have ih:=stepP_snoc l h g lo hi k [];show x::Fo [(l,h,g)] lo hi k=_;rw[show Fo [(l,h,g)] lo hi k=_ from ih];by_cases z:g=k
  .rw[if_pos z,if_pos z];rfl
  .rw[if_neg z,if_neg z];rfl
 |x::y::r=>by
  have ih:=stepP_snoc l h g lo hi k (y::r);show x::Fo (y::r++[(l,h,g)]) lo hi k=_;rw[ih];by_cases z:g=k
  .rw[if_pos z,if_pos z];rfl
  .rw[if_neg z,if_neg z];rfl
def Ch (f:Int->Int):Int->Option Int->List Tr3->Int->Prop
 |s,_,[],e=>s=e
 |s,lk,(l,h,k)::r,e=>l=s/\l<h/\lk≠some k/\(∀ c,l<=c->c<h->f c=k)/\Ch f h (some k) r e
theorem Ch.step {f:Int->Int} {hi k:Int}:∀ {told} {s:Int} {j:Option Int} {e:Int},Ch f s j told e->e<hi->(∀ c,e<=c->c<hi->f c=k)->(told=[]->j≠some k)->Ch f s j (Fo told e hi k) hi
 |[],s,j,e,h,h1,g,U=>by
  have Y:s=e:=h;subst Y;exact⟨rfl,h1,U rfl,g,rfl⟩
 |[(l,h,Z)],s,j,e,⟨F,S,L,B,M⟩,h1,g,U=>by
  have Y:h=e:=M;subst Y;unfold Fo;by_cases z:Z=k
  .rw[if_pos z]
   refine⟨F,by lia,by rw[<- z];exact L,λc c1 c2=>?_,rfl⟩;by_cases q:c<h
   .rw[B c c1 q,z]
   .exact g c (by lia) c2
  .rw[if_neg z]
   exact⟨F,S,L,B,rfl,h1,λq=>z (Option.some.inj q),g,rfl⟩
 |(l,h,Z)::y::r,s,j,e,⟨F,S,L,B,M⟩,h1,g,U=>by
  unfold Fo;exact⟨F,S,L,B,Ch.step (told:=y::r) M h1 g λz=>by cases z⟩
def foldP (sp:List (Int×Int)) (ms:List Int) (i:Nat):List Tr3:=(zAO i).foldl (λtold j=>Fo told (ms.getD j 0) (ms.getD (j+1) 0) (fw sp (ms.getD j 0))) []
def foldP_succ (sp:List (Int×Int)) (g:List Int) (i:Nat):foldP sp g (i+1)=Fo (foldP sp g i) (g.getD i 0) (g.getD (i+1) 0) (fw sp (g.getD i 0)):=by
 unfold foldP;rw[List.range_succ,List.foldl_append];rfl
theorem Si (lo hi k:Int):∀ g:List Tr3,(Fo g lo hi k).length<=g.length+1
 |[]=>by unfold Fo;simp
 |[(l,h,j)]=>by unfold Fo;split <;> simp
 |x::y::r=>by
  have:=Si lo hi k (y::r);unfold Fo;simp only [zAf] at *
  lia
theorem foldP_len (sp:List (Int×Int)) (g:List Int):∀ i,(foldP sp g i).length<=i
 |0=>zAu _
 |i+1=>by
  rw[foldP_succ];have:=foldP_len sp g i;have:=Si (g.getD i 0) (g.getD (i+1) 0) (fw sp (g.getD i 0)) (foldP sp g i)
  lia
def get_lt {g:List Int} (h:g.Pairwise (· < ·)) {i j:Nat} (q:i<j) (z:j<g.length):g.getD i 0<g.getD j 0:=by
 rw[zAq,zAq,zAe (by lia),zAe z];exact zAH.mp h i j (by lia) z q
theorem fold_ch {sp:List (Int×Int)} {g:List Int} (h:g.Pairwise (· < ·)) (B:∀ p∈sp,p.1∈g/\p.2∈g):∀ i,i<g.length->g.getD 0 0=0->Ch (fw sp) 0 none (foldP sp g i) (g.getD i 0)
 |0,_,F=>F.symm
 |i+1,hi,F=>by
  have ih:=fold_ch h B i (by lia) F;rw[foldP_succ];refine ih.step (get_lt h (zBS _) hi) (λc c1 c2=>?_) (λ_ z=>by cases z);refine M1 c1 sp 0 λp M=>?_;have U:∀ y∈g,¬ (g.getD i 0<y/\y<=c):=λy Y ⟨Z,z2⟩=>by
   obtain⟨j,S,e⟩:=zAW Y;have ej:g.getD j 0=y:=by rw[zAq,zAe S];exact e
   rcases zBr j (i+1) with q|q|q
   .rcases Nat.lt_or_ge j i with L|L
    .have:=get_lt h L (by lia);lia
    .have:j=i:=by lia
     subst this;lia
   .subst q;lia
   .have:=get_lt h q S;lia
  exact⟨U _ (B p M).1,U _ (B p M).2⟩
theorem Ch.head {f:Int->Int} {s:Int} {g:Option Int} {e:Int}:∀ {ps},Ch f s g ps e->s<e->∃ p,ps[0]?=some p/\p.1=s
 |[],h,z=>absurd (show s=e from h) (by lia)
 |(l,j,k)::r,h,_=>⟨_,rfl,h.1⟩
theorem Ch.get {f:Int->Int}:∀ {ps} {s:Int} {B:Option Int} {e:Int} {i:Nat} {p},Ch f s B ps e->ps[i]?=some p->p.1<p.2.1/\(∀ c,p.1<=c->c<p.2.1->f c=p.2.2)/\(p.2.1<e->∃ q,ps[i+1]?=some q/\q.1=p.2.1)/\s<=p.1/\p.2.1<=e
 |[],_,_,_,_,_,_,z=>by simp at z
 |(l,h,k)::r,s,B,e,0,p,⟨S,L,a3,F,g⟩,z=>by
  simp at z;subst z;refine⟨L,F,λq=>?_,by show s<=l;lia,?_⟩
  .obtain⟨p,h1,j⟩:=g.head q
   exact⟨p,by simpa using h1,j⟩
  .show h<=e
   cases r with
   |nil=>exact Int.le_of_eq (show h=e from g)
   |cons x r=>
    have:=Ch.get (i:=0) g rfl
    lia
 |(l,h,k)::r,s,B,e,i+1,p,⟨S,L,a3,F,g⟩,z=>by
  obtain⟨U,Y,M,b4,Z⟩:=Ch.get (i:=i) g (by simpa using z);refine⟨U,Y,λq=>?_,by lia,Z⟩;obtain⟨y,h1,j⟩:=M q;exact⟨y,by simpa using h1,j⟩
end CRP
namespace CR
abbrev Rn:=Int×Int
def inR (ps:List Rn) (n:Int):Bool:=ps.any λp=>decide (p.1<=n)&&decide (n<p.2)
structure Frm (ps:List Rn):Prop where
 lt:∀ p∈ps,p.1<p.2
 pw:ps.Pairwise λp q=>p.2<q.1
def VV {ps:List Rn} {n:Int}:inR ps n=true↔∃ p∈ps,p.1<=n/\n<p.2:=by
 unfold inR;rw[List.any_eq_true];constructor
 .rintro ⟨p,g,h⟩
  rw[zAt,decide_eq_true_eq,decide_eq_true_eq] at h;exact⟨p,g,h⟩
 .rintro ⟨p,g,h⟩
  exact⟨p,g,by rw[zAt,decide_eq_true_eq,decide_eq_true_eq];exact h⟩
def Oi (ps qs:List Rn) (n:Int):inR (ps++qs) n=(inR ps n||inR qs n):=by unfold inR;rw[List.any_append]
def Fx {a b:Bool} (h:a=true↔b=true):a=b:=by cases a <;> cases b <;> simp_all
def cutM (lo hi:Int) (p:Rn):Rn:=(if lo>p.1 then lo else p.1,if hi<p.2 then hi else p.2)
def cutW (ps:List Rn) (lo hi:Int):List Rn:=(ps.map (cutM lo hi)).filter λp=>decide (p.1<p.2)
def cutW_in (ps:List Rn) (lo hi n:Int):inR (cutW ps lo hi) n=(inR ps n&&(decide (lo<=n)&&decide (n<hi))):=by
 apply Fx;rw[zAt,zAt,decide_eq_true_eq,decide_eq_true_eq,VV,VV];constructor
 .rintro ⟨p,j,h1,g⟩
  obtain⟨j,_⟩:=zAJ.mp j;obtain⟨q,z,rfl⟩:=zAD.mp j;unfold cutM at h1 g;refine⟨⟨q,z,?_,?_⟩,?_,?_⟩ <;> (simp only at h1 g;split at h1 <;> split at g <;> omega)
 .rintro ⟨⟨q,z,h1,g⟩,F,B⟩
  refine⟨cutM lo hi q,zAJ.mpr ⟨zAD.mpr ⟨q,z,rfl⟩,?_⟩,?_,?_⟩
  .rw[decide_eq_true_eq];unfold cutM;simp only;split <;> split <;> omega
  .unfold cutM;simp only;split <;> omega
  .unfold cutM;simp only;split <;> omega
def Ii {ps:List Rn} (lo hi:Int) (h:ps.Pairwise λp q=>p.2<q.1):Frm (cutW ps lo hi):=by
 refine⟨λp g=>?_,?_⟩
 .exact of_decide_eq_true (zAJ.mp g).2
 .refine List.Pairwise.filter _ ?_
  rw[zBG];refine h.imp ?_;intro p q h;unfold cutM;simp only
  split <;> split <;> lia
def below (ps:List Rn) (m:Int):Int:=(ps.map λp=>if p.1<m then (if m<p.2 then m else p.2)-p.1 else 0).sum
def lowW:List Rn->Int->List Rn
 |[],_=>[]
 |p::ps,n=>(if 0<n then [(p.1,if p.1+n<p.2 then p.1+n else p.2)] else [])++lowW ps (n-(p.2-p.1))
def Qy (p:Rn) (ps:List Rn) (m:Int):below (p::ps) m=(if p.1<m then (if m<p.2 then m else p.2)-p.1 else 0)+below ps m:=by
 unfold below;rw[zAw,List.sum_cons]
theorem Pl:∀ {ps} {m:Int},(∀ p∈ps,m<=p.1)->below ps m=0
 |[],_,_=>by unfold below;simp
 |p::ps,m,h=>by
  have ih:=Pl (ps:=ps) (m:=m) λq g=>h q (zAd _ g);have:=h p zAg;rw[Qy,ih]
  split <;> lia
theorem Sn:∀ {ps} {n:Int},(∀ p∈ps,p.1<p.2)->n<=0->lowW ps n=[]
 |[],_,_,_=>rfl
 |p::ps,n,h,j=>by
  have:=h p zAg;unfold lowW;rw[if_neg (by lia),Sn (ps:=ps) (λq g=>h q (zAd _ g)) (by lia)];rfl
theorem L9:∀ {ps},Frm ps->∀ n m:Int,inR (lowW ps n) m=(inR ps m&&decide (below ps m<n))
 |[],_,n,m=>by simp [lowW,inR]
 |p::ps,f,n,m=>by
  have U:=f.lt p zAg;have S:Frm ps:=⟨λq z=>f.lt q (zAd _ z),(zAM.mp f.pw).2⟩;have z:=(zAM.mp f.pw).1;have ih:=L9 S (n-(p.2-p.1)) m;unfold lowW;rw[Oi,ih,Qy];have e:inR (p::ps) m=(inR [p] m||inR ps m):=Oi [p] ps m;rw[e];have one:∀ q:Rn,inR [q] m=(decide (q.1<=m)&&decide (m<q.2)):=λq=>by simp [inR]
  by_cases M:m<p.2
  ·
   have F:below ps m=0:=Pl λq h=>by have:=z q h;lia
   have L:inR ps m=false:=by
    apply zBs.mpr;intro h;obtain⟨q,h1,g,_⟩:=VV.mp h;have:=z q h1
    lia
   rw[F,L,one,zCr,Bool.or_false,Bool.or_false];apply Fx;by_cases B:0<n
   .rw[if_pos B,one]
    simp only [zAt,decide_eq_true_eq];constructor
    .rintro ⟨h1,g⟩
     split at g <;> (refine⟨⟨h1,M⟩,?_⟩;split <;> (try split) <;> lia)
    .rintro ⟨⟨h1,g⟩,j⟩
     refine⟨h1,?_⟩
     split at j
     .split <;> lia
     .split <;> lia
   .rw[if_neg B]
    simp only [zAt,decide_eq_true_eq];constructor
    .intro h;exact absurd h (by simp [inR])
    .rintro ⟨⟨h1,g⟩,j⟩
     split at j <;> (try split at j) <;> lia
  .have e1:inR [p] m=false:=by rw[one];simp;lia
   have e2:inR (if 0<n then [(p.1,if p.1+n<p.2 then p.1+n else p.2)] else []) m=false:=by
    split
    .rw[one];simp only [Bool.and_eq_false_iff,decide_eq_false_iff_not];right;split <;> lia
    .rfl
   rw[e1,e2,Bool.false_or,Bool.false_or,if_pos (by lia),if_neg (by lia)]
   congr 1
   apply Fx;rw[decide_eq_true_eq,decide_eq_true_eq]
   lia
theorem Yp:∀ {ps} {n:Int} {q},q∈lowW ps n->∃ p∈ps,q.1=p.1/\q.2<=p.2
 |[],_,_,h=>by simp [lowW] at h
 |p::ps,n,q,h=>by
  unfold lowW at h;rcases zAs.mp h with h|h
  .split at h
   .rw[zAm] at h
    subst h;refine⟨p,zAg,rfl,?_⟩;simp only
    split <;> lia
   .cases h
  .obtain⟨r,hr,h1,g⟩:=Yp h
   exact⟨r,zAd _ hr,h1,g⟩
theorem Xw:∀ {ps} (n:Int),Frm ps->Frm (lowW ps n)
 |[],_,_=>⟨λ_ h=>(nomatch h),.nil⟩
 |p::ps,n,f=>by
  have z:=f.lt p zAg;have j:Frm ps:=⟨λq g=>f.lt q (zAd _ g),(zAM.mp f.pw).2⟩;have g:=(zAM.mp f.pw).1;have ih:=Xw (n-(p.2-p.1)) j;unfold lowW
  split
  .refine⟨λq h=>?_,?_⟩
   .rcases zAs.mp h with h|h
    .rw[zAm] at h
     subst h;simp only
     split <;> lia
    .exact ih.lt q h
   .rw[List.singleton_append,zAM]
    refine⟨λq h=>?_,ih.pw⟩;obtain⟨r,hr,h1,_⟩:=Yp h;have:=g r hr;simp only
    split <;> lia
  .exact ih
theorem lowW_len:∀ (ps:List Rn) (n:Int),(lowW ps n).length<=ps.length
 |[],_=>zAi _
 |p::ps,n=>by
  have:=lowW_len ps (n-(p.2-p.1));unfold lowW;rw[zAj,zAf]
  split <;> simp <;> lia
def maxI (a b:Int):Int:=if b>a then b else a
def minI (a b:Int):Int:=if b<a then b else a
def leftW (e:Int):Int->List Rn->List Rn
 |b,[]=>if b<e then [(b,e)] else []
 |b,q::qs=>(if b<minI q.1 e then [(b,minI q.1 e)] else [])++leftW e (maxI b q.2) qs
def outW (ps qs:List Rn):List Rn:=(ps.map λp=>leftW p.2 p.1 qs).flatten
theorem Qi (e:Int):∀ {qs},(∀ q∈qs,q.1<q.2)->(qs.Pairwise λp q=>p.2<q.1)->∀ b m:Int,inR (leftW e b qs) m=((decide (b<=m)&&decide (m<e)) && !inR qs m)
 |[],_,_,b,m=>by
  unfold leftW;apply Fx
  split <;> simp [inR] <;> omega
 |q::qs,hl,L,b,m=>by
  have hq:=hl q zAg;have Y:=(zAM.mp L).1;have ih:=Qi e (λq h=>hl q (zAd _ h)) (zAM.mp L).2 (maxI b q.2) m;unfold leftW;have S:inR (q::qs) m=(inR [q] m||inR qs m):=Oi [q] qs m;rw[Oi,ih,S];have one:∀ q:Rn,inR [q] m=(decide (q.1<=m)&&decide (m<q.2)):=λq=>by simp [inR]
  rw[one];have M:∀ x,x<minI q.1 e↔x<q.1/\x<e:=λx=>by unfold minI;split <;> omega
  have e1:inR (if b<minI q.1 e then [(b,minI q.1 e)] else []) m=(decide (b<=m)&&(decide (m<q.1)&&decide (m<e))):=by
   apply Fx;by_cases B:b<minI q.1 e
   .rw[if_pos B,one]
    simp only [zAt,decide_eq_true_eq];rw[M]
   .rw[if_neg B]
    simp only [zAt,decide_eq_true_eq];constructor
    .intro h;exact absurd h (by simp [inR])
    .intro h
     exact absurd ((M b).mpr ⟨by omega,by omega⟩) B
  rw[e1];have z:m<q.1->inR qs m=false:=λh=>by
   apply zBs.mpr;intro h';obtain⟨r,h1,j,_⟩:=VV.mp h';have:=Y r h1;omega
  have Z:∀ x,maxI b q.2<=x↔b<=x/\q.2<=x:=λx=>by unfold maxI;split <;> omega
  apply Fx;rw[Bool.or_eq_true];simp only [zAt,decide_eq_true_eq,zBx,Bool.or_eq_false_iff,Bool.and_eq_false_iff,decide_eq_false_iff_not];rw[Z];constructor
  .rintro (⟨h1,j,g⟩|⟨⟨⟨h1,j⟩,g⟩,F⟩)
   .exact⟨⟨h1,g⟩,.inl (by omega),z j⟩
   .exact⟨⟨h1,g⟩,.inr (by omega),F⟩
  .rintro ⟨⟨h1,j⟩,g,F⟩
   by_cases U:m<q.1
   .exact .inl ⟨h1,U,j⟩
   .refine .inr ⟨⟨⟨h1,?_⟩,j⟩,F⟩
    rcases g with g|g <;> omega
set_option tactic.hygienic true in
theorem Hd (e:Int):∀ {qs} {b:Int} {r},r∈leftW e b qs->b<=r.1/\r.1<r.2/\r.2<=e
 |[],b,r,h=>by
  unfold leftW at h
  split at h
  .rw[zAm] at h;subst h;simp only;lia
  .cases h
 |q::qs,b,r,h=>by
  unfold leftW at h;rcases zAs.mp h with h|h
  .split at h
   .rw[zAm] at h;subst h;rename_i hh;simp only;refine⟨Int.le_refl _,hh,?_⟩;unfold minI;split <;> lia
   .cases h
  .have:=Hd e h
   have g:b<=maxI b q.2:=by unfold maxI;split <;> lia
   lia
theorem We (e:Int):∀ {qs},(∀ q∈qs,q.1<q.2)->∀ b:Int,(leftW e b qs).Pairwise λp q=>p.2<q.1
 |[],_,b=>by unfold leftW;split <;> simp
 |q::qs,hl,b=>by
  have g:=hl q zAg;have ih:=We e (λq h=>hl q (zAd _ h)) (maxI b q.2);unfold leftW
  split
  .rw[List.singleton_append,zAM]
   refine⟨λr h=>?_,ih⟩;have h1:=Hd e h;have j:q.2<=maxI b q.2:=by unfold maxI;split <;> lia
   simp only;have:minI q.1 e<=q.1:=by unfold minI;split <;> lia
   lia
  .exact ih
def outW_in {ps qs:List Rn} (g:Frm qs) (m:Int):inR (outW ps qs) m=(inR ps m && !inR qs m):=by
 apply Fx;rw[zAt,zBx,VV,VV];unfold outW;constructor
 .rintro ⟨r,hr,h1,q⟩
  obtain⟨l,hl,hr⟩:=zCA.mp hr;obtain⟨p,j,rfl⟩:=zAD.mp hl;have z:inR (leftW p.2 p.1 qs) m=true:=VV.mpr ⟨r,hr,h1,q⟩;rw[Qi p.2 g.lt g.pw] at z;simp only [zAt,decide_eq_true_eq,zBx] at z;exact⟨⟨p,j,z.1.1,z.1.2⟩,z.2⟩
 .rintro ⟨⟨p,j,h1,q⟩,B⟩
  have z:inR (leftW p.2 p.1 qs) m=true:=by
   rw[Qi p.2 g.lt g.pw];simp only [zAt,decide_eq_true_eq,zBx];exact⟨⟨h1,q⟩,B⟩
  obtain⟨r,hr,h⟩:=VV.mp z;exact⟨r,zCA.mpr ⟨_,zAD.mpr ⟨p,j,rfl⟩,hr⟩,h⟩
def outW_frm {ps qs:List Rn} (fp:Frm ps) (z:Frm qs):Frm (outW ps qs):=by
 refine⟨λr hr=>?_,?_⟩
 .obtain⟨l,hl,hr⟩:=zCA.mp hr
  obtain⟨p,g,rfl⟩:=zAD.mp hl;exact (Hd p.2 hr).2.1
 .unfold outW
  rw[List.pairwise_flatten];refine⟨λl hl=>?_,?_⟩
  .obtain⟨p,g,rfl⟩:=zAD.mp hl
   exact We p.2 z.lt p.1
  .rw[zBG]
   refine fp.pw.imp ?_;intro p q h r hr t j;have h1:=Hd p.2 hr;have B:=Hd q.2 j;omega
theorem leftW_len (e:Int):∀ (qs:List Rn) (b:Int),(leftW e b qs).length<=qs.length+1
 |[],b=>by unfold leftW;split <;> simp
 |q::qs,b=>by
  have:=leftW_len e qs (maxI b q.2);unfold leftW;rw[zAj,zAf]
  split <;> simp <;> lia
def outW_len (ps qs:List Rn):(outW ps qs).length<=ps.length*(qs.length+1):=by
 unfold outW
 induction ps with
 |nil=>simp
 |cons p ps ih=>
  have:=leftW_len p.2 qs p.1;rw[zAw,List.flatten_cons,zAj,zAf,Nat.add_mul];omega
def cutW_len (ps:List Rn) (lo hi:Int):(cutW ps lo hi).length<=ps.length:=by
 unfold cutW;have:=zAE (λp:Rn=>decide (p.1<p.2)) (ps.map (cutM lo hi));rw[zAb] at this;exact this
def lowW_nil (n:Int):lowW [] n=[]:=rfl
def lowW_cons (p:Rn) (ps:List Rn) (n:Int):lowW (p::ps) n=(if 0<n then [(p.1,if p.1+n<p.2 then p.1+n else p.2)] else [])++lowW ps (n-(p.2-p.1)):=rfl
def leftW_nil (e b:Int):leftW e b []=if b<e then [(b,e)] else []:=rfl
def leftW_cons (e b:Int) (q:Rn) (qs:List Rn):leftW e b (q::qs)=(if b<minI q.1 e then [(b,minI q.1 e)] else [])++leftW e (maxI b q.2) qs:=rfl
end CR
namespace CRT
open CR CRP
section
variable {ν:Type}
abbrev Sx (ν:Type):=Int×Int × ν × Int
abbrev Av (ν:Type):=ν × (Int×Int)×Option Int
def payW (c:Av ν) (un:List Rn):List Rn:=match c.2.2 with
 |none=>cutW un c.2.1.1 c.2.1.2
 |some n=>lowW (cutW un c.2.1.1 c.2.1.2) n
def tag (nm:ν) (k:Int) (ps:List Rn):List (Sx ν):=ps.map λp=>(p.1,p.2,nm,k)
def paidS:List (Av ν)->List Rn->List (Sx ν)
 |[],_=>[]
 |c::cs,un=>tag c.1 (-1) (payW c un)++paidS cs (outW un (payW c un))
def leftS:List (Av ν)->List Rn->List Rn
 |[],un=>un
 |c::cs,un=>leftS cs (outW un (payW c un))
def borneS (nm:ν) (g:Int->Int) (parts:List Tr3) (un:List Rn):List (Sx ν):=(parts.map λp=>tag nm (g p.2.2) (cutW un p.1 p.2.1)).flatten
def B1 (S:List (Sx ν)) (n:Int):Prop:=∃ s∈S,s.1<=n/\n<s.2.1
def Vy {S T:List (Sx ν)} {n:Int}:B1 (S++T) n↔B1 S n\/B1 T n:=by
 unfold B1;constructor
 .rintro ⟨s,g,h⟩
  rcases zAs.mp g with z|z
  .exact .inl ⟨s,z,h⟩
  .exact .inr ⟨s,z,h⟩
 .rintro (⟨s,g,h⟩|⟨s,g,h⟩)
  .exact⟨s,zAs.mpr (.inl g),h⟩
  .exact⟨s,zAs.mpr (.inr g),h⟩
def Om {nm:ν} {k:Int} {ps:List Rn} {n:Int}:B1 (tag nm k ps) n↔inR ps n=true:=by
 rw[VV];unfold B1 tag;constructor
 .rintro ⟨s,j,h⟩
  obtain⟨p,g,rfl⟩:=zAD.mp j;exact⟨p,g,h⟩
 .rintro ⟨p,g,h⟩
  exact⟨_,zAD.mpr ⟨p,g,rfl⟩,h⟩
def apart (s t:Sx ν):Prop:=(s.2.1<=t.1\/t.2.1<=s.1)/\(s.2.1=t.1\/t.2.1=s.1->s.2.2≠t.2.2)
structure Sep (S:List (Sx ν)):Prop where
 lt:∀ s∈S,s.1<s.2.1
 pw:S.Pairwise apart
def apart.symm {s t:Sx ν} (h:apart s t):apart t s:=⟨h.1.symm,λz e=>h.2 z.symm e.symm⟩
def Sep.nil:Sep ([]:List (Sx ν)):=⟨λ_ h=>(nomatch h),.nil⟩
def L3 {nm:ν} {k:Int} {ps:List Rn} (f:Frm ps):Sep (tag nm k ps):=by
 refine⟨λs F=>?_,?_⟩
 .obtain⟨p,g,rfl⟩:=zAD.mp F
  exact f.lt p g
 .unfold tag
  rw[zBG];refine f.pw.imp_of_mem λ{p q} g j h=>⟨.inl (by show p.2<=q.1;lia),λz=>?_⟩;have:=f.lt p g;have:=f.lt q j;rcases z with z|z
  .have B:p.2=q.1:=z
   lia
  .have B:q.2=p.1:=z
   lia
def Vh {S T:List (Sx ν)} (a:Sep S) (b:Sep T) (q:∀ n,B1 S n->B1 T n->False) (B:∀ s∈S,∀ t∈T,(s.2.1=t.1\/t.2.1=s.1)->s.2.2≠t.2.2):Sep (S++T):=by
 refine⟨λs g=>?_,List.pairwise_append.mpr ⟨a.pw,b.pw,λs g t j=>⟨?_,B s g t j⟩⟩⟩
 .rcases zAs.mp g with z|z
  .exact a.lt s z
  .exact b.lt s z
 .have F:=a.lt s g
  have L:=b.lt t j;by_cases c1:s.2.1<=t.1
  .exact .inl c1
  by_cases c2:t.2.1<=s.1
  .exact .inr c2
  exfalso;by_cases c3:s.1<=t.1
  .exact q t.1 ⟨s,g,c3,by lia⟩ ⟨t,j,by lia,L⟩
  .exact q s.1 ⟨s,g,by lia,F⟩ ⟨t,j,by lia,by lia⟩
def payW_frm {c:Av ν} {un:List Rn} (f:Frm un):Frm (payW c un):=by
 unfold payW
 split
 .exact Ii _ _ f.pw
 .exact Xw _ (Ii _ _ f.pw)
def DJ {c:Av ν} {un:List Rn} (f:Frm un) {n:Int} (h:inR (payW c un) n=true):inR un n=true:=by
 unfold payW at h
 split at h
 .rw[cutW_in,zAt] at h
  exact h.1
 .rw[L9 (Ii _ _ f.pw),zAt,cutW_in,zAt] at h
  exact h.1.1
theorem leftS_frm:∀ {cs:List (Av ν)} {un:List Rn},Frm un->Frm (leftS cs un)
 |[],_,f=>f
 |c::cs,un,f=>leftS_frm (cs:=cs) (outW_frm f (payW_frm f))
theorem leftS_sub:∀ {cs:List (Av ν)} {un:List Rn} {n:Int},Frm un->inR (leftS cs un) n=true->inR un n=true
 |[],_,_,_,h=>h
 |c::cs,un,n,f,h=>by
  have:=leftS_sub (cs:=cs) (outW_frm f (payW_frm f)) h;rw[outW_in (payW_frm f),zAt] at this;exact this.1
theorem Lx:∀ {cs:List (Av ν)} {un:List Rn} {n:Int},Frm un->(B1 (paidS cs un) n↔inR un n=true/\inR (leftS cs un) n=false)
 |[],un,n,f=>by
  constructor
  .rintro ⟨s,B,_⟩
   cases B
  .rintro ⟨h1,j⟩
   have g:inR un n=false:=j;rw[h1] at g;cases g
 |c::cs,un,n,f=>by
  have q:=outW_frm f (payW_frm (c:=c) f);unfold paidS leftS;rw[Vy,Om,Lx (cs:=cs) q,outW_in (payW_frm f),zAt,zBx];constructor
  .rintro (h|⟨⟨h1,j⟩,F⟩)
   .refine⟨DJ f h,?_⟩
    cases z:inR (leftS cs (outW un (payW c un))) n with
    |false=>rfl
    |true=>
     have:=leftS_sub q z;rw[outW_in (payW_frm f),zAt,zBx] at this;rw[h] at this;cases this.2
   .exact⟨h1,F⟩
  .rintro ⟨h1,j⟩
   cases z:inR (payW c un) n with
   |true=>exact .inl rfl
   |false=>exact .inr ⟨⟨h1,rfl⟩,j⟩
theorem Mz:∀ {cs:List (Av ν)} {un:List Rn} {s:Sx ν},s∈paidS cs un->s.2.2.2 = -1/\s.2.2.1∈cs.map (·.1)
 |[],_,_,h=>nomatch h
 |c::cs,un,s,h=>by
  unfold paidS at h;rcases zAs.mp h with z|z
  .obtain⟨p,_,rfl⟩:=zAD.mp z
   exact⟨rfl,zAg⟩
  .obtain⟨a,b⟩:=Mz z
   exact⟨a,zAd _ b⟩
theorem Sd:∀ {cs:List (Av ν)} {un:List Rn},Frm un->(cs.map (·.1)).Nodup->Sep (paidS cs un)
 |[],_,_,_=>Sep.nil
 |c::cs,un,f,nd=>by
  rw[zAw,zBt] at nd;have j:=outW_frm f (payW_frm (c:=c) f);unfold paidS;refine Vh (L3 (payW_frm f)) (Sd j nd.2) (λn h1 g=>?_) (λs z t q _ e=>?_)
  .rw[Om] at h1
   rw[Lx j,outW_in (payW_frm f),zAt,zBx] at g;rw[h1] at g;cases g.1.2
  .obtain⟨p,_,rfl⟩:=zAD.mp z
   have:=(Mz q).2;rw[<- e] at this;exact nd.1 this
def Kp (nm:ν) (g:Int->Int) (p:Tr3) (ps:List Tr3) (un:List Rn):borneS nm g (p::ps) un=tag nm (g p.2.2) (cutW un p.1 p.2.1)++borneS nm g ps un:=by
 unfold borneS;rw[zAw,List.flatten_cons]
theorem GW {f:Int->Int}:∀ {ps} {a:Int} {g:Option Int} {e:Int},Ch f a g ps e->a<=e
 |[],a,g,e,h=>by
  have h':a=e:=h
  lia
 |(l,h,k)::r,a,g,e,⟨z,B,F,q,j⟩=>by
  have:=GW j
  lia
theorem Lw {f:Int->Int} {nm:ν} {g:Int->Int} {un:List Rn} {n:Int}:∀ {ps} {a:Int} {z:Option Int} {e:Int},Ch f a z ps e->(B1 (borneS nm g ps un) n↔inR un n=true/\a<=n/\n<e)
 |[],a,z,e,h=>by
  have h':a=e:=h;constructor
  .rintro ⟨s,F,_⟩
   cases F
  .rintro ⟨_,h1,q⟩
   lia
 |(l,h,k)::r,a,z,e,⟨M,S,U,L,B⟩=>by
  have Y:=GW B;rw[Kp,Vy,Om,Lw B,cutW_in,zAt,zAt,decide_eq_true_eq,decide_eq_true_eq]
  dsimp only
  constructor
  .rintro (⟨h1,q,j⟩|⟨h1,q,j⟩)
   .exact⟨h1,by lia,by lia⟩
   .exact⟨h1,by lia,j⟩
  .rintro ⟨h1,q,j⟩
   by_cases c:n<h
   .exact .inl ⟨h1,by lia,c⟩
   .exact .inr ⟨h1,by lia,j⟩
theorem Jp {nm:ν} {g:Int->Int} {un} {s}:∀ {ps},s∈borneS nm g ps un->∃ p∈ps,s.2.2=(nm,g p.2.2)/\∃ q∈cutW un p.1 p.2.1,s.1=q.1/\s.2.1=q.2
 |[],h=>nomatch h
 |p::ps,h=>by
  rw[Kp] at h;rcases zAs.mp h with z|z
  .obtain⟨q,hq,rfl⟩:=zAD.mp z
   exact⟨p,zAg,rfl,q,hq,rfl,rfl⟩
  .obtain⟨p',h1,h2⟩:=Jp z
   exact⟨p',zAd _ h1,h2⟩
def Vw {un:List Rn} {lo hi:Int} (h:q∈cutW un lo hi):lo<=q.1/\q.2<=hi/\q.1<q.2:=by
 unfold cutW at h;obtain⟨h1,g⟩:=zAJ.mp h;obtain⟨p,_,rfl⟩:=zAD.mp h1;have:=of_decide_eq_true g;unfold cutM at this ⊢
 dsimp only at this ⊢
 refine⟨?_,?_,this⟩
 .split <;> lia
 .split <;> lia
theorem Tw {f:Int->Int} {nm:ν} {g:Int->Int} {un} (fu:Frm un):∀ {ps} {a:Int} {lk:Option Int} {e:Int},Ch f a lk ps e->(∀ p∈ps,∀ q∈ps,g p.2.2=g q.2.2->p.2.2=q.2.2)->Sep (borneS nm g ps un)
 |[],_,_,_,_,_=>Sep.nil
 |(l,h,k)::r,a,lk,e,⟨a1,a2,a3,a4,a5⟩,gi=>by
  rw[Kp];refine Vh (L3 (Ii _ _ fu.pw)) (Tw fu a5 λp hp q hq=>gi p (zAd _ hp) q (zAd _ hq)) (λn h1 h2=>?_) (λs hs t ht tc e'=>?_)
  .rw[Om,cutW_in,zAt,zAt,decide_eq_true_eq,decide_eq_true_eq] at h1
   rw[Lw a5] at h2;have:=h1.2.2
   dsimp only at this
   lia
  .obtain⟨q,hq,rfl⟩:=zAD.mp hs
   obtain⟨b1,b2,b3⟩:=Vw hq
   dsimp only at b1 b2
   obtain⟨p,hp,ek,q',hq',e1,e2⟩:=Jp ht;obtain⟨c1,c2,c3⟩:=Vw hq';have nx:∀ {ps:List Tr3} {b:Int} {lk:Option Int} {e:Int},Ch f b lk ps e->∀ p∈ps,b<=p.1/\(p.1=b->lk≠some p.2.2):=by
    intro ps
    induction ps with
    |nil=>intro b lk e _ p hp;cases hp
    |cons x ps ih=>
     obtain⟨l',h',k'⟩:=x;rintro b lk e ⟨d1,d2,d3,d4,d5⟩ p hp;rcases zAn.mp hp with z|z
     .subst z
      exact⟨by show b<=l';lia,λ_=>d3⟩
     .have:=(ih d5 p z).1
      exact⟨by lia,λy=>by lia⟩
   obtain⟨n1,n2⟩:=nx a5 p hp;have ek':g k=g p.2.2:=by
    have:=congrArg (λz:ν × Int=>z.2) (e'.trans ek);exact this
   have kk:=gi (l,h,k) zAg p (zAd _ hp) ek';have pe:p.1=h:=by
    rcases tc with z|z
    .have z':q.2=t.1:=z
     lia
    .have z':t.2.1=q.1:=z
     lia
   exact n2 pe (by rw[<- kk])
def allS (cs:List (Av ν)) (nm:ν) (g:Int->Int) (parts:List Tr3) (c:Int):List (Sx ν):=paidS cs [(0,c)]++borneS nm g parts (leftS cs [(0,c)])
def frm_one {c:Int} (h:0<c):Frm [((0:Int),c)]:=⟨λp g=>by rw[zAm.mp g];exact h,List.pairwise_singleton _ _⟩
def in_one {c n:Int}:inR [((0:Int),c)] n=true↔0<=n/\n<c:=by
 rw[VV];constructor
 .rintro ⟨p,g,h⟩
  rw[zAm.mp g] at h;exact h
 .intro h
  exact⟨_,zAm.mpr rfl,h⟩
def all_in {cs:List (Av ν)} {nm:ν} {g f:Int->Int} {j:List Tr3} {c n:Int} (q:0<c) (ch:Ch f 0 none j c):B1 (allS cs nm g j c) n↔0<=n/\n<c:=by
 unfold allS;rw[Vy,Lx (frm_one q),Lw ch,in_one];constructor
 .rintro (h|h)
  .exact h.1
  .exact h.2
 .intro h
  cases z:inR (leftS cs [(0,c)]) n with
  |false=>exact .inl ⟨h,rfl⟩
  |true=>exact .inr ⟨rfl,h⟩
def all_sep {cs:List (Av ν)} {nm:ν} {g f:Int->Int} {parts:List Tr3} {c:Int} (c0:0<c) (nd:(cs.map (·.1)).Nodup) (ch:Ch f 0 none parts c) (gi:∀ p∈parts,∀ q∈parts,g p.2.2=g q.2.2->p.2.2=q.2.2)
  (gn:∀ p∈parts,g p.2.2 = -1->∀ n,p.1<=n->n<p.2.1->inR (leftS cs [(0,c)]) n=false):Sep (allS cs nm g parts c):=by
 unfold allS;have fl:Frm (leftS cs [((0:Int),c)]):=leftS_frm (frm_one c0);refine Vh (Sd (frm_one c0) nd) (Tw fl ch gi) (λn h1 h2=>?_) (λs hs t ht tc e=>?_)
 .rw[Lx (frm_one c0)] at h1
  rw[Lw ch] at h2;rw[h1.2] at h2;cases h2.1
 .obtain⟨p,hp,ek,q,hq,e1,e2⟩:=Jp ht
  obtain⟨c1,c2,c3⟩:=Vw hq;have k1:=(Mz hs).1;have k2:g p.2.2 = -1:=by
   have:=congrArg (λz:ν × Int=>z.2) (e.trans ek);rw[<- k1];exact this.symm
  have i1:=gn p hp k2 q.1 c1 (by lia);have i2:inR (cutW (leftS cs [((0:Int),c)]) p.1 p.2.1) q.1=true:=VV.mpr ⟨q,hq,Int.le_refl _,c3⟩;rw[cutW_in,i1] at i2;cases i2
def Sep.starts {S:List (Sx ν)} (h:Sep S):(S.map (·.1)).Nodup:=by
 rw[zAS,zBG];refine h.pw.imp_of_mem λ{s t} g j a e=>?_;have B:=h.lt s g;have q:=h.lt t j;rcases a.1 with z|z <;> lia
def Sep.perm {S T:List (Sx ν)} (h:Sep S) (p:T.Perm S):Sep T:=⟨λs g=>h.lt s (p.mem_iff.mp g),(p.pairwise_iff λh=>h.symm).mpr h.pw⟩
def inS_perm {S T:List (Sx ν)} (p:T.Perm S) {n:Int}:B1 T n↔B1 S n:=by
 unfold B1;constructor
 .rintro ⟨s,g,h⟩
  exact⟨s,p.mem_iff.mp g,h⟩
 .rintro ⟨s,g,h⟩
  exact⟨s,p.mem_iff.mpr g,h⟩
def FormS:Int->Option (ν × Int)->List (Sx ν)->Int->Prop
 |a,_,[],c=>a=c
 |a,lk,s::r,c=>s.1=a/\s.1<s.2.1/\lk≠some s.2.2/\FormS s.2.1 (some s.2.2) r c
theorem form_of:∀ {S:List (Sx ν)} {a c:Int} {M:Option (ν × Int)},a<=c->Sep S->S.Pairwise (λs t=>s.1<t.1)->(∀ n,B1 S n↔a<=n/\n<c)->(∀ s∈S,s.1=a->M≠some s.2.2)->FormS a M S c
 |[],a,c,M,ac,_,_,B,_=>by
  show a=c;by_cases z:a=c
  .exact z
  .obtain⟨s,hs,_⟩:=(B a).mpr ⟨Int.le_refl _,by lia⟩
   cases hs
 |s::r,a,c,M,ac,sp,so,B,U=>by
  have l1:=sp.lt s zAg;have j:=zAM.mp so;have q:=zAM.mp sp.pw;have s1:=(B s.1).mp ⟨s,zAg,Int.le_refl _,l1⟩;have Z:s.1=a:=by
   obtain⟨t,g,L,F⟩:=(B a).mpr ⟨Int.le_refl _,by lia⟩;rcases zAn.mp g with z|z
   .rw[z] at L;lia
   .have:=j.1 t z;lia
  have s2:=(B (s.2.1-1)).mp ⟨s,zAg,by lia,by lia⟩;have Y:∀ t∈r,s.2.1<=t.1:=λt g=>by
   have l2:=sp.lt t (zAd _ g);have:=j.1 t g;rcases (q.1 t g).1 with z|z <;> lia
  refine⟨Z,l1,U s zAg Z,form_of (by lia) ⟨λt g=>sp.lt t (zAd _ g),q.2⟩ j.2 (λn=>?_) (λt g e z=>?_)⟩
  .constructor
   .rintro ⟨t,g,L,F⟩
    have:=Y t g;exact⟨by lia,((B n).mp ⟨t,zAd _ g,L,F⟩).2⟩
   .rintro ⟨n1,n2⟩
    obtain⟨t,g,L,F⟩:=(B n).mpr ⟨by lia,n2⟩;rcases zAn.mp g with y|y
    .rw[y] at F;lia
    .exact⟨t,y,L,F⟩
  .exact (q.1 t g).2 (.inl e.symm) (Option.some.inj z)
def EndsIn (B:List Int) (ps:List Rn):Prop:=∀ p∈ps,p.1∈B/\p.2∈B
def O2 {B:List Int} {ps:List Rn} {lo hi:Int} (h:EndsIn B ps) (h1:lo∈B) (z:hi∈B):EndsIn B (cutW ps lo hi):=λq g=>by
 unfold cutW at g;obtain⟨p,j,rfl⟩:=zAD.mp (zAJ.mp g).1;have:=h p j;unfold cutM
 dsimp only
 refine⟨?_,?_⟩
 .split
  .exact h1
  .exact this.1
 .split
  .exact z
  .exact this.2
theorem To:∀ {ps} (n:Int),(∀ p∈ps,p.1<p.2)->∃ T:Int,∀ B,EndsIn B ps->EndsIn (T::B) (lowW ps n)
 |[],n,_=>⟨0,λB _ p F=>nomatch F⟩
 |p::ps,n,lt=>by
  by_cases c:0<n/\p.1+n<p.2
  .refine⟨p.1+n,λB h q g=>?_⟩
   rw[lowW_cons,if_pos c.1,if_pos c.2,Sn (λq g=>lt q (zAd _ g)) (by lia),zAL] at g;rw[zAm.mp g];exact⟨zAd _ (h p zAg).1,zAg⟩
  .obtain⟨T,hT⟩:=To (ps:=ps) (n-(p.2-p.1)) λq g=>lt q (zAd _ g)
   refine⟨T,λB h q g=>?_⟩;rw[lowW_cons] at g;rcases zAs.mp g with z|z
   .by_cases j:0<n
    .rw[if_pos j,if_neg (λy=>c ⟨j,y⟩)] at z
     rw[zAm.mp z];have:=h p zAg;exact⟨zAd _ this.1,zAd _ this.2⟩
    .rw[if_neg j] at z
     cases z
   .exact hT B (λq g=>h q (zAd _ g)) q z
theorem Ou {B:List Int} {e:Int} (F:e∈B):∀ {qs} {b:Int},b∈B->EndsIn B qs->EndsIn B (leftW e b qs)
 |[],b,j,_,q,g=>by
  rw[leftW_nil] at g
  split at g
  .rw[zAm.mp g]
   exact⟨j,F⟩
  .cases g
 |x::qs,b,j,h,q,g=>by
  have L:=h x zAg;rw[leftW_cons] at g;rcases zAs.mp g with z|z
  .split at z
   .rw[zAm.mp z]
    refine⟨j,?_⟩;show minI x.1 e∈B;unfold minI
    split
    .exact F
    .exact L.1
   .cases z
  .refine Ou F (qs:=qs) (b:=maxI b x.2) ?_ (λq g=>h q (zAd _ g)) q z
   unfold maxI
   split
   .exact L.2
   .exact j
def O1 {B:List Int} {ps qs:List Rn} (h:EndsIn B ps) (g:EndsIn B qs):EndsIn B (outW ps qs):=λq j=>by
 unfold outW at j;obtain⟨l,hl,F⟩:=zCA.mp j;obtain⟨p,z,rfl⟩:=zAD.mp hl;exact Ou (h p z).2 (h p z).1 g q F
def EndsIn.mono {B j:List Int} {ps:List Rn} (h:EndsIn B ps) (s:∀ x∈B,x∈j):EndsIn j ps:=λp g=>⟨s _ (h p g).1,s _ (h p g).2⟩
def Q6 (c:Av ν) {B:List Int} {un:List Rn} (f:Frm un) (h:EndsIn B un):∃ T,EndsIn (T::c.2.1.1::c.2.1.2::B) (payW c un):=by
 have h':EndsIn (c.2.1.1::c.2.1.2::B) (cutW un c.2.1.1 c.2.1.2):=O2 (h.mono λx g=>by simp [g]) (by simp) (by simp);unfold payW
 split
 .exact⟨0,h'.mono λx g=>zAd _ g⟩
 .obtain⟨T,hT⟩:=To (ps:=cutW un c.2.1.1 c.2.1.2) (by assumption) (Ii _ _ f.pw).lt
  exact⟨T,hT _ h'⟩
theorem paid_ends:∀ {cs:List (Av ν)} {B:List Int} {un:List Rn},Frm un->EndsIn B un->∃ g,g.length=B.length+3*cs.length/\(∀ x∈B,x∈g)/\EndsIn g (leftS cs un)/\∀ s∈paidS cs un,s.1∈g
 |[],B,un,f,h=>⟨B,rfl,λ_ z=>z,h,λs z=>nomatch z⟩
 |c::cs,B,un,f,h=>by
  obtain⟨T,hT⟩:=Q6 c f h;have U:EndsIn (T::c.2.1.1::c.2.1.2::B) un:=h.mono λx j=>by simp [j]
  obtain⟨g,S,F,M,L⟩:=paid_ends (cs:=cs) (outW_frm f (payW_frm (c:=c) f)) (O1 U hT);refine⟨g,by rw[S];simp only [zAf];lia,λx j=>F x (by simp [j]),M,λs q=>?_⟩;unfold paidS at q;rcases zAs.mp q with z|z
  .obtain⟨p,Y,rfl⟩:=zAD.mp z
   exact F _ (hT p Y).1
  .exact L s z
def few_of {l m:List Int} (nd:l.Nodup) (h:∀ x∈l,x∈m):l.length<=m.length:=by
 induction l generalizing m with
 |nil=>exact zAu _
 |cons x l ih=>
  rw[zBt] at nd;have g:=h x zAg;have:=ih (m:=m.erase x) nd.2 λy j=>(zCk (λz=>nd.1 (by rw[<- z];exact j))).mpr (h y (zAd _ j));rw[zBT g] at this;have:0<m.length:=zCb g;rw[zAf]
  lia
def Zv {ps:List Rn} {lo hi:Int} (h:q∈cutW ps lo hi):q.1=lo\/∃ p∈ps,q.1=p.1:=by
 unfold cutW at h;obtain⟨p,g,rfl⟩:=zAD.mp (zAJ.mp h).1;unfold cutM
 dsimp only
 split
 .exact .inl rfl
 .exact .inr ⟨p,g,rfl⟩
def all_len {cs:List (Av ν)} {nm:ν} {g f:Int->Int} {parts:List Tr3} {c:Int} (c0:0<c) (sp:Sep (allS cs nm g parts c)):(allS cs nm g parts c).length<=2+3*cs.length+parts.length:=by
 obtain⟨B,b1,b2,b3,b4⟩:=paid_ends (cs:=cs) (B:=[0,c]) (frm_one c0) (λp hp=>by rw[zAm.mp hp];simp);have:=few_of (m:=parts.map (·.1)++B) sp.starts λx hx=>?_
 .rw[zAb,zAj,zAb,b1] at this
  simp only [zAf,zCq] at this
  lia
 .obtain⟨s,hs,rfl⟩:=zAD.mp hx
  unfold allS at hs;rcases zAs.mp hs with z|z
  .exact zAs.mpr (.inr (b4 s z))
  .obtain⟨p,hp,_,q,hq,e1,_⟩:=Jp z
   rw[e1];rcases Zv hq with y|⟨p',hp',y⟩
   .rw[y]
    exact zAs.mpr (.inl (zAD.mpr ⟨p,hp,rfl⟩))
   .rw[y]
    exact zAs.mpr (.inr (b3 p' hp').1)
end
end CRT
namespace CRL
open PySem L2
def top (i:Nat):Stmt:=PySem.Challenge.pw_coverroll_k53_whole_any_order.main.body.getD i (.Pass ⟨0,0,0,0⟩)
abbrev Hk:Stmt:=At (top 4) 3
abbrev Ed:Stmt:=At (top 43) 0
abbrev Eg:Stmt:=At (top 43) 1
abbrev Gq:Stmt:=At (top 43) 2
abbrev Ex:Stmt:=At (top 43) 3
abbrev Px:Stmt:=At (top 44) 1
abbrev Kr:Stmt:=At (top 45) 1
abbrev Lf:Stmt:=At (top 46) 1
abbrev Nb:Stmt:=top 49
abbrev Hy:Stmt:=At (top 67) 0
abbrev Lv:Stmt:=At (top 67) 1
abbrev Kz:Stmt:=At (top 67) 2
abbrev Nl:Stmt:=At (top 67) 3
abbrev Jh:Stmt:=At (top 67) 4
abbrev Gg:Stmt:=At (top 75) 0
abbrev Ic:Stmt:=At (top 76) 1
abbrev Hx:Stmt:=At (top 77) 1
abbrev Im:Stmt:=At (top 78) 1
abbrev Lk:Stmt:=At (top 79) 1
abbrev Nq:Stmt:=At (top 80) 1
abbrev Ni:Stmt:=At (top 81) 1
abbrev Ld:Stmt:=At (top 82) 1
abbrev Es:Stmt:=At (top 98) 0
abbrev Le:Stmt:=At (top 98) 1
abbrev Gu:Stmt:=top 109
abbrev Nm:Stmt:=top 111
abbrev Ky:Stmt:=top 112
abbrev Ib:Stmt:=top 116
abbrev Gf:Stmt:=top 117
abbrev CG:Stmt:=top 118
def Dj:Addr:=663
def Dp:Addr:=705
def Do:Addr:=745
def Dv:Addr:=785
def Hw:Addr:=825
def Lz:Addr:=865
def Kb:Addr:=912
def Gr:Addr:=959
def CC:Addr:=342
def CO:Addr:=377
def CL:Addr:=410
def CM:Addr:=443
def Gc:Addr:=1026
def CV:Addr:=1098
def CB:Addr:=621
def CN:Addr:=59
def CD:Addr:=99
def CR:Addr:=595
def TT:Addr:=93
abbrev κ:A8:=A8.mk Dj Dp Do Dv Hw Lz Kb Gr
structure Pk (K:zAa):Prop where
 d0:Eo K "is_whole" (top 16)
 d1:Eo K "has_letters_alone" (top 31)
 d2:Eo K "is_name" (top 32)
 d3:Eo K "is_event" (top 33)
 d4:Eo K "is_number" (top 34)
 d5:Eo K "is_day" (top 35)
 d6:Eo K "is_amount" (top 36)
 d7:Eo K "year_of" (top 37)
 d8:Eo K "loss_of" (top 38)
 d9:Eo K "checked_amount" (top 41)
 oy:Eo K "cent_at" (top 42)
 p8:Eo K "cut_within" (top 48)
 pf:Eo K "lowest_of" Nb
 ph:Eo K "left_of_run" (top 50)
 pj:Eo K "cut_out" (top 51)
 pq:Eo K "numbers_of" (top 53)
 qa:Eo K "asked_of" (top 54)
 qb:Eo K "paid_runs" (top 55)
 qc:Eo K "borne_strips" (top 56)
 qd:Eo K "strips_of" (top 57)
 qe:Eo K "paid_by" (top 58)
 qf:Eo K "count_for" (top 59)
 qg:Eo K "settle" (top 60)
 qh:Eo K "check_open" (top 63)
 qi:Eo K "check_free" (top 64)
 qj:Eo K "opens_close" (top 65)
 qk:Eo K "check_told" (top 66)
 ql:Eo K "are_weights" (top 86)
 qm:Eo K "may_have" (top 87)
 qo:Eo K "due_by" (top 88)
 qp:Eo K "place_of_turn" (top 89)
 qq:Eo K "turns" (top 90)
 qr:Eo K "check_houses" (top 95)
 qt:Eo K "first_without" (top 96)
 qu:Eo K "bounds_of" (top 97)
 qv:Eo K "_law_cell" (top 100)
 qw:Eo K "_law_whole" (top 101)
 qx:Eo K "_law_mix" (top 102)
 qy:Eo K "_law_names" (top 103)
 qz:Eo K "_law_start" (top 104)
 r6:Eo K "_law_cond" (top 105)
 r9:Eo K "_law_clause_by" (top 106)
 re:Eo K "_law_covers" (top 107)
 rf:Eo K "_law_losses" (top 108)
 oq:Eo K "_law_condition" Gu
 rh:Eo K "_law_clause" (top 110)
 rj:Eo K "_law_book" Nm
 rk:Eo K "_law_enter" Ky
 rn:Eo K "_law_turn" (top 113)
 rp:Eo K "_law_form" (top 114)
 rq:Eo K "_law_turned" (top 115)
 sd:Eo K "_law_by_turns" Ib
 se:Eo K "_law_day_by_day" Gf
 sf:Eo K "law" CG
 cm:Fg K Dj "holds" "Condition.holds" Gg
 j9:Fg K Dp "__init__" "CauseIs.__init__" (At (top 76) 0)
 cz:Fg K Dp "holds" "CauseIs.holds" Ic
 ja:Fg K Do "__init__" "ThingIs.__init__" (At (top 77) 0)
 da:Fg K Do "holds" "ThingIs.holds" Hx
 jf:Fg K Dv "__init__" "DaysIn.__init__" (At (top 78) 0)
 fh:Fg K Dv "holds" "DaysIn.holds" Im
 jl:Fg K Hw "__init__" "Over.__init__" (At (top 79) 0)
 i7:Fg K Hw "holds" "Over.holds" Lk
 jw:Fg K Lz "__init__" "Not.__init__" (At (top 80) 0)
 ir:Fg K Lz "holds" "Not.holds" Nq
 jx:Fg K Kb "__init__" "All.__init__" (At (top 81) 0)
 iu:Fg K Kb "holds" "All.holds" Ni
 jm:Fg K Gr "__init__" "Some.__init__" (At (top 82) 0)
 i8:Fg K Gr "holds" "Some.holds" Ld
 sj:Fg K CC "__init__" "Clause.__init__" Ed
 km:Fg K CC "span" "Clause.span" Gq
 ko:Fg K CC "room" "Clause.room" Ex
 m7:Fg K CC "key" "Clause.key" Eg
 jy:Fg K CO "__init__" "Own.__init__" (At (top 44) 0)
 og:Fg K CO "span" "Own.span" Px
 ji:Fg K CL "__init__" "Layer.__init__" (At (top 45) 0)
 m8:Fg K CL "span" "Layer.span" Kr
 jj:Fg K CM "__init__" "Limit.__init__" (At (top 46) 0)
 m9:Fg K CM "room" "Limit.room" Lf
 jn:Fg K Gc "__init__" "Deal.__init__" (At (top 91) 0)
 mf:Fg K CV "asks" "Cover.asks" Le
 ku:Fg K CV "spans" "Cover.spans" (At (top 98) 2)
 ka:Fg K CV "window" "Cover.window" (At (top 98) 3)
 kz:Fg K CV "parts" "Cover.parts" (At (top 98) 4)
 mh:Fg K CV "rest" "Cover.rest" (At (top 98) 5)
 jo:Fg K CB "__init__" "Book.__init__" (At (top 70) 0)
 jg:Fg K CN "__init__" "Counts.__init__" (At (top 2) 0)
 l6:Fg K CN "have" "Counts.have" (At (top 2) 1)
 mq:Fg K CN "add" "Counts.add" (At (top 2) 2)
 jp:Fg K CD "__init__" "Days.__init__" (At (top 4) 0)
 oh:Fg K CD "put" "Days.put" (At (top 4) 1)
 jh:Fg K CD "has_number" "Days.has_number" (At (top 4) 2)
 jq:Fg K CR "__init__" "Roll.__init__" Hy
 mr:Fg K CR "enter" "Roll.enter" Lv
 mt:Fg K CR "close" "Roll.close" Kz
 nq:Fg K CR "told" "Roll.told" Nl
 kc:Fg K CR "settled" "Roll.settled" Jh
 ol:Fg K CO "room" "Clause.room" Ex
 oo:Fg K CO "key" "Clause.key" Eg
 mv:Fg K CL "room" "Clause.room" Ex
 o0:Fg K CL "key" "Clause.key" Eg
 mw:Fg K CM "span" "Clause.span" Gq
 oa:Fg K CM "key" "Clause.key" Eg
 bp:VY K "Condition" Dj
 bv:VY K "CauseIs" Dp
 dg:Gn K Dp "name"
 bw:VY K "ThingIs" Do
 dh:Gn K Do "name"
 bf:VY K "DaysIn" Dv
 dk:Gn K Dv "first"
 fm:Gn K Dv "last"
 dq:VY K "Over" Hw
 gk:Gn K Hw "cents"
 gu:VY K "Not" Lz
 iy:Gn K Lz "part"
 gx:VY K "All" Kb
 ft:Gn K Kb "several"
 dt:VY K "Some" Gr
 dz:Gn K Gr "several"
 bj:VY K "Clause" CC
 i9:Gn K CC "by"
 bx:VY K "Own" CO
 ie:Gn K CO "cents"
 jb:Gn K CO "by"
 aq:VY K "Layer" CL
 g8:Gn K CL "first"
 gl:Gn K CL "upto"
 j1:Gn K CL "by"
 ay:VY K "Limit" CM
 gm:Gn K CM "most"
 j2:Gn K CM "by"
 jc:VY K "Deal" Gc
 lh:Gn K Gc "wheel"
 jr:Gn K Gc "weights"
 aa:VY K "Cover" CV
 am:Gn K CV "name"
 cf:Gn K CV "condition"
 ah:Gn K CV "clauses"
 f9:Gn K CV "houses"
 m5:Gn K CV "deal"
 c7:Gn K CV "waits"
 ig:VY K "Book" CB
 ke:Gn K CB "covers"
 g9:Gn K CB "asking"
 br:VY K "Counts" CN
 cb:Gn K CN "kept"
 au:VY K "Days" CD
 ar:Gn K CD "waiting"
 bz:Gn K CD "numbers"
 ag:VY K "Roll" CR
 ii:Gn K CR "book"
 gb:Gn K CR "counts"
 bu:Gn K CR "days"
 bo:Gn K CR "closed"
 bq:Gn K CR "loss_rows"
 bc:Gn K CR "outcomes"
 jt:zBh K (.ref CC) (.ref CM)=some false
 my:zBh K (.ref CO) (.ref CM)=some false
 kf:zBh K (.ref CL) (.ref CM)=some false
 kg:zBh K (.ref CM) (.ref CM)=some true
 ng:zAK K (.ref Dj) "__init__"=some (some (.builtin "object.__init__"))
 kh:Hf K "CAUSE" 4
 gc:Hf K "CENTS" 5
 gp:JM K "COVERED_ONE" "self"
 ju:Hf K "DAY" 1
 ge:Hf K "DAYS_OF_YEAR" 365
 ki:Hf K "EVENT" 2
 j6:Hf K "LAST_DAY" 1000000
 gq:Hf K "LAST_NUMBER" 1000000000
 jd:JM K "LETTERS" "abcdefghijklmnopqrstuvwxyz"
 gf:Hf K "LONGEST_NAME" 8
 j3:Hf K "LOSS_RANK" 0
 io:Hf K "MOST_CENTS" 999999999999
 gg:Hf K "MOST_CLAUSES" 8
 gr:Hf K "MOST_COVERS" 8
 ip:Hf K "MOST_NAMES" 4
 gt:Hf K "MOST_PLACES" 8
 iq:Hf K "MOST_TURNS" 100
 cq:Hf K "NUMBER" 0
 j5:Hf K "THING" 3
 je:zAI K zCH "bool"=some none
 ao:zAI K zCH "enumerate"=some none
 j7:zAI K zCH "int"=some none
 ae:zAI K zCH "isinstance"=some none
 az:zAI K zCH "len"=some none
 ax:zAI K zCH "list"=some none
 cg:zAI K zCH "max"=some none
 fg:zAI K zCH "min"=some none
 b7:zAI K zCH "range"=some none
 jv:zAI K zCH "set"=some none
 ce:zAI K zCH "sorted"=some none
 gy:zAI K zCH "str"=some none
 i6:zAI K zCH "sum"=some none
 kj:zAI K zCH "tuple"=some none
 ou:zAI K zCH "zip"=some none
 sg:MtD K CV "__init__" "Cover.__init__" Es #[.none,.none,.bool false]
 sh:BsE K CC "__init__" "Clause.__init__" Ed
 si:MtC K CD "up_to" "Days.up_to" Hk TT
 cy:RH K CC
 j8:RH K CO
 gh:RH K CL
 gj:RH K CM
 ot:NT4 K "WAYS" "event" "thing" "year" "loss"
structure Pm (P:Program) (w:World) (K:zAa) (mg:Str->Option Value) (base:Heap):Prop extends Pk K where
 z:Zy P w K mg base
 kb:K.In base
 bi:BI mg base
abbrev Jc {P:Program} {w:World} {K:zAa} {mg:Str->Option Value} {base:Heap} (_:Pm P w K mg base):=HQ P w K mg base
abbrev Jm {P:Program} {w:World} {K:zAa} {mg:Str->Option Value} {base:Heap} (_:Pm P w K mg base):=C3 P w K mg base
abbrev Jk {P:Program} {w:World} {K:zAa} {mg:Str->Option Value} {base:Heap} (_:Pm P w K mg base):=O6 P w K mg base
abbrev Jf {P:Program} {w:World} {K:zAa} {mg:Str->Option Value} {base:Heap} (_:Pm P w K mg base):=Q4 P w K mg base
def VJ:([Dj,Dp,Do,Dv,Hw,Lz,Kb,Gr,CC,CO,CL,CM,Gc,CV,CB,CN,CD,CR]:List Addr).Nodup:=by decide
def dT {c A B:Prop} [Decidable c] (h:c) (q:A):if decide c=true then A else B:=by rw[decide_eq_true h,if_pos rfl];exact q
def dF {c A B:Prop} [Decidable c] (h:¬ c) (q:B):if decide c=true then A else B:=by rw[decide_eq_false h,if_neg zAk];exact q
def nT {c A B:Prop} [Decidable c] (h:¬ c) (q:A):if (!decide c)=true then A else B:=by rw[decide_eq_false h];exact q
def nF {c A B:Prop} [Decidable c] (h:c) (q:B):if (!decide c)=true then A else B:=by rw[decide_eq_true h];exact q
def bT {c:Bool} {A B:Prop} (h:c=true) (q:A):if c=true then A else B:=by rw[if_pos h];exact q
def bF {c:Bool} {A B:Prop} (h:c=false) (q:B):if c=true then A else B:=by rw[if_neg (by rw[h];exact zAk)];exact q
def AC:V->Bool
 |.int _=>true
 |_=>false
def Sm {K:zAa} {x:V} {T:String} (h:Hb K H x (.type T)):∃ j g,zBh K (.type T) (.type "int")=some j/\zBh K (.type T) (.type "bool")=some g/\AC x=(j && !g):=by
 cases h with
 |non=>exact⟨false,false,by kernel_rfl,by kernel_rfl,rfl⟩
 |bl b=>exact⟨true,true,by kernel_rfl,by kernel_rfl,rfl⟩
 |int i=>exact⟨true,false,by kernel_rfl,by kernel_rfl,rfl⟩
 |str i=>exact⟨false,false,by kernel_rfl,by kernel_rfl,rfl⟩
 |flt i=>exact⟨false,false,by kernel_rfl,by kernel_rfl,rfl⟩
 |lst e=>exact⟨false,false,by kernel_rfl,by kernel_rfl,rfl⟩
 |frz e=>exact⟨false,false,by kernel_rfl,by kernel_rfl,rfl⟩
 |tup e=>exact⟨false,false,by kernel_rfl,by kernel_rfl,rfl⟩
 |dK e=>exact⟨false,false,by kernel_rfl,by kernel_rfl,rfl⟩
 |dT e=>exact⟨false,false,by kernel_rfl,by kernel_rfl,rfl⟩
def DA {K:zAa}:zBh K (.type "list") (.type "list")=some true:=by kernel_rfl
inductive G9 (K:zAa) (vs:List V) (H:Hp) (Q:VK) (E:XK):Prop
 |mk (x T:_) (z0:vs=[x]) (z1:Hb K H x (.type T)) (z2:Q (.bl (AC x)) H)
def IM {K:zAa}:zBh K (.type "tuple") (.type "tuple")=some true:=by kernel_rfl
inductive HY (K:zAa) (vs:List V) (H:Hp) (Q:VK) (E:XK):Prop
 |mk (a ns:_) (k:Int) (z0:vs=[.ref a,.int k]) (z1:Dl K H a (List.map V.int ns)) (z2:0<=k) (z3:ns.length<=63) (z4:Q (.int (ns.getD k.toNat 0)) H)
section
variable {P:Program} {w:World} {K:zAa} {mg:Str->Option Value} {base:Heap}
def Et (J:Pm P w K mg base):Jc J 1 "_law_cell" ["_law_script","_law_k"] (HY K):=Gb J.z J.qv ["_law_script","_law_k"] df λsc H Q hr h=>by
 obtain⟨a,ns,k,rfl,j,B,z,q⟩:=h;refine⟨_,(Ab (Au (Ak Gx (pv 1) (Cw (Cr (K:=K) rfl) rfl (J.z.nn J.az) (show zCF _=some (.builtin "len") from rfl) (Bj (pv 0))) (An _))
    (Ac (Ai (Jo K (pv 0) (pv 1))))
    Al)
   (Ac (Ai Ad))),?_⟩
 have hl:(List.map V.int ns).length=ns.length:=zAb _;refine (vE rfl (vE rfl ⟨a,_,rfl,.inl j,vF rfl rfl (vE rfl ?_)⟩));rw[hl];refine Qh (λc=>?_) (λc=>?_)
 .have g:k<(ns.length:Int):=of_decide_eq_true c
  exact (vE rfl (vE rfl ⟨a,_,_,_,rfl,rfl,j,F7 B g,q⟩))
 .have g:¬ k<(ns.length:Int):=of_decide_eq_false (zBs.mpr c)
  have e:ns.getD k.toNat 0=0:=by
   rw[zAq,zCi (by lia)];rfl
  rw[e] at q;exact q
def Js (J:Pm P w K mg base):Jc J 1 "is_whole" ["thing"] (G9 K):=Gb J.z J.d0 ["thing"] df λsc H Q hr h=>by
 obtain⟨x,ty,rfl,g,q⟩:=h;refine⟨_,(Ac (Ai (Mb (Lh Br J.z J.ae (Bb (pv 0) (Ip "int" rfl (J.z.nn J.j7) rfl))) (Kc (A1 (Lh Br J.z J.ae (Bb (pv 0) (Ip "bool" rfl (J.z.nn J.je) rfl)))))))),?_⟩;obtain⟨j,F,B,z,e⟩:=Sm g;rw[e] at q;refine (vE rfl ⟨_,_,_,_,_,rfl,Iu,g,B,_,rfl,?_⟩);cases j with
 |false=>exact q
 |true=>exact⟨_,rfl,_,_,_,_,_,rfl,Iu,g,z,_,rfl,q⟩
def Ix (J:Pm P w K mg base):Jc J 1 "_law_whole" ["_law_found"] (G9 K):=Gb J.z J.qw ["_law_found"] df λsc H Q hr h=>by
 obtain⟨x,ty,rfl,g,q⟩:=h;refine⟨_,(Ac (Ai (Mb (Lh Br J.z J.ae (Bb (pv 0) (Ip "int" rfl (J.z.nn J.j7) rfl))) (Kc (A1 (Lh Br J.z J.ae (Bb (pv 0) (Ip "bool" rfl (J.z.nn J.je) rfl)))))))),?_⟩;obtain⟨j,F,B,z,e⟩:=Sm g;rw[e] at q;refine (vE rfl ⟨_,_,_,_,_,rfl,Iu,g,B,_,rfl,?_⟩);cases j with
 |false=>exact q
 |true=>exact⟨_,rfl,_,_,_,_,_,rfl,Iu,g,z,_,rfl,q⟩
end
def N7 (m:Int):V->Bool
 |.int i=>decide (0<=i/\i<=m)
 |_=>false
inductive Z2 (K:zAa) (m:Int) (vs:List V) (H:Hp) (Q:VK) (E:XK):Prop
 |mk (x T:_) (z0:vs=[x]) (z1:Hb K H x (.type T)) (z2:Q (.bl (N7 m x)) H)
section
variable {P:Program} {w:World} {K:zAa} {mg:Str->Option Value} {base:Heap}
def Pq (J:Pm P w K mg base):Jc J 2 "is_amount" ["thing"] (Z2 K 999999999999):=Gb J.z J.d6 ["thing"] df λsc H Q hr h=>by
 obtain⟨x,ty,rfl,g,q⟩:=h;refine⟨_,(Ac (Ai (Mb (Cb (Js J) hr (Bj (pv 0))) (Kc (Iq Gk Gk Ad (pv 0) (Op J.z J.io)))))),?_⟩;refine (vE rfl ⟨_,_,rfl,g,_,rfl,?_⟩);cases x with
 |int i=>
  refine Jt (vE rfl (vF rfl rfl (vE rfl ?_)));by_cases c1:(0:Int)<=i
  .refine dT c1 (vF rfl rfl ?_)
   show Q (.bl (decide (i<=999999999999))) H;have e:decide (0<=i/\i<=999999999999)=decide (i<=999999999999):=by
    by_cases c2:i<=999999999999
    .rw[decide_eq_true c2,decide_eq_true ⟨c1,c2⟩]
    .rw[decide_eq_false c2,decide_eq_false (λy=>c2 y.2)]
   rw[<- e];exact q
  .refine dF c1 ?_
   rw[show N7 999999999999 (.int i)=false from decide_eq_false (λy=>c1 y.1)] at q;exact q
 |_=>exact Cy q
end
def Gm (c:Nat):Prop:=97<=c/\c<=122
instance:DecidablePred Gm:=λc=>by unfold Gm;exact inferInstance
def Iy (l:List Nat):Prop:=∀ c∈l,Gm c
instance (l:List Nat):Decidable (Iy l):=by unfold Iy;exact inferInstance
def Gh (l:List Nat):Prop:=(1<=l.length/\l.length<=8)/\Iy l
instance (l:List Nat):Decidable (Gh l):=by unfold Gh;exact inferInstance
def XG {c:Nat}:(c∈(Str.ofString "abcdefghijklmnopqrstuvwxyz").cps.toList)↔Gm c:=by
 have e:(Str.ofString "abcdefghijklmnopqrstuvwxyz").cps.toList=(zAO 26).map (97 + ·):=by ac_nf
 rw[e,zAD];unfold Gm;constructor
 .rintro ⟨k,g,rfl⟩
  have:=zBH.mp g
  lia
 .intro h
  exact⟨c-97,zBH.mpr (by lia),by lia⟩
def JN:V->Bool
 |.str _=>true
 |_=>false
def Gj:V->Bool
 |.str z=>decide (Gh z.cps.toList)
 |_=>false
def SA (x:V):Prop:=∀ z,x=.str z->z.length<=900
def F3 {K:zAa} {x:V} {T:String} (h:Hb K H x (.type T)):zBh K (.type T) (.type "str")=some (JN x):=by
 cases h with
 |non=>kernel_rfl
 |bl b=>kernel_rfl
 |int i=>kernel_rfl
 |str i=>kernel_rfl
 |flt i=>kernel_rfl
 |lst e=>kernel_rfl
 |frz e=>kernel_rfl
 |tup e=>kernel_rfl
 |dK e=>kernel_rfl
 |dT e=>kernel_rfl
inductive OT (vs:List V) (H:Hp) (Q:VK) (E:XK):Prop
 |mk (l:_) (z0:vs=[.str (tx l)]) (z1:Q (.bl (decide (Iy l))) H)
inductive KU (K:zAa) (vs:List V) (H:Hp) (Q:VK) (E:XK):Prop
 |mk (x T:_) (z0:vs=[x]) (z1:Hb K H x (.type T)) (z2:SA x) (z3:Q (.bl (Gj x)) H)
def Zs {l:List Nat} (h:l.length<=900):SA (.str (tx l)):=λz e=>by cases e;rw[Ee];exact h
section
seal L2.PS L2.PSs L2.PE
variable {P:Program} {w:World} {K:zAa} {mg:Str->Option Value} {base:Heap} (J:Pm P w K mg base)
def Km:Jc J 1 "has_letters_alone" ["text"] OT:=Gb J.z J.d1 ["text","sign"] df λsc H Q hr h=>by
 obtain⟨l,rfl,q⟩:=h;refine⟨_,(Ab (Bk PassesOwn.never rfl (LN (pv 0)) (Fj sc 1)
    (Ac (Au (Ak P7 (pv 1) (M4 (J.z.gs J.jd) rfl) rfl)
    (Ac (Ai Dd))
    Al)))
   (Ac (Ai Dd))),?_⟩
 refine (vE rfl (vE rfl (FN (l:=l) (λi σ L=>((∃ o,σ=[oS (tx l),o])/\L=H)/\∀ j c,j<i->l[j]?=some c->Gm c) ⟨⟨⟨none,rfl⟩,rfl⟩,λ_ _ z=>absurd z (zBE _)⟩ ?_ ?_)))
 .rintro i c σ L hi ⟨⟨⟨o,rfl⟩,rfl⟩,g⟩
  refine (vE rfl ⟨c,_,rfl,rfl,vE rfl ?_⟩);by_cases B:Gm c
  .refine nF (XG.mpr B) ⟨⟨⟨_,rfl⟩,rfl⟩,λj d M F=>?_⟩
   by_cases e:j=i
   .subst e
    rw[hi] at F;cases F;exact B
   .exact g j d (by lia) F
  .refine nT (λz=>B (XG.mp z)) ?_
   have n:¬ Iy l:=λz=>B (z c (zAC hi));rw[decide_eq_false n] at q;exact q
 .rintro σ L ⟨⟨⟨o,rfl⟩,rfl⟩,g⟩
  have all:Iy l:=λc B=>by
   obtain⟨j,M,e⟩:=zAW B;exact g j c M (by rw[zAe M,e])
  rw[decide_eq_true all] at q;exact q
def Jg:Jc J 2 "is_name" ["thing"] (KU K):=Gb J.z J.d2 ["thing"] df λsc H Q hr h=>by
 obtain⟨x,ty,rfl,g,ok,q⟩:=h;refine⟨_,(Ab (Au (Bp (Bg (Lh Br J.z J.ae (Bb (pv 0) (Ip "str" rfl (J.z.nn J.gy) rfl)))))
    (Ac (Ai Dd))
    Al)
   (Ac (Ai (Mb (Iq Gk Gk Ad (Lh Uo J.z J.az (Bj (pv 0))) (Op J.z J.gf)) (Kc (Cb (Km J) hr (Bj (pv 0)))))))),?_⟩
 refine (vE rfl ⟨_,_,_,_,_,rfl,Iu,g,F3 g,_,rfl,?_⟩);cases x with
 |str z=>
  have B:=ok z rfl;have j:tx z.cps.toList=z:=Jw z;refine Cy (vE rfl (vE rfl ⟨Dk (by lia),?_⟩));have F:(z.length:Int)=(z.cps.toList.length:Int):=by rw[<- Ee,j]
  refine (vF rfl rfl (vE rfl ?_));by_cases c1:1<=(z.length:Int)
  .refine dT c1 (vF rfl rfl (vE rfl ?_))
   by_cases c2:(z.length:Int)<=8
   .refine dT c2 (vE rfl ⟨z.cps.toList,by rw[j];rfl,?_⟩)
    have e:decide (Gh z.cps.toList)=decide (Iy z.cps.toList):=by
     by_cases a:Iy z.cps.toList
     .rw[decide_eq_true a,decide_eq_true (show Gh _ from ⟨⟨by lia,by lia⟩,a⟩)]
     .rw[decide_eq_false a,decide_eq_false (λy=>a y.2)]
    rw[<- e];exact q
   .refine dF c2 ?_
    rw[show Gj (.str z)=false from decide_eq_false (λy=>c2 (by have:=y.1.2;lia))] at q;exact q
  .refine dF c1 (vE rfl (Cy ?_))
   rw[show Gj (.str z)=false from decide_eq_false (λy=>c1 (by have:=y.1.1;lia))] at q;exact q
 |_=>exact Jt q
end
def Ft {C:Addr} {x dx:Addr} (nx:H x=none) (g:H dx=none) (j:∀ b o,(upd (upd H dx (.own x)) x (.ins C dx [])) b=some o->b≠x->H2 b=some o):De H H2:=λb o e=>
 j b o (by rw[Ag (Ae e nx),Ag (Ae e g)];exact e) (Ae e nx)
def KB (p:Addr) (H H':Hp):Prop:=∀ b o,H b=some o->b≠p->H' b=some o
def KB.upd {p:Addr} {H H':Hp} (k:KB p H H') (o:HO):KB p H (upd H' p o):=λb u e n=>by rw[Ag n];exact k b u e n
def KB.same {p:Addr} {H H' H'':Hp} (k:KB p H H') (s:De H' H''):KB p H H'':=λb u e n=>s _ _ (k b u e n)
def KB.free {p:Addr} {H H':Hp} {b:Addr} (k:KB p H H') (n:b≠p) (h:H' b=none):H b=none:=by
 cases z:H b with
 |none=>rfl
 |some o=>
  have:=k _ _ z n;rw[h] at this;cases this
def Ga {i:Nat} {v:V} {nx:St->Hp->Prop} (g:St) (e:σ.set i (some v)=g) (h:nx g H):Cg i v σ H nx:=by
 unfold Cg;rw[e];exact h
def Hu {t u} {D} {σ} {H} (h:∀ N:St->Hp->Prop,N=u D->t { D with nx:=N } σ H):N5 t u D σ H:=h _ rfl
def Fq {i:Nat} {v} {N:St->Hp->Prop} {σ} {H} {t u} {D} (j:N=N5 t u D) (g:St) (e:σ.set i (some v)=g) (h:∀ N:St->Hp->Prop,N=u D->t { D with nx:=N } g H):Cg i v σ H N:=by
 subst j;exact Ga g e (h _ rfl)
def Nt {N:St->Hp->Prop} {σ} {H} {t u} {D} (g:N=N5 t u D) (h:∀ N:St->Hp->Prop,N=u D->t { D with nx:=N } σ H):N σ H:=by
 subst g;exact h _ rfl
def x2 {q j:Type} {P:q->j->Prop} (g:q) (a1:j) (h:P g a1):∃ g a1,P g a1:=⟨g,a1,h⟩
def x3 {q z B:Type} {P:q->z->B->Prop} (j:q) (g:z) (a2:B) (h:P j g a2):∃ j g a2,P j g a2:=⟨j,g,a2,h⟩
def x4 {B F L z:Type} {P:B->F->L->z->Prop} (q:B) (g:F) (j:L) (a3:z) (h:P q g j a3):∃ q g j a3,P q g j a3:=⟨q,g,j,a3,h⟩
def c3 {g j p2:Prop} (q:g) (h1:j) (z:p2):g/\j/\p2:=⟨q,h1,z⟩
def c4 {g j p2 p3:Prop} (z:g) (h1:j) (q:p2) (B:p3):g/\j/\p2/\p3:=⟨z,h1,q,B⟩
def c5 {j q p2 g p4:Prop} (F:j) (h1:q) (z:p2) (L:g) (B:p4):j/\q/\p2/\g/\p4:=⟨F,h1,z,L,B⟩
def c6 {q z p2 g j p5:Prop} (M:q) (h1:z) (B:p2) (S:g) (L:j) (F:p5):q/\z/\p2/\g/\j/\p5:=⟨M,h1,B,S,L,F⟩
def c8 {B F p2 g j z q p7:Prop} (Y:B) (h1:F) (M:p2) (Z:g) (U:j) (S:z) (L:q) (h7:p7):B/\F/\p2/\g/\j/\z/\q/\p7:=⟨Y,h1,M,Z,U,S,L,h7⟩
def Be {α:Type} {l:List α} {i:Nat} {x:α} (h:l[i]?=some x):l.take (i+1)=l.take i++[x]:=by
 rw[zAT,h];rfl
def f1 {f g:Str} {v:V} {fs:List (Str×V)} (h:¬ g=f):(Ap f v fs).lookup g=fs.lookup g:=by rw[Am,if_neg h]
def f0 {f:Str} {v:V} {fs:List (Str×V)}:(Ap f v fs).lookup f=some v:=by rw[Am,if_pos rfl]
theorem Fe (f:Str) (v:V):∀ fs:List (Str×V),(Ap f v fs).length<=fs.length+1
 |[]=>zAi _
 |(g,u)::fs=>by
  unfold Ap
  split
  .simp
  .have:=Fe f v fs
   simp only [zAf]
   lia
def WT (fs:List (Str×V)):Prop:=fs.lookup ("asks" : Str)=none/\fs.lookup ("spans" : Str)=none/\fs.lookup ("window" : Str)=none/\fs.lookup ("parts" : Str)=none/\fs.lookup ("rest" : Str)=none
def WT.put {f:Str} {v:V} {fs:List (Str×V)} (h:WT fs) (n1:¬ ("asks" : Str)=f) (n2:¬ ("spans" : Str)=f) (n3:¬ ("window" : Str)=f) (j:¬ ("parts" : Str)=f) (g:¬ ("rest" : Str)=f):WT (Ap f v fs):=
 ⟨by rw[f1 n1];exact h.1,by rw[f1 n2];exact h.2.1,by rw[f1 n3];exact h.2.2.1,by rw[f1 j];exact h.2.2.2.1,by rw[f1 g];exact h.2.2.2.2⟩
def Vk:List V:=[.int 1]
inductive OR (vs:List V) (H:Hp) (Q:VK) (E:XK):Prop
 |mk (a:_) (z0:vs=[.ref a]) (z1:H a=oL Vk) (z2:Q (.bl true) H)
def LW:Sp:=λvs H Q _=>vs=[.int 1,.int 0,.int 1,.int 0]/\Q (.bl true) H
def LO:Sp:=λvs H Q _=>vs=[.int 1,.int 0,.int 1]/\Q (.int 1) H
inductive PK (vs:List V) (H:Hp) (Q:VK) (E:XK):Prop
 |mk (a b:_) (z0:vs=[.ref a,.ref b,.int 0]) (z1:H a=oL Vk) (z2:H b=oL [.int 0]) (z3:∀ H',De H H'->Q (.int 0) H')
inductive QJ (vs:List V) (H:Hp) (Q:VK) (E:XK):Prop
 |mk (a:_) (z0:vs=[.ref a]) (z1:H a=oL Vk) (z2:∀ r H',De H H'->Q (.ref r) H')
inductive MW (C:Addr) (vs:List V) (H:Hp) (Q:VK) (E:XK):Prop
 |mk (p dx a:_) (z0:vs=[.ref p,.ref a]) (z1:H p=oI C dx []) (z2:H a=oL Vk) (z3:∀ H',KB p H H'->Q .non H')
inductive NM (vs:List V) (H:Hp) (Q:VK) (E:XK):Prop
 |mk (a nm:_) (z0:vs=[.ref a]) (z1:H a=oL [.str nm]) (z2:Gj (.str nm)=true) (z3:nm.length<=8) (z4:∀ H',De H H'->Q .non H')
section
seal L2.PS L2.PSs L2.PE L2.PA
variable {P:Program} {w:World} {K:zAa} {mg:Str->Option Value} {base:Heap} (J:Pm P w K mg base)
def Vo:Jc J 2 "are_weights" ["thing"] OR:=Gb J.z J.ql ["thing","weight"] df λsc H Q hr h=>by
 obtain⟨a,rfl,g,q⟩:=h;refine⟨_,(Ab (Au (Bp (Bg (Lh Br J.z J.ae (Bb (pv 0) (Ip "list" rfl (J.z.nn J.ax) rfl)))))
    (Ac (Ai Dd))
    Al)
   (Ab (Au (PW.pt (Eb (Ak Gx (Cw (Cr (K:=K) rfl) rfl (J.z.nn J.az) (show zCF _=some (.builtin "len") from rfl) (Bj (pv 0))) Ad (An _)) (Dx (Ak Ng (Cw (Cr (K:=K) rfl) rfl (J.z.nn J.az) (show zCF _=some (.builtin "len") from rfl) (Bj (pv 0))) (Op J.z J.gt) (An _)))))
    (Ac (Ai Dd))
    Al)
   (Ab (Bk PassesOwn.never rfl (Go K (pv 0)) (Fj sc 1)
    (Ac (Au (PW.pt (Eb (Bp (Bg (Cb (Js J) hr (Bj (pv 1))))) (Dx (Ak Gx (pv 1) Ad (An _)))))
    (Ac (Ai Dd))
    Al)))
   (Ac (Ai (Ez Gk (Lh (Lg rfl) J.z J.i6 (Bj (pv 0))) (Op J.z J.iq) (An _))))))),?_⟩
 refine Hu λN j=>?_;refine (vE rfl ⟨_,_,_,_,_,rfl,Iu,.lst g,DA,_,rfl,Cy ?_⟩);refine Nt j λN j=>?_;refine (vE rfl ⟨a,_,rfl,(.inl (Dl.of g)),(vF rfl rfl (vE rfl (dF (by decide) (vE rfl ⟨a,_,rfl,(.inl (Dl.of g)),(vF rfl rfl (vE rfl (dF (by decide) ?_)))⟩))))⟩);refine Nt j λN j=>?_;refine (vE rfl ⟨a,rfl,⟨_,Dl.of g⟩,?_⟩);refine Cp (K:=K) (a:=a) (xs:=Vk) (λi σ z=>(∃ o,σ=[oR a,o])/\z=H) ⟨⟨none,rfl⟩,rfl⟩ (λi σ z _ B=>by rw[B.2];exact Dl.of g) ?_ ?_
 .rintro i x σ z hi ⟨⟨o,rfl⟩,rfl⟩
  obtain rfl:x=.int 1:=by
   match i,hi with
   |0,h=>cases h;rfl
   |i+1,h=>simp [Vk] at h
  subst j;refine Ga [oR a,oN 1] rfl ?_;exact (vE rfl ⟨_,_,rfl,.int 1,_,rfl,Cy (vE rfl (vF rfl rfl (vE rfl (dF (by decide) ⟨⟨_,rfl⟩,rfl⟩))))⟩)
 .rintro σ z ⟨⟨o,rfl⟩,rfl⟩
  subst j;exact (vE rfl ⟨a,[1],rfl,Dl.of g,vF rfl rfl q⟩)
def U4:Jc J 1 "may_have" ["weight","dealt","total","turn"] LW:=Gb J.z J.qm ["weight","dealt","total","turn"] df λsc H Q hr h=>by
 obtain⟨rfl,q⟩:=h;refine⟨_,(Ac (Ai (Ez Gx (Aj El (pv 1) (pv 2)) (Aj El (pv 0) (Aj Bd (pv 3) Ad)) (An _)))),?_⟩;exact (vE rfl (vE rfl (vF rfl rfl ⟨.inl ⟨by decide,by decide⟩,vE rfl (vE rfl (vF rfl rfl (vF rfl rfl ⟨.inl ⟨by decide,by decide⟩,vF rfl rfl q⟩)))⟩)))
def I9:Jc J 1 "due_by" ["weight","dealt","total"] LO:=Gb J.z J.qo ["weight","dealt","total"] df λsc H Q hr h=>by
 obtain⟨rfl,q⟩:=h;refine⟨_,(Ac (Ai (Aj Bm (Aj Il (Aj Bd (Aj El (Aj Bd (pv 1) Ad) (pv 2)) (pv 0)) Ad) (pv 0)))),?_⟩;exact (vE rfl (vF rfl rfl (vE rfl (vF rfl rfl ⟨.inl ⟨by decide,by decide⟩,vE rfl (vF rfl rfl (vF rfl rfl (vE rfl (vF rfl rfl ⟨⟨by decide,by decide⟩,q⟩))))⟩))))
def Ra:Jc J 2 "place_of_turn" ["weights","dealt","turn"] PK:=Gb J.z J.qp ["weights","dealt","turn","total","places","best","place"] df λsc H Q hr h=>by
 obtain⟨a,b,rfl,U,Z,q⟩:=h;refine⟨_,(Ab (Mm (i:=3) sc.nd rfl (Or.inr rfl) (Lh (Lg rfl) J.z J.i6 (Bj (pv 0))))
   (Ab (Ef (NC:=["k","total","turn","weights","dealt"]) (own:=["k"]) (cs:=["total","turn","weights","dealt"]) (ix:=[3,2,0,1]) (j:=4) sc.nd rfl rfl rfl (Dt.of rfl) rfl ⟨⟨rfl,.inl rfl,rfl⟩,⟨⟨rfl,.inl rfl,rfl⟩,⟨⟨rfl,.inl rfl,rfl⟩,⟨⟨rfl,.inl rfl,rfl⟩,trivial⟩⟩⟩⟩ (Er rfl (J.z.nn J.b7) (Bj (Cw (Cr (K:=K) rfl) rfl (J.z.nn J.az) (show zCF _=some (.builtin "len") from rfl) (Bj (pv 0))))) (λ_ _ _=>(Jq 0)) (λ_ _ _=>(Gi (Bg (Cb (U4 J) hr (Ah (Jo K (pv 3) (pv 0)) (Ah (Jo K (pv 4) (pv 0)) (Bb (pv 1) (pv 2)))))))) (λ_ _ _=>(pv 0)))
   (Ab (Ce sc 5 (Jo K (pv 4) Ad))
   (Ab (Bk PassesOwn.never rfl (Go K (pv 4)) (Fj sc 6)
    (Ac (Au (Ak Gx (Cb (I9 J) hr (Ah (Jo K (pv 0) (pv 6)) (Bb (Jo K (pv 1) (pv 6)) (pv 3)))) (Cb (I9 J) hr (Ah (Jo K (pv 0) (pv 5)) (Bb (Jo K (pv 1) (pv 5)) (pv 3)))) (An _))
    (Ac (Ce sc 5 (pv 6)))
    Al)))
   (Ac (Ai (pv 5))))))),?_⟩
 refine Hu λN g=>?_;refine (vE rfl ⟨a,[1],rfl,Dl.of U,?_⟩);refine Fq g [oR a,oR b,oN 0,oN 1,none,none,none] rfl λN g=>?_;refine (vE rfl (x2 a _ (c3 rfl (.inl (Dl.of U)) (vE rfl ⟨by decide,by decide,λL S=>?_⟩))));refine Hg (lo:=0) (n:=1) (λi ys M=>ys=(if i=0 then [] else [V.int 0])/\M L=oL ys/\De H M) ⟨rfl,Aa,Af S _⟩ (λi ys M hi ⟨e,h1,_⟩=>⟨h1,by rw[e];split <;> simp;lia⟩) (by rw[zCE];decide) (λi ys M hi ⟨e,h1,F⟩=>?_) (λys M ⟨e,h1,F⟩=>?_)
 .obtain rfl:i=0:=by lia
  rw[if_pos rfl] at e;subst e;exact (vE rfl (vE rfl (vI rfl rfl (Dl.of (F _ _ U)) rfl (vE rfl (vE rfl (vI rfl rfl (Dl.of (F _ _ Z)) rfl (vE rfl (vE rfl ⟨rfl,vE rfl (Jt (vE rfl ⟨h1,rfl,rfl,Aa,λc o z=>by rw[Ag (Ae z S)];exact F c o z⟩))⟩))))))))
 rw[if_neg (by decide)] at e;subst e;refine Fq g [oR a,oR b,oN 0,oN 1,oR L,none,none] rfl λN g=>?_;refine (vE rfl (vI rfl rfl (Dl.of h1) rfl ?_));refine Fq g [oR a,oR b,oN 0,oN 1,oR L,oN 0,none] rfl λN g=>?_;refine (vE rfl ⟨L,rfl,⟨_,Dl.of h1⟩,?_⟩);refine Cp (K:=K) (a:=L) (xs:=[V.int 0]) (λi σ Y=>(∃ o,σ=[oR a,oR b,oN 0,oN 1,oR L,oN 0,o])/\Y=M) ⟨⟨none,rfl⟩,rfl⟩ (λi σ Y _ hh=>by rw[hh.2];exact Dl.of h1) ?_ ?_
 .rintro i x σ Y hi ⟨⟨o,rfl⟩,rfl⟩
  obtain rfl:x=.int 0:=by
   match i,hi with
   |0,h=>cases h;rfl
   |i+1,h=>simp at h
  subst g;refine Ga [oR a,oR b,oN 0,oN 1,oR L,oN 0,oN 0] rfl ?_;have A:=Dl.of (K:=K) (F _ _ U);have B:=Dl.of (K:=K) (F _ _ Z);exact (vE rfl (vE rfl (x4 a _ _ _ (c5 rfl rfl A rfl (vE rfl (vE rfl (x4 b _ _ _ (c5 rfl rfl B rfl (vE rfl ⟨rfl,vE rfl (vE rfl (x4 a _ _ _ (c5 rfl rfl A rfl (vE rfl (vE rfl (x4 b _ _ _ (c5 rfl rfl B rfl (vE rfl ⟨rfl,vF rfl rfl (vE rfl (dF (by decide) ⟨⟨_,rfl⟩,rfl⟩))⟩))))))))⟩)))))))))
 .rintro σ Y ⟨⟨o,rfl⟩,rfl⟩
  subst g;exact (vE rfl (q _ F))
def IW:Jc J 3 "turns" ["weights"] QJ:=Gb J.z J.qq ["weights","dealt","wheel","turn","place"] df λsc H Q hr h=>by
 obtain⟨a,rfl,ha,q⟩:=h;refine⟨_,(Ab (Au (Bp (Bg (Cb (Vo J) hr (Bj (pv 0)))))
    (Ac Bs)
    Al)
   (Ab (Ef (NC:=["weight"]) (own:=["weight"]) (cs:=[]) (ix:=[]) (j:=1) sc.nd rfl rfl rfl (Dt.of rfl) rfl trivial (Go K (pv 0)) (λ_ _ _=>(Jq 0)) (λ_ _ _=>Bw) (λ_ _ _=>Ad))
   (Ab (Ce sc 2 (Bf Cn))
   (Ab (Bk PassesOwn.never rfl (Er rfl (J.z.nn J.b7) (Bj (Lh (Lg rfl) J.z J.i6 (Bj (pv 0))))) (Fj sc 3)
    (Ab (Ce sc 4 (Cb (Ra J) hr (Ah (pv 0) (Bb (pv 1) (pv 3)))))
   (Ab (B0 (Aj Bd (Jo K (pv 1) (pv 4)) Ad) (KA (pv 1) (pv 4) BP))
   (Ac (Bc (Db (K:=K) rfl PySem.F.plainAttrs_list PySem.F.slot_list_append PySem.F.type_list_append Cm (pv 2) (Bj (pv 4))))))))
   (Ac (Ai (pv 2))))))),?_⟩
 refine Hu λN B=>?_;refine (vE rfl ⟨a,rfl,ha,_,rfl,Cy ?_⟩);refine Nt B λN B=>?_;refine (vE rfl ⟨a,rfl,⟨_,Dl.of ha⟩,λg L=>?_⟩);refine Bi (K:=K) (a:=a) (xs:=Vk) (λi ys M=>ys=(if i=0 then [] else [V.int 0])/\M g=oL ys/\De H M) ⟨rfl,Aa,Af L _⟩ (λi ys M hi ⟨e,h1,S⟩=>⟨h1,by rw[e];split <;> simp;lia,Dl.of (S _ _ ha)⟩) (by rw[zCE];decide) (λi x ys M hi ⟨e,h1,S⟩=>?_) (λys M ⟨e,h1,S⟩=>?_)
 .have il:=(zAl.mp hi).1
  obtain rfl:i=0:=by have:i<1:=il;lia
  rw[if_pos rfl] at e;subst e;exact⟨h1,rfl,rfl,Aa,λc o z=>by rw[Ag (Ae z L)];exact S c o z⟩
 rw[if_neg (by decide)] at e;subst e;refine Fq B [oR a,oR g,none,none,none] rfl λN B=>?_;refine⟨zAu _,λwh F=>?_⟩;have s3:=Af F (.lst []);have h3:upd M wh (.lst []) wh=oL []:=Aa;have ab:g≠wh:=Ae h1 F;generalize upd M wh (.lst [])=H3 at s3 h3;refine Fq B [oR a,oR g,oR wh,none,none] rfl λN B=>?_;have S3:=S.trans s3;refine (vE rfl ⟨a,[1],rfl,Dl.of (S3 _ _ ha),vE rfl ⟨by decide,by decide,?_⟩⟩);refine Ji (lo:=0) (n:=1) (λi σ U=>(∃ o3 o4,σ=[oR a,oR g,oR wh,o3,o4])/\(i=0->U=H3)/\De H U) ⟨⟨none,none,rfl⟩,λ_=>rfl,S3⟩ ?_ ?_
 .rintro i σ U hi ⟨⟨o3,o4,rfl⟩,e4,s4⟩
  obtain rfl:i=0:=by lia
  obtain rfl:=e4 rfl;subst B;refine Ga [oR a,oR g,oR wh,oN 0,o4] rfl ?_;refine (vE rfl (vE rfl (vE rfl ⟨a,g,rfl,(S3 _ _ ha),(s3 _ _ h1),(λH5 s5=>?_)⟩)));subst B;refine Ga [oR a,oR g,oR wh,oN 0,oN 0] rfl ?_;have Y:=s5 _ _ (s3 _ _ h1);refine (vE rfl (vE rfl (vI rfl rfl (Dl.of Y) rfl (vF rfl rfl (vE rfl (vE rfl ⟨g,_,_,0,rfl,rfl,Y,rfl,?_⟩))))));have Z:∀ o,upd H5 g o wh=oL []:=λo=>by rw[Ag ab.symm];exact s5 _ _ h3
  refine (vE rfl ⟨.inl ⟨rfl,_,Dl.of (Z _)⟩,vE rfl ⟨wh,_,_,rfl,rfl,(Z _),(by rw[zCE];decide),⟨_,_,rfl⟩,(λe=>by lia),(λc o z=>?_)⟩⟩);have aa:H g=none:=L;rw[Ag (Ae z (S.free F)),Ag (Ae z aa)];exact s5 _ _ (S3 c o z)
 .rintro σ U ⟨⟨o3,o4,rfl⟩,_,s4⟩
  subst B;exact (vE rfl (q wh U s4))
def QB:Jk J 4 "Deal" Gc ["self","weights"] (MW Gc):=C9 J.z J.jc J.jn ["self","weights"] df λsc H Q hr h=>by
 obtain⟨p,dx,a,rfl,M,F,q⟩:=h;refine⟨_,(Ab (Bh (pv 0) (Cb (IW J) hr (Bj (pv 1))) rfl)
   (Ac (Bh (pv 0) (Cz (Bx (K:=K) rfl) rfl (J.z.nn J.ax) (show zCF _=some (.type "list") from rfl) (Bj (pv 1))) rfl))),?_⟩
 have j:a≠p:=Ar F M (by intro z;cases z);have U:KB p H H:=λ_ _ e _=>e;refine (vE rfl ⟨a,rfl,F,λY H1 L=>?_⟩);refine (vE rfl ⟨p,Gc,dx,[],rfl,L _ _ M,J.jc.cl,J.lh,(by show 0<1000;decide),?_⟩);have S:=(U.same L).upd (.ins Gc dx (Ap "wheel" (.ref Y) []));refine (vE rfl (x2 a _ (c3 rfl (.inl (Dl.of (S _ _ F j))) (λwt g=>?_))));have B:p≠wt:=λz=>by rw[<- z,Aa] at g;cases g
 refine (vE rfl (x4 p Gc dx _ (c6 rfl (by rw[Ag B,Aa]) J.jc.cl J.jr (by show 1<1000;decide) ?_)));exact q _ ((S.same (Af g _)).upd _)
def Rt:Jc J 3 "check_houses" ["houses"] NM:=Gb J.z J.qr ["houses","k","house"] df λsc H Q hr h=>by
 obtain⟨a,nm,rfl,L,hn,F,q⟩:=h;refine⟨_,(Ac (Bk PassesOwn.never rfl (Hv rfl (J.z.nn J.ao) (Bj (pv 0))) (Cu (K:=K) (n:=2) rfl rfl (As (Fj sc 1) (As (Fj sc 2) Cs)))
    (Ac (Au (PW.pt (Eb (Bp (Bg (Cb (Jg J) hr (Bj (pv 2))))) (Dx (Ak Q1 (pv 2) (Ek (Iw (K:=K) rfl) (pv 0) Hl (Eh (pv 1))) rfl))))
    (Ac Bs)
    Al)))),?_⟩
 refine (vE rfl ⟨a,rfl,⟨_,Dl.of L⟩,Ls (K:=K) (a:=a) (xs:=[V.str nm]) (λi σ g=>(∃ S j,σ=[oR a,S,j])/\De H g) ⟨⟨none,none,rfl⟩,λ_ _ z=>z⟩ (λi σ g _ hh=>Dl.of (hh.2 _ _ L)) ?_ ?_⟩)
 .rintro i x σ g t hi ⟨⟨S,j,rfl⟩,B⟩ nt
  have Z:=(zAl.mp hi).1;obtain rfl:i=0:=by have:i<1:=Z;lia
  obtain rfl:x=.str nm:=by cases hi;rfl
  have U:=B.trans (Af nt (.tup [V.int 0,.str nm]));have Y:Gj (.str nm)=true:=hn;refine (vE rfl ⟨_,_,rfl,.str _,(λy e=>by cases e;exact zAz F (by decide)),_,rfl,?_⟩);rw[Y];refine Cy (vE rfl (vE rfl (vE rfl (vE rfl ⟨a,_,rfl,(Dl.of (U _ _ L)),(λm M=>⟨m,[],rfl,.inl (Dl.of Aa),rfl,rfl,vE rfl (Cy ⟨⟨_,_,rfl⟩,U.trans (Af M _)⟩)⟩)⟩))))
 .rintro σ g ⟨⟨S,j,rfl⟩,B⟩
  exact q _ B
end
inductive DB (C:Addr) (vs:List V) (H:Hp) (Q:VK) (E:XK):Prop
 |mk (p dx nm cd c0 cs h0 t hn:_) (wv:Bool) (z0:vs=[.ref p,.str nm,cd,.ref c0,.ref h0,.bl wv]) (z1:H p=oI C dx []) (z2:(Gj (.str nm)=true/\nm.length<=8/\nm ≠ "self")) (z3:H c0=oL cs) (z4:cs.length<=8) (z5:H h0=oL [.ref t]) (z6:H t=oT [.str hn,.int 1]) (z7:(Gj (.str hn)=true/\hn.length<=8)) (z8:∀ H' cl h1 d0 fs,KB p H H'->H' p=oI C d0 fs->fs.lookup ("name" : Str)=some (.str nm)->fs.lookup ("condition" : Str)=some cd->fs.lookup ("clauses" : Str)=some (.ref cl)->fs.lookup ("houses" : Str)=some (.ref h1)->fs.lookup ("waits" : Str)=some (.bl wv)->WT fs->H' cl=oL cs->H cl=none->H' h1=oL [.str hn]->H h1=none->Q .non H')
section
variable {P:Program} {w:World} {K:zAa} {mg:Str->Option Value} {base:Heap}
def Ln:Bz ["self","name","condition","clauses","houses","waits","pairs"] ["self","name","condition","clauses","houses","waits"] (Ao Es):=⟨rfl,rfl,rfl,by ac_nf,rfl,by ac_nf,by ac_nf⟩
seal L2.PS L2.PSs L2.PE L2.PA
def Kv (J:Pm P w K mg base) {f:Addr} (F:XH K "__init__" "Cover.__init__" Es f fd):Lp P w K mg base Ec 6 f fd ["self","name","condition","clauses","houses","waits"] (DB CV):=by
 have sc:=Ln;refine F.ok sc (λvs H Q E h=>?_) (λcdv A outer s H vs Q E hr h=>?_)
 .obtain⟨_,_,_,_,_,_,_,_,_,_,rfl,_⟩:=h
  rfl
 obtain⟨p,dx,L,cd,c0,cs,h0,t,hn,wv,rfl,hp,⟨nx,n8,ns⟩,hc,l8,hh,ht,⟨ap,ao⟩,q⟩:=h;refine⟨_,(Ab (Au (PW.pt (Eb (Bp (Bg (Cb (Jg J) hr (Bj (pv 1))))) (Dx (Ak Bv (pv 1) (M4 (J.z.gs J.gp) rfl) (An _)))))
    (Ac Bs)
    Al)
   (Ab (Bh (pv 0) (pv 1) rfl)
   (Ab (Bh (pv 0) (pv 2) rfl)
   (Ab (Bh (pv 0) (Je (Ak Mi (pv 3) Ep (An _)) (Bf Cn) (Cz (Bx (K:=K) rfl) rfl (J.z.nn J.ax) (show zCF _=some (.type "list") from rfl) (Bj (pv 3)))) rfl)
   (Ab (Au (Ak Ng (Cw (Cr (K:=K) rfl) rfl (J.z.nn J.az) (show zCF _=some (.builtin "len") from rfl) (Bj (Aw (pv 0) rfl))) (Op J.z J.gg) (An _))
    (Ac Bs)
    Al)
   (Ab (Ce sc 6 (Je (Ak Mi (pv 4) Ep (An _)) (Bf (Bj (Ba (Bb (pv 1) Ad)))) (pv 4)))
   (Ab (Bh (pv 0) (Cc (NC:=["pair"]) (own:=["pair"]) (cs:=[]) (ix:=[]) rfl (Dt.of rfl) rfl trivial (Go K (pv 6)) (λ_ _ _=>(Jq 0)) (λ_ _ _=>Bw) (λ_ _ _=>(Da K (pv 0) Ad))) rfl)
   (Ab (Bc (Cb (Rt J) hr (Bj (Aw (pv 0) rfl))))
   (Ab (Bh (pv 0) (Ca (QB J) (hr.mono (by decide)) rfl (Bj (Cc (NC:=["pair"]) (own:=["pair"]) (cs:=[]) (ix:=[]) rfl (Dt.of rfl) rfl trivial (Go K (pv 6)) (λ_ _ _=>(Jq 0)) (λ_ _ _=>Bw) (λ_ _ _=>(Da K (pv 0) Ad))))) rfl)
   (Ac (Bh (pv 0) (pv 5) rfl))))))))))),?_⟩
 refine Hu λN B=>?_;have k0:KB p H H:=λ_ _ e _=>e;have ai:c0≠p:=Ar hc hp (by intro z;cases z);have ae:h0≠p:=Ar hh hp (by intro z;cases z);have nt:t≠p:=Ar ht hp (by intro z;cases z);refine (vE rfl ⟨_,_,rfl,.str L,(λy e=>by cases e;exact zAz n8 (by decide)),_,rfl,?_⟩);rw[nx];refine Cy (vE rfl ⟨rfl,vE rfl (dF (λe=>ns (V.str.inj e)) ?_)⟩);refine Nt B λN B=>?_;refine (vE rfl (vE rfl ⟨p,CV,dx,[],rfl,hp,J.aa.cl,J.am,by decide,?_⟩));refine Nt B λN B=>?_;refine (vE rfl (vE rfl ⟨p,CV,dx,_,rfl,Aa,J.aa.cl,J.cf,zBW (Fe _ _ _) (by decide),?_⟩));have k2:KB p H (upd (upd H p (.ins CV dx (Ap "name" (.str L) []))) p (.ins CV dx (Ap "condition" cd (Ap "name" (.str L) [])))):=KB.upd (KB.upd k0 _) _;have e2:upd (upd H p (.ins CV dx (Ap "name" (.str L) []))) p (.ins CV dx (Ap "condition" cd (Ap "name" (.str L) []))) p=oI CV dx (Ap "condition" cd (Ap "name" (.str L) [])):=Aa;have g2:(Ap "condition" cd (Ap "name" (.str L) [])).length<=2:=zAz (Fe _ _ _) (zBU (Fe _ _ _));have n2:(Ap "condition" cd (Ap "name" (.str L) [])).lookup ("name" : Str)=some (.str L)/\(Ap "condition" cd (Ap "name" (.str L) [])).lookup ("condition" : Str)=some cd:=⟨by rw[f1 (by ac_nf),f0],f0⟩;have a2:WT (Ap "condition" cd (Ap "name" (.str L) [])):=WT.put (WT.put ⟨rfl,rfl,rfl,rfl,rfl⟩ (by ac_nf) (by ac_nf) (by ac_nf) (by ac_nf) (by ac_nf)) (by ac_nf) (by ac_nf) (by ac_nf) (by ac_nf) (by ac_nf)
 generalize Ap "condition" cd (Ap "name" (.str L) [])=j at k2 e2 g2 n2 a2;generalize upd (upd H p (.ins CV dx (Ap "name" (.str L) []))) p (.ins CV dx j)=H2 at k2 e2;refine Nt B λN B=>?_;refine (vE rfl ⟨rfl,vE rfl (dF (λe=>by cases e) (vE rfl ⟨c0,_,rfl,.inl (Dl.of (k2 _ _ hc ai)),λcl ac=>?_⟩))⟩);have s3:=Af ac (.lst cs);have S:cl≠p:=(Ae e2 ac).symm;have am:H cl=none:=k2.free S ac;refine (vE rfl ⟨p,CV,dx,j,rfl,s3 _ _ e2,J.aa.cl,J.ah,by lia,?_⟩);have k3:=(k2.same s3).upd (.ins CV dx (Ap "clauses" (.ref cl) j));have e3:upd (upd H2 cl (.lst cs)) p (.ins CV dx (Ap "clauses" (.ref cl) j)) p=oI CV dx (Ap "clauses" (.ref cl) j):=Aa;have c3:upd (upd H2 cl (.lst cs)) p (.ins CV dx (Ap "clauses" (.ref cl) j)) cl=oL cs:=by rw[Ag S,Aa]
 have g3:(Ap "clauses" (.ref cl) j).length<=3:=zAz (Fe _ _ _) (by lia);have n3:(Ap "clauses" (.ref cl) j).lookup ("name" : Str)=some (.str L)/\(Ap "clauses" (.ref cl) j).lookup ("condition" : Str)=some cd/\(Ap "clauses" (.ref cl) j).lookup ("clauses" : Str)=some (.ref cl):=⟨by rw[f1 (by ac_nf)];exact n2.1,by rw[f1 (by ac_nf)];exact n2.2,f0⟩;have a3:WT (Ap "clauses" (.ref cl) j):=a2.put (by ac_nf) (by ac_nf) (by ac_nf) (by ac_nf) (by ac_nf);generalize Ap "clauses" (.ref cl) j=g at k3 e3 c3 g3 n3 a3;generalize upd (upd H2 cl (.lst cs)) p (.ins CV dx g)=H3 at k3 e3 c3;refine Nt B λN B=>?_;refine (vE rfl ⟨p,CV,dx,g,_,rfl,e3,J.aa.cl,J.ah,n3.2.2,cl,_,rfl,.inl (Dl.of c3),vF rfl rfl (vE rfl (dF (by lia) ?_))⟩);refine Nt B λN B=>?_;refine (vE rfl ⟨rfl,vE rfl (dF (λe=>by cases e) (vE rfl ?_))⟩);refine Fq B [oR p,oS L,some cd,oR c0,oR h0,some (.bl wv),oR h0] rfl λN B=>?_;have ah:=k3 _ _ hh ae;have ak:=k3 _ _ ht nt;have ab:∀ {i:Nat} {x:V},[V.ref t][i]?=some x->i=0/\x=.ref t:=λ{i x} h=>by
  match i,h with
  |0,h=>cases h;exact⟨rfl,rfl⟩
  |i+1,h=>simp at h
 refine (vE rfl ⟨h0,rfl,⟨_,Dl.of ah⟩,λh1 nh=>?_⟩);refine Bi (K:=K) (a:=h0) (xs:=[V.ref t]) (λi zs Z=>zs=(if i=0 then [] else [V.str hn])/\Z h1=oL zs/\De H3 Z) ⟨rfl,Aa,Af nh _⟩ (λi zs Z hi ⟨e,U,s5⟩=>⟨U,by rw[e];split <;> simp;lia,Dl.of (s5 _ _ ah)⟩) (by rw[zCE];show 1<=16777216;decide) (λi x zs Z hi ⟨e,U,s5⟩=>?_) (λzs Z ⟨e,U,s5⟩=>?_)
 .obtain⟨rfl,rfl⟩:=ab hi
  rw[if_pos rfl] at e;subst e;exact (vE rfl (vI rfl rfl (Jy.of (s5 _ _ ak)) rfl ⟨U,rfl,rfl,Aa,λb o z=>by rw[Ag (Ae z nh)];exact s5 b o z⟩))
 rw[if_neg (by show ¬ 1=0;decide)] at e;subst e;have e5:=s5 _ _ e3;have aa:h1≠p:=(Ae e3 nh).symm;have an:H h1=none:=k3.free aa nh;refine (vE rfl ⟨p,CV,dx,g,rfl,e5,J.aa.cl,J.f9,by lia,?_⟩);have k6:=(k3.same s5).upd (.ins CV dx (Ap "houses" (.ref h1) g));have e6:upd Z p (.ins CV dx (Ap "houses" (.ref h1) g)) p=oI CV dx (Ap "houses" (.ref h1) g):=Aa;have h6:upd Z p (.ins CV dx (Ap "houses" (.ref h1) g)) h1=oL [.str hn]:=by rw[Ag aa];exact U
 have c6:upd Z p (.ins CV dx (Ap "houses" (.ref h1) g)) cl=oL cs:=by rw[Ag S];exact s5 _ _ c3
 have g6:(Ap "houses" (.ref h1) g).length<=4:=zAz (Fe _ _ _) (by lia);have n6:(Ap "houses" (.ref h1) g).lookup ("name" : Str)=some (.str L)/\(Ap "houses" (.ref h1) g).lookup ("condition" : Str)=some cd/\(Ap "houses" (.ref h1) g).lookup ("clauses" : Str)=some (.ref cl)/\(Ap "houses" (.ref h1) g).lookup ("houses" : Str)=some (.ref h1):=⟨by rw[f1 (by ac_nf)];exact n3.1,by rw[f1 (by ac_nf)];exact n3.2.1,by rw[f1 (by ac_nf)];exact n3.2.2,f0⟩;have a6:WT (Ap "houses" (.ref h1) g):=a3.put (by ac_nf) (by ac_nf) (by ac_nf) (by ac_nf) (by ac_nf);generalize Ap "houses" (.ref h1) g=M at e6 h6 c6 k6 g6 n6 a6;generalize upd Z p (.ins CV dx M)=H6 at e6 h6 c6 k6;refine Nt B λN B=>?_;refine (vE rfl ⟨p,CV,dx,M,_,rfl,e6,J.aa.cl,J.f9,n6.2.2.2,h1,hn,rfl,h6,ap,ao,λH7 s7=>?_⟩);have k7:=k6.same s7;have ad:=k7 _ _ hh ae;have al:=k7 _ _ ht nt;refine Nt B λN B=>?_;refine (vE rfl ⟨h0,rfl,⟨_,Dl.of ad⟩,λwl ag=>?_⟩);refine Bi (K:=K) (a:=h0) (xs:=[V.ref t]) (λi zs H8=>zs=(if i=0 then [] else Vk)/\H8 wl=oL zs/\De H7 H8) ⟨rfl,Aa,Af ag _⟩ (λi zs H8 hi ⟨e,h2,s8⟩=>⟨h2,by rw[e];split <;> simp [Vk];lia,Dl.of (s8 _ _ ad)⟩) (by rw[zCE];show 1<=16777216;decide) (λi x zs H8 hi ⟨e,h2,s8⟩=>?_) (λzs H8 ⟨e,h2,s8⟩=>?_)
 .obtain⟨rfl,rfl⟩:=ab hi
  rw[if_pos rfl] at e;subst e;exact (vE rfl (vI rfl rfl (Jy.of (s8 _ _ al)) rfl ⟨h2,rfl,rfl,Aa,λb o z=>by rw[Ag (Ae z ag)];exact s8 b o z⟩))
 rw[if_neg (by show ¬ 1=0;decide)] at e;subst e;intro d dd nd af aq;have s9:De H8 (upd (upd H8 dd (.own d)) d (.ins Gc dd [])):=(Af af _).trans (Af (by rw[Ag (Ne.symm aq)];exact nd) _);refine⟨d,dd,wl,rfl,Aa,s9 _ _ h2,λH9 aj=>⟨rfl,?_⟩⟩;have Y:De H6 H9:=s7.trans (s8.trans (Ft nd af aj));refine (vE rfl ⟨p,CV,dx,M,rfl,Y _ _ e6,J.aa.cl,J.m5,by lia,?_⟩);have ar:(Ap "deal" (.ref d) M).length<=5:=zAz (Fe _ _ _) (by lia);subst B;refine (vE rfl (vE rfl ⟨p,CV,dx,_,rfl,Aa,J.aa.cl,J.c7,by lia,?_⟩));have lk:∀ {f:Str} {v:V},M.lookup f=some v->¬ f="deal"->¬ f="waits"->(Ap "waits" (.bl wv) (Ap "deal" (.ref d) M)).lookup f=some v:=λh n1 n2=>by rw[f1 n2,f1 n1];exact h
 refine q _ cl h1 dx _ (((k6.same Y).upd _).upd _) Aa (lk n6.1 (by ac_nf) (by ac_nf)) (lk n6.2.1 (by ac_nf) (by ac_nf)) (lk n6.2.2.1 (by ac_nf) (by ac_nf)) (lk n6.2.2.2 (by ac_nf) (by ac_nf)) f0 (WT.put (a6.put (by ac_nf) (by ac_nf) (by ac_nf) (by ac_nf) (by ac_nf)) (by ac_nf) (by ac_nf) (by ac_nf) (by ac_nf) (by ac_nf)) ?_ am ?_ an
 .rw[Ag S,Ag S];exact Y _ _ c6
 .rw[Ag aa,Ag aa];exact Y _ _ h6
def IY (J:Pm P w K mg base):Jk J 6 "Cover" CV ["self","name","condition","clauses","houses","waits"] (DB CV):=by
 refine VI J.z J.aa J.sg (λf fd F=>Kv J F) λ_ _ _ _ _ _ _ _ g s j X hl=>?_;rw[zAL] at hl ⊢
 match j,hl with|[_,_,_,_,_,_],_=>exact BindsTo.of_defaults rfl (X _ _ g) rfl rfl rfl
end
def VC (fs:List (Str×V)):Prop:=fs.lookup ("spans" : Str)=none/\fs.lookup ("window" : Str)=none/\fs.lookup ("parts" : Str)=none/\fs.lookup ("rest" : Str)=none
def XC (C:Addr) (H:Hp) (p cl:Addr):Prop:=∃ dx fs,H p=oI C dx fs/\fs.lookup ("clauses" : Str)=some (.ref cl)/\VC fs
def XC.same {C:Addr} {H H':Hp} {p cl:Addr} (h:XC C H p cl) (s:De H H'):XC C H' p cl:=by
 obtain⟨dx,fs,e,r⟩:=h;exact⟨dx,fs,s _ _ e,r⟩
def Vm {α:Type} {l:List α} {i:Nat} {x:α} (h:l[i]?=some x):l.drop i=x::l.drop (i+1):=by
 rw[zBC (zAl.mp h).1]
 congr 1
 exact (zAl.mp h).2
inductive F2 (C:Addr) (f:Str) (vs:List V) (H:Hp) (Q:VK) (E:XK):Prop
 |mk (p dx v:_) (z0:vs=[.ref p,v]) (z1:H p=oI C dx []) (z2:Q .non (upd H p (.ins C dx (Ap f v []))))
inductive OU (C:Addr) (vs:List V) (H:Hp) (Q:VK) (E:XK):Prop
 |mk (p dx v w:_) (z0:vs=[.ref p,v,w]) (z1:H p=oI C dx []) (z2:∀ H',(∀ b,b≠p->H' b=H b)->H' p=oI C dx (Ap "last" w (Ap "first" v []))->Q .non H')
inductive HS (C:Addr) (vs:List V) (H:Hp) (Q:VK) (E:XK):Prop
 |mk (p dx a xs:_) (z0:vs=[.ref p,.ref a]) (z1:H p=oI C dx []) (z2:H a=oL xs) (z3:∀ l H',H l=none->(∀ b,b≠p->b≠l->H' b=H b)->H' p=oI C dx (Ap "several" (.ref l) [])->H' l=oL xs->Q .non H')
inductive Dc (m:Nat) (C:Addr) (vs:List V) (H:Hp) (Q:VK) (E:XK):Prop
 |mk (p t l x:_) (z0:vs=[.ref p,.ref l]) (z1:VN κ H (.ref p) t) (z2:κ.of t=C) (z3:Ob t<m) (z4:OV H l x) (z5:Q (.bl (hT t x)) H)
section
variable {P:Program} {w:World} {K:zAa} {mg:Str->Option Value} {base:Heap} (J:Pm P w K mg base)
def HE:κ.l.Nodup:=by decide
def Fc {C:Addr} {vs:List V} {Q:VK} {E:XK} (h:Dc 0 C vs H Q E):False:=by
 obtain⟨_,_,_,_,_,_,_,h,_⟩:=h;exact absurd h (zBE _)
def X0:Jk J 1 "CauseIs" Dp ["self","name"] (F2 Dp "name"):=C9 J.z J.bv J.j9 ["self","name"] df λsc H Q hr h=>by
 obtain⟨p,dx,n,rfl,g,q⟩:=h;refine⟨_,(Ac (Bh (pv 0) (pv 1) rfl)),?_⟩;exact (vE rfl (vE rfl ⟨p,_,dx,_,rfl,g,J.bv.cl,J.dg,(by show 0<1000;decide),q⟩))
def Y0:Jk J 1 "ThingIs" Do ["self","name"] (F2 Do "name"):=C9 J.z J.bw J.ja ["self","name"] df λsc H Q hr h=>by
 obtain⟨p,dx,n,rfl,g,q⟩:=h;refine⟨_,(Ac (Bh (pv 0) (pv 1) rfl)),?_⟩;exact (vE rfl (vE rfl ⟨p,_,dx,_,rfl,g,J.bw.cl,J.dh,(by show 0<1000;decide),q⟩))
def OE:Jk J 1 "Over" Hw ["self","cents"] (F2 Hw "cents"):=C9 J.z J.dq J.jl ["self","cents"] df λsc H Q hr h=>by
 obtain⟨p,dx,n,rfl,g,q⟩:=h;refine⟨_,(Ac (Bh (pv 0) (pv 1) rfl)),?_⟩;exact (vE rfl (vE rfl ⟨p,_,dx,_,rfl,g,J.dq.cl,J.gk,(by show 0<1000;decide),q⟩))
def RJ:Jk J 1 "Not" Lz ["self","part"] (F2 Lz "part"):=C9 J.z J.gu J.jw ["self","part"] df λsc H Q hr h=>by
 obtain⟨p,dx,n,rfl,g,q⟩:=h;refine⟨_,(Ac (Bh (pv 0) (pv 1) rfl)),?_⟩;exact (vE rfl (vE rfl ⟨p,_,dx,_,rfl,g,J.gu.cl,J.iy,(by show 0<1000;decide),q⟩))
def EY:Jk J 1 "DaysIn" Dv ["self","first","last"] (OU Dv):=C9 J.z J.bf J.jf ["self","first","last"] df λsc H Q hr h=>by
 obtain⟨p,dx,a,b,rfl,g,q⟩:=h;refine⟨_,(Ab (Bh (pv 0) (pv 1) rfl)
   (Ac (Bh (pv 0) (pv 2) rfl))),?_⟩
 refine (vE rfl (vE rfl ⟨p,_,dx,_,rfl,g,J.bf.cl,J.dk,(by show 0<1000;decide),?_⟩));exact (vE rfl (vE rfl ⟨p,_,dx,_,rfl,Aa,J.bf.cl,J.fm,(by show 1<1000;decide),q _ (λb n=>by rw[Ag n,Ag n]) Aa⟩))
def SV:Jk J 1 "All" Kb ["self","several"] (HS Kb):=C9 J.z J.gx J.jx ["self","several"] df λsc H Q hr h=>by
 obtain⟨p,dx,a,xs,rfl,j,z,q⟩:=h;refine⟨_,(Ac (Bh (pv 0) (Cz (Bx (K:=K) rfl) rfl (J.z.nn J.ax) (show zCF _=some (.type "list") from rfl) (Bj (pv 1))) rfl)),?_⟩;refine (vE rfl ⟨a,_,rfl,.inl (Dl.of z),λl hl=>?_⟩);have g:p≠l:=Ae j hl;exact (vE rfl ⟨p,_,dx,_,rfl,(by rw[Ag g];exact j),J.gx.cl,J.ft,(by show 0<1000;decide),q l _ hl (λb n1 n2=>by rw[Ag n1,Ag n2]) Aa (by rw[Ag g.symm,Aa])⟩)
def OB:Jk J 1 "Some" Gr ["self","several"] (HS Gr):=C9 J.z J.dt J.jm ["self","several"] df λsc H Q hr h=>by
 obtain⟨p,dx,a,xs,rfl,j,z,q⟩:=h;refine⟨_,(Ac (Bh (pv 0) (Cz (Bx (K:=K) rfl) rfl (J.z.nn J.ax) (show zCF _=some (.type "list") from rfl) (Bj (pv 1))) rfl)),?_⟩;refine (vE rfl ⟨a,_,rfl,.inl (Dl.of z),λl hl=>?_⟩);have g:p≠l:=Ae j hl;exact (vE rfl ⟨p,_,dx,_,rfl,(by rw[Ag g];exact j),J.dt.cl,J.dz,(by show 0<1000;decide),q l _ hl (λb n1 n2=>by rw[Ag n1,Ag n2]) Aa (by rw[Ag g.symm,Aa])⟩)
def Kh (J:Pm P w K mg base) {f:Addr} (F:WC K "holds" "Condition.holds" Gg f fd) {m:Nat}:Lp P w K mg base Ec 1 f fd ["self","loss"] (Dc m Dj):=Kt F ["self","loss"] df λsc H Q hr h=>by
 obtain⟨p,t,l,x,rfl,j,g,z,hl,q⟩:=h;obtain rfl:=VH HE g;unfold hT at q;exact⟨_,(Ac (Ai Dd)),q⟩
def Mv (J:Pm P w K mg base) {f:Addr} (F:WC K "holds" "CauseIs.holds" Ic f fd) {m:Nat}:Lp P w K mg base Ec 1 f fd ["self","loss"] (Dc m Dp):=Kt F ["self","loss"] df λsc H Q hr h=>by
 obtain⟨p,t,l,x,rfl,g,z,M,⟨L,n,B⟩,q⟩:=h;obtain⟨j,rfl⟩:=VG HE z;unfold hT at q;unfold VN at g;obtain⟨_,dx,e,g⟩:=g;cases e;refine⟨_,(Ac (Ai (Ez Bv (Da K (pv 1) (Op J.z J.kh)) (Aw (pv 0) rfl) (An _)))),?_⟩;exact (vE rfl (vI rfl rfl (Jy.of B) rfl (vE rfl ⟨p,_,dx,_,_,rfl,g,J.bv.cl,J.dg,Y5 j,rfl,q⟩)))
def Me (J:Pm P w K mg base) {f:Addr} (F:WC K "holds" "ThingIs.holds" Hx f fd) {m:Nat}:Lp P w K mg base Ec 1 f fd ["self","loss"] (Dc m Do):=Kt F ["self","loss"] df λsc H Q hr h=>by
 obtain⟨p,t,l,x,rfl,g,z,M,⟨L,n,B⟩,q⟩:=h;obtain⟨j,rfl⟩:=UQ HE z;unfold hT at q;unfold VN at g;obtain⟨_,dx,e,g⟩:=g;cases e;refine⟨_,(Ac (Ai (Ez Bv (Da K (pv 1) (Op J.z J.j5)) (Aw (pv 0) rfl) (An _)))),?_⟩;exact (vE rfl (vI rfl rfl (Jy.of B) rfl (vE rfl ⟨p,_,dx,_,_,rfl,g,J.bw.cl,J.dh,CF j,rfl,q⟩)))
def Oe (J:Pm P w K mg base) {f:Addr} (F:WC K "holds" "DaysIn.holds" Im f fd) {m:Nat}:Lp P w K mg base Ec 1 f fd ["self","loss"] (Dc m Dv):=Kt F ["self","loss"] df λsc H Q hr h=>by
 obtain⟨p,t,l,x,rfl,g,z,M,⟨L,n,B⟩,q⟩:=h;obtain⟨a,b,rfl⟩:=VA HE z;unfold hT at q;unfold VN at g;obtain⟨_,dx,e,g⟩:=g;cases e;refine⟨_,(Ac (Ai (Iq Gk Gk (Aw (pv 0) rfl) (Da K (pv 1) (Op J.z J.ju)) (Aw (pv 0) rfl)))),?_⟩;have j:Q (.bl (decide (a<=x.d)&&decide (x.d<=b))) H:=q;refine (vE rfl ⟨p,_,dx,_,_,rfl,g,J.bf.cl,J.dk,AY a b,_,rfl,vI rfl rfl (Jy.of B) rfl (vF rfl rfl (vE rfl (Qh (λe=>?_) (λe=>?_))))⟩)
 .rw[e,Bool.true_and] at j
  exact (vE rfl ⟨p,_,dx,_,_,rfl,g,J.bf.cl,J.fm,FF a b,_,_,rfl,rfl,j⟩)
 .rw[zBs.mpr e,zCr] at j
  exact j
def Rf (J:Pm P w K mg base) {f:Addr} (F:WC K "holds" "Over.holds" Lk f fd) {m:Nat}:Lp P w K mg base Ec 1 f fd ["self","loss"] (Dc m Hw):=Kt F ["self","loss"] df λsc H Q hr h=>by
 obtain⟨p,t,l,x,rfl,g,j,L,⟨B,n,z⟩,q⟩:=h;obtain⟨c,rfl⟩:=DF HE j;unfold hT at q;unfold VN at g;obtain⟨_,dx,e,g⟩:=g;cases e;refine⟨_,(Ac (Ai (Ez Ng (Da K (pv 1) (Op J.z J.gc)) (Aw (pv 0) rfl) (An _)))),?_⟩;exact (vE rfl (vI rfl rfl (Jy.of z) rfl (vE rfl ⟨p,_,dx,_,_,rfl,g,J.dq.cl,J.gk,AW c,_,_,rfl,rfl,q⟩)))
def Vx (J:Pm P w K mg base) {f:Addr} (F:WC K "holds" "Not.holds" Nq f fd) {m:Nat} (Mholds:Q4 P w K mg base m (A8.Fam κ) "holds" ["self","loss"] (Dc m)):Lp P w K mg base Ec (m+1) f fd ["self","loss"] (Dc (m+1) Lz):=Kt F ["self","loss"] df λsc H Q hr h=>by
 obtain⟨p,t,l,x,rfl,g,L,M,hl,q⟩:=h;obtain⟨u,rfl⟩:=UU HE L;unfold hT at q;unfold Ob at M;unfold VN at g;obtain⟨_,dx,v,e,g,z⟩:=g;cases e;obtain⟨j,S,B,rfl,U,n1,_⟩:=z.obj;refine⟨_,(Ac (Ai (A1 (Fb Mholds (hr.mono (by lia)) (Aw (pv 0) rfl) (Bj (pv 1)))))),?_⟩;refine (vE rfl ⟨p,_,dx,_,_,rfl,g,J.gu.cl,J.iy,A3 _ _,j,_,S,B,rfl,U,A8.fam _ u,n1,_,rfl,j,u,l,x,rfl,z,rfl,by lia,hl,?_⟩);exact (vE rfl q)
def Uv (J:Pm P w K mg base) {f:Addr} (F:WC K "holds" "All.holds" Ni f fd) {m:Nat} (Mholds:Q4 P w K mg base m (A8.Fam κ) "holds" ["self","loss"] (Dc m)):Lp P w K mg base Ec (m+1) f fd ["self","loss"] (Dc (m+1) Kb):=Kt F ["self","loss","part"] df λsc H Q hr h=>by
 obtain⟨p,t,l,x,rfl,j,hc,hg,hl,q⟩:=h;obtain⟨Y,rfl⟩:=UW HE hc;unfold hT at q;unfold Ob at hg;unfold VN at j;obtain⟨_,dx,a,vs,e,j,U,M⟩:=j;cases e;refine⟨_,(Ab (Bk PassesOwn.never rfl (Go K (Aw (pv 0) rfl)) (Fj sc 2)
    (Ac (Au (Bp (Bg (Fb Mholds (hr.mono (by lia)) (pv 2) (Bj (pv 1)))))
    (Ac (Ai Dd))
    Al)))
   (Ac (Ai Dd))),?_⟩
 have g:=M.len;refine (vE rfl ⟨p,_,dx,_,_,rfl,j,J.gx.cl,J.ft,A3 _ _,a,rfl,⟨_,Dl.of U⟩,?_⟩);refine Cp (K:=K) (a:=a) (xs:=vs) (λi σ z=>(∃ o,σ=[oR p,oR l,o])/\z=H/\hAll Y x=hAll (Y.drop i) x) ⟨⟨none,rfl⟩,rfl,rfl⟩ (λi σ z _ ⟨_,e,_⟩=>by rw[e];exact Dl.of U) ?_ ?_
 .rintro i v σ z hi ⟨⟨o,rfl⟩,rfl,e⟩
  obtain⟨u,S,Z⟩:=M.get hi;rw[Q2 S] at e;obtain⟨L,du,fu,rfl,ob,n1,_⟩:=Z.obj;refine (vE rfl ⟨L,_,du,fu,rfl,ob,A8.fam _ u,n1,_,rfl,L,u,l,x,rfl,Z,rfl,Oh (by lia) i S,hl,?_⟩);cases B:hT u x with
  |true=>
   rw[B,Bool.true_and] at e;exact (vE rfl (Cy ⟨⟨_,rfl⟩,rfl,e⟩))
  |false=>
   rw[B,zCr] at e;rw[e] at q;exact (vE rfl (Jt q))
 .rintro σ z ⟨⟨o,rfl⟩,rfl,e⟩
  rw[g,zBJ] at e;rw[e] at q;unfold hAll at q;exact q
def Rp (J:Pm P w K mg base) {f:Addr} (F:WC K "holds" "Some.holds" Ld f fd) {m:Nat} (Mholds:Q4 P w K mg base m (A8.Fam κ) "holds" ["self","loss"] (Dc m)):Lp P w K mg base Ec (m+1) f fd ["self","loss"] (Dc (m+1) Gr):=Kt F ["self","loss","part"] df λsc H Q hr h=>by
 obtain⟨p,t,l,x,rfl,j,hc,hg,hl,q⟩:=h;obtain⟨Y,rfl⟩:=VE HE hc;unfold hT at q;unfold Ob at hg;unfold VN at j;obtain⟨_,dx,a,vs,e,j,U,M⟩:=j;cases e;refine⟨_,(Ab (Bk PassesOwn.never rfl (Go K (Aw (pv 0) rfl)) (Fj sc 2)
    (Ac (Au (Bg (Fb Mholds (hr.mono (by lia)) (pv 2) (Bj (pv 1))))
    (Ac (Ai Dd))
    Al)))
   (Ac (Ai Dd))),?_⟩
 have g:=M.len;refine (vE rfl ⟨p,_,dx,_,_,rfl,j,J.dt.cl,J.dz,A3 _ _,a,rfl,⟨_,Dl.of U⟩,?_⟩);refine Cp (K:=K) (a:=a) (xs:=vs) (λi σ z=>(∃ o,σ=[oR p,oR l,o])/\z=H/\hSom Y x=hSom (Y.drop i) x) ⟨⟨none,rfl⟩,rfl,rfl⟩ (λi σ z _ ⟨_,e,_⟩=>by rw[e];exact Dl.of U) ?_ ?_
 .rintro i v σ z hi ⟨⟨o,rfl⟩,rfl,e⟩
  obtain⟨u,S,Z⟩:=M.get hi;rw[O8 S] at e;obtain⟨L,du,fu,rfl,ob,n1,_⟩:=Z.obj;refine (vE rfl ⟨L,_,du,fu,rfl,ob,A8.fam _ u,n1,_,rfl,L,u,l,x,rfl,Z,rfl,Oh (by lia) i S,hl,?_⟩);cases B:hT u x with
  |false=>
   rw[B,Bool.false_or] at e;exact (vE rfl (Cy ⟨⟨_,rfl⟩,rfl,e⟩))
  |true=>
   rw[B,Bool.true_or] at e;rw[e] at q;exact (vE rfl (Jt q))
 .rintro σ z ⟨⟨o,rfl⟩,rfl,e⟩
  rw[g,zBJ] at e;rw[e] at q;unfold hSom at q;exact q
def Mholds:∀ m,Jf J m (A8.Fam κ) "holds" ["self","loss"] (Dc m):=by
  intro m
  induction m with
  |zero=>
   refine⟨λC j=>?_⟩;rcases j with rfl|rfl|rfl|rfl|rfl|rfl|rfl|rfl
   .exact Jr J.z J.cm J.bp.cl bd λf fd F=>FY λ_ _ _ _=>Fc
   .exact Jr J.z J.cz J.bv.cl bd λf fd F=>FY λ_ _ _ _=>Fc
   .exact Jr J.z J.da J.bw.cl bd λf fd F=>FY λ_ _ _ _=>Fc
   .exact Jr J.z J.fh J.bf.cl bd λf fd F=>FY λ_ _ _ _=>Fc
   .exact Jr J.z J.i7 J.dq.cl bd λf fd F=>FY λ_ _ _ _=>Fc
   .exact Jr J.z J.ir J.gu.cl bd λf fd F=>FY λ_ _ _ _=>Fc
   .exact Jr J.z J.iu J.gx.cl bd λf fd F=>FY λ_ _ _ _=>Fc
   .exact Jr J.z J.i8 J.dt.cl bd λf fd F=>FY λ_ _ _ _=>Fc
  |succ m ih=>
   refine⟨λC j=>?_⟩;have g:1<=m+1:=zBU (zAu _);rcases j with rfl|rfl|rfl|rfl|rfl|rfl|rfl|rfl
   .exact Jr J.z J.cm J.bp.cl bd λf fd F=>(Kh J F).mono g
   .exact Jr J.z J.cz J.bv.cl bd λf fd F=>(Mv J F).mono g
   .exact Jr J.z J.da J.bw.cl bd λf fd F=>(Me J F).mono g
   .exact Jr J.z J.fh J.bf.cl bd λf fd F=>(Oe J F).mono g
   .exact Jr J.z J.i7 J.dq.cl bd λf fd F=>(Rf J F).mono g
   .exact Jr J.z J.ir J.gu.cl bd λf fd F=>Vx J F ih
   .exact Jr J.z J.iu J.gx.cl bd λf fd F=>Uv J F ih
   .exact Jr J.z J.i8 J.dt.cl bd λf fd F=>Rp J F ih
end
inductive Cl where
 |own (y:Str) (d:Int)|lay (y:Str) (a b:Int)|lim (y:Str) (m:Int)|any (y:Str)
def Cl.way:Cl->Str
 |.own y _=>y
 |.lay y _ _=>y
 |.lim y _=>y
 |.any y=>y
def Gd:Cl->List (Str×V)
 |.own y d=>Ap "cents" (.int d) (Ap "by" (.str y) [])
 |.lay y a b=>Ap "upto" (.int b) (Ap "first" (.int a) (Ap "by" (.str y) []))
 |.lim y m=>Ap "most" (.int m) (Ap "by" (.str y) [])
 |.any y=>Ap "by" (.str y) []
def Pg (y:Str):Prop:=y="event" \/ y="thing" \/ y="year" \/ y="loss"
def PV (d:Int):Prop:=0<=d/\d<=999999999999
def Gs:Cl->Addr
 |.own _ _=>CO
 |.lay _ _ _=>CL
 |.lim _ _=>CM
 |.any _=>CC
def WK (H:Hp) (p:Addr) (c:Cl):Prop:=∃ dx,H p=oI (Gs c) dx (Gd c)
def Fam (C:Addr):Prop:=C=CC\/C=CO\/C=CL\/C=CM
def WK.same {H H':Hp} {p:Addr} {c:Cl} (h:WK H p c) (s:De H H'):WK H' p c:=by
 obtain⟨dx,e⟩:=h;exact⟨dx,s _ _ e⟩
def Vf (c:Cl):Fam (Gs c):=by
 cases c with
 |own _ _=>exact .inr (.inl rfl)
 |lay _ _ _=>exact .inr (.inr (.inl rfl))
 |lim _ _=>exact .inr (.inr (.inr rfl))
 |any _=>exact .inl rfl
def HW {y:Str} (h:Pg y):QW (.str y) [.str "event",.str "thing",.str "year",.str "loss"]=true:=by
 rcases h with rfl|rfl|rfl|rfl <;> decide +kernel
def RN:¬ (("by" : Str)="cents"):=by ac_nf
def TC:¬ (("by" : Str)="upto"):=by ac_nf
def TR:¬ (("by" : Str)="first"):=by ac_nf
def TF:¬ (("by" : Str)="most"):=by ac_nf
def TJ:¬ (("first" : Str)="upto"):=by ac_nf
def AM (c:Cl):(Gd c).lookup ("by" : Str)=some (.str c.way):=by
 cases c with
 |own y d=>unfold Gd;rw[Am,if_neg RN,Am,if_pos rfl];rfl
 |lay y a b=>unfold Gd;rw[Am,if_neg TC,Am,if_neg TR,Am,if_pos rfl];rfl
 |lim y m=>unfold Gd;rw[Am,if_neg TF,Am,if_pos rfl];rfl
 |any y=>unfold Gd;rw[Am,if_pos rfl];rfl
def Y4 (y:Str) (d:Int):(Gd (.own y d)).lookup ("cents" : Str)=some (.int d):=by unfold Gd;rw[Am,if_pos rfl]
def FV (y:Str) (a b:Int):(Gd (.lay y a b)).lookup ("upto" : Str)=some (.int b):=by unfold Gd;rw[Am,if_pos rfl]
def Z5 (y:Str) (a b:Int):(Gd (.lay y a b)).lookup ("first" : Str)=some (.int a):=by unfold Gd;rw[Am,if_neg TJ,Am,if_pos rfl]
def EQ (y:Str) (m:Int):(Gd (.lim y m)).lookup ("most" : Str)=some (.int m):=by unfold Gd;rw[Am,if_pos rfl]
def CA (c:Cl) {m:Str} (h1:¬ m="by") (j:¬ m="cents") (q:¬ m="first") (g:¬ m="upto") (z:¬ m="most"):(Gd c).lookup m=none:=by
 cases c with
 |own y d=>unfold Gd;rw[Am,if_neg j,Am,if_neg h1];rfl
 |lay y a b=>unfold Gd;rw[Am,if_neg g,Am,if_neg q,Am,if_neg h1];rfl
 |lim y n=>unfold Gd;rw[Am,if_neg z,Am,if_neg h1];rfl
 |any y=>unfold Gd;rw[Am,if_neg h1];rfl
def GB (c:Cl):(Gd c).lookup ("span" : Str)=none:=CA c (by ac_nf) (by ac_nf) (by ac_nf) (by ac_nf) (by ac_nf)
def DM (c:Cl):(Gd c).lookup ("room" : Str)=none:=CA c (by ac_nf) (by ac_nf) (by ac_nf) (by ac_nf) (by ac_nf)
def A0 (b n k:Int):Int:=CR.minI (CR.maxI (b-n) 0) k
def NL:Cl->Int->Int->Int
 |.own _ d,n,k=>A0 d n k
 |.lay _ a _,n,k=>A0 a n k
 |_,_,_=>0
def OI:Cl->Int->Int->Int
 |.lay _ _ b,n,k=>A0 b n k
 |_,_,k=>k
def Py:Cl->Int->V
 |.lim _ m,n=>.int (CR.maxI (m-n) 0)
 |_,_=>.non
inductive PQ (vs:List V) (H:Hp) (Q:VK) (E:XK):Prop
 |mk (n:Int) (z0:vs=[.int n]) (z1:PV n) (z2:Q (.int n) H)
inductive JO (vs:List V) (H:Hp) (Q:VK) (E:XK):Prop
 |mk (b n k:Int) (z0:vs=[.int b,.int n,.int k]) (z1:Q (.int (A0 b n k)) H)
inductive QR (vs:List V) (H:Hp) (Q:VK) (E:XK):Prop
 |mk (p C dx fs y:_) (z0:vs=[.ref p,.str y]) (z1:H p=oI C dx fs) (z2:Fam C) (z3:fs.length<1000) (z4:Pg y) (z5:Q .non (upd H p (.ins C dx (Ap "by" (.str y) fs))))
inductive MQ (vs:List V) (H:Hp) (Q:VK) (E:XK):Prop
 |mk (p dx y:_) (d:Int) (z0:vs=[.ref p,.str y,.int d]) (z1:H p=oI CO dx []) (z2:Pg y) (z3:PV d) (z4:∀ H',(∀ b o,H b=some o->b≠p->H' b=some o)->WK H' p (.own y d)->Q .non H')
inductive NV (vs:List V) (H:Hp) (Q:VK) (E:XK):Prop
 |mk (p dx y:_) (a b:Int) (z0:vs=[.ref p,.str y,.int a,.int b]) (z1:H p=oI CL dx []) (z2:Pg y) (z3:PV a) (z4:PV b) (z5:a<b) (z6:∀ H',(∀ b o,H b=some o->b≠p->H' b=some o)->WK H' p (.lay y a b)->Q .non H')
inductive PJ (vs:List V) (H:Hp) (Q:VK) (E:XK):Prop
 |mk (p dx y:_) (d:Int) (z0:vs=[.ref p,.str y,.int d]) (z1:H p=oI CM dx []) (z2:Pg y) (z3:PV d) (z4:∀ H',(∀ b o,H b=some o->b≠p->H' b=some o)->WK H' p (.lim y d)->Q .non H')
inductive Vl (C:Addr) (vs:List V) (H:Hp) (Q:VK) (E:XK):Prop
 |mk (p c:_) (n k:Int) (z0:vs=[.ref p,.int n,.int k]) (z1:WK H p c) (z2:Gs c=C) (z3:∀ t H',De H H'->H' t=oT [.int (NL c n k),.int (OI c n k)]->Q (.ref t) H')
inductive B8 (C:Addr) (vs:List V) (H:Hp) (Q:VK) (E:XK):Prop
 |mk (p c:_) (n:Int) (z0:vs=[.ref p,.int n]) (z1:WK H p c) (z2:Gs c=C) (z3:Q (Py c n) H)
def X4 {K:zAa}:zBh K (.type "str") (.type "str")=some true:=by kernel_rfl
section
variable {P:Program} {w:World} {K:zAa} {mg:Str->Option Value} {base:Heap} (J:Pm P w K mg base)
def M0 {c:Cl} (h:Gs c=CC):∃ y,c=.any y:=by
 cases c <;> first|exact⟨_,rfl⟩|cases h
def OL (J:Pm P w K mg base):OA K mg "WAYS" [.str "event",.str "thing",.str "year",.str "loss"]:=by
 obtain⟨_,_,_,_,_,_,a,b⟩:=J.ot;exact⟨_,J.z.nv a,λH=>.inr ⟨_,_,_,b,rfl,rfl,by show 4<=sizeLine;rw[zCE];decide,.cons ⟨_,rfl⟩ (.cons ⟨_,rfl⟩ (.cons ⟨_,rfl⟩ (.cons ⟨_,rfl⟩ (.nil))))⟩⟩
def C6 {c:Cl} (h:Gs c=CO):∃ y d,c=.own y d:=by
 cases c <;> first|exact⟨_,_,rfl⟩|cases h
def G7 {c:Cl} (h:Gs c=CL):∃ y a b,c=.lay y a b:=by
 cases c <;> first|exact⟨_,_,_,rfl⟩|cases h
def G4 {c:Cl} (h:Gs c=CM):∃ y m,c=.lim y m:=by
 cases c <;> first|exact⟨_,_,rfl⟩|cases h
def Dw:Jc J 3 "checked_amount" ["thing"] PQ:=Gb J.z J.d9 ["thing"] df λsc H Q hr h=>by
 obtain⟨n,rfl,⟨g,h1⟩,q⟩:=h;refine⟨_,(Ab (Au (Bp (Bg (Cb (Pq J) hr (Bj (pv 0)))))
    (Ac Bs)
    Al)
   (Ac (Ai (pv 0)))),?_⟩
 refine (vE rfl ⟨_,_,rfl,.int n,_,rfl,?_⟩);rw[show N7 999999999999 (.int n)=true from decide_eq_true ⟨g,h1⟩];exact Cy (vE rfl q)
def Ke (J:Pm P w K mg base) {f:Addr} (F:WC K "__init__" "Clause.__init__" Ed f fd):Lp P w K mg base Ec 2 f fd ["self","by"] (QR):=Kt F ["self","by"] df λsc H Q hr h=>by
 obtain⟨p,C,dx,fs,y,rfl,g,fam,hl,z,q⟩:=h;refine⟨_,(Ab (Au (PW.pt (Eb (Bp (Bg (Lh Br J.z J.ae (Bb (pv 1) (Ip "str" rfl (J.z.nn J.gy) rfl))))) (Dx (Ak Ve (pv 1) (EB (OL J) rfl) rfl))))
    (Ac Bs)
    Al)
   (Ac (Bh (pv 0) (pv 1) rfl))),?_⟩
 refine (vE rfl ⟨_,_,_,_,_,rfl,Iu,.str y,X4,_,rfl,Cy ?_⟩);refine (vE rfl (λa j=>⟨a,_,rfl,(.inr j),rfl,rfl,(vE rfl ?_)⟩));show if (!QW (.str y) [.str "event",.str "thing",.str "year",.str "loss"])=true then _ else _;rw[HW z];refine Cy ?_;have cl:WZ K C:=by
  rcases fam with rfl|rfl|rfl|rfl
  .exact J.bj.cl
  .exact J.bx.cl
  .exact J.aq.cl
  .exact J.ay.cl
 have B:Gn K C "by":=by
  rcases fam with rfl|rfl|rfl|rfl
  .exact J.i9
  .exact J.jb
  .exact J.j1
  .exact J.j2
 exact (vE rfl (vE rfl ⟨p,C,dx,fs,rfl,g,cl,B,hl,q⟩))
def Ew (J:Pm P w K mg base):JE P w K mg base 2 "Clause" "__init__" ["self","by"] QR:=UP J.z J.bj J.sh (λf fd F=>Ke J F) bd
def UA:Jk J 4 "Own" CO ["self","by","cents"] (MQ):=C9 J.z J.bx J.jy ["self","by","cents"] df λsc H Q hr h=>by
 obtain⟨p,dx,y,d,rfl,j,B,g,q⟩:=h;refine⟨_,(Ab (Bc (Po (Ew J) (hr.mono (by decide)) rfl (Bb (pv 0) (pv 1))))
   (Ac (Bh (pv 0) (Cb (Dw J) hr (Bj (pv 2))) rfl))),?_⟩
 refine (vE rfl (vE rfl ⟨p,_,dx,[],y,rfl,j,.inr (.inl rfl),by decide,B,?_⟩));exact (vE rfl ⟨d,rfl,g,_,rfl,p,_,dx,_,rfl,Aa,J.bx.cl,J.ie,(by show 1<1000;decide),q _ (λb o z n=>by rw[Ag n,Ag n];exact z) ⟨dx,Aa⟩⟩)
def IA:Jk J 4 "Layer" CL ["self","by","first","upto"] (NV):=C9 J.z J.aq J.ji ["self","by","first","upto"] df λsc H Q hr h=>by
 obtain⟨p,dx,y,a,b,rfl,L,B,F,j,g,q⟩:=h;refine⟨_,(Ab (Bc (Po (Ew J) (hr.mono (by decide)) rfl (Bb (pv 0) (pv 1))))
   (Ab (Bh (pv 0) (Cb (Dw J) hr (Bj (pv 2))) rfl)
   (Ab (Bh (pv 0) (Cb (Dw J) hr (Bj (pv 3))) rfl)
   (Ac (Au (Bp (Ak Gx (pv 2) (pv 3) (An _)))
    (Ac Bs)
    Al))))),?_⟩
 refine (vE rfl (vE rfl ⟨p,_,dx,[],y,rfl,L,.inr (.inr (.inl rfl)),by decide,B,?_⟩));refine (vE rfl ⟨a,rfl,F,_,rfl,p,_,dx,_,rfl,Aa,J.aq.cl,J.g8,(by show 1<1000;decide),?_⟩);refine (vE rfl ⟨b,rfl,j,_,rfl,p,_,dx,_,rfl,Aa,J.aq.cl,J.gl,(by show 2<1000;decide),?_⟩);refine (vE rfl (vE rfl (vF rfl rfl (vE rfl (nF g ?_)))));exact q _ (λb o z n=>by rw[Ag n,Ag n,Ag n];exact z) ⟨dx,Aa⟩
def JT:Jk J 4 "Limit" CM ["self","by","most"] (PJ):=C9 J.z J.ay J.jj ["self","by","most"] df λsc H Q hr h=>by
 obtain⟨p,dx,y,d,rfl,j,B,g,q⟩:=h;refine⟨_,(Ab (Bc (Po (Ew J) (hr.mono (by decide)) rfl (Bb (pv 0) (pv 1))))
   (Ac (Bh (pv 0) (Cb (Dw J) hr (Bj (pv 2))) rfl))),?_⟩
 refine (vE rfl (vE rfl ⟨p,_,dx,[],y,rfl,j,.inr (.inr (.inr rfl)),by decide,B,?_⟩));exact (vE rfl ⟨d,rfl,g,_,rfl,p,_,dx,_,rfl,Aa,J.ay.cl,J.gm,(by show 1<1000;decide),q _ (λb o z n=>by rw[Ag n,Ag n];exact z) ⟨dx,Aa⟩⟩)
end
def ET (y:Str) (n d:Int) (ev th:Str):V:=if y="event" then .str ev else if y="thing" then .str th else if y="year" then .int (d/365) else .int n
def AA (c:Cl):(Gd c).lookup ("key" : Str)=none:=CA c (by ac_nf) (by ac_nf) (by ac_nf) (by ac_nf) (by ac_nf)
inductive GU (C:Addr) (vs:List V) (H:Hp) (Q:VK) (E:XK):Prop
 |mk (p c t ev th ca:_) (n d ct:Int) (z0:vs=[.ref p,.ref t]) (z1:WK H p c) (z2:Gs c=C) (z3:H t=oT [.int n,.int d,.str ev,.str th,.str ca,.int ct]) (z4:Q (ET c.way n d ev th) H)
inductive LD (vs:List V) (H:Hp) (Q:VK) (E:XK):Prop
 |mk (d:Int) (z0:vs=[.int d]) (z1:Q (.int (d/365)) H)
section
variable {P:Program} {w:World} {K:zAa} {mg:Str->Option Value} {base:Heap} (J:Pm P w K mg base)
def FU (J:Pm P w K mg base) (c:Cl):WZ K (Gs c)/\Gn K (Gs c) "by":=by
 cases c with
 |own _ _=>exact⟨J.bx.cl,J.jb⟩
 |lay _ _ _=>exact⟨J.aq.cl,J.j1⟩
 |lim _ _=>exact⟨J.ay.cl,J.j2⟩
 |any _=>exact⟨J.bj.cl,J.i9⟩
def BK:Jc J 1 "year_of" ["day"] LD:=Gb J.z J.d7 ["day"] df λsc H Q hr h=>by
 obtain⟨d,rfl,q⟩:=h;refine⟨_,(Ac (Ai (Aj Bm (pv 0) (Op J.z J.ge)))),?_⟩;exact (vE rfl (vF rfl rfl ⟨⟨by decide,by decide⟩,q⟩))
def Ey (J:Pm P w K mg base) {f:Addr} (F:WC K "key" "Clause.key" Eg f fd) {C:Addr}:Lp P w K mg base Ec 2 f fd ["self","loss"] (GU C):=Kt F ["self","loss"] df λsc H Q hr h=>by
 obtain⟨p,c,t,Y,th,ca,n,d,ct,rfl,⟨dx,L⟩,Z,j,q⟩:=h;obtain⟨cl,B⟩:=FU J c;refine⟨_,(Ab (Au (Ak Bv (Aw (pv 0) rfl) Az (An _))
    (Ac (Ai (Da K (pv 1) (Op J.z J.ki))))
    Al)
   (Ab (Au (Ak Bv (Aw (pv 0) rfl) Az (An _))
    (Ac (Ai (Da K (pv 1) (Op J.z J.j5))))
    Al)
   (Ab (Au (Ak Bv (Aw (pv 0) rfl) Az (An _))
    (Ac (Ai (Cb (BK J) hr (Bj (Da K (pv 1) (Op J.z J.ju))))))
    Al)
   (Ac (Ai (Da K (pv 1) (Op J.z J.cq))))))),?_⟩
 unfold ET at q;refine (vE rfl ⟨p,_,dx,_,_,rfl,L,cl,B,(AM c),rfl,(vE rfl (Qh (λe=>?_) (λe=>?_)))⟩)
 .have S:c.way="event":=by injection of_decide_eq_true e
  rw[if_pos S] at q;exact (vE rfl (vI rfl rfl (Jy.of j) rfl q))
 .have S:¬ c.way="event":=λz=>e (decide_eq_true (by rw[z]))
  rw[if_neg S] at q;refine (vE rfl ⟨p,_,dx,_,_,rfl,L,cl,B,(AM c),rfl,(vE rfl (Qh (λf=>?_) (λf=>?_)))⟩)
  .have U:c.way="thing":=by injection of_decide_eq_true f
   rw[if_pos U] at q;exact (vE rfl (vI rfl rfl (Jy.of j) rfl q))
  .have U:¬ c.way="thing":=λz=>f (decide_eq_true (by rw[z]))
   rw[if_neg U] at q;refine (vE rfl ⟨p,_,dx,_,_,rfl,L,cl,B,(AM c),rfl,(vE rfl (Qh (λg=>?_) (λg=>?_)))⟩)
   .have M:c.way="year":=by injection of_decide_eq_true g
    rw[if_pos M] at q;exact (vE rfl (vI rfl rfl (Jy.of j) rfl ⟨d,rfl,q⟩))
   .have M:¬ c.way="year":=λz=>g (decide_eq_true (by rw[z]))
    rw[if_neg M] at q;exact (vE rfl (vI rfl rfl (Jy.of j) rfl q))
def MK:Jf J 2 (Fam) "key" ["self","loss"] (GU):=⟨λC g=>by
  rcases g with rfl|rfl|rfl|rfl
  .exact Jr J.z J.m7 J.bj.cl bd λf fd F=>Ey J F
  .exact Jr J.z J.oo J.bx.cl bd λf fd F=>Ey J F
  .exact Jr J.z J.o0 J.aq.cl bd λf fd F=>Ey J F
  .exact Jr J.z J.oa J.ay.cl bd λf fd F=>Ey J F⟩
def Qv:Jc J 1 "cent_at" ["bound","count","cents"] JO:=Gb J.z J.oy ["bound","count","cents"] df λsc H Q hr h=>by
 obtain⟨b,n,k,rfl,q⟩:=h;refine⟨_,(Ac (Ai (Lh (Jj rfl) J.z J.fg (Bb (Lh (Gy rfl) J.z J.cg (Bb (Aj Il (pv 0) (pv 1)) Ad)) (pv 2))))),?_⟩;exact (vE rfl (vE rfl (vF rfl rfl ⟨_,_,rfl,vE rfl ⟨_,_,rfl,q⟩⟩)))
def Iz (J:Pm P w K mg base) {f:Addr} (F:WC K "span" "Clause.span" Gq f fd) {C:Addr} (z:∀ c,Gs c=C->∀ n k,NL c n k=0/\OI c n k=k):Lp P w K mg base Ec 2 f fd ["self","count","cents"] (Vl C):=Kt F ["self","count","cents"] df λsc H Q hr h=>by
 obtain⟨p,c,n,k,rfl,B,g,q⟩:=h;refine⟨_,(Ac (Ai (Ba (Bb Ad (pv 2))))),?_⟩;obtain⟨e1,e2⟩:=z c g n k;rw[e1,e2] at q;exact (vE rfl ⟨by show 2<=sizeLine;rw[zCE];decide,λt j=>q t _ (Af j _) Aa⟩)
def Yq (J:Pm P w K mg base) {f:Addr} (F:WC K "span" "Own.span" Px f fd):Lp P w K mg base Ec 2 f fd ["self","count","cents"] (Vl CO):=Kt F ["self","count","cents"] df λsc H Q hr h=>by
 obtain⟨p,c,n,k,rfl,⟨dx,j⟩,g,q⟩:=h;obtain⟨y,d,rfl⟩:=C6 g;refine⟨_,(Ac (Ai (Ba (Bb (Cb (Qv J) hr (Ah (Aw (pv 0) rfl) (Bb (pv 1) (pv 2)))) (pv 2))))),?_⟩;exact (vE rfl ⟨p,_,dx,_,_,rfl,j,J.bx.cl,J.ie,Y4 y d,_,rfl,vE rfl ⟨d,n,k,rfl,vE rfl ⟨by show 2<=sizeLine;rw[zCE];decide,λt z=>q t _ (Af z _) Aa⟩⟩⟩)
def Re (J:Pm P w K mg base) {f:Addr} (F:WC K "span" "Layer.span" Kr f fd):Lp P w K mg base Ec 2 f fd ["self","count","cents"] (Vl CL):=Kt F ["self","count","cents"] df λsc H Q hr h=>by
 obtain⟨p,c,n,k,rfl,⟨dx,g⟩,j,q⟩:=h;obtain⟨y,a,b,rfl⟩:=G7 j;refine⟨_,(Ac (Ai (Ba (Bb (Cb (Qv J) hr (Ah (Aw (pv 0) rfl) (Bb (pv 1) (pv 2)))) (Cb (Qv J) hr (Ah (Aw (pv 0) rfl) (Bb (pv 1) (pv 2)))))))),?_⟩;exact (vE rfl ⟨p,_,dx,_,_,rfl,g,J.aq.cl,J.g8,Z5 y a b,_,rfl,vE rfl ⟨a,n,k,rfl,vE rfl ⟨p,_,dx,_,_,rfl,g,J.aq.cl,J.gl,FV y a b,_,rfl,vE rfl ⟨b,n,k,rfl,(by show 2<=sizeLine;rw[zCE];decide),(λt z=>q t _ (Af z _) Aa)⟩⟩⟩⟩)
def QH:Jf J 2 (Fam) "span" ["self","count","cents"] (Vl):=⟨λC g=>by
  rcases g with rfl|rfl|rfl|rfl
  .exact Jr J.z J.km J.bj.cl bd λf fd F=>Iz J F (λc h n k=>by obtain⟨y,rfl⟩:=M0 h;exact⟨rfl,rfl⟩)
  .exact Jr J.z J.og J.bx.cl bd λf fd F=>Yq J F
  .exact Jr J.z J.m8 J.aq.cl bd λf fd F=>Re J F
  .exact Jr J.z J.mw J.ay.cl bd λf fd F=>Iz J F (λc h n k=>by obtain⟨y,m,rfl⟩:=G4 h;exact⟨rfl,rfl⟩)⟩
end
section
variable {P:Program} {w:World} {K:zAa} {mg:Str->Option Value} {base:Heap}
def Fv (J:Pm P w K mg base) {f:Addr} (F:WC K "room" "Clause.room" Ex f fd) {C:Addr} (j:∀ c,Gs c=C->∀ n,Py c n=.non):Lp P w K mg base Ec 1 f fd ["self","paid"] (B8 C):=Kt F ["self","paid"] df λsc H Q hr h=>by
 obtain⟨p,c,n,rfl,z,g,q⟩:=h;refine⟨_,(Ac (Ai Ep)),?_⟩;rw[j c g n] at q;exact q
def Rx (J:Pm P w K mg base) {f:Addr} (F:WC K "room" "Limit.room" Lf f fd):Lp P w K mg base Ec 1 f fd ["self","paid"] (B8 CM):=Kt F ["self","paid"] df λsc H Q hr h=>by
 obtain⟨p,c,n,rfl,⟨dx,j⟩,g,q⟩:=h;obtain⟨y,m,rfl⟩:=G4 g;refine⟨_,(Ac (Ai (Lh (Gy rfl) J.z J.cg (Bb (Aj Il (Aw (pv 0) rfl) (pv 1)) Ad)))),?_⟩;exact (vE rfl ⟨p,_,dx,_,_,rfl,j,J.ay.cl,J.gm,EQ y m,_,rfl,vF rfl rfl ⟨_,_,rfl,q⟩⟩)
def PX (J:Pm P w K mg base):Jf J 1 (Fam) "room" ["self","paid"] (B8):=⟨λC g=>by
  rcases g with rfl|rfl|rfl|rfl
  .exact Jr J.z J.ko J.bj.cl bd λf fd F=>Fv J F (λc h n=>by obtain⟨y,rfl⟩:=M0 h;rfl)
  .exact Jr J.z J.ol J.bx.cl bd λf fd F=>Fv J F (λc h n=>by obtain⟨y,d,rfl⟩:=C6 h;rfl)
  .exact Jr J.z J.mv J.aq.cl bd λf fd F=>Fv J F (λc h n=>by obtain⟨y,a,b,rfl⟩:=G7 h;rfl)
  .exact Jr J.z J.m9 J.ay.cl bd λf fd F=>Rx J F⟩
end
def WO (H:Hp):List V->List CR.Rn->Prop
 |[],[]=>True
 |x::xs,p::ps=>(∃ t,x=.ref t/\H t=oT [.int p.1,.int p.2])/\WO H xs ps
 |_,_=>False
def LP (H:Hp) (a:Addr) (ps:List CR.Rn):Prop:=∃ xs,H a=oL xs/\WO H xs ps
theorem WO.len:∀ {xs} {ps},WO H xs ps->xs.length=ps.length
 |[],[],_=>rfl
 |[],_::_,h=>h.elim
 |_::_,[],h=>h.elim
 |x::xs,p::ps,h=>by rw[zAf,zAf,WO.len h.2]
theorem WO.mono {H H':Hp} (s:W6 H H'):∀ {xs} {ps},WO H xs ps->WO H' xs ps
 |[],[],_=>trivial
 |[],_::_,h=>h.elim
 |_::_,[],h=>h.elim
 |x::xs,p::ps,⟨⟨t,e,h⟩,r⟩=>⟨⟨t,e,s _ _ h⟩,WO.mono s r⟩
theorem WO.get:∀ {xs} {ps} {i:Nat} {x},WO H xs ps->xs[i]?=some x->∃ t p,ps[i]?=some p/\x=.ref t/\H t=oT [.int p.1,.int p.2]
 |[],[],_,_,_,e=>by simp at e
 |[],_::_,_,_,h,_=>h.elim
 |_::_,[],_,_,h,_=>h.elim
 |x::xs,p::ps,0,y,⟨⟨t,e,h⟩,r⟩,q=>by
  simp at q;subst q;exact⟨t,p,rfl,e,h⟩
 |x::xs,p::ps,i+1,y,⟨_,r⟩,q=>by
  obtain⟨t,j,h1,g⟩:=WO.get (i:=i) r (by simpa using q);exact⟨t,j,by simpa using h1,g⟩
theorem WO.app:∀ {xs} {ps} {ys} {qs},WO H xs ps->WO H ys qs->WO H (xs++ys) (ps++qs)
 |[],[],_,_,_,h=>h
 |[],_::_,_,_,h,_=>h.elim
 |_::_,[],_,_,h,_=>h.elim
 |x::xs,p::ps,_,_,⟨h,r⟩,q=>⟨h,WO.app r q⟩
def WO.one {t:Addr} {a b:Int} (h:H t=oT [.int a,.int b]):WO H [.ref t] [(a,b)]:=⟨⟨t,rfl,h⟩,trivial⟩
def WO.snoc {xs:List V} {ps:List CR.Rn} {t:Addr} {a b:Int} (r:WO H xs ps) (h:H t=oT [.int a,.int b]):WO H (xs++[.ref t]) (ps++[(a,b)]):=r.app (WO.one h)
def LP.same {H H':Hp} {a:Addr} {ps:List CR.Rn} (s:De H H') (h:LP H a ps):LP H' a ps:=by
 obtain⟨xs,h1,r⟩:=h;exact⟨xs,s _ _ h1,r.mono (Aq s)⟩
inductive QT (vs:List V) (H:Hp) (Q:VK) (E:XK):Prop
 |mk (a ps:_) (lo hi:Int) (z0:vs=[.ref a,.int lo,.int hi]) (z1:LP H a ps) (z2:ps.length<=1000) (z3:∀ r H',De H H'->H r=none->LP H' r (CR.cutW ps lo hi)->Q (.ref r) H')
inductive MZ (vs:List V) (H:Hp) (Q:VK) (E:XK):Prop
 |mk (a ps:_) (n:Int) (z0:vs=[.ref a,.int n]) (z1:LP H a ps) (z2:ps.length<=1000) (z3:∀ r H',De H H'->H r=none->LP H' r (CR.lowW ps n)->Q (.ref r) H')
inductive KQ (vs:List V) (H:Hp) (Q:VK) (E:XK):Prop
 |mk (a ps:_) (z0:vs=[.ref a,.non]) (z1:LP H a ps) (z2:∀ r H',De H H'->H r=none->LP H' r ps->Q (.ref r) H')
def W5:Sp:=λvs H Q E=>MZ vs H Q E\/KQ vs H Q E
inductive JA (vs:List V) (H:Hp) (Q:VK) (E:XK):Prop
 |mk (t b qs:_) (p:CR.Rn) (z0:vs=[.ref t,.ref b]) (z1:H t=oT [.int p.1,.int p.2]) (z2:LP H b qs) (z3:qs.length<=1000) (z4:∀ r H',De H H'->H r=none->LP H' r (CR.leftW p.2 p.1 qs)->Q (.ref r) H')
inductive PB (vs:List V) (H:Hp) (Q:VK) (E:XK):Prop
 |mk (a b ps qs:_) (z0:vs=[.ref a,.ref b]) (z1:LP H a ps) (z2:LP H b qs) (z3:ps.length<=1000) (z4:qs.length<=1000) (z5:∀ r H',De H H'->H r=none->LP H' r (CR.outW ps qs)->Q (.ref r) H')
section
variable {P:Program} {w:World} {K:zAa} {mg:Str->Option Value} {base:Heap} (J:Pm P w K mg base)
def Nk:Jc J 1 "cut_within" ["runs","lo","hi"] QT:=Gb J.z J.p8 ["runs","lo","hi","cut"] df λsc H Q hr h=>by
 obtain⟨a,ps,lo,hi,rfl,⟨xs,ha,pr⟩,hl,q⟩:=h;refine⟨_,(Ab (Ef (NC:=["run","lo","hi"]) (own:=["run"]) (cs:=["lo","hi"]) (ix:=[1,2]) (j:=3) sc.nd rfl rfl rfl (Dt.of rfl) rfl ⟨⟨rfl,.inl rfl,rfl⟩,⟨⟨rfl,.inl rfl,rfl⟩,trivial⟩⟩ (Go K (pv 0)) (λ_ _ _=>(Jq 0)) (λ_ _ _=>Bw) (λ_ _ _=>(Ba (Bb (Lh (Gy rfl) J.z J.cg (Bb (Da K (pv 0) Ad) (pv 1))) (Lh (Jj rfl) J.z J.fg (Bb (Da K (pv 0) Ad) (pv 2)))))))
   (Ac (Ai (Cc (NC:=["run"]) (own:=["run"]) (cs:=[]) (ix:=[]) rfl (Dt.of rfl) rfl trivial (Go K (pv 3)) (λ_ _ _=>(Jq 0)) (λ_ _ _=>(Gi (Ak Gx (Da K (pv 0) Ad) (Da K (pv 0) Ad) (An _)))) (λ_ _ _=>(pv 0)))))),?_⟩
 have lx:=pr.len;refine (vE rfl ⟨a,rfl,⟨_,Dl.of ha⟩,λc hc=>?_⟩);refine Bi (K:=K) (a:=a) (xs:=xs) (λi ys Y=>WO Y ys ((ps.take i).map (CR.cutM lo hi))/\Y c=oL ys/\De H Y) ⟨trivial,Aa,Af hc _⟩
  (λi ys Y _ ⟨e,h1,S⟩=>⟨h1,by rw[e.len,zAb,zAo];lia,Dl.of (S _ _ ha)⟩) (by rw[lx,zCE];lia) (λi x ys Y F ⟨e,h1,S⟩=>?_) (λys Y ⟨e,h1,S⟩=>?_)
 .obtain⟨t,p,hp,rfl,ht⟩:=pr.get F
  have aa:=S _ _ ht;refine (vE rfl (vI rfl rfl (Jy.of aa) rfl (vE rfl ⟨_,_,rfl,vE rfl (vI rfl rfl (Jy.of aa) rfl (vE rfl ⟨_,_,rfl,(by show 2<=sizeLine;rw[zCE];decide),(λu hu=>?_)⟩))⟩)));have s2:=Af hu (.tup [.int (CR.cutM lo hi p).1,.int (CR.cutM lo hi p).2]);refine⟨s2 _ _ h1,rfl,?_,Aa,λx o z=>?_⟩
  .rw[Be hp,zAp]
   exact ((e.mono (Aq s2)).snoc (a:=(CR.cutM lo hi p).1) (b:=(CR.cutM lo hi p).2) Aa).mono (Cj (s2 _ _ h1) _)
  .rw[Ag (Ae z hc)]
   exact s2 _ _ (S x o z)
 have et:ps.take xs.length=ps:=by rw[lx];exact zAB
 rw[et] at e;refine (vE rfl ⟨c,rfl,⟨_,Dl.of h1⟩,λr U=>?_⟩);have ly:ys.length=ps.length:=by rw[e.len,zAb]
 refine Bi (K:=K) (a:=c) (xs:=ys) (λi zs Z=>WO Z zs (((ps.map (CR.cutM lo hi)).take i).filter λp=>decide (p.1<p.2))/\Z r=oL zs/\De Y Z) ⟨trivial,Aa,Af U _⟩
  (λi zs Z _ ⟨M,B,g⟩=>⟨B,?_,Dl.of (g _ _ h1)⟩) (by rw[ly,zCE];lia) (λi x zs Z F ⟨M,B,g⟩=>?_) (λzs Z ⟨M,B,g⟩=>?_)
 .rw[M.len]
  refine zAz (zAE _ _) ?_;rw[zAo]
  lia
 .obtain⟨t,p,hp,rfl,ht⟩:=e.get F
  have L:=g _ _ ht;refine (vE rfl (vI rfl rfl (Jy.of L) rfl (vE rfl (vI rfl rfl (Jy.of L) rfl (vF rfl rfl (vE rfl ?_))))));rw[Be hp,zBL];refine Qh (λc'=>?_) (λc'=>?_)
  .have c2:p.1<p.2:=of_decide_eq_true c'
   refine (vE rfl ⟨B,rfl,?_,Aa,λx o z=>?_⟩)
   .rw[zBd,if_pos (decide_eq_true c2),zBu]
    exact (M.snoc (a:=p.1) (b:=p.2) L).mono (Cj B _)
   .rw[Ag (Ae z U)]
    exact g x o z
  .have c2:¬ p.1<p.2:=of_decide_eq_false (zBs.mpr c')
   rw[zBd,if_neg (by rw[decide_eq_false c2];exact zAk),zBu,zAL];exact⟨rfl,M,B,g⟩
 .have ab:(ps.map (CR.cutM lo hi)).take ys.length=ps.map (CR.cutM lo hi):=by rw[ly,<- zAb (f:=CR.cutM lo hi)];exact zAB
  rw[ab] at M;exact q r Z (S.trans g) (S.free U) ⟨zs,B,M⟩
def Ur:Bz ["runs","n","kept","left","lo","hi"] ["runs","n"] (Ao Nb):=⟨rfl,rfl,rfl,by ac_nf,rfl,by ac_nf,by ac_nf⟩
def Zf:Jc J 1 "lowest_of" ["runs","n"] W5:=GP J.z J.pf bd λf fd F=>by
 have sc:=Ur;refine F.ok sc (λvs H Q E h=>?_) (λcdv A outer s H vs Q E hr h=>?_)
 .rcases h with ⟨_,_,_,rfl,_⟩|⟨_,_,rfl,_⟩ <;> rfl
 refine⟨_,(Ab (Au (Ak Mi (pv 1) Ep (An _))
    (Ac (Ai (Cz (Bx (K:=K) rfl) rfl (J.z.nn J.ax) (show zCF _=some (.type "list") from rfl) (Bj (pv 0)))))
    Al)
   (Ab (Ce sc 2 (Bf Cn))
   (Ab (Ce sc 3 (pv 1))
   (Ab (Bk PassesOwn.never rfl (Go K (pv 0)) (Cu (K:=K) (n:=2) rfl rfl (As (Fj sc 4) (As (Fj sc 5) Cs)))
    (Ab (Au (Ak Ng (pv 3) Ad (An _))
    (Ac (Bc (Db (K:=K) rfl PySem.F.plainAttrs_list PySem.F.slot_list_append PySem.F.type_list_append Cm (pv 2) (Bj (Ba (Bb (pv 4) (Lh (Jj rfl) J.z J.fg (Bb (pv 5) (Aj Bd (pv 4) (pv 3))))))))))
    Al)
   (Ac (Ce sc 3 (Aj Il (pv 3) (Aj Il (pv 5) (pv 4)))))))
   (Ac (Ai (pv 2))))))),?_⟩
 rcases h with ⟨a,ps,n,rfl,⟨xs,Z,Y⟩,hl,q⟩|⟨a,ps,rfl,⟨xs,Z,Y⟩,q⟩
 .have lx:=Y.len
  refine (vE rfl ⟨rfl,vE rfl (dF (λz=>nomatch z) ?_)⟩);refine⟨zAu _,λr g=>?_⟩;have M:De H (upd H r (.lst [])):=Af g _;refine (vE rfl ?_);refine⟨_,rfl,a,rfl,⟨_,Dl.of (M _ _ Z)⟩,Cp (K:=K) (a:=a) (xs:=xs)
   (λi σ B=>(∃ o1 o2 ys,∃ left:Int,σ=[oR a,oN n,oR r,oN left,o1,o2]/\B r=oL ys/\ys.length<=i/\∃ ks,WO B ys ks/\CR.lowW ps n=ks++CR.lowW (ps.drop i) left)/\De H B)
   ⟨⟨none,none,[],n,rfl,Aa,zAi _,[],trivial,rfl⟩,M⟩ (λi σ B _ ⟨_,e⟩=>Dl.of (e _ _ Z)) ?_ ?_⟩
  .rintro i x σ B hi ⟨⟨o1,o2,ys,left,rfl,h1,ly,ks,S,j⟩,L⟩
   obtain⟨t,p,hp,rfl,ht⟩:=Y.get hi;have aa:=L _ _ ht;have ab:i<ps.length:=(zAl.mp hp).1;have ed:ps.drop i=p::ps.drop (i+1):=by
    rw[zBC ab]
    congr 1
    exact (zAl.mp hp).2
   rw[ed,CR.lowW_cons] at j;refine⟨t,_,rfl,(Jy.of aa),rfl,(vC rfl (vC rfl (⟨rfl,?_⟩)))⟩;refine (vE rfl (vF rfl rfl (vE rfl (Qh (λc=>?_) (λc=>?_)))))
   .have c':0<left:=of_decide_eq_true c
    rw[if_pos c'] at j;refine (vE rfl ⟨.inl ⟨rfl,_,Dl.of h1⟩,vE rfl (vE rfl (vE rfl (vE rfl (vF rfl rfl ⟨_,_,rfl,(by show 2<=sizeLine;rw[zCE];decide),(λu hu=>?_)⟩))))⟩);have U:=Af hu (.tup [.int p.1,.int (if p.1+left<p.2 then p.1+left else p.2)]);refine⟨r,_,_,rfl,rfl,(U _ _ h1),(by rw[zCE];lia),?_⟩;refine (vE rfl (vE rfl (vE rfl (vF rfl rfl (vF rfl rfl ⟨⟨_,_,_,_,rfl,Aa,by rw[zAj];exact Nat.add_le_add ly (zAi 1),_,((S.mono (Aq U)).snoc Aa).mono (Cj (U _ _ h1) _),?_⟩,λx o z=>?_⟩)))))
    .rw[j,zAZ]
    .rw[Ag (Ae z g)]
     exact U _ _ (L x o z)
   .have c':¬ 0<left:=of_decide_eq_false (zBs.mpr c)
    rw[if_neg c'] at j;refine (vE rfl (vE rfl (vE rfl (vF rfl rfl (vF rfl rfl ⟨⟨_,_,_,_,rfl,h1,by lia,_,S,?_⟩,L⟩)))));rw[j];rfl
  .rintro σ B ⟨⟨o1,o2,ys,left,rfl,h1,ly,ks,S,j⟩,L⟩
   refine (vE rfl (q r B L g ⟨ys,h1,?_⟩));rw[lx,zBJ] at j;rw[j,CR.lowW_nil,zAL];exact S
 .refine (vE rfl ⟨rfl,vE rfl (dT rfl ?_)⟩)
  refine (vE rfl ⟨a,_,rfl,(.inl (Dl.of Z)),(λr g=>?_)⟩);have M:=Af g (.lst xs);exact q r _ M g ⟨xs,Aa,Y.mono (Aq M)⟩
def Vu:Jc J 1 "left_of_run" ["run","others"] JA:=Gb J.z J.ph ["run","others","left","begin","lo","hi","end"] df λsc H Q hr h=>by
 obtain⟨t0,b,Z,p,rfl,F,⟨xs,hb,pr⟩,hl,q⟩:=h;refine⟨_,(Ab (Ce sc 2 (Bf Cn))
   (Ab (Ce sc 3 (Da K (pv 0) Ad))
   (Ab (Bk PassesOwn.never rfl (Go K (pv 1)) (Cu (K:=K) (n:=2) rfl rfl (As (Fj sc 4) (As (Fj sc 5) Cs)))
    (Ab (Ce sc 6 (Lh (Jj rfl) J.z J.fg (Bb (pv 4) (Da K (pv 0) Ad))))
   (Ab (Au (Ak Gx (pv 3) (pv 6) (An _))
    (Ac (Bc (Db (K:=K) rfl PySem.F.plainAttrs_list PySem.F.slot_list_append PySem.F.type_list_append Cm (pv 2) (Bj (Ba (Bb (pv 3) (pv 6)))))))
    Al)
   (Ac (Ce sc 3 (Lh (Gy rfl) J.z J.cg (Bb (pv 3) (pv 5))))))))
   (Ab (Au (Ak Gx (pv 3) (Da K (pv 0) Ad) (An _))
    (Ac (Bc (Db (K:=K) rfl PySem.F.plainAttrs_list PySem.F.slot_list_append PySem.F.type_list_append Cm (pv 2) (Bj (Ba (Bb (pv 3) (Da K (pv 0) Ad)))))))
    Al)
   (Ac (Ai (pv 2))))))),?_⟩
 have lx:=pr.len;refine⟨zAu _,λr j=>?_⟩;have s1:De H (upd H r (.lst [])):=Af j _;refine (vE rfl (vI rfl rfl (Jy.of (s1 _ _ F)) rfl ?_));refine⟨_,rfl,b,rfl,⟨_,Dl.of (s1 _ _ hb)⟩,Cp (K:=K) (a:=b) (xs:=xs)
  (λi σ U=>(∃ o1 o2 o3 ys,∃ g:Int,σ=[oR t0,oR b,oR r,oN g,o1,o2,o3]/\U r=oL ys/\ys.length<=i/\∃ ks,WO U ys ks/\CR.leftW p.2 p.1 Z=ks++CR.leftW p.2 g (Z.drop i))/\De H U)
  ⟨⟨none,none,none,[],p.1,rfl,Aa,zAi _,[],trivial,rfl⟩,s1⟩ (λi σ U _ ⟨_,e⟩=>Dl.of (e _ _ hb)) ?_ ?_⟩
 .rintro i x σ U hi ⟨⟨o1,o2,o3,ys,g,rfl,h1,ly,ks,Y,B⟩,M⟩
  obtain⟨t,p',hp,rfl,ht⟩:=pr.get hi;have aa:=M _ _ ht;have ab:i<Z.length:=(zAl.mp hp).1;have ed:Z.drop i=p'::Z.drop (i+1):=by
   rw[zBC ab]
   congr 1
   exact (zAl.mp hp).2
  rw[ed,CR.leftW_cons] at B;refine⟨t,_,rfl,(Jy.of aa),rfl,(vC rfl (vC rfl (⟨rfl,?_⟩)))⟩;refine (vE rfl (vE rfl (vI rfl rfl (Jy.of (M _ _ F)) rfl ⟨_,_,rfl,?_⟩)));refine (vE rfl (vE rfl (vF rfl rfl (vE rfl (Qh (λc=>?_) (λc=>?_))))))
  .have S:g<CR.minI p'.1 p.2:=of_decide_eq_true c
   rw[if_pos S] at B;refine (vE rfl ⟨.inl ⟨rfl,_,Dl.of h1⟩,vE rfl (vE rfl ⟨by show 2<=sizeLine;rw[zCE];decide,λu hu=>?_⟩)⟩);have L:=Af hu (.tup [.int g,.int (CR.minI p'.1 p.2)]);refine⟨r,_,_,rfl,rfl,(L _ _ h1),(by rw[zCE];lia),?_⟩;refine (vE rfl (vE rfl ⟨_,_,rfl,⟨_,_,_,_,_,rfl,Aa,by rw[zAj];exact Nat.add_le_add ly (zAi 1),_,((Y.mono (Aq L)).snoc Aa).mono (Cj (L _ _ h1) _),?_⟩,(λx o z=>?_)⟩))
   .rw[B,zAZ]
    rfl
   .rw[Ag (Ae z j)]
    exact L _ _ (M x o z)
  .have S:¬ g<CR.minI p'.1 p.2:=of_decide_eq_false (zBs.mpr c)
   rw[if_neg S] at B;refine (vE rfl (vE rfl ⟨_,_,rfl,⟨_,_,_,_,_,rfl,h1,by lia,_,Y,?_⟩,M⟩));rw[B];rfl
 .rintro σ U ⟨⟨o1,o2,o3,ys,g,rfl,h1,ly,ks,Y,B⟩,M⟩
  rw[lx,zBJ,CR.leftW_nil] at B;refine (vE rfl (vE rfl (vI rfl rfl (Jy.of (M _ _ F)) rfl (vF rfl rfl (vE rfl (Qh (λc=>?_) (λc=>?_)))))))
  .have S:g<p.2:=of_decide_eq_true c
   rw[if_pos S] at B;refine (vE rfl ⟨.inl ⟨rfl,_,Dl.of h1⟩,vE rfl (vE rfl (vI rfl rfl (Jy.of (M _ _ F)) rfl ⟨by show 2<=sizeLine;rw[zCE];decide,λu hu=>?_⟩))⟩);have L:=Af hu (.tup [.int g,.int p.2]);refine⟨r,_,_,rfl,rfl,(L _ _ h1),(by rw[zCE];lia),?_⟩;refine (vE rfl (q r _ (λx o z=>?_) j ⟨_,Aa,?_⟩))
   .rw[Ag (Ae z j)]
    exact L _ _ (M x o z)
   .rw[B]
    exact ((Y.mono (Aq L)).snoc Aa).mono (Cj (L _ _ h1) _)
  .have S:¬ g<p.2:=of_decide_eq_false (zBs.mpr c)
   rw[if_neg S,zAL] at B;refine (vE rfl (q r _ M j ⟨_,h1,?_⟩));rw[B];exact Y
def CT:Jc J 2 "cut_out" ["runs","others"] PB:=Gb J.z J.pj ["runs","others","left","run"] df λsc H Q hr h=>by
 obtain⟨a,b,ps,qs,rfl,⟨xs,ha,Z⟩,lq,hl,M,q⟩:=h;refine⟨_,(Ab (Ce sc 2 (Bf Cn))
   (Ab (Bk PassesOwn.never rfl (Go K (pv 0)) (Fj sc 3)
    (Ac (Bc (Db (K:=K) rfl PySem.F.plainAttrs_list PySem.F.slot_list_extend PySem.F.type_list_extend Gv (pv 2) (Bj (Cb (Vu J) hr (Bb (pv 3) (pv 1))))))))
   (Ac (Ai (pv 2))))),?_⟩
 have lx:=Z.len;refine⟨zAu _,λr g=>?_⟩;have Y:De H (upd H r (.lst [])):=Af g _;refine⟨_,rfl,a,rfl,⟨_,Dl.of (Y _ _ ha)⟩,Cp (K:=K) (a:=a) (xs:=xs)
  (λi σ j=>(∃ S ys,σ=[oR a,oR b,oR r,S]/\j r=oL ys/\WO j ys (CR.outW (ps.take i) qs))/\De H j)
  ⟨⟨none,[],rfl,Aa,trivial⟩,Y⟩ (λi σ j _ ⟨_,e⟩=>Dl.of (e _ _ ha)) ?_ ?_⟩
 .rintro i x σ j hi ⟨⟨S,ys,rfl,h1,B⟩,F⟩
  obtain⟨t,p,hp,rfl,ht⟩:=Z.get hi;have aa:i<ps.length:=(zAl.mp hp).1;refine (vE rfl ⟨.inl ⟨rfl,_,Dl.of h1⟩,vE rfl (vE rfl ⟨t,b,qs,p,rfl,(F _ _ ht),(lq.same F),M,(λu H3 L hu ⟨zs,hz,U⟩=>?_)⟩)⟩);have e1:(CR.outW (ps.take i) qs).length<=1000*1001:=zAz (CR.outW_len _ _) (Nat.mul_le_mul (by rw[zAo];lia) (by lia));have e2:(CR.leftW p.2 p.1 qs).length<=1001:=zAz (CR.leftW_len _ _ _) (by lia);refine⟨r,u,_,_,rfl,rfl,(L _ _ h1),hz,(by rw[B.len,U.len,zCE];lia),⟨_,_,rfl,Aa,?_⟩,(λx o z=>?_)⟩
  .have e:CR.outW (ps.take (i+1)) qs=CR.outW (ps.take i) qs++CR.leftW p.2 p.1 qs:=by
    rw[Be hp];unfold CR.outW;rw[zAp,List.flatten_append,List.map_singleton,List.flatten_singleton]
   rw[e];exact ((B.mono (Aq L)).app U).mono (Cj (L _ _ h1) _)
  .rw[Ag (Ae z g)]
   exact L _ _ (F x o z)
 .rintro σ j ⟨⟨S,ys,rfl,h1,B⟩,F⟩
  rw[lx,zAB] at B;exact (vE rfl (q r j F g ⟨ys,h1,B⟩))
end
theorem WU.last:∀ {xs} {ps} {p},WU H xs (ps++[p])->∃ ys t,xs=ys++[.ref t]/\H t=oT [.int p.1,.int p.2.1,.int p.2.2]/\WU H ys ps
 |[],[],_,h=>h.elim
 |[x],[],_,⟨⟨t,e,h⟩,_⟩=>⟨[],t,by rw[e];rfl,h,trivial⟩
 |x::y::xs,[],_,⟨_,h⟩=>h.elim
 |[],q::ps,_,h=>h.elim
 |x::xs,q::ps,p,⟨z,r⟩=>by
  obtain⟨ys,t,e,h,g⟩:=WU.last (ps:=ps) r;exact⟨x::ys,t,by rw[e];rfl,h,z,g⟩
abbrev LZ:=Int×Int
def WY (H:Hp):List V->List LZ->Prop
 |[],[]=>True
 |x::xs,p::ps=>(∃ t,x=.ref t/\H t=oT [.int p.1,.int p.2])/\WY H xs ps
 |_,_=>False
theorem WY.len:∀ {xs} {ps},WY H xs ps->xs.length=ps.length
 |[],[],_=>rfl
 |[],_::_,h=>h.elim
 |_::_,[],h=>h.elim
 |x::xs,p::ps,h=>by rw[zAf,zAf,WY.len h.2]
theorem WY.mono {H H':Hp} (s:W6 H H'):∀ {xs} {ps},WY H xs ps->WY H' xs ps
 |[],[],_=>trivial
 |[],_::_,h=>h.elim
 |_::_,[],h=>h.elim
 |x::xs,p::ps,⟨⟨t,e,h⟩,r⟩=>⟨⟨t,e,s _ _ h⟩,WY.mono s r⟩
theorem WY.get:∀ {xs} {ps} {i:Nat} {x},WY H xs ps->xs[i]?=some x->∃ t p,ps[i]?=some p/\x=.ref t/\H t=oT [.int p.1,.int p.2]
 |[],[],_,_,_,e=>by simp at e
 |[],_::_,_,_,h,_=>h.elim
 |_::_,[],_,_,h,_=>h.elim
 |x::xs,p::ps,0,y,⟨⟨t,e,h⟩,r⟩,q=>by
  simp at q;subst q;exact (x2 t p (c3 rfl e h))
 |x::xs,p::ps,i+1,y,⟨_,r⟩,q=>by
  obtain⟨t,j,h1,g⟩:=WY.get (i:=i) r (by simpa using q);exact⟨t,j,by simpa using h1,g⟩
theorem WY.snoc:∀ {xs} {ps} {t} {a b:Int},WY H xs ps->H t=oT [.int a,.int b]->WY H (xs++[.ref t]) (ps++[(a,b)])
 |[],[],t,_,_,_,h=>⟨⟨t,rfl,h⟩,trivial⟩
 |[],_::_,_,_,_,r,_=>r.elim
 |_::_,[],_,_,_,r,_=>r.elim
 |x::xs,p::ps,_,_,_,⟨z,r⟩,h=>⟨z,WY.snoc r h⟩
def WD (H:Hp):List V->List Cl->Prop
 |[],[]=>True
 |x::xs,c::cs=>(∃ p,x=.ref p/\WK H p c)/\WD H xs cs
 |_,_=>False
theorem WD.len:∀ {xs} {cs},WD H xs cs->xs.length=cs.length
 |[],[],_=>rfl
 |[],_::_,h=>h.elim
 |_::_,[],h=>h.elim
 |x::xs,c::cs,h=>by rw[zAf,zAf,WD.len h.2]
theorem WD.get:∀ {xs} {cs} {i:Nat} {x},WD H xs cs->xs[i]?=some x->∃ p c,cs[i]?=some c/\x=.ref p/\WK H p c
 |[],[],_,_,_,e=>by simp at e
 |[],_::_,_,_,h,_=>h.elim
 |_::_,[],_,_,h,_=>h.elim
 |x::xs,c::cs,0,y,⟨⟨p,e,h⟩,r⟩,q=>by
  simp at q;subst q;exact (x2 p c (c3 rfl e h))
 |x::xs,c::cs,i+1,y,⟨_,r⟩,q=>by
  obtain⟨p,g,h1,j⟩:=WD.get (i:=i) r (by simpa using q);exact⟨p,g,by simpa using h1,j⟩
def UK (H H':Hp):Prop:=∀ t C dx fs,H t=oI C dx fs->H' t=oI C dx fs
def Qz {H H':Hp} (s:De H H'):UK H H':=λt _ _ _ h=>s t _ h
theorem WD.mono {H H':Hp} (s:UK H H'):∀ {xs} {ps},WD H xs ps->WD H' xs ps
 |[],[],_=>trivial
 |[],_::_,h=>h.elim
 |_::_,[],h=>h.elim
 |x::xs,p::ps,⟨⟨t,e,dx,h⟩,r⟩=>⟨⟨t,e,dx,s _ _ _ _ h⟩,WD.mono s r⟩
theorem WD.snoc:∀ {xs} {cs} {p} {c},WD H xs cs->WK H p c->WD H (xs++[.ref p]) (cs++[c])
 |[],[],p,_,_,h=>⟨⟨p,rfl,h⟩,trivial⟩
 |[],_::_,_,_,z,_=>z.elim
 |_::_,[],_,_,z,_=>z.elim
 |x::xs,c::cs,_,_,⟨z,r⟩,h=>⟨z,WD.snoc r h⟩
def BY (k:Int) (c:Cl) (n:Int):LZ:=(NL c n k,OI c n k)
def Ay (k:Int) (cs:List Cl) (ns:List Int):List LZ:=List.zipWith (BY k) cs ns
def Zk {k:Int} {cs:List Cl} {ns:List Int} {i:Nat} {c:Cl} {n:Int} (h1:cs[i]?=some c) (g:ns[i]?=some n):Ay k (cs.take (i+1)) (ns.take (i+1))=Ay k (cs.take i) (ns.take i)++[BY k c n]:=by
 unfold Ay;rw[Be h1,Be g,List.zipWith_append (by
  have:=(zAl.mp h1).1;have:=(zAl.mp g).1;rw[zAo,zAo]
  lia)]
 rfl
def Md {k:Int} {cs:List Cl} {ns:List Int} (h:ns.length=cs.length):(Ay k cs ns).length=cs.length:=by unfold Ay;rw[List.length_zipWith];lia
inductive TQ (vs:List V) (H:Hp) (Q:VK) (E:XK):Prop
 |mk (a xs sp:_) (c:Int) (z0:vs=[.ref a,.int c]) (z1:H a=oL xs) (z2:WY H xs sp) (z3:sp.length<=60) (z4:∀ H',De H H'->Q (.int (CRP.fw sp c)) H')
def QZ (sp:List LZ) (cents y:Int):Prop:=y=0\/y=cents\/∃ p∈sp,y=p.1\/y=p.2
inductive QI (vs:List V) (H:Hp) (Q:VK) (E:XK):Prop
 |mk (a xs sp:_) (cents:Int) (z0:vs=[.ref a,.int cents]) (z1:H a=oL xs) (z2:WY H xs sp) (z3:sp.length<=8) (z4:∀ (l:Addr) (ms:List Int) (H':Hp),De H H'->H l=none->H' l=oL (ms.map V.int)->ms.Pairwise (· < ·)->(∀ y,y∈ms↔QZ sp cents y)->ms.length<=20->Q (.ref l) H')
theorem AJ:∀ {g ns:List Int},g.Nodup->(∀ y∈g,y∈ns)->g.length<=ns.length
 |[],_,_,_=>zAu _
 |x::g,ns,nd,h=>by
  rw[zBt] at nd;have j:=h x zAg;have ih:=AJ (ns:=ns.erase x) nd.2 λy q=>(zCk (λz:y=x=>nd.1 (by rw[<- z];exact q))).mpr (h y (zAd _ q));rw[zBT j] at ih;have:0<ns.length:=zCb j;rw[zAf]
  lia
def HZ {g ns:List Int} (h:g.Pairwise (· < ·)) (m:∀ y∈g,y∈ns):g.length<=ns.length:=by
 have nd:g.Nodup:=h.imp λ{a b} z=>by lia
 exact AJ nd m
section
variable {P:Program} {w:World} {K:zAa} {mg:Str->Option Value} {base:Heap} (J:Pm P w K mg base)
def Pb:Jc J 1 "first_without" ["spans","cent"] TQ:=Gb J.z J.qt ["spans","cent","k","span"] df λsc H Q hr h=>by
 obtain⟨a,xs,sp,c,rfl,S,ps,Y,q⟩:=h;refine⟨_,(Ab (Bk PassesOwn.never rfl (Hv rfl (J.z.nn J.ao) (Bj (pv 0))) (Cu (K:=K) (n:=2) rfl rfl (As (Fj sc 2) (As (Fj sc 3) Cs)))
    (Ac (Au (PW.pt (Eb (Ak Gx (pv 1) (Da K (pv 3) Ad) (An _)) (Dx (Ak MR (pv 1) (Da K (pv 3) Ad) (An _)))))
    (Ac (Ai (pv 2)))
    Al)))
   (Ac (Ai (Sl Mw Ad)))),?_⟩
 have U:=ps.len;refine (vE rfl ⟨a,rfl,⟨_,Dl.of S⟩,Ls (K:=K) (a:=a) (xs:=xs) (λi σ B=>((∃ M F,σ=[oR a,oN c,M,F])/\CRP.fw sp c=CRP.fwFrom (sp.drop i) i c)/\De H B) ⟨⟨⟨none,none,rfl⟩,rfl⟩,λ_ _ z=>z⟩ (λi σ B _ ⟨_,e⟩=>Dl.of (e _ _ S)) ?_ ?_⟩)
 .rintro i x σ B t hi ⟨⟨⟨M,F,rfl⟩,e⟩,L⟩ nt
  obtain⟨u,p,hp,rfl,Z⟩:=ps.get hi;have j:=L.trans (Af nt (.tup [.int i,.ref u]));have g:=j _ _ Z;rw[Vm hp] at e;have e2:CRP.fw sp c=if c<p.1\/p.2<=c then (i:Int) else CRP.fwFrom (sp.drop (i+1)) ((i:Int)+1) c:=e;refine (vE rfl (vE rfl (vI rfl rfl (Jy.of g) rfl (vF rfl rfl (vE rfl ?_)))));by_cases c1:c<p.1
  .rw[if_pos (.inl c1)] at e2
   refine dT c1 (Jt (vE rfl ?_));have:=q _ j;rw[e2] at this;exact this
  refine dF c1 (vE rfl (vE rfl (vI rfl rfl (Jy.of g) rfl (vF rfl rfl (vE rfl ?_)))));by_cases c2:p.2<=c
  .rw[if_pos (.inr c2)] at e2
   refine dT c2 (vE rfl ?_);have:=q _ j;rw[e2] at this;exact this
  .rw[if_neg (by lia)] at e2
   exact dF c2 ⟨⟨⟨_,_,rfl⟩,by rw[e2];rfl⟩,j⟩
 .rintro σ B ⟨⟨⟨M,F,rfl⟩,e⟩,L⟩
  rw[U,zBJ] at e;have:=q _ L;rw[e] at this;exact (vE rfl this)
def C0:Jc J 1 "bounds_of" ["spans","cents"] QI:=Gb J.z J.qu ["spans","cents","bounds","span"] df λsc H Q hr h=>by
 obtain⟨a,xs,sp,g,rfl,ha,ps,l8,q⟩:=h;refine⟨_,(Ab (Ce sc 2 (Bf (Bb Ad (pv 1))))
   (Ab (Bk PassesOwn.never rfl (Go K (pv 0)) (Fj sc 3)
    (Ac (Bc (Db (K:=K) rfl PySem.F.plainAttrs_list PySem.F.slot_list_extend PySem.F.type_list_extend Zm (pv 2) (Bj (pv 3))))))
   (Ac (Ai (C5 (pv 2) rfl rfl (J.z.nn J.ce) rfl (J.z.nn J.jv)))))),?_⟩
 have lx:=ps.len;refine (vE rfl ⟨Dk (by show 2<=1000;decide),λb S=>?_⟩);have aa:a≠b:=Ae ha S;refine⟨_,rfl,a,rfl,⟨_,Dl.of (Af S _ _ _ ha)⟩,Cp (K:=K) (a:=a) (xs:=xs) (λi σ M=>(∃ o,σ=[oR a,oN g,oR b,o])/\M b=oL ((0::g::(sp.take i).flatMap λp=>[p.1,p.2]).map V.int)/\De H M) ⟨⟨none,rfl⟩,Aa,Af S _⟩
  (λi σ M _ ⟨_,_,e⟩=>Dl.of (e _ _ ha)) ?_ ?_⟩
 .rintro i x σ M hi ⟨⟨o,rfl⟩,L,B⟩
  obtain⟨u,p,j,rfl,hu⟩:=ps.get hi;have il:i<sp.length:=(zAl.mp j).1;have Y:∀ l:List LZ,(l.flatMap λp=>[p.1,p.2]).length=2*l.length:=λl=>by
   induction l with
   |nil=>rfl
   |cons y l ih=>simp only [List.flatMap_cons,zAj,zAf,zCq,ih];lia
  refine (vE rfl ⟨.inl ⟨rfl,_,Dl.of L⟩,vE rfl (x4 b u _ _ (c8 rfl rfl L (B _ _ hu) ?_ ⟨_,rfl⟩ ?_ (λy o z=>?_)))⟩)
  .rw[zAb,zAf,zAf,Y,zAo,zCE]
   show _+2<=_
   lia
  .rw[Aa,Be j,List.flatMap_append]
   congr 2
   show List.map V.int _++[V.int p.1,V.int p.2]=List.map V.int (0::g::(_++_));rw[<- zCy,<- zCy,zAp];rfl
  .rw[Ag (Ae z S)]
   exact B y o z
 .rintro σ M ⟨⟨o,rfl⟩,L,B⟩
  rw[lx,zAB] at L;have Y:∀ l:List LZ,(l.flatMap λp=>[p.1,p.2]).length=2*l.length:=λl=>by
   induction l with
   |nil=>rfl
   |cons y l ih=>simp only [List.flatMap_cons,zAj,zAf,zCq,ih];lia
  have ln:(0::g::sp.flatMap λp=>[p.1,p.2]).length<=20:=by rw[zAf,zAf,Y];lia
  refine (vE rfl (x2 b _ (c4 rfl (Dl.of L) (by lia) (λl ms nl up F=>q l ms _ (B.trans (Af nl _)) (B.free nl) Aa up (λy=>?_) ?_))))
  .rw[F y]
   unfold QZ;constructor
   .intro U
    rcases zAn.mp U with z|z
    .exact .inl z
    rcases zAn.mp z with z|z
    .exact .inr (.inl z)
    .obtain⟨p,j,Z⟩:=List.mem_flatMap.mp z
     refine .inr (.inr ⟨p,j,?_⟩)
     simpa using Z
   .rintro (z|z|⟨p,j,z⟩)
    .rw[z];exact zAg
    .rw[z];exact zAd _ zAg
    .refine zAd _ (zAd _ (List.mem_flatMap.mpr ⟨p,j,?_⟩))
     simpa using z
  .exact zAz (HZ up λy U=>(F y).mp U) ln
end
def Ds:List (Option Int)->Int->Option (Int×Int)->Option (Int×Int)
 |[],_,o=>o
 |none::r,k,o=>Ds r (k+1) o
 |some n::r,k,none=>Ds r (k+1) (some (n,k))
 |some n::r,k,some (m,j)=>Ds r (k+1) (if n<m then some (n,k) else some (m,j))
def HF:V->Option Int
 |.int n=>some n
 |_=>none
def RV (H:Hp) (v:V):Option (Int×Int)->Prop
 |none=>v=.non
 |some (n,k)=>∃ t,v=.ref t/\H t=oT [.int n,.int k]
theorem RV.same {H H':Hp} {v:V} (s:De H H'):∀ {o},RV H v o->RV H' v o
 |none,h=>h
 |some (n,k),⟨t,e,h⟩=>⟨t,e,s _ _ h⟩
def Bq (cs:List Cl) (ns:List Int):List (Option Int):=List.zipWith (λc n=>HF (Py c n)) cs ns
inductive JU (vs:List V) (H:Hp) (Q:VK) (E:XK):Prop
 |mk (p cl ct xs cs ns:_) (z0:vs=[.ref p,.ref ct]) (z1:XC CV H p cl) (z2:H cl=oL xs) (z3:WD H xs cs) (z4:H ct=oL (List.map V.int ns)) (z5:ns.length=cs.length) (z6:∀ v H',De H H'->RV H' v (Ds (Bq cs ns) 0 none)->Q v H')
def X1 (c:Cl) (n:Int):Py c n=.non\/∃ m:Int,Py c n=.int m:=by
 cases c with
 |own y d=>exact .inl rfl
 |lay y a b=>exact .inl rfl
 |lim y m=>exact .inr ⟨_,rfl⟩
 |any y=>exact .inl rfl
section
variable {P:Program} {w:World} {K:zAa} {mg:Str->Option Value} {base:Heap}
def GI (J:Pm P w K mg base):Jm J 2 CV "rest" ["self","counts"] (JU):=GR J.z J.mh J.aa.cl ["self","counts","least","k","clause","room"] df λsc H Q hr h=>by
 obtain⟨p,cl,ct,xs,j,ns,rfl,⟨dx,fs,hp,af,_⟩,ad,C4,ah,ln,q⟩:=h;refine⟨_,(Ab (Ce sc 2 Ep)
   (Ab (Bk PassesOwn.never rfl (Hv rfl (J.z.nn J.ao) (Bj (Aw (pv 0) rfl))) (Cu (K:=K) (n:=2) rfl rfl (As (Fj sc 3) (As (Fj sc 4) Cs)))
    (Ab (Ce sc 5 (Fb (PX J) (hr.mono (by decide)) (pv 4) (Bj (Jo K (pv 1) (pv 3)))))
   (Ac (Au (PW.pt (Pu (Ak Vg (pv 5) Ep (An _)) (Lj (PW.pt (Eb (Ak Mi (pv 2) Ep (An _)) (Dx (Ak Gx (pv 5) (Da K (pv 2) Ad) (An _))))))))
    (Ac (Ce sc 2 (Ba (Bb (pv 5) (pv 3)))))
    Al))))
   (Ac (Ai (pv 2))))),?_⟩
 have lx:=C4.len;have ac:2<=sizeLine:=by rw[zCE];decide
 refine⟨_,rfl,p,CV,dx,fs,_,rfl,hp,J.aa.cl,J.ah,af,cl,rfl,⟨_,Dl.of ad⟩,Ls (K:=K) (a:=cl) (xs:=xs)
  (λi σ M=>(∃ v o3 Y U o,σ=[oR p,oR ct,some v,o3,Y,U]/\RV M v o/\Ds (Bq j ns) 0 none=Ds ((Bq j ns).drop i) i o)/\De H M) ⟨⟨.non,none,none,none,none,rfl,rfl,rfl⟩,λ_ _ z=>z⟩ (λi σ M _ ⟨_,e⟩=>Dl.of (e _ _ ad)) ?_ ?_⟩
 .rintro i x σ M t hi ⟨⟨v,o3,Y,U,o,rfl,rv,F⟩,s2⟩ nt
  obtain⟨pc,c,hc,rfl,⟨dc,ab⟩⟩:=C4.get hi;have s3:=Af nt (.tup [.int i,.ref pc]);have g:=s2.trans s3;have ic:i<j.length:=(zAl.mp hc).1;have ak:j[i]'ic=c:=(zAl.mp hc).2;have ag:ns.getD i 0=ns[i]'(by lia):=by rw[zAq,zAe (by lia)];rfl
  have aj:(Bq j ns)[i]?=some (HF (Py c (ns.getD i 0))):=by
   unfold Bq;rw[List.getElem?_zipWith,hc,zAe (show i<ns.length by lia),<- ag]
  rw[Vm aj] at F;have aa:=rv.same s3;refine (vE rfl ⟨pc,_,dc,_,rfl,g _ _ ab,Vf c,DM c,_,rfl,vE rfl (vI rfl rfl (Dl.of (g _ _ ah)) (F7 (by lia) (by lia)) ⟨pc,c,_,rfl,⟨dc,g _ _ ab⟩,rfl,?_⟩)⟩);have ei:((i:Int)).toNat=i:=Int.toNat_natCast i;rw[ei];generalize hR:Py c (ns.getD i 0)=rm at F;have ai:rm=.non\/∃ m:Int,rm=.int m:=by rw[<- hR];exact X1 c _
  rcases ai with rfl|⟨m,rfl⟩
  .refine (vE rfl ⟨rfl,vE rfl (nF rfl (Cy ?_))⟩)
   exact⟨⟨v,_,_,_,o,rfl,aa,F⟩,g⟩
  .refine (vE rfl ⟨rfl,vE rfl (nT (λz=>nomatch z) ?_)⟩)
   have done:∀ (S:Hp) (u:Addr) ae,De H S->S u=none->Ds (Bq j ns) 0 none=Ds ((Bq j ns).drop (i+1)) ((i:Int)+1) (some (m,(i:Int))) ->
     (∃ v o3 Y U o,[oR p,oR ct,oR u,oN i,oR pc,ae]=[oR p,oR ct,some v,o3,Y,U]/\RV (upd S u (.tup [.int m,.int i])) v o/\Ds (Bq j ns) 0 none=Ds ((Bq j ns).drop (i+1)) ((i+1:Nat):Int) o)/\De H (upd S u (.tup [.int m,.int i])):=λS u ae s4 nu e=>by
    exact⟨⟨.ref u,_,_,_,some (m,i),rfl,⟨u,rfl,Aa⟩,by rw[e];rfl⟩,s4.trans (Af nu _)⟩
   cases o with
   |none=>
    have v0:v=.non:=rv;subst v0;refine (vE rfl ⟨rfl,vE rfl (dT rfl (Jt ?_))⟩);exact (vE rfl (vE rfl ⟨ac,λu nu=>done _ u _ g nu F⟩))
   |some mj=>
    obtain⟨n0,j0⟩:=mj;obtain⟨tv,rfl,Z⟩:=aa;refine (vE rfl ⟨rfl,vE rfl (dF (λz=>nomatch z) ?_)⟩);refine (vE rfl (vE rfl (vI rfl rfl (Jy.of Z) rfl (vF rfl rfl (vE rfl (Qh (λc1=>?_) (λc1=>?_)))))))
    .have L:m<n0:=of_decide_eq_true c1
     have B:Ds (Bq j ns) 0 none=Ds ((Bq j ns).drop (i+1)) ((i:Int)+1) (if m<n0 then some (m,(i:Int)) else some (n0,j0)):=F;rw[if_pos L] at B;exact (vE rfl (vE rfl ⟨ac,λu nu=>done _ u _ g nu B⟩))
    .have L:¬ m<n0:=of_decide_eq_false (zBs.mpr c1)
     have B:Ds (Bq j ns) 0 none=Ds ((Bq j ns).drop (i+1)) ((i:Int)+1) (if m<n0 then some (m,(i:Int)) else some (n0,j0)):=F;rw[if_neg L] at B;exact⟨⟨.ref tv,_,_,_,some (n0,j0),rfl,⟨tv,rfl,Z⟩,by rw[B];rfl⟩,g⟩
 .rintro σ M ⟨⟨v,o3,Y,U,o,rfl,rv,F⟩,s2⟩
  have lr:(Bq j ns).length=xs.length:=by unfold Bq;rw[List.length_zipWith];lia
  rw[<- lr,zBJ] at F;exact (vE rfl (q v M s2 (by rw[F];exact rv)))
end
def PN {nx:St->Hp->Prop} (g:St) (e:σ=g) (h:nx g H):nx σ H:=e▸h
def TM (H:Hp) (p cl ct:Addr) (cs:List Cl) (ns:List Int):Prop:=XC CV H p cl/\(∃ xs,H cl=oL xs/\WD H xs cs)/\H ct=oL (ns.map V.int)/\ns.length=cs.length/\cs.length<=8
def F1 (m:Int) (l:List Int):Prop:=m∈l/\∀ k∈l,k<=m
def G3 (m:Int) (l:List Int):Prop:=m∈l/\∀ k∈l,m<=k
inductive EX (vs:List V) (H:Hp) (Q:VK) (E:XK):Prop
 |mk (p cl ct cs ns:_) (k:Int) (z0:vs=[.ref p,.ref ct,.int k]) (z1:TM H p cl ct cs ns) (z2:∀ r ys H',De H H'->H r=none->H' r=oL ys->WY H' ys (Ay k cs ns)->Q (.ref r) H')
inductive NN (vs:List V) (H:Hp) (Q:VK) (E:XK):Prop
 |mk (p cl ct cs ns:_) (k:Int) (z0:vs=[.ref p,.ref ct,.int k]) (z1:TM H p cl ct cs ns) (z2:∀ (t:Addr) (lo hi:Int) (H':Hp),De H H'->H' t=oT [.int lo,.int (if hi>lo then hi else lo)]->F1 lo (0::(Ay k cs ns).map (·.1))->G3 hi (k::(Ay k cs ns).map (·.2))->Q (.ref t) H')
inductive NI (vs:List V) (H:Hp) (Q:VK) (E:XK):Prop
 |mk (p cl ct cs ns:_) (k:Int) (z0:vs=[.ref p,.ref ct,.int k]) (z1:TM H p cl ct cs ns) (z2:∀ (r:Addr) (xs:List V) (ms:List Int) (H':Hp),De H H'->H r=none->H' r=oL xs->ms.Pairwise (· < ·)->(∀ y,y∈ms↔QZ (Ay k cs ns) k y)->ms.length<=20->WU H' xs (CRP.foldP (Ay k cs ns) ms (ms.length-1))->Q (.ref r) H')
section
variable {P:Program} {w:World} {K:zAa} {mg:Str->Option Value} {base:Heap} (J:Pm P w K mg base)
def W9:Jm J 3 CV "spans" ["self","counts","cents"] (EX):=GR J.z J.ku J.aa.cl ["self","counts","cents"] df λsc H Q hr h=>by
 obtain⟨p,cl,ct,cs,ns,k,rfl,⟨⟨dx,fs,e1,fc,nm⟩,⟨xs,F,cc⟩,U,ln,l8⟩,q⟩:=h;refine⟨_,(Ac (Ai (Cc (NC:=["k","clause","cents","counts"]) (own:=["k","clause"]) (cs:=["cents","counts"]) (ix:=[2,1]) rfl (Dt.of rfl) rfl ⟨⟨rfl,.inl rfl,rfl⟩,⟨⟨rfl,.inl rfl,rfl⟩,trivial⟩⟩ (Hv rfl (J.z.nn J.ao) (Bj (Aw (pv 0) rfl))) (λ_ _ _=>(Cu (K:=K) (n:=2) rfl rfl (As (Jq 0) (As (Jq 1) Cs)))) (λ_ _ _=>Bw) (λ_ _ _=>(Fb (QH J) (hr.mono (by decide)) (pv 1) (Bb (Jo K (pv 3) (pv 0)) (pv 2))))))),?_⟩;have lx:=cc.len;refine (vE rfl ⟨p,CV,dx,fs,_,rfl,e1,J.aa.cl,J.ah,fc,cl,rfl,⟨_,Dl.of F⟩,λb Z=>?_⟩);refine Tz (K:=K) (a:=cl) (xs:=xs) (λi ys g=>WY g ys (Ay k (cs.take i) (ns.take i))/\g b=oL ys/\De H g) ⟨trivial,Aa,Af Z _⟩
  (λi ys g _ ⟨e,j,x2⟩=>⟨j,by rw[e.len,Md (by rw[zAo,zAo,ln]),zAo];lia,Dl.of (x2 _ _ F)⟩) (by rw[zCE];lia) (λi x ys g t hi ⟨e,j,x2⟩ M=>?_) (λys g ⟨e,j,x2⟩=>?_)
 .obtain⟨o,c,hc,rfl,ho⟩:=cc.get hi
  have il:i<cs.length:=(zAl.mp hc).1;have hn:ns[i]?=some (ns[i]'(by lia)):=zAe (by lia);have S:=x2.trans (Af M (.tup [.int i,.ref o]));have B:=ho.same S;obtain⟨od,Y⟩:=id B;have aa:Oq (ns.map V.int) (i:Int)=some (.int (ns[i]'(by lia))):=Ge (by rw[zAy,hn];rfl);refine (vE rfl ⟨o,_,od,_,rfl,Y,Vf c,GB c,_,rfl,vE rfl (vI rfl rfl (Dl.of (S _ _ U)) aa (vE rfl ⟨o,c,_,k,rfl,B,rfl,(λu H4 L hu=>⟨L _ _ (Af M _ _ _ j),rfl,?_,Aa,λy ob z=>?_⟩)⟩))⟩)
  .rw[Zk hc hn]
   have h1:=L _ _ (Af M (.tup [.int i,.ref o]) _ _ j);exact (((e.mono (Aq (Af M _))).mono (Aq L)).snoc hu).mono (Cj h1 _)
  .rw[Ag (Ae z Z)]
   exact L _ _ (S y ob z)
 rw[lx,zAB,<- ln,zAB] at e;exact q b ys g x2 Z j e
def GF:Jm J 4 CV "window" ["self","counts","cents"] (NN):=GR J.z J.ka J.aa.cl ["self","counts","cents","spans","lo","hi"] df λsc H Q hr h=>by
 obtain⟨p,cl,ct,cs,ns,k,rfl,CV,q⟩:=h;refine⟨_,(Ab (Ce sc 3 (Bo (W9 J) (hr.mono (by decide)) (pv 0) (Bb (pv 1) (pv 2))))
   (Ab (Ce sc 4 (Lh (O9 rfl) J.z J.cg (Bj (Aj Kg (Bf (Bj Ad)) (Cc (NC:=["span"]) (own:=["span"]) (cs:=[]) (ix:=[]) rfl (Dt.of rfl) rfl trivial (Go K (pv 3)) (λ_ _ _=>(Jq 0)) (λ_ _ _=>Bw) (λ_ _ _=>(Da K (pv 0) Ad)))))))
   (Ab (Ce sc 5 (Lh (M8 rfl) J.z J.fg (Bj (Aj Kg (Bf (Bj (pv 2))) (Cc (NC:=["span"]) (own:=["span"]) (cs:=[]) (ix:=[]) rfl (Dt.of rfl) rfl trivial (Go K (pv 3)) (λ_ _ _=>(Jq 0)) (λ_ _ _=>Bw) (λ_ _ _=>(Da K (pv 0) Ad)))))))
   (Ac (Ai (Ba (Bb (pv 4) (Lh (Gy rfl) J.z J.cg (Bb (pv 4) (pv 5)))))))))),?_⟩
 refine Hu λN eN=>?_;have one:1<=sizeLine:=by rw[zCE];decide
 have aj:2<=sizeLine:=by rw[zCE];decide
 obtain⟨⟨dx,fs,e1,fc,nm⟩,_,_,ln,l8⟩:=id CV;refine (vE rfl ⟨p,dx,fs,rfl,e1,nm.1,_,rfl,vE rfl ⟨p,cl,ct,cs,ns,k,rfl,CV,λr ys H1 s1 nr M ps=>?_⟩⟩);have ae:(Ay k cs ns).length<=8:=by rw[Md ln];exact l8
 generalize Ay k cs ns=sp at ps q ae;have ly:=ps.len;refine Fq eN [oR p,oR ct,oN k,oR r,none,none] rfl λN eN=>?_;refine⟨one,λF n1=>?_⟩;have j:=Af n1 (.lst [V.int 0]);refine (vE rfl ⟨r,rfl,⟨_,Dl.of (j _ _ M)⟩,λb L=>?_⟩);have g:upd H1 F (.lst [V.int 0]) F=oL [V.int 0]:=Aa;generalize upd H1 F (.lst [V.int 0])=H2 at j g L;have Y:=j _ _ M;have Z:=ps.mono (Aq j);refine Bi (K:=K) (a:=r) (xs:=ys) (λi zs U=>zs=((sp.take i).map (·.1)).map V.int/\U b=oL zs/\De H2 U) ⟨rfl,Aa,Af L _⟩
  (λi zs U _ ⟨e,B,x2⟩=>⟨B,by rw[e,zAb,zAb,zAo];lia,Dl.of (x2 _ _ Y)⟩) (by rw[zCE];lia) (λi x zs U hi ⟨e,B,x2⟩=>?_) (λzs U ⟨e,B,x2⟩=>?_)
 .obtain⟨t,pp,hp,rfl,ht⟩:=Z.get hi
  refine (vE rfl (vI rfl rfl (Jy.of (x2 _ _ ht)) rfl ⟨B,rfl,?_,Aa,λy o z=>?_⟩))
  .rw[Be hp,zAp,zAp,e]
   rfl
  .rw[Ag (Ae z L)]
   exact x2 y o z
 rw[ly,zAB] at e;subst e;refine⟨F,b,_,_,rfl,rfl,x2 _ _ g,B,by rw[zAb,zAb,zCE];show 1+_<=_;lia,λl2 n2=>?_⟩;have t3:=Af n2 (.lst ([V.int 0]++(sp.map (·.1)).map V.int));refine⟨l2,0::sp.map (·.1),rfl,Dl.of Aa,by simp,λlo ac af=>?_⟩;have S3:=j.trans (x2.trans t3);generalize upd U l2 (.lst ([V.int 0]++(sp.map (·.1)).map V.int))=H4 at S3;have aa:=S3 _ _ M;have ab:=ps.mono (Aq S3);clear B x2 t3 j g Y Z n2 L n1;refine Fq eN [oR p,oR ct,oN k,oR r,oN lo,none] rfl λN eN=>?_;refine (vE rfl ⟨one,λF n1=>?_⟩);have j:=Af n1 (.lst [V.int k]);refine (vE rfl ⟨r,rfl,⟨_,Dl.of (j _ _ aa)⟩,λb L=>?_⟩);have g:upd H4 F (.lst [V.int k]) F=oL [V.int k]:=Aa;generalize upd H4 F (.lst [V.int k])=H5 at j g L;have ai:=j _ _ aa;have ah:=ab.mono (Aq j);refine Bi (K:=K) (a:=r) (xs:=ys) (λi zs S=>zs=((sp.take i).map (·.2)).map V.int/\S b=oL zs/\De H5 S) ⟨rfl,Aa,Af L _⟩
  (λi zs S _ ⟨e,B,x2⟩=>⟨B,by rw[e,zAb,zAb,zAo];lia,Dl.of (x2 _ _ ai)⟩) (by rw[zCE];lia) (λi x zs S hi ⟨e,B,x2⟩=>?_) (λzs S ⟨e,B,x2⟩=>?_)
 .obtain⟨t,pp,hp,rfl,ht⟩:=ah.get hi
  refine (vE rfl (vI rfl rfl (Jy.of (x2 _ _ ht)) rfl ⟨B,rfl,?_,Aa,λy o z=>?_⟩))
  .rw[Be hp,zAp,zAp,e]
   rfl
  .rw[Ag (Ae z L)]
   exact x2 y o z
 rw[ly,zAB] at e;subst e;refine⟨F,b,_,_,rfl,rfl,x2 _ _ g,B,by rw[zAb,zAb,zCE];show 1+_<=_;lia,λl2 n2=>?_⟩;have t3:=Af n2 (.lst ([V.int k]++(sp.map (·.2)).map V.int));refine⟨l2,k::sp.map (·.2),rfl,Dl.of Aa,by simp,λhi ag ad=>?_⟩;have S6:=s1.trans (S3.trans (j.trans (x2.trans t3)));generalize upd S l2 (.lst ([V.int k]++(sp.map (·.2)).map V.int))=H7 at S6;subst eN;refine Ga [oR p,oR ct,oN k,oR r,oN lo,oN hi] rfl ?_;refine (vE rfl (vE rfl (vE rfl ⟨_,_,rfl,aj,λt nt=>?_⟩)));exact q t lo hi _ (S6.trans (Af nt _)) Aa ⟨ac,af⟩ ⟨ag,ad⟩
end
def EO (xs:List V):Ku xs (some 1) none=xs.drop 1:=by
 unfold Ku;rw[HT.sIx_none,show (some (1:Int))=some ((1:Nat):Int) from rfl,HT.sIx_nat];cases xs with
 |nil=>rfl
 |cons x xs=>
  rw[show min 1 (x::xs).length=1 by rw[zAf];lia,zBZ];rw[zBm];exact zAi _
section
variable {P:Program} {w:World} {K:zAa} {mg:Str->Option Value} {base:Heap}
def HU (J:Pm P w K mg base):Jm J 4 CV "parts" ["self","counts","cents"] (NI):=GR J.z J.kz J.aa.cl ["self","counts","cents","spans","bounds","told","lo","hi","k"] df λsc H Q hr h=>by
 obtain⟨p,cl,ct,cs,ns,k,rfl,CV,q⟩:=h;refine⟨_,(Ab (Ce sc 3 (Bo (W9 J) (hr.mono (by decide)) (pv 0) (Bb (pv 1) (pv 2))))
   (Ab (Ce sc 4 (Cb (C0 J) hr (Bb (pv 3) (pv 2))))
   (Ab (Ce sc 5 (Bf Cn))
   (Ab (Bk PassesOwn.never rfl (KD rfl (J.z.nn J.ou) (Bb (pv 4) (Ek (Iw (K:=K) rfl) (pv 4) (Eh Ad) Hl))) (Cu (K:=K) (n:=2) rfl rfl (As (Fj sc 6) (As (Fj sc 7) Cs)))
    (Ab (Ce sc 8 (Cb (Pb J) hr (Bb (pv 3) (pv 6))))
   (Ab (Au (PW.pt (Pu (V9 (pv 5)) (Lj (Ak Bv (Da K (Jo K (pv 5) (Sl Mw Ad)) Ad) (pv 8) (An _)))))
    (Ac (Ce sc 6 (Da K (IB PySem.F.plainAttrs_list PySem.F.slot_list_pop PySem.F.type_list_pop KM (pv 5)) Ad)))
    Al)
   (Ac (Bc (Db (K:=K) rfl PySem.F.plainAttrs_list PySem.F.slot_list_append PySem.F.type_list_append Cm (pv 5) (Bj (Ba (Ah (pv 6) (Bb (pv 7) (pv 8)))))))))))
   (Ac (Ai (pv 5))))))),?_⟩
 have three:3<=sizeLine:=by rw[zCE];decide
 obtain⟨⟨dx,fs,e1,fc,nm⟩,_,_,ln,l8⟩:=id CV;refine (vE rfl ⟨p,dx,fs,rfl,e1,nm.1,_,rfl,vE rfl ⟨p,cl,ct,cs,ns,k,rfl,CV,(λa ys H1 s1 na ha ps=>?_)⟩⟩);have lsp:(Ay k cs ns).length<=8:=by rw[Md ln];exact l8
 generalize Ay k cs ns=sp at ps q lsp;have ly:=ps.len;refine (vE rfl (vE rfl ⟨a,ys,sp,k,rfl,ha,ps,lsp,(λl ms H2 s2 nl hl up mem l20=>?_)⟩));refine⟨zAu _,λr nr=>?_⟩;have ha2:=s2 _ _ ha;have ps2:=ps.mono (Aq s2);have S2:=s1.trans s2;refine Ga [oR p,oR ct,oN k,oR a,oR l,oR r,none,none,none] rfl ?_;have t1:=Af nr (.lst []);refine (vE rfl (vE rfl (vE rfl ⟨l,_,rfl,(Dl.of (t1 _ _ hl)),(λm nm'=>?_)⟩)));rw[EO,<- List.map_drop];have t2:=Af nm' (.lst ((ms.drop 1).map V.int));have lrm:r≠m:=Ae Aa nm';have hr3:upd (upd H2 r (.lst [])) m (.lst ((ms.drop 1).map V.int)) r=oL []:=by rw[Ag lrm,Aa]
 have hm3:upd (upd H2 r (.lst [])) m (.lst ((ms.drop 1).map V.int)) m=oL ((ms.drop 1).map V.int):=Aa;have s3:=t1.trans t2;have nm2:H2 m=none:=t1.free nm';generalize upd (upd H2 r (.lst [])) m (.lst ((ms.drop 1).map V.int))=H3 at hr3 hm3 s3;have sm:∀ (H4:Hp) (o:HO),De H2 H4->De H2 (upd H4 r o):=λH4 o s4 b u z=>by rw[Ag (Ae z nr)];exact s4 b u z
 refine⟨l,m,rfl,⟨_,Dl.of (s3 _ _ hl)⟩,⟨_,Dl.of hm3⟩,EV (K:=K) (K':=K) (a:=l) (b:=m) (xs:=ms.map V.int) (ys:=(ms.drop 1).map V.int)
  (λi σ H4=>(∃ o6 o7 o8 zs,σ=[oR p,oR ct,oN k,oR a,oR l,oR r,o6,o7,o8]/\H4 r=oL zs/\WU H4 zs (CRP.foldP sp ms i))/\H4 m=oL ((ms.drop 1).map V.int)/\De H2 H4)
  ⟨⟨none,none,none,[],rfl,hr3,trivial⟩,hm3,s3⟩ (λi σ H4 _ ⟨_,e,s4⟩=>⟨Dl.of (s4 _ _ hl),Dl.of e⟩) ?_ ?_⟩
 .rintro i x y σ H4 t hx hy ⟨⟨o6,o7,o8,zs,rfl,hr4,pk⟩,hm4,s4⟩ nt
  rw[zAy] at hx hy;obtain⟨lo,hlo,rfl⟩:=zAP.mp hx;obtain⟨hi,hhi,rfl⟩:=zAP.mp hy;rw[List.getElem?_drop] at hhi;have elo:ms.getD i 0=lo:=by rw[zAq,hlo];rfl
  have ehi:ms.getD (i+1) 0=hi:=by rw[zAq,show i+1=1+i by lia,hhi];rfl
  have nx:=CRP.foldP_succ sp ms i;rw[elo,ehi] at nx;have il:i<ms.length:=(zAl.mp hlo).1;have lz:=pk.len;have lf:=CRP.foldP_len sp ms i;have u1:=Af nt (.tup [V.int lo,.int hi]);have hr5:=u1 _ _ hr4;have hm5:=u1 _ _ hm4;have pk5:=pk.mono (Aq u1);have s5:=s4.trans u1;generalize upd H4 t (.tup [V.int lo,.int hi])=H5 at u1 hr5 hm5 pk5 s5;refine PN [oR p,oR ct,oN k,oR a,oR l,oR r,oN lo,oN hi,o8] rfl ?_;refine (vE rfl (vE rfl ⟨a,ys,sp,lo,rfl,(s5 _ _ ha2),(ps2.mono (Aq s5)),(by lia),(λH6 u2=>?_)⟩));have hr6:=u2 _ _ hr5;have hm6:=u2 _ _ hm5;have pk6:=pk5.mono (Aq u2);have s6:=s5.trans u2;generalize CRP.fw sp lo=kk at nx;refine Ga [oR p,oR ct,oN k,oR a,oR l,oR r,oN lo,oN hi,oN kk] rfl ?_;have put:∀ (H7:Hp) (vs:List V) (ks:List Tr) (u:Addr) (lo':Int),H7 r=oL vs->WU H7 vs ks->H7 u=none->H7 m=oL ((ms.drop 1).map V.int)->De H2 H7->CRP.foldP sp ms (i+1)=ks++[(lo',hi,kk)] ->
    (∃ o6 o7 o8 zs,[some (V.ref p),oR ct,oN k,oR a,oR l,oR r,oN lo',oN hi,oN kk]=[oR p,oR ct,oN k,oR a,oR l,oR r,o6,o7,o8]/\upd (upd H7 u (.tup [.int lo',.int hi,.int kk])) r (.lst (vs++[.ref u])) r=oL zs/\WU (upd (upd H7 u (.tup [.int lo',.int hi,.int kk])) r (.lst (vs++[.ref u]))) zs (CRP.foldP sp ms (i+1))) /\
     upd (upd H7 u (.tup [.int lo',.int hi,.int kk])) r (.lst (vs++[.ref u])) m=oL ((ms.drop 1).map V.int)/\De H2 (upd (upd H7 u (.tup [.int lo',.int hi,.int kk])) r (.lst (vs++[.ref u]))):=λH7 vs ks u lo' e1 e2 e3 e4 e5 e6=>by
   have su:=Af e3 (.tup [.int lo',.int hi,.int kk]);refine⟨⟨_,_,_,_,rfl,Aa,?_⟩,by rw[Ag lrm.symm];exact su _ _ e4,sm _ _ (e5.trans su)⟩;rw[e6];exact ((e2.mono (Aq su)).snoc Aa).mono (Cj (su _ _ e1) _)
  generalize hks:CRP.foldP sp ms i=ks at pk6 nx lz lf;rcases List.eq_nil_or_concat ks with rfl|⟨kr,⟨l0,h0,k0⟩,rfl⟩
  .have zs0:zs=[]:=List.eq_nil_of_length_eq_zero lz
   subst zs0;refine (vE rfl ⟨_,.inl ⟨[],Dl.of hr6,rfl⟩,bF rfl (Cy ?_)⟩);refine (vE rfl ⟨.inl ⟨rfl,_,Dl.of hr6⟩,vE rfl (vE rfl (vE rfl ⟨three,λu nu=>?_⟩))⟩);exact⟨r,_,_,rfl,rfl,(Af nu _ _ _ hr6),(by rw[zCE];decide),(put H6 [] [] u lo hr6 trivial nu hm6 s6 nx)⟩
  .rw[List.concat_eq_append] at pk6 nx lz lf
   obtain⟨vs,tl,rfl,htl,pv⟩:=pk6.last;rw[CRP.stepP_snoc] at nx;rw[zAj] at lz;have lv:vs.length<=20:=by rw[zAj] at lf;have z:vs.length+1=_:=lz;rw[zAj] at z;lia
   refine (vE rfl ⟨_,.inl ⟨_,Dl.of hr6,rfl⟩,bT (by simp) ?_⟩);refine (vE rfl (vE rfl (vI rfl rfl (Dl.of hr6) (DC _ _) (vI rfl rfl (Jy.of htl) rfl (vE rfl ⟨rfl,vE rfl (Qh (λc=>?_) (λc=>?_))⟩)))))
   .have c':k0=kk:=V.int.inj (of_decide_eq_true c)
    rw[if_pos c'] at nx;refine (vE rfl ⟨.inl ⟨rfl,_,Dl.of hr6⟩,r,_,.ref tl,rfl,rfl,hr6,by simp,?_⟩);rw[List.dropLast_concat];have t3:W6 H6 (upd H6 r (.lst vs)):=Cj hr6 _;have htl7:=t3 _ _ htl;have pv7:=pv.mono t3;have hr7:upd H6 r (.lst vs) r=oL vs:=Aa;have hm7:upd H6 r (.lst vs) m=oL ((ms.drop 1).map V.int):=by rw[Ag lrm.symm];exact hm6
    have s7:=sm H6 (.lst vs) s6;generalize upd H6 r (.lst vs)=H7 at t3 htl7 pv7 hr7 hm7 s7;refine (vI rfl rfl (Jy.of htl7) rfl ?_);refine Ga [oR p,oR ct,oN k,oR a,oR l,oR r,oN l0,oN hi,oN kk] rfl ?_;refine (vE rfl ⟨.inl ⟨rfl,_,Dl.of hr7⟩,vE rfl (vE rfl (vE rfl ⟨three,λu nu=>?_⟩))⟩);exact⟨r,_,_,rfl,rfl,(Af nu _ _ _ hr7),(by rw[zCE];lia),(put H7 vs kr u l0 hr7 pv7 nu hm7 s7 nx)⟩
   .have c':¬ k0=kk:=λz=>c (decide_eq_true (by rw[z]))
    rw[if_neg c'] at nx;refine (vE rfl ⟨.inl ⟨rfl,_,Dl.of hr6⟩,vE rfl (vE rfl (vE rfl ⟨three,λu nu=>?_⟩))⟩);exact⟨r,_,_,rfl,rfl,(Af nu _ _ _ hr6),(by rw[zAj,zCE];show vs.length+1<_;lia),(put H6 _ _ u lo hr6 pk6 nu hm6 s6 nx)⟩
 .rintro σ H4 ⟨⟨o6,o7,o8,zs,rfl,hr4,pk⟩,hm4,s4⟩
  have le:min (ms.map V.int).length ((ms.drop 1).map V.int).length=ms.length-1:=by rw[zAb,zAb,zBm];lia
  rw[le] at pk;exact (vE rfl (q r zs ms H4 (S2.trans s4) (S2.free nr) hr4 up mem l20 pk))
end
abbrev Cv:=Addr×Str×Bool
def Rc (c:Cv):V:=.ref c.1
def WF (C:Addr) (H:Hp) (cs:List Cv):Prop:=∀ c∈cs,∃ dx fs,H c.1=oI C dx fs/\fs.lookup ("name" : Str)=some (.str c.2.1)/\fs.lookup ("waits" : Str)=some (.bl c.2.2)
def WF.same {C:Addr} {H H':Hp} {cs:List Cv} (h:WF C H cs) (s:De H H'):WF C H' cs:=λc g=>by
 obtain⟨dx,fs,e,r⟩:=h c g;exact⟨dx,fs,s _ _ e,r⟩
def WF.get {C:Addr} {cs:List Cv} {i:Nat} {x:V} (h:WF C H cs) (e:(cs.map Rc)[i]?=some x):∃ c dx fs,cs[i]?=some c/\x=.ref c.1/\c∈cs/\H c.1=oI C dx fs/\fs.lookup ("name" : Str)=some (.str c.2.1)/\fs.lookup ("waits" : Str)=some (.bl c.2.2):=by
 rw[zAy] at e;obtain⟨c,g,rfl⟩:=zAP.mp e;have m:=zAC g;obtain⟨dx,fs,r⟩:=h c m;exact⟨c,dx,fs,g,rfl,m,r⟩
def WF.ne {cs:List Cv} {p dx:Addr} (h:WF CV H cs) (j:H p=oI CB dx []):∀ c∈cs,c.1≠p:=λc g z=>by
 obtain⟨q,fs,e,n,_⟩:=h c g;rw[z,j] at e;injection e with e;injection e with _ _ e;subst e;cases n
def WF.kb {H H':Hp} {cs:List Cv} {p dx:Addr} (h:WF CV H cs) (j:H p=oI CB dx []) (k:KB p H H'):WF CV H' cs:=λc g=>by
 obtain⟨q,fs,e,r⟩:=h c g;exact⟨q,fs,k _ _ e (h.ne j c g),r⟩
def LA (cs:List Cv):List Cv:=cs.filter (λc => !c.2.2)++cs.filter (λc=>c.2.2)
structure GG (CB:Addr) (H:Hp) (p cl ak:Addr) (cs:List Cv):Prop where
 ob:∃ dx fs,H p=oI CB dx fs/\fs.lookup ("covers" : Str)=some (.ref cl)/\fs.lookup ("asking" : Str)=some (.ref ak)/\fs.lookup ("named" : Str)=none
 hc:H cl=oL (cs.map Rc)
 ha:H ak=oL ((LA cs).map Rc)
inductive KR (vs:List V) (H:Hp) (Q:VK) (E:XK):Prop
 |mk (p dx a cs:_) (z0:vs=[.ref p,.ref a]) (z1:H p=oI CB dx []) (z2:H a=oL (cs.map Rc)) (z3:WF CV H cs) (z4:cs.length<=8) (z5:(cs.map (·.2.1)).Nodup) (z6:∀ cl ak H',KB p H H'->GG CB H' p cl ak cs->H cl=none->H ak=none->Q .non H')
def Sy {α:Type} {l:List α} {f:α->Bool} {i:Nat} {x:α} (h:l[i]?=some x):(l.take (i+1)).filter f=(l.take i).filter f++if f x=true then [x] else []:=by
 rw[Be h,zBL];by_cases c:f x=true
 .rw[if_pos c,zBf c,zBu]
 .rw[if_neg c,zBg c,zBu]
section
variable {P:Program} {w:World} {K:zAa} {mg:Str->Option Value} {base:Heap}
def QL (J:Pm P w K mg base):Jk J 1 "Book" CB ["self","covers"] (KR):=C9 J.z J.ig J.jo ["self","covers","names","firm","waiting"] df λsc H Q hr h=>by
 obtain⟨p,dx,a,cs,rfl,hp,ha,Y,l8,nd,q⟩:=h;have am:cs.length<60:=by lia
 refine⟨_,(Ab (Au (Ak Ng (Cw (Cr (K:=K) rfl) rfl (J.z.nn J.az) (show zCF _=some (.builtin "len") from rfl) (Bj (pv 1))) (Op J.z J.gr) (An _))
    (Ac Bs)
    Al)
   (Ab (Ef (NC:=["cover"]) (own:=["cover"]) (cs:=[]) (ix:=[]) (j:=2) sc.nd rfl rfl rfl (Dt.of rfl) rfl trivial (Go K (pv 1)) (λ_ _ _=>(Jq 0)) (λ_ _ _=>Bw) (λ_ _ _=>(Jn (K:=K) (pv 0) rfl)))
   (Ab (Au (Ak Gx (N8 (pv 2) rfl rfl (J.z.nn J.az) rfl (J.z.nn J.jv)) (Cw (Cr (K:=K) rfl) rfl (J.z.nn J.az) (show zCF _=some (.builtin "len") from rfl) (Bj (pv 2))) (An _))
    (Ac Bs)
    Al)
   (Ab (Bh (pv 0) (Cz (Bx (K:=K) rfl) rfl (J.z.nn J.ax) (show zCF _=some (.type "list") from rfl) (Bj (pv 1))) rfl)
   (Ab (Ef (NC:=["cover"]) (own:=["cover"]) (cs:=[]) (ix:=[]) (j:=3) sc.nd rfl rfl rfl (Dt.of rfl) rfl trivial (Go K (pv 1)) (λ_ _ _=>(Jq 0)) (λ_ _ _=>(Gi (Bp (Bg (Jn (K:=K) (pv 0) rfl))))) (λ_ _ _=>(pv 0)))
   (Ab (Ef (NC:=["cover"]) (own:=["cover"]) (cs:=[]) (ix:=[]) (j:=4) sc.nd rfl rfl rfl (Dt.of rfl) rfl trivial (Go K (pv 1)) (λ_ _ _=>(Jq 0)) (λ_ _ _=>(Gi (Bg (Jn (K:=K) (pv 0) rfl)))) (λ_ _ _=>(pv 0)))
   (Ac (Bh (pv 0) (Aj Kg (pv 3) (pv 4)) rfl)))))))),?_⟩
 refine Hu λN B=>?_;have one:1<=sizeLine:=by rw[zCE];decide
 have k0:KB p H H:=λ_ _ e _=>e;have lm:(cs.map Rc).length=cs.length:=zAb _;have aj:a≠p:=Ar ha hp (by intro z;cases z);refine (vE rfl ⟨a,_,rfl,(.inl (Dl.of ha)),(vF rfl rfl (vE rfl ?_))⟩);refine dF (by rw[lm];lia) ?_;refine Nt B λN B=>?_;refine (vE rfl ⟨a,rfl,⟨_,Dl.of ha⟩,λn nn=>?_⟩);refine Bi (K:=K) (a:=a) (xs:=cs.map Rc) (λi ys H2=>ys=((cs.take i).map (·.2.1)).map V.str/\H2 n=oL ys/\De H H2) ⟨rfl,Aa,Af nn _⟩
  (λi ys H2 _ ⟨e,h1,M⟩=>⟨h1,by rw[e,zAb,zAb,zAo];lia,Dl.of (M _ _ ha)⟩) (by rw[zCE];lia) (λi x ys H2 hi ⟨e,h1,M⟩=>?_) (λys H2 ⟨e,h1,M⟩=>?_)
 .obtain⟨c,dc,fc,ec,rfl,mc,hc,n1,w1⟩:=Y.get hi
  refine (vE rfl ⟨c.1,CV,dc,fc,_,rfl,(M _ _ hc),J.aa.cl,J.am,n1,h1,rfl,?_,Aa,(λb o z=>?_)⟩)
  .rw[Be ec,zAp,zAp,e]
   rfl
  .rw[Ag (Ae z nn)]
   exact M b o z
 rw[lm,zAB] at e;subst e;refine Fq B [oR p,oR a,oR n,none,none] rfl λN B=>?_;have ag:=M _ _ hp;have an:=M _ _ ha;have k2:KB p H H2:=k0.same M;have ap:=Y.same M;refine (vE rfl ⟨n,cs.map (·.2.1),rfl,Dl.of h1,by rw[zAb];exact am,λm m1 m2=>?_⟩);refine (vE rfl ⟨n,_,rfl,(.inl (Dl.of h1)),(vF rfl rfl (vE rfl ?_))⟩);have:=m1 nd;refine dF (by rw[zAb];lia) ?_;clear m1 m2 this;refine Nt B λN B=>?_;refine (vE rfl ⟨a,_,rfl,(.inl (Dl.of an)),(λcl aa=>?_)⟩);have s3:=Af aa (.lst (cs.map Rc));have U:cl≠p:=(Ae ag aa).symm;refine (vE rfl ⟨p,CB,dx,[],rfl,s3 _ _ ag,J.ig.cl,J.ke,by decide,?_⟩);have k3:KB p H (upd (upd H2 cl (.lst (cs.map Rc))) p (.ins CB dx (Ap "covers" (.ref cl) []))):=(k2.same s3).upd _;have e3:upd (upd H2 cl (.lst (cs.map Rc))) p (.ins CB dx (Ap "covers" (.ref cl) [])) p=oI CB dx (Ap "covers" (.ref cl) []):=Aa;have c3:upd (upd H2 cl (.lst (cs.map Rc))) p (.ins CB dx (Ap "covers" (.ref cl) [])) cl=oL (cs.map Rc):=by rw[Ag U,Aa]
 have ah:H cl=none:=k2.free U aa;have F:=Y.kb hp k3;have S:=k3 _ _ ha aj;generalize upd (upd H2 cl (.lst (cs.map Rc))) p (.ins CB dx (Ap "covers" (.ref cl) []))=H3 at k3 e3 c3 F S;refine Nt B λN B=>?_;refine (vE rfl ⟨a,rfl,⟨_,Dl.of S⟩,λfi af=>?_⟩);refine Bi (K:=K) (a:=a) (xs:=cs.map Rc) (λi ys H4=>ys=((cs.take i).filter (λc => !c.2.2)).map Rc/\H4 fi=oL ys/\De H3 H4) ⟨rfl,Aa,Af af _⟩
  (λi ys H4 _ ⟨e,h1,g⟩=>⟨h1,by rw[e,zAb];exact zAz (zAE _ _) (by rw[zAo];lia),Dl.of (g _ _ S)⟩) (by rw[zCE];lia) (λi x ys H4 hi ⟨e,h1,g⟩=>?_) (λys H4 ⟨e,ai,g⟩=>?_)
 .obtain⟨c,dc,fc,ec,rfl,mc,hc,n1,w1⟩:=F.get hi
  refine (vE rfl ⟨c.1,CV,dc,fc,_,rfl,g _ _ hc,J.aa.cl,J.c7,w1,_,rfl,?_⟩);have es:=Sy (f:=λc:Cv => !c.2.2) ec;cases cw:c.2.2 with
  |true=>
   refine Cy ⟨rfl,?_,h1,g⟩;rw[es,e,cw];simp
  |false=>
   refine Jt (vE rfl ⟨h1,rfl,?_,Aa,λb o z=>?_⟩)
   .rw[es,e,cw]
    simp [Rc]
   .rw[Ag (Ae z af)]
    exact g b o z
 rw[lm,zAB] at e;subst e;refine Fq B [oR p,oR a,oR n,oR fi,none] rfl λN B=>?_;have ae:=g _ _ S;have ab:=F.same g;refine (vE rfl ⟨a,rfl,⟨_,Dl.of ae⟩,λwa ac=>?_⟩);refine Bi (K:=K) (a:=a) (xs:=cs.map Rc) (λi ys H5=>ys=((cs.take i).filter (λc=>c.2.2)).map Rc/\H5 wa=oL ys/\De H4 H5) ⟨rfl,Aa,Af ac _⟩
  (λi ys H5 _ ⟨e,h1,L⟩=>⟨h1,by rw[e,zAb];exact zAz (zAE _ _) (by rw[zAo];lia),Dl.of (L _ _ ae)⟩) (by rw[zCE];lia) (λi x ys H5 hi ⟨e,h1,L⟩=>?_) (λys H5 ⟨e,ao,L⟩=>?_)
 .obtain⟨c,dc,fc,ec,rfl,mc,hc,n1,w1⟩:=ab.get hi
  refine (vE rfl ⟨c.1,CV,dc,fc,_,rfl,L _ _ hc,J.aa.cl,J.c7,w1,_,rfl,?_⟩);have es:=Sy (f:=λc:Cv=>c.2.2) ec;cases cw:c.2.2 with
  |false=>
   refine Cy ⟨rfl,?_,h1,L⟩;rw[es,e,cw];simp
  |true=>
   refine Jt (vE rfl ⟨h1,rfl,?_,Aa,λb o z=>?_⟩)
   .rw[es,e,cw]
    simp [Rc]
   .rw[Ag (Ae z ac)]
    exact L b o z
 rw[lm,zAB] at e;subst e;subst B;refine Ga [oR p,oR a,oR n,oR fi,oR wa] rfl ?_;have al:=L _ _ ai;have e5:=L _ _ (g _ _ e3);have c5:=L _ _ (g _ _ c3);have k5:=(k3.same g).same L;refine (vE rfl (vE rfl ⟨fi,wa,_,_,rfl,rfl,al,ao,?_,(λak Z=>?_)⟩))
 .rw[zAb,zAb]
  have:=zAE (λc:Cv => !c.2.2) cs;have:=zAE (λc:Cv=>c.2.2) cs;rw[zCE]
  lia
 have ad:ak≠p:=(Ae e5 Z).symm;have s6:=Af Z (.lst ((cs.filter (λc => !c.2.2)).map Rc++(cs.filter (λc=>c.2.2)).map Rc));have g3:(Ap "covers" (.ref cl) []).length<=1:=Fe _ _ _;refine (vE rfl ⟨p,CB,dx,_,rfl,(s6 _ _ e5),J.ig.cl,J.g9,(zBW g3 (by decide)),?_⟩);refine q cl ak _ ((k5.same s6).upd _) ⟨⟨dx,_,Aa,by rw[f1 (by ac_nf),f0],f0,by rw[f1 (by ac_nf),f1 (by ac_nf)];rfl⟩,?_,?_⟩ ah (k5.free ad Z)
 .rw[Ag U]
  exact s6 _ _ c5
 .rw[Ag ad,Aa]
  unfold LA;rw[zAp]
end
abbrev Jz:=List (List Fl×V)
def Xj (nm:Str) (k:Int) (y:Fl):List Fl:=[.inr nm,.inl k,y]
structure WB (CC:Addr) (H:Hp) (p kp:Addr) (kvs:Jz):Prop where
 ob:∃ dx fs,H p=oI CC dx fs/\fs.lookup ("kept" : Str)=some (.ref kp)/\fs.lookup ("have" : Str)=none/\fs.lookup ("add" : Str)=none
 hk:H kp=some (.dT kvs)
def WB.same {CC:Addr} {H H':Hp} {p g:Addr} {kvs:Jz} (h:WB CC H p g kvs) (s:De H H'):WB CC H' p g kvs:=by
 obtain⟨⟨dx,fs,e,r⟩,h1⟩:=h;exact⟨⟨dx,fs,s _ _ e,r⟩,s _ _ h1⟩
def WB.ne {CC:Addr} {p kp:Addr} {kvs:Jz} (h:WB CC H p kp kvs):p≠kp:=by
 obtain⟨⟨dx,fs,e,r⟩,h1⟩:=h;exact Ar e h1 (by intro z;cases z)
def WB.put {CC:Addr} {p g:Addr} {kvs:Jz} (h:WB CC H p g kvs) (kvs':Jz):WB CC (upd H g (.dT kvs')) p g kvs':=by
 have n:=h.ne;obtain⟨⟨dx,fs,e,r⟩,h1⟩:=h;exact⟨⟨dx,fs,by rw[Ag n];exact e,r⟩,Aa⟩
def Os (kvs:Jz) (nm:Str) (k:Int) (y:Fl):V:=(Dr kvs (Xj nm k y)).getD (.int 0)
inductive QV (CC:Addr) (vs:List V) (H:Hp) (Q:VK) (E:XK):Prop
 |mk (p dx:_) (z0:vs=[.ref p]) (z1:H p=oI CC dx []) (z2:∀ kp H',KB p H H'->WB CC H' p kp []->H kp=none->Q .non H')
inductive KG (CC:Addr) (vs:List V) (H:Hp) (Q:VK) (E:XK):Prop
 |mk (p kp kvs nm k y:_) (z0:vs=[.ref p,.str nm,.int k,kV y]) (z1:WB CC H p kp kvs) (z2:∀ H',De H H'->Q (Os kvs nm k y) H')
inductive OY (CC:Addr) (vs:List V) (H:Hp) (Q:VK) (E:XK):Prop
 |mk (p kp kvs nm k y:_) (c n:Int) (z0:vs=[.ref p,.str nm,.int k,kV y,.int c]) (z1:WB CC H p kp kvs) (z2:Os kvs nm k y=.int n) (z3:kvs.length<900) (z4:∀ H',De H H'->Q .non (upd H' kp (.dT (Eu kvs (Xj nm k y) (.int (n+c))))))
section
variable {P:Program} {w:World} {K:zAa} {mg:Str->Option Value} {base:Heap} (J:Pm P w K mg base)
def FQ:Jk J 1 "Counts" CN ["self"] (QV CN):=C9 J.z J.br J.jg ["self"] df λsc H Q hr h=>by
 obtain⟨p,dx,rfl,B,q⟩:=h;refine⟨_,(Ac (Bh (pv 0) CQ rfl)),?_⟩;intro z g;have j:=Af g (.dT []);have L:z≠p:=(Ae B g).symm;have F:KB p H H:=λ_ _ e _=>e;refine (vE rfl ⟨p,CN,dx,[],rfl,j _ _ B,J.br.cl,J.cb,by decide,?_⟩);refine q z _ ((F.same j).upd _) ⟨⟨dx,_,Aa,f0,by rw[f1 (by ac_nf)];rfl,by rw[f1 (by ac_nf)];rfl⟩,?_⟩ g;rw[Ag L,Aa]
def GH:Jm J 1 CN "have" ["self","name","k","key"] (KG CN):=GR J.z J.l6 J.br.cl ["self","name","k","key"] df λsc H Q hr h=>by
 obtain⟨p,M,j,B,k,y,rfl,Y,q⟩:=h;have g:=Ql hr;refine⟨_,(Ac (Ai (W4 g (Aw (pv 0) rfl) (Ba (Ah (pv 1) (Bb (pv 2) (pv 3)))) Ad ⟨rfl,rfl,rfl,rfl⟩))),?_⟩;obtain⟨⟨dx,fs,S,L,_,_⟩,F⟩:=Y;refine (vE rfl ⟨p,CN,dx,fs,_,rfl,S,J.br.cl,J.cb,L,M,rfl,.inr ⟨j,.inl F⟩,vE rfl (vE rfl (vE rfl ⟨Dk (by show 3<=1000;decide),λt U=>?_⟩))⟩);have z:=Af U (.tup [V.str B,.int k,kV y]);exact⟨_,WH.t (k:=Xj B k y) (z _ _ F) Aa,q _ z⟩
def TY:Jm J 2 CN "add" ["self","name","k","key","cents"] (OY CN):=GR J.z J.mq J.br.cl ["self","name","k","key","cents"] df λsc H Q hr h=>by
 obtain⟨p,L,B,z,k,y,c,n,rfl,S,Z,l9,q⟩:=h;have j:=Ql hr;refine⟨_,(Ac (Vs j (Aw (pv 0) rfl) (Ba (Ah (pv 1) (Bb (pv 2) (pv 3)))) (Aj Bd (Bo (GH J) (hr.mono (by decide)) (pv 0) (Ah (pv 1) (Bb (pv 2) (pv 3)))) (pv 4)) rfl)),?_⟩;obtain⟨⟨dx,fs,M,U,Y,b3⟩,hk⟩:=id S;refine (vE rfl ⟨p,dx,fs,rfl,M,Y,_,rfl,vE rfl (vE rfl ⟨p,L,B,z,k,y,rfl,S,(λH1 g=>?_)⟩)⟩);rw[Z];refine (vE rfl (vF rfl rfl ?_));refine (vE rfl ⟨p,CN,dx,fs,_,rfl,g _ _ M,J.br.cl,J.cb,U,_,rfl,vE rfl (vE rfl ⟨Dk (by show 3<=1000;decide),λt nt=>?_⟩)⟩);have F:=Af nt (.tup [V.str z,.int k,kV y]);exact⟨L,_,rfl,(WX.t (k:=Xj z k y) (F _ _ (g _ _ hk)) Aa (by rw[zCE];lia)),(q _ (g.trans F))⟩
end
structure LF where
 n:Int
 d:Int
 ev:Str
 th:Str
 ca:Str
 ct:Int
def LF.vs (z:LF):List V:=[.int z.n,.int z.d,.str z.ev,.str z.th,.str z.ca,.int z.ct]
def LF.ls (z:LF):LS:=⟨z.d,z.th,z.ca,z.ct⟩
def MP {H:Hp} {l:Addr} {z:LF} (h:H l=oT z.vs):OV H l z.ls:=⟨z.ev,z.n,h⟩
structure VS where
 p:Addr
 nm:Str
 t:Ia
 cs:List Cl
 wt:Bool
def xV (x:VS):V:=.ref x.p
def VT (H:Hp) (x:VS):Prop:=∃ dx fs cv cl xs,H x.p=oI CV dx fs/\fs.lookup ("name" : Str)=some (.str x.nm)/\fs.lookup ("condition" : Str)=some cv/\fs.lookup ("clauses" : Str)=some (.ref cl)/\fs.lookup ("waits" : Str)=some (.bl x.wt)/\WT fs /\
 VN κ H cv x.t/\H cl=oL xs/\WD H xs x.cs/\x.cs.length<=8
def VT.same {H H':Hp} {x:VS} (h:VT H x) (s:De H H'):VT H' x:=by
 obtain⟨dx,fs,L,cl,xs,e,j,B,U,g,z,F,q,S,M⟩:=h;exact⟨dx,fs,L,cl,xs,s _ _ e,j,B,U,g,z,VN.same s _ F,s _ _ q,S.mono (Qz s),M⟩
def Oa (y:Str) (z:LF):Fl:=if y="event" then .inr z.ev else if y="thing" then .inr z.th else if y="year" then .inl (z.d/365) else .inl z.n
def V4 (y:Str) (z:LF):ET y z.n z.d z.ev z.th=kV (Oa y z):=by
 unfold ET Oa;by_cases c1:y="event"
 .rw[if_pos c1,if_pos c1];rfl
 rw[if_neg c1,if_neg c1];by_cases c2:y="thing"
 .rw[if_pos c2,if_pos c2];rfl
 rw[if_neg c2,if_neg c2];by_cases c3:y="year"
 .rw[if_pos c3,if_pos c3];rfl
 rw[if_neg c3,if_neg c3];rfl
def WL (kvs:Jz):Prop:=∀ k v,Dr kvs k=some v->∃ n:Int,v=.int n
def WL.have {kvs:Jz} (h:WL kvs) (nm:Str) (k:Int) (y:Fl):∃ n:Int,Os kvs nm k y=.int n:=by
 unfold Os;cases z:Dr kvs (Xj nm k y) with
 |none=>exact⟨0,rfl⟩
 |some v=>
  obtain⟨n,rfl⟩:=h _ _ z;exact⟨n,rfl⟩
def E6:V->Int
 |.int n=>n
 |_=>0
def Kl (kvs:Jz) (nm:Str) (z:LF) (cs:List Cl) (i:Nat):List Int:=(zAO i).map λ(j:Nat)=>E6 (Os kvs nm (j:Int) (Oa ((cs[j]?).getD (.any "")).way z))
def numsOf (kvs:Jz) (z:LF) (x:VS):List Int:=Kl kvs x.nm z x.cs x.cs.length
def Xi (kvs:Jz) (z:LF) (x:VS):(numsOf kvs z x).length=x.cs.length:=by unfold numsOf Kl;rw[zAb,zBe]
inductive Z8 (m:Nat) (vs:List V) (H:Hp) (Q:VK) (E:XK):Prop
 |mk (x l:_) (z:LF) (z0:vs=[.ref x.p,.ref l]) (z1:VT H x) (z2:Ob x.t<m) (z3:H l=oT z.vs) (z4:Q (.bl (hT x.t z.ls)) H)
inductive IC (vs:List V) (H:Hp) (Q:VK) (E:XK):Prop
 |mk (x cp kp kvs l z:_) (z0:vs=[.ref x.p,.ref cp,.ref l]) (z1:VT H x) (z2:WB CN H cp kp kvs) (z3:WL kvs) (z4:H l=oT (LF.vs z)) (z5:∀ r H',De H H'->H r=none->H' r=oL ((numsOf kvs z x).map V.int)->Q (.ref r) H')
def Fw (H:Hp) (b:Addr) (bs:List VS):Prop:=∃ dx fs ak,H b=oI CB dx fs/\fs.lookup ("asking" : Str)=some (.ref ak)/\H ak=oL (bs.map xV)/\∀ x∈bs,VT H x
def Cq (z:LF) (bs:List VS):List VS:=bs.filter λx=>hT x.t z.ls
inductive FE (m:Nat) (vs:List V) (H:Hp) (Q:VK) (E:XK):Prop
 |mk (b l bs z:_) (z0:vs=[.ref b,.ref l]) (z1:Fw H b bs) (z2:(∀ x∈bs,Ob x.t<m)) (z3:bs.length<=60) (z4:H l=oT (LF.vs z)) (z5:∀ r H',De H H'->H r=none->H' r=oL ((Cq z bs).map xV)->Q (.ref r) H')
section
variable {P:Program} {w:World} {K:zAa} {mg:Str->Option Value} {base:Heap} (J:Pm P w K mg base)
def Ro (J:Pm P w K mg base) {f} {fd} (F:WC K "asks" "Cover.asks" Le f fd) {m:Nat} (Mholds:Q4 P w K mg base m (A8.Fam κ) "holds" ["self","loss"] (Dc m)):Lp P w K mg base Ec (m+1) f fd ["self","loss"] (Z8 m):=Kt F ["self","loss"] df λsc H Q hr h=>by
 obtain⟨x,l,z,rfl,⟨dx,fs,cv,cl,xs,e,Z,M,a3,Y,a5,j,_⟩,S,hl,q⟩:=h;refine⟨_,(Ac (Ai (Fb Mholds (hr.mono (by omega)) (Aw (pv 0) rfl) (Bj (pv 1))))),?_⟩;obtain⟨g,L,U,rfl,B,n1,_⟩:=j.obj;exact (vE rfl ⟨x.p,CV,dx,fs,_,rfl,e,J.aa.cl,J.cf,M,g,_,L,U,rfl,B,A8.fam _ x.t,n1,_,rfl,g,x.t,l,z.ls,rfl,j,rfl,S,MP hl,q⟩)
def OW:Jm J 5 CV "asks" ["self","loss"] (Z8 4):=Jr J.z J.mf J.aa.cl bd λf fd F=>Ro J F (Mholds J 4)
def Nr:Jc J 3 "numbers_of" ["cover","counts","loss"] (IC):=Gb J.z J.pq ["cover","counts","loss"] df λsc H Q hr h=>by
 obtain⟨x,cp,kp,g,l,z,rfl,cx,ct,iv,hl,q⟩:=h;refine⟨_,(Ac (Ai (Cc (NC:=["k","clause","counts","cover","loss"]) (own:=["k","clause"]) (cs:=["counts","cover","loss"]) (ix:=[1,0,2]) rfl (Dt.of rfl) rfl ⟨⟨rfl,.inl rfl,rfl⟩,⟨⟨rfl,.inl rfl,rfl⟩,⟨⟨rfl,.inl rfl,rfl⟩,trivial⟩⟩⟩ (Hv rfl (J.z.nn J.ao) (Bj (Aw (pv 0) rfl))) (λ_ _ _=>(Cu (K:=K) (n:=2) rfl rfl (As (Jq 0) (As (Jq 1) Cs)))) (λ_ _ _=>Bw) (λ_ _ _=>(Bo (GH J) (hr.mono (by decide)) (pv 2) (Ah (Jn (K:=K) (pv 3) rfl) (Bb (pv 0) (Fb (MK J) (hr.mono (by decide)) (pv 1) (Bj (pv 4)))))))))),?_⟩;obtain⟨dx,fs,cv,cl,xs,e,a1,a2,a3,a4,a5,a6,M,cc,l8⟩:=id cx;have lx:=cc.len;refine (vE rfl ⟨x.p,CV,dx,fs,_,rfl,e,J.aa.cl,J.ah,a3,cl,rfl,⟨_,Dl.of M⟩,λb Z=>?_⟩);refine Tz (K:=K) (a:=cl) (xs:=xs) (λi ys j=>ys=(Kl g x.nm z x.cs i).map V.int/\j b=oL ys/\De H j) ⟨rfl,Aa,Af Z _⟩
  (λi ys j _ ⟨e,S,x2⟩=>⟨S,by rw[e,zAb];unfold Kl;rw[zAb,zBe];exact zAi _,Dl.of (x2 _ _ M)⟩) (by rw[zCE];lia) (λi v ys j t hi ⟨e2,S,x2⟩ ht=>?_) (λys j ⟨e2,S,x2⟩=>?_)
 .obtain⟨o,c,hc,rfl,ho⟩:=cc.get hi
  have B:=x2.trans (Af ht (.tup [.int i,.ref o]));have F:=ho.same B;obtain⟨od,Y⟩:=id F;have L:=ct.same B;obtain⟨⟨dc,fc,U,b1,b2,b3⟩,_⟩:=id L;obtain⟨n,en⟩:=iv.have x.nm (i:Int) (Oa c.way z);refine (vE rfl ⟨cp,dc,fc,rfl,U,b2,_,rfl,x.p,CV,dx,fs,_,rfl,B _ _ e,J.aa.cl,J.am,a1,_,rfl,vE rfl ⟨o,_,od,_,rfl,Y,Vf c,AA c,_,rfl,o,c,l,z.ev,z.th,z.ca,z.n,z.d,z.ct,rfl,F,rfl,B _ _ hl,cp,kp,g,x.nm,(i:Int),Oa c.way z,by rw[V4];rfl,L,λH4 s4=>?_⟩⟩);rw[en];refine⟨s4 _ _ (Af ht _ _ _ S),rfl,?_,Aa,λy ob w=>?_⟩
  .have em:Kl g x.nm z x.cs (i+1)=Kl g x.nm z x.cs i++[n]:=by
    unfold Kl;rw[List.range_succ,zAp];simp [hc,en,E6]
   rw[em,zAp,e2];rfl
  .rw[Ag (Ae w Z)]
   exact s4 _ _ (B y ob w)
 rw[lx] at e2;subst e2;exact q b j x2 Z S
def Tg:Jc J 6 "asked_of" ["book","loss"] (FE 4):=Gb J.z J.qa ["book","loss"] df λsc H Q hr h=>by
 obtain⟨b,l,bs,z,rfl,⟨dx,fs,L,e,a1,B,all⟩,hm,Z,hl,q⟩:=h;refine⟨_,(Ac (Ai (Cc (NC:=["cover","loss"]) (own:=["cover"]) (cs:=["loss"]) (ix:=[1]) rfl (Dt.of rfl) rfl ⟨⟨rfl,.inl rfl,rfl⟩,trivial⟩ (Go K (Aw (pv 0) rfl)) (λ_ _ _=>(Jq 0)) (λ_ _ _=>(Gi (Bg (Bo (OW J) (hr.mono (by decide)) (pv 0) (Bj (pv 1)))))) (λ_ _ _=>(pv 0))))),?_⟩;have lm:(bs.map xV).length=bs.length:=zAb _;refine (vE rfl ⟨b,CB,dx,fs,_,rfl,e,J.ig.cl,J.g9,a1,L,rfl,⟨_,Dl.of B⟩,λr F=>?_⟩);refine Bi (K:=K) (a:=L) (xs:=bs.map xV) (λi ys j=>ys=((bs.take i).filter λx=>hT x.t z.ls).map xV/\j r=oL ys/\De H j) ⟨rfl,Aa,Af F _⟩
  (λi ys j _ ⟨e2,h1,g⟩=>⟨h1,by rw[e2,zAb];exact zAz (zAE _ _) (by rw[zAo];lia),Dl.of (g _ _ B)⟩) (by rw[zCE];lia) (λi v ys j hi ⟨e2,h1,g⟩=>?_) (λys j ⟨e2,h1,g⟩=>?_)
 .rw[zAy] at hi
  obtain⟨x,M,rfl⟩:=zAP.mp hi;have Y:=zAC M;have S:=(all x Y).same g;obtain⟨d2,f2,_,_,_,e3,_,_,_,_,n5,_⟩:=id S;refine (vE rfl ⟨x.p,d2,f2,rfl,e3,n5.1,_,rfl,x,l,z,rfl,S,hm x Y,g _ _ hl,_,rfl,?_⟩);have es:(bs.take (i+1)).filter (λx=>hT x.t z.ls)=(bs.take i).filter (λx=>hT x.t z.ls)++if hT x.t z.ls=true then [x] else []:=by
   rw[Be M,zBL];by_cases c:hT x.t z.ls=true
   .rw[if_pos c,zBf (by exact c),zBu]
   .rw[if_neg c,zBg (by exact c),zBu]
  cases U:hT x.t z.ls with
  |false=>
   refine Cy ⟨rfl,?_,h1,g⟩;rw[es,e2,U];simp
  |true=>
   refine Jt (vE rfl ⟨h1,rfl,?_,Aa,λb o w=>?_⟩)
   .rw[es,e2,U]
    simp
   .rw[Ag (Ae w F)]
    exact g b o w
 rw[lm,zAB] at e2;subst e2;exact q r j g F h1
end
def AI (k:Int) (cs:List Cl) (ns:List Int) (W:Int×Int):Prop:=∃ lo hi:Int,F1 lo (0::(Ay k cs ns).map (·.1))/\G3 hi (k::(Ay k cs ns).map (·.2))/\W=(lo,if hi>lo then hi else lo)
def Bu (cs:List Cl) (ns:List Int):Option (Int×Int):=Ds (Bq cs ns) 0 none
inductive IJ (vs:List V) (H:Hp) (Q:VK) (E:XK):Prop
 |mk (x ct u un ns:_) (k:Int) (z0:vs=[.ref x.p,.ref ct,.int k,.ref u]) (z1:VT H x) (z2:H ct=oL (List.map V.int ns)) (z3:ns.length=x.cs.length) (z4:LP H u un) (z5:un.length<=1000) (z6:∀ r W H',De H H'->H r=none->AI k x.cs ns W->LP H' r (CRT.payW (x.nm,W,(Bu x.cs ns).map (·.1)) un)->Q (.ref r) H')
section
variable {P:Program} {w:World} {K:zAa} {mg:Str->Option Value} {base:Heap}
def Zh (J:Pm P w K mg base):Jc J 5 "paid_runs" ["cover","numbers","cents","unpaid"] (IJ):=Gb J.z J.qb ["cover","numbers","cents","unpaid","window","rest","most"] df λsc H Q hr h=>by
 obtain⟨x,B,u,un,ns,k,rfl,cx,Y,ln,lu,l9,q⟩:=h;refine⟨_,(Ab (Ce sc 4 (Bo (GF J) (hr.mono (by decide)) (pv 0) (Bb (pv 1) (pv 2))))
   (Ab (Ce sc 5 (Bo (GI J) (hr.mono (by decide)) (pv 0) (Bj (pv 1))))
   (Ab (Ce sc 6 (Je (Ak Mi (pv 5) Ep (An _)) Ep (Da K (pv 5) Ad)))
   (Ac (Ai (Cb (Zf J) hr (Bb (Cb (Nk J) hr (Ah (pv 3) (Bb (Da K (pv 4) Ad) (Da K (pv 4) Ad)))) (pv 6)))))))),?_⟩
 refine Hu λN F=>?_;obtain⟨dx,fs,cv,cl,xs,e,a1,a2,a3,a4,n5,a6,Z,cc,l8⟩:=id cx;have M:XC CV H x.p cl:=⟨dx,fs,e,a3,n5.2⟩;refine (vE rfl ⟨x.p,dx,fs,rfl,e,n5.2.2.1,_,rfl,vE rfl ⟨x.p,cl,B,x.cs,ns,k,rfl,⟨M,⟨xs,Z,cc⟩,Y,ln,l8⟩,(λt lo hi H1 L ht mx mn=>?_)⟩⟩);refine Fq F [oR x.p,oR B,oN k,oR u,oR t,none,none] rfl λN F=>?_;refine (vE rfl ⟨x.p,dx,fs,rfl,L _ _ e,n5.2.2.2.2,_,rfl,x.p,cl,B,xs,x.cs,ns,rfl,M.same L,L _ _ Z,cc.mono (Qz L),L _ _ Y,ln,λv H2 s2 rv=>?_⟩);refine Fq F [oR x.p,oR B,oN k,oR u,oR t,some v,none] rfl λN F=>?_;have g:=s2 _ _ ht;have S2:=L.trans s2;have U:LP H2 u un:=LP.same S2 lu;have wa:AI k x.cs ns (lo,if hi>lo then hi else lo):=⟨lo,hi,mx,mn,rfl⟩;have lc:=CR.cutW_len un lo (if hi>lo then hi else lo);cases ro:Ds (Bq x.cs ns) 0 none with
 |none=>
  rw[ro] at rv;have ab:v=.non:=rv;subst ab;refine (vE rfl ⟨rfl,vE rfl (dT rfl ?_)⟩);subst F;refine Ga [oR x.p,oR B,oN k,oR u,oR t,some .non,some .non] rfl ?_;refine (vE rfl (vE rfl (vI rfl rfl (Jy.of g) rfl (vE rfl (vI rfl rfl (Jy.of g) rfl ⟨u,un,lo,_,rfl,U,l9,(λr1 H3 S ac lp=>(vE rfl (.inr ⟨r1,_,rfl,lp,(λr H4 s4 nr z=>?_)⟩)))⟩)))));refine q r _ H4 (S2.trans (S.trans s4)) (S2.free (S.free nr)) wa ?_;unfold Bu;rw[ro];exact z
 |some nj=>
  obtain⟨n,j⟩:=nj;rw[ro] at rv;obtain⟨t2,rfl,aa⟩:=rv;refine (vE rfl ⟨rfl,vE rfl (dF (λy=>by cases y) (vE rfl (vI rfl rfl (Jy.of aa) rfl ?_)))⟩);subst F;refine Ga [oR x.p,oR B,oN k,oR u,oR t,oR t2,oN n] rfl ?_;refine (vE rfl (vE rfl (vI rfl rfl (Jy.of g) rfl (vE rfl (vI rfl rfl (Jy.of g) rfl ⟨u,un,lo,_,rfl,U,l9,(λr1 H3 S ac lp=>(vE rfl (.inl ⟨r1,_,n,rfl,lp,(by omega),(λr H4 s4 nr z=>?_)⟩)))⟩)))));refine q r _ H4 (S2.trans (S.trans s4)) (S2.free (S.free nr)) wa ?_;unfold Bu;rw[ro];exact z
end
abbrev Ih:=CRT.Sx Str
def U0 (s:Ih):List V:=[.int s.1,.int s.2.1,.str s.2.2.1,.int s.2.2.2]
def WA (H:Hp):List V->List Ih->Prop
 |[],[]=>True
 |x::xs,p::ps=>(∃ t,x=.ref t/\H t=oT (U0 p))/\WA H xs ps
 |_,_=>False
theorem WA.len:∀ {xs} {ps},WA H xs ps->xs.length=ps.length
 |[],[],_=>rfl
 |[],_::_,h=>h.elim
 |_::_,[],h=>h.elim
 |x::xs,p::ps,h=>by rw[zAf,zAf,WA.len h.2]
theorem WA.mono {H H':Hp} (s:W6 H H'):∀ {xs} {ps},WA H xs ps->WA H' xs ps
 |[],[],_=>trivial
 |[],_::_,h=>h.elim
 |_::_,[],h=>h.elim
 |x::xs,p::ps,⟨⟨t,e,h⟩,r⟩=>⟨⟨t,e,s _ _ h⟩,WA.mono s r⟩
theorem WA.app:∀ {xs} {ps} {ys} {qs},WA H xs ps->WA H ys qs->WA H (xs++ys) (ps++qs)
 |[],[],_,_,_,h=>h
 |[],_::_,_,_,r,_=>r.elim
 |_::_,[],_,_,r,_=>r.elim
 |x::xs,p::ps,_,_,⟨z,r⟩,h=>⟨z,WA.app r h⟩
def WA.one {t:Addr} {p:Ih} (h:H t=oT (U0 p)):WA H [.ref t] [p]:=⟨⟨t,rfl,h⟩,trivial⟩
theorem WA.get:∀ {xs} {ps} {i:Nat} {x},WA H xs ps->xs[i]?=some x->∃ t p,ps[i]?=some p/\x=.ref t/\H t=oT (U0 p)
 |[],[],_,_,_,e=>by simp at e
 |[],_::_,_,_,h,_=>h.elim
 |_::_,[],_,_,h,_=>h.elim
 |x::xs,p::ps,0,y,⟨⟨t,e,h⟩,r⟩,q=>by
  simp at q;subst q;exact⟨t,p,rfl,e,h⟩
 |x::xs,p::ps,i+1,y,⟨_,r⟩,q=>by
  obtain⟨t,j,h1,g⟩:=WA.get (i:=i) r (by simpa using q);exact⟨t,j,by simpa using h1,g⟩
def Yn {nm:Str} {k:Int} {ps:List CR.Rn} {i:Nat} {p:CR.Rn} (h:ps[i]?=some p):CRT.tag nm k (ps.take (i+1))=CRT.tag nm k (ps.take i)++[(p.1,p.2,nm,k)]:=by
 unfold CRT.tag;rw[Be h,zAp];rfl
def Uw {b n k:Int} (g:0<=k):0<=A0 b n k/\A0 b n k<=k:=by
 unfold A0 CR.minI CR.maxI
 repeat' split
 all_goals lia
def DS {k:Int} (g:0<=k) (c:Cl) (n:Int):(0<=NL c n k/\NL c n k<=k)/\0<=OI c n k/\OI c n k<=k:=by
 cases c with
 |own y d=>exact⟨Uw g,g,Int.le_refl _⟩
 |lay y a b=>exact⟨Uw g,Uw g⟩
 |lim y m=>exact⟨⟨Int.le_refl _,g⟩,g,Int.le_refl _⟩
 |any y=>exact⟨⟨Int.le_refl _,g⟩,g,Int.le_refl _⟩
theorem Xd {k:Int} (k0:0<=k):∀ (cs:List Cl) (ns:List Int),∀ p∈Ay k cs ns,(0<=p.1/\p.1<=k)/\0<=p.2/\p.2<=k
 |[],_,p,h=>by unfold Ay at h;simp at h
 |_::_,[],p,h=>by unfold Ay at h;simp at h
 |c::cs,n::ns,p,h=>by
  unfold Ay at h;rw[zCw] at h;rcases zAn.mp h with z|z
  .rw[z];exact DS k0 c n
  .exact Xd k0 cs ns p z
def BG {k:Int} (M:0<=k) {sp:List (Int×Int)} (bd:∀ p∈sp,(0<=p.1/\p.1<=k)/\0<=p.2/\p.2<=k) {ms:List Int} (up:ms.Pairwise (· < ·)) (g:∀ y,y∈ms↔QZ sp k y):CRP.Ch (CRP.fw sp) 0 none (CRP.foldP sp ms (ms.length-1)) k:=by
 have q:∀ y∈ms,∃ j,j<ms.length/\ms.getD j 0=y:=λy Z=>by
  obtain⟨j,F,e⟩:=zAW Z;exact⟨j,F,by rw[zAq,zAe F];exact e⟩
 have B:∀ j,j<ms.length->0<=ms.getD j 0/\ms.getD j 0<=k:=λj F=>by
  have m:ms.getD j 0∈ms:=by
   rw[zAq,zAe F];exact zBw F
  rcases (g _).mp m with z|z|⟨p,L,z|z⟩
  .rw[z];exact⟨Int.le_refl _,M⟩
  .rw[z];exact⟨M,Int.le_refl _⟩
  .rw[z];exact (bd p L).1
  .rw[z];exact (bd p L).2
 obtain⟨j0,h0,S⟩:=q 0 ((g 0).mpr (.inl rfl));obtain⟨U,hk,ek⟩:=q k ((g k).mpr (.inr (.inl rfl)));have Y:ms.getD 0 0=0:=by
  rcases Nat.eq_zero_or_pos j0 with z|z
  .rw[z] at S;exact S
  .have:=CRP.get_lt up z h0
   have:=B 0 (by lia)
   lia
 have zk:ms.getD (ms.length-1) 0=k:=by
  by_cases z:U=ms.length-1
  .rw[<- z];exact ek
  .have:=CRP.get_lt up (show U<ms.length-1 by lia) (by lia)
   have:=B (ms.length-1) (by lia)
   lia
 have c:=CRP.fold_ch up (sp:=sp) (λp L=>⟨(g _).mpr (.inr (.inr ⟨p,L,.inl rfl⟩)),(g _).mpr (.inr (.inr ⟨p,L,.inr rfl⟩))⟩) (ms.length-1) (by lia) Y;rw[zk] at c;exact c
def Zz (ro:Option (Int×Int)) (k:Int):Int:=match ro with
 |none=>k
 |some (_,j)=>if k = -1 then j else k
def B5 {nm:Str} {g:Int->Int} {un:List CR.Rn} {ps:List CRP.Tr3} {i:Nat} {p:CRP.Tr3} (h:ps[i]?=some p):CRT.borneS nm g (ps.take (i+1)) un=CRT.borneS nm g (ps.take i) un++CRT.tag nm (g p.2.2) (CR.cutW un p.1 p.2.1):=by
 unfold CRT.borneS;rw[Be h,zAp,List.flatten_append];simp
def Y1 {te} {i:Nat} {g} {D} {σ} {H} (v:V) (h:∀ j:VK,j v H->te σ H j) (k:g D (σ.set i (some v)) H):N5 (BX te (Cg i)) g D σ H:=h _ k
inductive DY (vs:List V) (H:Hp) (Q:VK) (E:XK):Prop
 |mk (x ct u un ns:_) (k:Int) (z0:vs=[.ref x.p,.ref ct,.int k,.ref u]) (z1:VT H x) (z2:H ct=oL (List.map V.int ns)) (z3:ns.length=x.cs.length) (z4:LP H u un) (z5:un.length<=60) (z6:0<=k) (z7:∀ r ys parts H',De H H'->H r=none->H' r=oL ys->CRP.Ch (CRP.fw (Ay k x.cs ns)) 0 none parts k->parts.length<=20->WA H' ys (CRT.borneS x.nm (Zz (Bu x.cs ns)) parts un)->ys.length<=1200->Q (.ref r) H')
section
variable {P:Program} {w:World} {K:zAa} {mg:Str->Option Value} {base:Heap}
def Rz (J:Pm P w K mg base):Jc J 5 "borne_strips" ["cover","numbers","cents","unpaid"] (DY):=Gb J.z J.qc ["cover","numbers","cents","unpaid","rest","strips","lo","hi","k","clause"] df λsc H Q hr h=>by
 obtain⟨x,ct,u,un,ns,k,rfl,cx,ak,ln,lu,ay,k0,q⟩:=h;refine⟨_,(Ab (Ce sc 4 (Bo (GI J) (hr.mono (by decide)) (pv 0) (Bj (pv 1))))
   (Ab (Ce sc 5 (Bf Cn))
   (Ab (Bk PassesOwn.never rfl (Go K (Bo (HU J) (hr.mono (by decide)) (pv 0) (Bb (pv 1) (pv 2)))) (Cu (K:=K) (n:=3) rfl rfl (As (Fj sc 6) (As (Fj sc 7) (As (Fj sc 8) Cs))))
    (Ab (Mm (i:=9) sc.nd rfl (Or.inr rfl) (Je (PW.pt (Pu (Ak Bv (pv 8) (Sl Mw Ad) (An _)) (Lj (Ak Vg (pv 4) Ep (An _))))) (Da K (pv 4) Ad) (pv 8)))
   (Ac (Bc (Db (K:=K) rfl PySem.F.plainAttrs_list PySem.F.slot_list_extend PySem.F.type_list_extend Gv (pv 5) (Bj (Cc (NC:=["run","clause","cover"]) (own:=["run"]) (cs:=["clause","cover"]) (ix:=[9,0]) rfl (Dt.of rfl) rfl ⟨⟨rfl,.inl rfl,rfl⟩,⟨⟨rfl,.inl rfl,rfl⟩,trivial⟩⟩ (Go K (Cb (Nk J) hr (Ah (pv 3) (Bb (pv 6) (pv 7))))) (λ_ _ _=>(Jq 0)) (λ_ _ _=>Bw) (λ_ _ _=>(Ba (Ah (Da K (pv 0) Ad) (Ah (Da K (pv 0) Ad) (Bb (Jn (K:=K) (pv 2) rfl) (pv 1)))))))))))))
   (Ac (Ai (pv 5)))))),?_⟩
 refine Hu λN eN=>?_;obtain⟨dx,fs,cv,cl,xs,e,a1,a2,a3,a4,n5,a6,ai,cc,l8⟩:=id cx;have af:XC CV H x.p cl:=⟨dx,fs,e,a3,n5.2⟩;refine (vE rfl ⟨x.p,dx,fs,rfl,e,n5.2.2.2.2,_,rfl,x.p,cl,ct,xs,x.cs,ns,rfl,af,ai,cc,ak,ln,λv H1 s1 rv=>?_⟩);refine Fq eN [oR x.p,oR ct,oN k,oR u,some v,none,none,none,none,none] rfl λN eN=>?_;refine⟨zAu _,λst Y=>?_⟩;have Z:=s1.trans (Af Y (.lst []));have ag:=rv.same (Af Y (.lst []));have aa:upd H1 st (.lst []) st=oL []:=Aa;have M:=s1.free Y;generalize upd H1 st (.lst [])=H2 at Z ag aa;refine Fq eN [oR x.p,oR ct,oN k,oR u,some v,oR st,none,none,none,none] rfl λN eN=>?_;refine (vE rfl ⟨x.p,dx,fs,rfl,Z _ _ e,n5.2.2.2.1,_,rfl,vE rfl ⟨x.p,cl,ct,x.cs,ns,k,rfl,⟨af.same Z,⟨xs,Z _ _ ai,cc.mono (Qz Z)⟩,Z _ _ ak,ln,l8⟩,(λpl aw ms H3 s3 an ah up ax az tr=>?_)⟩⟩);have ch:=BG k0 (Xd k0 x.cs ns) up ax;have ae:(CRP.foldP (Ay k x.cs ns) ms (ms.length-1)).length<=20:=zAz (CRP.foldP_len _ _ _) (by lia);generalize CRP.foldP (Ay k x.cs ns) ms (ms.length-1)=B at tr ch ae;have au:=tr.len;have S3:=Z.trans s3;have S:=ag.same s3;have U:=s3 _ _ aa;have am:pl≠st:=(Ae aa an).symm;refine⟨pl,rfl,⟨_,Dl.of ah⟩,?_⟩;refine Cp (K:=K) (a:=pl) (xs:=aw) (λi σ L=>(∃ o6 o7 o8 o9,σ=[oR x.p,oR ct,oN k,oR u,some v,oR st,o6,o7,o8,o9])/\(∃ ys,L st=oL ys/\WA L ys (CRT.borneS x.nm (Zz (Bu x.cs ns)) (B.take i) un)/\ys.length<=60*i)/\(∀ b o,H3 b=some o->b≠st->L b=some o))
  ⟨⟨none,none,none,none,rfl⟩,⟨[],U,trivial,zAi _⟩,λb o z _=>z⟩ (λi σ L _ hh=>Dl.of (hh.2.2 _ _ ah am)) ?_ ?_
 .rintro i y σ L hi ⟨⟨o6,o7,o8,o9,rfl⟩,⟨ys,h4,sy,ly⟩,kp⟩
  obtain⟨t,p,hp,rfl,ht⟩:=tr.get hi;have il:i<B.length:=(zAl.mp hp).1;have ab:∀ {b:Addr} {zs:List V},H3 b=oT zs->L b=oT zs:=λz=>kp _ _ z (Ar z U (by intro y;cases y));refine⟨t,_,rfl,(Jy.of (ab ht)),rfl,(vC rfl (vC rfl (vC rfl (⟨rfl,?_⟩))))⟩;refine Y1 (.int (Zz (Bu x.cs ns) p.2.2)) (λQ' F=>?_) ?_
  .by_cases c:p.2.2 = -1
   .refine (vE rfl (vE rfl ⟨rfl,vE rfl (dT (by rw[c]) ?_)⟩))
    cases ro:Ds (Bq x.cs ns) 0 none with
    |none=>
     rw[ro] at S;have ao:v=.non:=S;subst ao;refine (vE rfl ⟨rfl,vE rfl (nF rfl (vE rfl ?_))⟩);unfold Bu at F;rw[ro] at F;exact F
    |some nj=>
     obtain⟨n,j⟩:=nj;rw[ro] at S;obtain⟨t2,rfl,aq⟩:=S;refine (vE rfl ⟨rfl,vE rfl (nT (λy=>by cases y) (vE rfl (vI rfl rfl (Jy.of (ab aq)) rfl ?_)))⟩);unfold Bu Zz at F;rw[ro] at F
     dsimp only at F
     rw[if_pos c] at F;exact F
   .refine (vE rfl (vE rfl ⟨rfl,vE rfl (dF (λy=>c (V.int.inj y)) (vE rfl ?_))⟩))
    have eg:Zz (Bu x.cs ns) p.2.2=p.2.2:=by
     unfold Zz
     split
     .rfl
     .rw[if_neg c]
    rw[eg] at F;exact F
  refine PN [oR x.p,oR ct,oN k,oR u,some v,oR st,oN p.1,oN p.2.1,oN p.2.2,oN (Zz (Bu x.cs ns) p.2.2)] rfl ?_;generalize Zz (Bu x.cs ns)=g at sy ⊢;obtain⟨us,aj,as⟩:=id lu;have av:LP L u un:=⟨us,kp _ _ (S3 _ _ aj) (Ae aj M),(as.mono (Aq S3)).mono λb ws y=>ab y⟩;have e4:=kp _ _ (S3 _ _ e) (Ae e M);refine (vE rfl ⟨.inl ⟨rfl,_,Dl.of h4⟩,vE rfl (vE rfl (vE rfl ⟨u,un,p.1,p.2.1,rfl,av,(by lia),(λr1 H5 s5 a0 lp=>?_)⟩))⟩);obtain⟨rs,ac,pr⟩:=id lp;have lr:=pr.len;have lc:=CR.cutW_len un p.1 p.2.1;refine⟨r1,rfl,⟨_,Dl.of ac⟩,λc1 al=>?_⟩;refine Bi (K:=K) (a:=r1) (xs:=rs) (λj zs H6=>WA H6 zs (CRT.tag x.nm (g p.2.2) ((CR.cutW un p.1 p.2.1).take j))/\H6 c1=oL zs/\De H5 H6) ⟨trivial,Aa,Af al _⟩
   (λj zs H6 _ ⟨e6,x1,x2⟩=>⟨x1,by rw[e6.len];unfold CRT.tag;rw[zAb,zAo];lia,Dl.of (x2 _ _ ac)⟩) (by rw[zCE];lia) (λj w zs H6 hj ⟨e6,x1,x2⟩=>?_) (λzs H6 ⟨e6,x1,x2⟩=>?_)
  .obtain⟨t',p',ar,rfl,ad⟩:=pr.get hj
   refine (vE rfl (vI rfl rfl (Jy.of (x2 _ _ ad)) rfl (vE rfl (vI rfl rfl (Jy.of (x2 _ _ ad)) rfl (vE rfl ⟨x.p,CV,dx,fs,_,rfl,x2 _ _ (s5 _ _ e4),J.aa.cl,J.am,a1,_,rfl,Dk (by show 4<=1000;decide),λv1 ap=>?_⟩)))));have s7:=Af ap (.tup [.int p'.1,.int p'.2,.str x.nm,.int (g p.2.2)]);refine⟨s7 _ _ x1,rfl,?_,Aa,λb o z=>?_⟩
   .rw[Yn ar]
    exact ((e6.mono (Aq s7)).app (WA.one (p:=(p'.1,p'.2,x.nm,g p.2.2)) Aa)).mono (Cj (s7 _ _ x1) _)
   .rw[Ag (Ae z al)]
    exact s7 _ _ (x2 b o z)
  rw[lr,zAB] at e6;have s6:=s5.trans x2;have h6:=s6 _ _ h4;have lz:=e6.len;have lt:(CRT.tag x.nm (g p.2.2) (CR.cutW un p.1 p.2.1)).length=(CR.cutW un p.1 p.2.1).length:=by unfold CRT.tag;rw[zAb]
  refine⟨st,c1,ys,zs,rfl,rfl,h6,x1,(by rw[zCE];lia),?_⟩;refine⟨⟨_,_,_,_,rfl⟩,⟨_,Aa,?_,by rw[zAj];lia⟩,λb o z nb=>?_⟩
  .rw[B5 hp]
   exact ((sy.mono (Aq s6)).app e6).mono (Cj h6 _)
  .rw[Ag nb]
   exact s6 _ _ (kp b o z nb)
 .rintro σ L ⟨⟨o6,o7,o8,o9,rfl⟩,⟨ys,h4,sy,ly⟩,kp⟩
  rw[au,zAB] at sy;subst eN;refine (vE rfl (q st ys B L (λb o z=>kp b o (S3 _ _ z) (Ae z M)) M h4 ch ae sy (by lia)))
end
theorem Lm:∀ {q} {k:Int} {o} {n j:Int},Ds q k o=some (n,j)->o=some (n,j)\/∃ i:Nat,q[i]?=some (some n)/\j=k+i
 |[],k,o,n,j,h=>.inl h
 |none::r,k,o,n,j,h=>by
  unfold Ds at h;rcases Lm h with z|⟨i,g,B⟩
  .exact .inl z
  .exact .inr ⟨i+1,by simpa using g,by lia⟩
 |some m::r,k,none,n,j,h=>by
  unfold Ds at h;rcases Lm h with z|⟨i,g,B⟩
  .cases z
   exact .inr ⟨0,rfl,by simp⟩
  .exact .inr ⟨i+1,by simpa using g,by lia⟩
 |some m::r,k,some (F,L),n,j,h=>by
  unfold Ds at h;rcases Lm h with z|⟨i,g,B⟩
  .split at z
   .cases z
    exact .inr ⟨0,rfl,by simp⟩
   .exact .inl z
  .exact .inr ⟨i+1,by simpa using g,by lia⟩
theorem Sq:∀ {cs} {ns:List Int} {i:Nat} {n:Int} (k:Int),(Bq cs ns)[i]?=some (some n)->(Ay k cs ns)[i]?=some (0,k)
 |[],_,i,n,k,h=>by unfold Bq at h;simp at h
 |_::_,[],i,n,k,h=>by unfold Bq at h;simp at h
 |c::cs,m::ns,0,n,k,h=>by
  unfold Bq at h;unfold Ay;rw[zCw] at h ⊢;simp at h;cases c with
  |lim y a=>rfl
  |own y d=>cases h
  |lay y a b=>cases h
  |any y=>cases h
 |c::cs,m::ns,i+1,n,k,h=>by
  unfold Bq at h;unfold Ay;rw[zCw] at h ⊢;simp only [List.getElem?_cons_succ] at h ⊢;exact Sq (cs:=cs) (ns:=ns) k h
theorem W0:∀ {sp} {k c:Int},CRP.fwFrom sp k c = -1\/∃ i:Nat,∃ q,sp[i]?=some q/\CRP.fwFrom sp k c=k+i/\(c<q.1\/q.2<=c)
 |[],k,c=>.inl rfl
 |(a,b)::r,k,c=>by
  unfold CRP.fwFrom;by_cases z:c<a\/b<=c
  .rw[if_pos z]
   exact .inr ⟨0,(a,b),rfl,(by simp),z⟩
  .rw[if_neg z]
   rcases W0 (sp:=r) (k:=k+1) (c:=c) with y|⟨i,q,g,j,B⟩
   .exact .inl y
   .exact .inr ⟨i+1,q,by simpa using g,by rw[j];lia,B⟩
theorem GJ:∀ {sp} {k c:Int},0<=k->CRP.fwFrom sp k c = -1->∀ q∈sp,q.1<=c/\c<q.2
 |[],_,_,_,_,q,h=>nomatch h
 |(a,b)::r,k,c,j,h,q,g=>by
  unfold CRP.fwFrom at h;by_cases z:c<a\/b<=c
  .rw[if_pos z] at h
   lia
  .rw[if_neg z] at h
   rcases zAn.mp g with y|y
   .rw[y]
    exact⟨by show a<=c;lia,by show c<b;lia⟩
   .exact GJ (by lia) h q y
def KN {sp:List (Int×Int)} {k:Int} (ch:CRP.Ch (CRP.fw sp) 0 none parts k) {p:CRP.Tr3} (j:p∈parts):∃ c,0<=c/\c<k/\CRP.fw sp c=p.2.2:=by
 obtain⟨i,hi,e⟩:=zAW j;have g:=CRP.Ch.get (i:=i) (p:=p) ch (by rw[zAe hi,e]);exact⟨p.1,g.2.2.2.1,by have:=g.1;have:=g.2.2.2.2;omega,g.2.1 p.1 (Int.le_refl _) g.1⟩
def K3 {cs:List Cl} {ns:List Int} {k n j:Int} (B:Bu cs ns=some (n,j)) (ch:CRP.Ch (CRP.fw (Ay k cs ns)) 0 none g k):0<=j/\∀ p∈g,p.2.2≠j:=by
 unfold Bu at B;rcases Lm B with z|⟨i,L,z2⟩
 .cases z
 refine⟨by lia,λp U e=>?_⟩;obtain⟨c,c0,Z,Y⟩:=KN ch U;have sp:=Sq k L;unfold CRP.fw at Y;rcases W0 (sp:=Ay k cs ns) (k:=0) (c:=c) with y|⟨S,q,F,y2,M⟩
 .lia
 .have:S=i:=by lia
  subst this;rw[sp] at F;cases F
  dsimp only at M
  lia
def GL {cs:List Cl} {ns:List Int} {k:Int} (ch:CRP.Ch (CRP.fw (Ay k cs ns)) 0 none g k):∀ p∈g,∀ q∈g,Zz (Bu cs ns) p.2.2=Zz (Bu cs ns) q.2.2->p.2.2=q.2.2:=by
 intro p M q S e;cases B:Bu cs ns with
 |none=>
  rw[B] at e;exact e
 |some L=>
  obtain⟨n,j⟩:=L;obtain⟨U,F⟩:=K3 B ch;rw[B] at e;have z:(if p.2.2 = -1 then j else p.2.2)=if q.2.2 = -1 then j else q.2.2:=e;have n1:=F p M;have n2:=F q S;by_cases c1:p.2.2 = -1
  .by_cases c2:q.2.2 = -1
   .lia
   .rw[if_pos c1,if_neg c2] at z
    exact absurd z.symm n2
  .by_cases c2:q.2.2 = -1
   .rw[if_neg c1,if_pos c2] at z
    exact absurd z n1
   .rw[if_neg c1,if_neg c2] at z
    exact z
def JQ (kvs:Jz) (z:LF) (x:VS) (a:CRT.Av Str):Prop:=∃ W,AI z.ct x.cs (numsOf kvs z x) W/\a=(x.nm,W,(Bu x.cs (numsOf kvs z x)).map (·.1))
def XD (kvs:Jz) (z:LF):List VS->List (CRT.Av Str)->Prop
 |[],[]=>True
 |x::xs,a::as=>JQ kvs z x a/\XD kvs z xs as
 |_,_=>False
theorem XD.names {kvs:Jz} {z:LF}:∀ {xs} {as},XD kvs z xs as->as.map (·.1)=xs.map (·.nm)
 |[],[],_=>rfl
 |[],_::_,h=>h.elim
 |_::_,[],h=>h.elim
 |x::xs,a::as,⟨⟨W,_,e⟩,r⟩=>by rw[zAw,zAw,XD.names r,e]
theorem XD.snoc {kvs:Jz} {z:LF}:∀ {xs} {as} {x} {a},XD kvs z xs as->JQ kvs z x a->XD kvs z (xs++[x]) (as++[a])
 |[],[],_,_,_,h=>⟨h,trivial⟩
 |[],_::_,_,_,r,_=>r.elim
 |_::_,[],_,_,r,_=>r.elim
 |x::xs,a::as,_,_,⟨h,r⟩,g=>⟨h,XD.snoc r g⟩
def XD.len {kvs:Jz} {z:LF} {xs:List VS} {as:List (CRT.Av Str)} (h:XD kvs z xs as):as.length=xs.length:=by
 have:=congrArg List.length h.names
 rwa [zAb,zAb] at this
def AQ {kvs:Jz} {z:LF} {x:VS} {xs:List VS} {as:List (CRT.Av Str)} (av:XD kvs z (x::xs) as) (c0:0<z.ct) (ch:CRP.Ch (CRP.fw (Ay z.ct x.cs (numsOf kvs z x))) 0 none B z.ct) :
  ∀ p∈B,Zz (Bu x.cs (numsOf kvs z x)) p.2.2 = -1->∀ n,p.1<=n->n<p.2.1->CR.inR (CRT.leftS as [(0,z.ct)]) n=false:=by
 intro p hp L n n1 n2
 match as,av with
 |a::as,⟨⟨W,hw,ea⟩,r⟩=>
  obtain⟨i,hi,e⟩:=zAW hp;have g:=CRP.Ch.get (i:=i) (p:=p) ch (by rw[zAe hi,e]);have fn:=g.2.1 n n1 n2;have b0:=g.2.2.2.1;have b1:=g.2.2.2.2;cases Y:Bu x.cs (numsOf kvs z x) with
  |some nj=>
   obtain⟨m,j⟩:=nj;obtain⟨j0,no⟩:=K3 Y ch;rw[Y] at L;have Z:(if p.2.2 = -1 then j else p.2.2) = -1:=L
   split at Z
   .omega
   .contradiction
  |none=>
   rw[Y] at L ea;have k1:p.2.2 = -1:=L;rw[k1] at fn;have F:=GJ (Int.le_refl 0) fn;obtain⟨lo,hi',mx,mn,eW⟩:=hw;have l1:lo<=n:=by
    rcases zAn.mp mx.1 with y|y
    .omega
    .obtain⟨q,hq,S⟩:=zAD.mp y
     have:=F q hq;have aa:q.1=lo:=S;omega
   have l2:n<hi':=by
    rcases zAn.mp mn.1 with y|y
    .omega
    .obtain⟨q,hq,S⟩:=zAD.mp y
     have:=F q hq;have aa:q.2=hi':=S;omega
   cases zl:CR.inR (CRT.leftS (a::as) [(0,z.ct)]) n with
   |false=>rfl
   |true=>
    exfalso;have f1:=CRT.frm_one c0;have U:CR.inR (CRT.leftS as (CR.outW [(0,z.ct)] (CRT.payW a [(0,z.ct)]))) n=true:=zl;have:=CRT.leftS_sub (CR.outW_frm f1 (CRT.payW_frm f1)) U;rw[CR.outW_in (CRT.payW_frm f1),zAt,zBx] at this;have M:CR.inR (CRT.payW a [(0,z.ct)]) n=true:=by
     rw[ea];show CR.inR (CR.cutW [(0,z.ct)] W.1 W.2) n=true;rw[CR.cutW_in,zAt,zAt,decide_eq_true_eq,decide_eq_true_eq,eW];refine⟨CRT.in_one.mpr ⟨by omega,by omega⟩,l1,?_⟩;show n<if hi'>lo then hi' else lo
     split <;> omega
    rw[M] at this;cases this.2
def Du (kvs:Jz) (z:LF) (as:List VS) (S:List Ih):Prop:=match as with
 |[]=>S=[((0:Int),z.ct,("" : Str),(0:Int))]
 |x::_=>∃ avs parts,XD kvs z as avs/\CRP.Ch (CRP.fw (Ay z.ct x.cs (numsOf kvs z x))) 0 none parts z.ct/\S.Perm (CRT.allS avs x.nm (Zz (Bu x.cs (numsOf kvs z x))) parts z.ct)/\S.Pairwise (λs t=>s.1<t.1)
set_option tactic.hygienic true in
def Wn {kvs:Jz} {z:LF} {as:List VS} {S:List Ih} (h:Du kvs z as S) (nd:(as.map (·.nm)).Nodup) (g:0<z.ct):CRT.FormS 0 none S z.ct:=by
 unfold Du at h
 split at h
 .rw[h]
  exact⟨rfl,g,(λy=>by cases y),rfl⟩
 .rename_i x _
  obtain⟨q,B,L,j,F,M⟩:=h;have sp:=CRT.all_sep (cs:=q) g (by rw[L.names];exact nd) j (GL j) (AQ L g j) (nm:=x.nm);exact CRT.form_of (by lia) (sp.perm F) M (λn=>(CRT.inS_perm F).trans (CRT.all_in g j)) (λs _ _ y=>by cases y)
theorem Qm (a:CRT.Av Str):∀ (as:List (CRT.Av Str)) (un:List CR.Rn),CRT.paidS (as++[a]) un=CRT.paidS as un++CRT.tag a.1 (-1) (CRT.payW a (CRT.leftS as un))/\CRT.leftS (as++[a]) un=CR.outW (CRT.leftS as un) (CRT.payW a (CRT.leftS as un))
 |[],un=>⟨by show CRT.tag a.1 (-1) (CRT.payW a un)++[]=[]++CRT.tag a.1 (-1) (CRT.payW a un);simp,rfl⟩
 |c::as,un=>by
  have ih:=Qm a as (CR.outW un (CRT.payW c un));refine⟨?_,ih.2⟩;show CRT.tag c.1 (-1) (CRT.payW c un)++CRT.paidS (as++[a]) _=(CRT.tag c.1 (-1) (CRT.payW c un)++CRT.paidS as _)++_;rw[ih.1,zAZ];rfl
def DT {un:List CR.Rn} {B:List Int} (f:CR.Frm un) (e:CRT.EndsIn B un):un.length<=B.length:=by
 have nd:(un.map (·.1)).Nodup:=by
  rw[zAS,zBG];refine f.pw.imp_of_mem λ{p q} g F h z=>?_;have:=f.lt p g
  lia
 have:=CRT.few_of (m:=B) nd λx j=>by
  obtain⟨p,g,rfl⟩:=zAD.mp j;exact (e p g).1
 rwa [zAb] at this
def Xe {c:Int} (g:0<c) (as:List (CRT.Av Str)):(CRT.leftS as [(0,c)]).length<=2+3*as.length:=by
 obtain⟨B,q,L,j,F⟩:=CRT.paid_ends (cs:=as) (B:=[0,c]) (CRT.frm_one g) (λp z=>by rw[zAm.mp z];simp);have:=DT (CRT.leftS_frm (CRT.frm_one g)) j;rw[q] at this;exact this
def FA (a:CRT.Av Str) (un:List CR.Rn):(CRT.payW a un).length<=un.length:=by
 unfold CRT.payW
 split
 .exact CR.cutW_len _ _ _
 .exact zAz (CR.lowW_len _ _) (CR.cutW_len _ _ _)
theorem WA.tupF {K:zAa}:∀ {xs} {S},WA H xs S->XI K H xs (S.map (·.1))
 |[],[],_=>trivial
 |[],_::_,h=>h.elim
 |_::_,[],h=>h.elim
 |x::xs,p::ps,⟨⟨t,e,h⟩,r⟩=>⟨⟨t,_,e,Jy.of h,rfl⟩,WA.tupF r⟩
theorem WA.pick {xs:List V} {S:List Ih} (h:WA H xs S):∀ l:List Nat,(∀ i∈l,i<S.length)->WA H (l.map λi=>xs.getD i .non) (l.map λi=>S.getD i (0,0,"",0))
 |[],_=>trivial
 |i::l,hl=>by
  have hi:=hl i zAg;have q:=h.len;obtain⟨t,p,e1,e2,e3⟩:=h.get (i:=i) (zAe (by lia));refine⟨⟨t,?_,?_⟩,WA.pick h l λj g=>hl j (zAd _ g)⟩
  .show xs.getD i .non=.ref t
   rw[zAq,zAe (by lia)];exact e2
  .show H t=oT (U0 (S.getD i (0,0,"",0)))
   rw[zAq,e1];exact e3
inductive BS (vs:List V) (H:Hp) (Q:VK) (E:XK):Prop
 |mk (b cp kp kvs l z bs:_) (z0:vs=[.ref b,.ref cp,.ref l]) (z1:Fw H b bs) (z2:(∀ x∈bs,Ob x.t<4)) (z3:bs.length<=8) (z4:(bs.map (·.nm)).Nodup) (z5:WB CN H cp kp kvs) (z6:WL kvs) (z7:H l=oT (LF.vs z)) (z8:0<z.ct) (z9:∀ r ys S H',De H H'->H r=none->H' r=oL ys->WA H' ys S->Du kvs z (Cq z bs) S->S.length<64->Q (.ref r) H')
section
seal L2.PS L2.PSs L2.PE L2.PA
variable {P:Program} {w:World} {K:zAa} {mg:Str->Option Value} {base:Heap}
def B7 (J:Pm P w K mg base):Jc J 7 "strips_of" ["book","counts","loss"] (BS):=Gb J.z J.qd ["book","counts","loss","cents","asked","unpaid","strips","cover","paid","first"] df λsc H Q hr h=>by
 obtain⟨b,cp,kp,kvs,l,z,bs,rfl,ask,hm,l8,nd,ct,iv,hl,c0,q⟩:=h;refine⟨_,(Ab (Ce sc 3 (Da K (pv 2) (Op J.z J.gc)))
   (Ab (Ce sc 4 (Cb (Tg J) hr (Bb (pv 0) (pv 2))))
   (Ab (Au (Bp (V9 (pv 4)))
    (Ac (Ai (Bf (Bj (Ba (Ah Ad (Ah (pv 3) (Bb Az Ad))))))))
    Al)
   (Ab (Ce sc 5 (Bf (Bj (Ba (Bb Ad (pv 3))))))
   (Ab (Ce sc 6 (Bf Cn))
   (Ab (Bk PassesOwn.never rfl (Go K (pv 4)) (Uf (i:=7) sc.nd rfl (Or.inr rfl))
    (Ab (Ce sc 8 (Cb (Zh J) hr (Ah (pv 7) (Ah (Cb (Nr J) hr (Ah (pv 7) (Bb (pv 1) (pv 2)))) (Bb (pv 3) (pv 5))))))
   (Ab (Bc (Db (K:=K) rfl PySem.F.plainAttrs_list PySem.F.slot_list_extend PySem.F.type_list_extend Gv (pv 6) (Bj (Cc (NC:=["run","cover"]) (own:=["run"]) (cs:=["cover"]) (ix:=[7]) rfl (Dt.of rfl) rfl ⟨⟨rfl,.inl rfl,rfl⟩,trivial⟩ (Go K (pv 8)) (λ_ _ _=>(Jq 0)) (λ_ _ _=>Bw) (λ_ _ _=>(Ba (Ah (Da K (pv 0) Ad) (Ah (Da K (pv 0) Ad) (Bb (Jn (K:=K) (pv 1) rfl) (Sl Mw Ad))))))))))
   (Ac (Ce sc 5 (Cb (CT J) hr (Bb (pv 5) (pv 8))))))))
   (Ab (Ce sc 9 (Jo K (pv 4) Ad))
   (Ab (Bc (Db (K:=K) rfl PySem.F.plainAttrs_list PySem.F.slot_list_extend PySem.F.type_list_extend Gv (pv 6) (Bj (Cb (Rz J) hr (Ah (pv 9) (Ah (Cb (Nr J) hr (Ah (pv 9) (Bb (pv 1) (pv 2)))) (Bb (pv 3) (pv 5))))))))
   (Ac (Ai (Lh Vv J.z J.ce (Bj (pv 6))))))))))))),?_⟩
 refine Hu λN eN=>?_;have one:1<=sizeLine:=by rw[zCE];decide
 have two:2<=sizeLine:=by rw[zCE];decide
 refine (vE rfl (vI rfl rfl (Jy.of hl) rfl ?_));refine Fq eN [oR b,oR cp,oR l,oN z.ct,none,none,none,none,none,none] rfl λN eN=>?_;refine (vE rfl (vE rfl ⟨b,l,bs,z,rfl,ask,hm,(by lia),hl,(λak H1 s1 nak hak=>?_)⟩));refine Fq eN [oR b,oR cp,oR l,oN z.ct,oR ak,none,none,none,none,none] rfl λN eN=>?_;have sub:∀ x∈Cq z bs,x∈bs:=λx hx=>(zAJ.mp hx).1;have la:(Cq z bs).length<=8:=zAz (zAE _ _) l8;have nda:((Cq z bs).map (·.nm)).Nodup:=nd.sublist (List.Sublist.map _ List.filter_sublist);obtain⟨_,_,_,_,_,_,all⟩:=ask;have alla:∀ x∈Cq z bs,VT H1 x:=λx hx=>(all x (sub x hx)).same s1;have ct1:=ct.same s1;have hl1:=s1 _ _ hl;clear all ct hl hm l8 nd;generalize Cq z bs=as at hak sub la nda alla q;refine (vE rfl ⟨_,.inl ⟨_,Dl.of hak,rfl⟩,?_⟩);cases eas:as with
 |nil=>
  rw[eas] at q;refine Jt (vE rfl ⟨Dk (by show 4<=1000;decide),λt nt=>⟨one,λr nr=>?_⟩⟩);have s2:=Af nt (.tup (U0 (0,z.ct,"",0)));have s3:=Af nr (.lst [V.ref t]);exact q r [.ref t] [(0,z.ct,"",0)] _ (s1.trans (s2.trans s3)) (s1.free (s2.free nr)) Aa (WA.one (s3 _ _ Aa)) rfl (show 1<64 by decide)
 |cons x0 more=>
 refine Cy ?_;have e0:as[0]?=some x0:=by rw[eas];rfl
 refine Nt eN λN eN=>?_;refine (vE rfl ⟨two,λt0 nt0=>⟨one,λu0 nu0=>?_⟩⟩);have s2:=(Af nt0 (.tup [V.int 0,.int z.ct])).trans (Af nu0 (.lst [V.ref t0]));have lu0:LP (upd (upd H1 t0 (.tup [V.int 0,.int z.ct])) u0 (.lst [V.ref t0])) u0 [(0,z.ct)]:=⟨_,Aa,⟨t0,rfl,Af nu0 (.lst [V.ref t0]) _ _ Aa⟩,trivial⟩;generalize upd (upd H1 t0 (.tup [V.int 0,.int z.ct])) u0 (.lst [V.ref t0])=H2 at s2 lu0;refine Fq eN [oR b,oR cp,oR l,oN z.ct,oR ak,oR u0,none,none,none,none] rfl λN eN=>?_;refine⟨zAu _,λst nst=>?_⟩;have S3:=s2.trans (Af nst (.lst []));have fst:=s2.free nst;have lu3:=LP.same (Af nst (.lst [])) lu0;have hst3:upd H2 st (.lst []) st=oL []:=Aa;have nus:u0≠st:=by
  obtain⟨_,y,_⟩:=lu0;exact Ae y nst
 generalize upd H2 st (.lst [])=H3 at S3 lu3 hst3;refine Fq eN [oR b,oR cp,oR l,oN z.ct,oR ak,oR u0,oR st,none,none,none] rfl λN eN=>?_;have hak3:=S3 _ _ hak;have ncs:cp≠st/\kp≠st:=by
  obtain⟨⟨_,_,y,_⟩,y2⟩:=id ct1;exact⟨Ae y fst,Ae y2 fst⟩
 refine (vE rfl ⟨ak,rfl,⟨_,Dl.of hak3⟩,?_⟩);refine Ea (K:=K) (a:=ak) (xs:=as.map xV) (λi σ H4=>(∃ u o7 o8,σ=[oR b,oR cp,oR l,oN z.ct,oR ak,oR u,oR st,o7,o8,none]/\u≠st /\
   ∃ avs ys,XD kvs z (as.take i) avs/\LP H4 u (CRT.leftS avs [(0,z.ct)])/\H4 st=oL ys/\WA H4 ys (CRT.paidS avs [(0,z.ct)])/\ys.length<=60*i)/\De H1 H4)
  ⟨⟨u0,none,none,rfl,nus,[],[],trivial,lu3,hst3,trivial,zAi _⟩,S3⟩ (λi σ H4 _ hh=>Dl.of (hh.2 _ _ hak)) ?_ ?_
 .rintro i y σ H4 hi ⟨⟨u,o7,o8,rfl,nu,avs,ys,av,lu,h4,sy,ly⟩,S4⟩ N9 nx9
  rw[zAy] at hi;obtain⟨x,hx,rfl⟩:=zAP.mp hi;have il:i<as.length:=(zAl.mp hx).1;have lav:avs.length<=8:=by rw[av.len,zAo];lia
  have lun:=Xe c0 avs;have cx:=(alla x (zAC hx)).same S4;generalize eun:CRT.leftS avs [(0,z.ct)]=un at lu lun;refine (vE rfl (vE rfl (vE rfl (vE rfl ⟨x,cp,kp,kvs,l,z,rfl,cx,(ct1.same S4),iv,(S4 _ _ hl1),(λnr H5 s5 nnr hnr=>(vE rfl (vE rfl ⟨x,nr,u,un,numsOf kvs z x,z.ct,rfl,cx.same s5,hnr,Xi kvs z x,LP.same s5 lu,by lia,λpd W H6 s6 npd wa lp6=>?_⟩)))⟩))));subst eN;refine Ga [oR b,oR cp,oR l,oN z.ct,oR ak,oR u,oR st,oR x.p,oR pd,none] rfl ?_;have s56:=s5.trans s6;have lpy:=FA (x.nm,W,(Bu x.cs (numsOf kvs z x)).map (·.1)) un;have av':JQ kvs z x (x.nm,W,(Bu x.cs (numsOf kvs z x)).map (·.1)):=⟨W,wa,rfl⟩;have sn:=Qm (x.nm,W,(Bu x.cs (numsOf kvs z x)).map (·.1)) avs [(0,z.ct)];rw[eun] at sn;generalize (x.nm,W,(Bu x.cs (numsOf kvs z x)).map (·.1))=av1 at lp6 lpy av' sn;have en:av1.1=x.nm:=by obtain⟨_,_,y⟩:=av';rw[y]
  rw[en] at sn;have h6:=s56 _ _ h4;obtain⟨rs,hpd,pr⟩:=id lp6;have lr:=pr.len;obtain⟨dx,fs,_,_,_,e,a1,_⟩:=cx.same s56;refine (vE rfl ⟨.inl ⟨rfl,_,Dl.of h6⟩,vE rfl ⟨pd,rfl,⟨_,Dl.of hpd⟩,λc1 nc1=>?_⟩⟩);refine Bi (K:=K) (a:=pd) (xs:=rs) (λj zs H7=>WA H7 zs (CRT.tag x.nm (-1) ((CRT.payW av1 un).take j))/\H7 c1=oL zs/\De H6 H7) ⟨trivial,Aa,Af nc1 _⟩
   (λj zs H7 _ ⟨e6,x1,x2⟩=>⟨x1,by rw[e6.len];unfold CRT.tag;rw[zAb,zAo];lia,Dl.of (x2 _ _ hpd)⟩) (by rw[zCE];lia) (λj w zs H7 hj ⟨e6,x1,x2⟩=>?_) (λzs H7 ⟨e6,x1,x2⟩=>?_)
  .obtain⟨t',p',hp',rfl,ht'⟩:=pr.get hj
   refine (vE rfl (vI rfl rfl (Jy.of (x2 _ _ ht')) rfl (vE rfl (vI rfl rfl (Jy.of (x2 _ _ ht')) rfl (vE rfl ⟨x.p,CV,dx,fs,_,rfl,x2 _ _ e,J.aa.cl,J.am,a1,_,rfl,Dk (by show 4<=1000;decide),λv1 nv1=>?_⟩)))));have s7:=Af nv1 (.tup [.int p'.1,.int p'.2,.str x.nm,.int (-1)]);refine⟨s7 _ _ x1,rfl,?_,Aa,λb o z=>?_⟩
   .rw[Yn hp']
    exact ((e6.mono (Aq s7)).app (WA.one (p:=(p'.1,p'.2,x.nm,-1)) Aa)).mono (Cj (s7 _ _ x1) _)
   .rw[Ag (Ae z nc1)]
    exact s7 _ _ (x2 b o z)
  rw[lr,zAB] at e6;have h7:=x2 _ _ h6;have lz:=e6.len;have lt:(CRT.tag x.nm (-1) (CRT.payW av1 un)).length=(CRT.payW av1 un).length:=by unfold CRT.tag;rw[zAb]
  refine⟨st,c1,ys,zs,rfl,rfl,h7,x1,(by rw[zCE];lia),?_⟩;have k7:W6 H7 (upd H7 st (.lst (ys++zs))):=Cj h7 _;have sts8:=((sy.mono (Aq (s56.trans x2))).app e6).mono k7;rw[<- sn.1] at sts8;have S8:De H1 (upd H7 st (.lst (ys++zs))):=λb o z=>by rw[Ag (Ae z fst)];exact x2 _ _ (s56 _ _ (S4 _ _ z))
  have lpd8:LP (upd H7 st (.lst (ys++zs))) pd (CRT.payW av1 un):=by
   have npst:pd≠st:=(Ae (s5 _ _ h4) npd).symm;exact⟨rs,by rw[Ag npst];exact x2 _ _ hpd,(pr.mono (Aq x2)).mono k7⟩
  have lu8:LP (upd H7 st (.lst (ys++zs))) u un:=by
   obtain⟨us,y1,y2⟩:=lu;exact⟨us,by rw[Ag nu];exact x2 _ _ (s56 _ _ y1),(y2.mono (Aq (s56.trans x2))).mono k7⟩
  have h8:upd H7 st (.lst (ys++zs)) st=oL (ys++zs):=Aa;generalize upd H7 st (.lst (ys++zs))=H8 at sts8 S8 lpd8 lu8 h8;refine (vE rfl (vE rfl ⟨u,pd,un,CRT.payW av1 un,rfl,lu8,lpd8,by lia,by lia,λu2 H9 s9 nu2 lp9=>?_⟩));have nu2':u2≠st:=(Ae h8 nu2).symm;refine nx9 _ _ ⟨⟨u2,_,_,rfl,nu2',avs++[av1],ys++zs,?_,?_,s9 _ _ h8,sts8.mono (Aq s9),by rw[zAj];lia⟩,S8.trans s9⟩
  .rw[Be hx]
   exact av.snoc av'
  .rw[sn.2]
   exact lp9
 .rintro σ H4 ⟨⟨u,o7,o8,rfl,nu,avs,ys,av,lu,h4,sy,ly⟩,S4⟩
  rw[zAb,zAB] at av;rw[zAb] at ly;have lav:avs.length<=8:=by rw[av.len];exact la
  have lun:=Xe c0 avs;have at0:Oq (as.map xV) 0=some (.ref x0.p):=Ge (by rw[zAy,e0];rfl);refine Nt eN λN eN=>?_;refine (vE rfl (vI rfl rfl (Dl.of (S4 _ _ hak)) at0 ?_));refine Fq eN [oR b,oR cp,oR l,oN z.ct,oR ak,oR u,oR st,o7,o8,oR x0.p] rfl λN eN=>?_;have cx:=(alla x0 (zAC e0)).same S4;refine (vE rfl ⟨.inl ⟨rfl,_,Dl.of h4⟩,vE rfl (vE rfl (vE rfl (vE rfl ⟨x0,cp,kp,kvs,l,z,rfl,cx,(ct1.same S4),iv,(S4 _ _ hl1),(λnr H5 s5 nnr hnr=>(vE rfl (vE rfl ⟨x0,nr,u,_,numsOf kvs z x0,z.ct,rfl,cx.same s5,hnr,Xi kvs z x0,LP.same s5 lu,by lia,by lia,λr1 ys1 parts H6 s6 nr1 hr1 ch lpt sb l12=>?_⟩)))⟩)))⟩);have s56:=s5.trans s6;have h6:=s56 _ _ h4;refine⟨st,r1,ys,ys1,rfl,rfl,h6,hr1,(by rw[zCE];lia),?_⟩;have sts7:=((sy.mono (Aq s56)).app sb).mono (Cj h6 (.lst (ys++ys1)));have S7:De H1 (upd H6 st (.lst (ys++ys1))):=λb o z=>by rw[Ag (Ae z fst)];exact s56 _ _ (S4 _ _ z)
  have h7:upd H6 st (.lst (ys++ys1)) st=oL (ys++ys1):=Aa;generalize upd H6 st (.lst (ys++ys1))=H7 at sts7 S7 h7;rw[eas] at av nda;have sp:CRT.Sep (CRT.allS avs x0.nm (Zz (Bu x0.cs (numsOf kvs z x0))) parts z.ct):=CRT.all_sep c0 (by rw[av.names];exact nda) ch (GL ch) (AQ av c0 ch);have ln:=CRT.all_len (f:=CRP.fw (Ay z.ct x0.cs (numsOf kvs z x0))) c0 sp;have sts8:WA H7 (ys++ys1) (CRT.allS avs x0.nm (Zz (Bu x0.cs (numsOf kvs z x0))) parts z.ct):=sts7;generalize eS:CRT.allS avs x0.nm (Zz (Bu x0.cs (numsOf kvs z x0))) parts z.ct=S at sts8 sp ln;have lS:=sts8.len;subst eN;refine (vE rfl ⟨st,ys++ys1,S.map (·.1),rfl,Dl.of h7,?_,sts8.tupF,sp.starts,λr p nr pm up=>?_⟩)
  .lia
  rw[lS] at pm up;obtain⟨o1,o2⟩:=M6 (d:=((0:Int),(0:Int),("" : Str),(0:Int))) (f:=λs:Ih=>s.1) pm up sp.starts;have s8:=Af nr (.lst (p.toList.map λi=>(ys++ys1).getD i .non));refine q r _ (p.toList.map λi=>S.getD i (0,0,"",0)) _ (s1.trans (S7.trans s8)) (s1.free (S7.free nr)) Aa ((sts8.pick p.toList λi hi=>?_).mono (Aq s8)) ?_ (by rw[o1.length_eq];lia)
  .have pl:p.toList.Perm (zAO S.length):=by
    have:=zBA.mp pm
    simpa using this
   exact zBH.mp (pl.mem_iff.mp hi)
  .rw[eas]
   exact⟨avs,parts,av,ch,by rw[eS];exact o1,o2⟩
end
def Vr (nm:Str) (s:Ih):Bool:=decide (s.2.2.1=nm)&&decide (s.2.2.2 = -1)
def Fm (nm:Str) (S:List Ih):List Int:=(S.filter (Vr nm)).map λs=>s.2.1-s.1
inductive SL (vs:List V) (H:Hp) (Q:VK) (E:XK):Prop
 |mk (nm a ys S:_) (z0:vs=[.str nm,.ref a]) (z1:H a=oL ys) (z2:WA H ys S) (z3:S.length<=900) (z4:∀ H',De H H'->Q (.int (Fm nm S).sum) H')
section
variable {P:Program} {w:World} {K:zAa} {mg:Str->Option Value} {base:Heap}
def AZ (J:Pm P w K mg base):Jc J 1 "paid_by" ["name","strips"] SL:=Gb J.z J.qe ["name","strips"] df λsc H Q hr h=>by
 obtain⟨g,a,ys,S,rfl,M,F,l9,q⟩:=h;refine⟨_,(Ac (Ai (Lh (Lg rfl) J.z J.i6 (Bj (Cc (NC:=["lo","hi","payer","k","name"]) (own:=["lo","hi","payer","k"]) (cs:=["name"]) (ix:=[0]) rfl (Dt.of rfl) rfl ⟨⟨rfl,.inl rfl,rfl⟩,trivial⟩ (Go K (pv 1)) (λ_ _ _=>(Cu (K:=K) (n:=4) rfl rfl (As (Jq 0) (As (Jq 1) (As (Jq 2) (As (Jq 3) Cs)))))) (λ_ _ _=>(Gi (PW.pt (Pu (Ak Bv (pv 2) (pv 4) (An _)) (Lj (Ak Bv (pv 3) (Sl Mw Ad) (An _))))))) (λ_ _ _=>(Aj Il (pv 1) (pv 0)))))))),?_⟩;have Z:=F.len;refine (vE rfl ⟨a,rfl,⟨_,Dl.of M⟩,λr L=>?_⟩);refine Yx (K:=K) (a:=a) (xs:=ys) (λi zs B=>zs=(Fm g (S.take i)).map V.int/\B r=oL zs/\De H B) ⟨rfl,Aa,Af L _⟩
  (λi zs B _ ⟨e,h1,j⟩=>⟨h1,by rw[e,zAb];unfold Fm;rw[zAb];exact zAz (zAE _ _) (by rw[zAo];lia),Dl.of (j _ _ M)⟩) (by rw[zCE];lia) (λi x zs B hi ⟨e,h1,j⟩=>?_) (λzs B ⟨e,h1,j⟩=>?_)
 .obtain⟨t,p,Y,rfl,U⟩:=F.get hi
  refine⟨t,_,_,_,_,rfl,(Jy.of (j _ _ U)),?_⟩;have es:Fm g (S.take (i+1))=Fm g (S.take i)++if Vr g p=true then [p.2.1-p.1] else []:=by
   unfold Fm;rw[Be Y,zBL,zAp];by_cases c:Vr g p=true
   .rw[if_pos c,zBf c,zBu];rfl
   .rw[if_neg c,zBg c,zBu];rfl
  by_cases c1:p.2.2.1=g
  .refine (vE rfl (vE rfl ⟨rfl,vE rfl (dT (congrArg V.str c1) (vE rfl (vE rfl ⟨rfl,vE rfl ?_⟩)))⟩))
   by_cases c2:p.2.2.2 = -1
   .refine dT (congrArg V.int c2) ?_
    have c:Vr g p=true:=by unfold Vr;rw[decide_eq_true c1,decide_eq_true c2];rfl
    refine (vE rfl (vE rfl (vF rfl rfl ⟨h1,rfl,?_,Aa,λb o z=>?_⟩)))
    .rw[es,if_pos c,zAp,e]
     rfl
    .rw[Ag (Ae z L)]
     exact j b o z
   .refine dF (λy=>c2 (V.int.inj y)) ?_
    have c:¬ Vr g p=true:=by unfold Vr;rw[decide_eq_false c2,zCs];exact zAk
    refine⟨rfl,?_,h1,j⟩;rw[es,if_neg c,zAL,e]
  .refine (vE rfl (vE rfl ⟨rfl,vE rfl (dF (λy=>c1 (V.str.inj y)) ?_)⟩))
   have c:¬ Vr g p=true:=by unfold Vr;rw[decide_eq_false c1,zCr];exact zAk
   refine Cy ⟨rfl,?_,h1,j⟩;rw[es,if_neg c,zAL,e]
 rw[Z,zAB] at e;subst e;exact⟨r,_,rfl,(Dl.of h1),(q B j)⟩
end
def Sz:Cl->Bool
 |.lim _ _=>true
 |_=>false
def En (z:LF) (x:VS) (pd:Int) (kvs:Jz):Nat->Jz
 |0=>kvs
 |i+1=>Eu (En z x pd kvs i) (Xj x.nm (i:Int) (Oa ((x.cs[i]?).getD (.any "")).way z)) (.int (E6 (Os (En z x pd kvs i) x.nm (i:Int) (Oa ((x.cs[i]?).getD (.any "")).way z))+if Sz ((x.cs[i]?).getD (.any ""))=true then pd else z.ct))
def WL.put {kvs:Jz} (h:WL kvs) (k:List Fl) (n:Int):WL (Eu kvs k (.int n)):=λj v e=>by
 rw[Lr] at e;by_cases c:j=k
 .rw[if_pos c] at e
  cases e
  exact⟨n,rfl⟩
 .rw[if_neg c] at e
  exact h j v e
theorem Ut {z:LF} {x:VS} {pd:Int} {kvs:Jz} (h:WL kvs):∀ i,WL (En z x pd kvs i)
 |0=>h
 |i+1=>(Ut h i).put _ _
theorem Of {z:LF} {x:VS} {pd:Int} {kvs:Jz}:∀ i,(En z x pd kvs i).length<=kvs.length+i
 |0=>zAi _
 |i+1=>zAz (Ff _ _ _) (by have:=Of (z:=z) (x:=x) (pd:=pd) (kvs:=kvs) i;lia)
inductive JX (vs:List V) (H:Hp) (Q:VK) (E:XK):Prop
 |mk (x cp kp kvs l z:_) (pd:Int) (z0:vs=[.ref x.p,.ref cp,.ref l,.int pd]) (z1:VT H x) (z2:WB CN H cp kp kvs) (z3:WL kvs) (z4:kvs.length<=800) (z5:H l=oT (LF.vs z)) (z6:∀ H',(∀ b o,H b=some o->b≠kp->H' b=some o)->WB CN H' cp kp (En z x pd kvs x.cs.length)->Q .non H')
section
variable {P:Program} {w:World} {K:zAa} {mg:Str->Option Value} {base:Heap}
def DK (J:Pm P w K mg base) {o:Addr} {c:Cl} (h:WK H o c):∃ C,Hb K H (.ref o) (.ref C)/\zBh K (.ref C) (.ref CM)=some (Sz c):=by
 obtain⟨dx,e⟩:=h;cases c with
 |own y d=>exact⟨_,.ins e J.bx.cl J.j8.ha J.j8.gs J.j8.tk J.j8.hm,J.my⟩
 |lay y a b=>exact⟨_,.ins e J.aq.cl J.gh.ha J.gh.gs J.gh.tk J.gh.hm,J.kf⟩
 |lim y m=>exact⟨_,.ins e J.ay.cl J.gj.ha J.gj.gs J.gj.tk J.gj.hm,J.kg⟩
 |any y=>exact⟨_,.ins e J.bj.cl J.cy.ha J.cy.gs J.cy.tk J.cy.hm,J.jt⟩
def Zn (J:Pm P w K mg base):Jc J 3 "count_for" ["cover","counts","loss","paid"] (JX):=Gb J.z J.qf ["cover","counts","loss","paid","k","clause","counted"] df λsc H Q hr h=>by
 obtain⟨x,Y,kp,kvs,l,z,pd,rfl,cx,ct,iv,l8,hl,q⟩:=h;refine⟨_,(Ac (Bk PassesOwn.never rfl (Hv rfl (J.z.nn J.ao) (Bj (Aw (pv 0) rfl))) (Cu (K:=K) (n:=2) rfl rfl (As (Fj sc 4) (As (Fj sc 5) Cs)))
    (Ab (Ce sc 6 (Je (Bg (Lh Br J.z J.ae (Bb (pv 5) (JJ rfl (J.z.nv J.ay.ns))))) (pv 3) (Da K (pv 2) (Op J.z J.gc))))
   (Ac (Bc (Bo (TY J) (hr.mono (by decide)) (pv 1) (Ah (Aw (pv 0) rfl) (Ah (pv 4) (Bb (Fb (MK J) (hr.mono (by decide)) (pv 5) (Bj (pv 2))) (pv 6)))))))))),?_⟩
 obtain⟨dx,fs,cv,cl,xs,e,a1,a2,a3,a4,a5,a6,S,cc,c8⟩:=id cx;have lx:=cc.len;have hk:=ct.hk;have nk:∀ {b:Addr} {o:HO},H b=some o->(∀ m,o≠.dT m)->b≠kp:=λy n=>Ar y hk (n _);refine (vE rfl ⟨x.p,CV,dx,fs,_,rfl,e,J.aa.cl,J.ah,a3,cl,rfl,⟨_,Dl.of S⟩,?_⟩);refine Tp (K:=K) (a:=cl) (xs:=xs) (λi σ L=>(∃ o4 o5 o6,σ=[oR x.p,oR Y,oR l,oN pd,o4,o5,o6])/\WB CN L Y kp (En z x pd kvs i)/\∀ b o,H b=some o->b≠kp->L b=some o)
  ⟨⟨none,none,none,rfl⟩,ct,λ_ _ y _=>y⟩ (λi σ L _ hh=>Dl.of (hh.2.2 _ _ S (nk S (λ_ y=>by cases y)))) ?_ ?_
 .rintro i v σ L t hi ⟨⟨o4,o5,o6,rfl⟩,j,F⟩ nt N9 ab
  obtain⟨o,c,hc,rfl,ho⟩:=cc.get hi;have il:i<x.cs.length:=(zAl.mp hc).1;have Z:=Af nt (.tup [.int i,.ref o]);have k3:∀ {b:Addr} {ob:HO},H b=some ob->(∀ m,ob≠.dT m)->upd L t (.tup [.int i,.ref o]) b=some ob:=λy n=>Z _ _ (F _ _ y (nk y n));have g:WK (upd L t (.tup [.int i,.ref o])) o c:=by
   obtain⟨od,y⟩:=ho;exact⟨od,k3 y (λ_ y=>by cases y)⟩
  have e3:=k3 e (λ_ y=>by cases y);have M:=k3 hl (λ_ y=>by cases y);have B:=j.same Z;generalize upd L t (.tup [.int i,.ref o])=H3 at Z g e3 M B;obtain⟨ad,ty,kt⟩:=DK J g;obtain⟨od,ac⟩:=id g;obtain⟨⟨dc,fc,aa,b1,b2,b3⟩,_⟩:=id B;obtain⟨n,en⟩:=(Ut (z:=z) (x:=x) (pd:=pd) iv i).have x.nm (i:Int) (Oa c.way z);refine Y1 (.int (if Sz c=true then pd else z.ct)) (λQ' kq=>?_) ?_
  .refine (vE rfl ⟨_,_,_,_,_,rfl,JW,ty,kt,_,rfl,?_⟩)
   cases U:Sz c with
   |true=>
    rw[U] at kq;exact Jt (vE rfl kq)
   |false=>
    rw[U] at kq;exact Cy (vE rfl (vI rfl rfl (Jy.of M) rfl kq))
  refine PN [oR x.p,oR Y,oR l,oN pd,oN i,oR o,oN (if Sz c=true then pd else z.ct)] rfl ?_;refine (vE rfl ⟨Y,dc,fc,rfl,aa,b3,_,rfl,x.p,CV,dx,fs,_,rfl,e3,J.aa.cl,J.am,a1,_,rfl,vE rfl ⟨o,_,od,_,rfl,ac,Vf c,AA c,_,rfl,o,c,l,z.ev,z.th,z.ca,z.n,z.d,z.ct,rfl,g,rfl,M,_,rfl,Y,kp,_,x.nm,(i:Int),Oa c.way z,_,n,by rw[V4];rfl,B,en,?_,λH4 s4=>?_⟩⟩)
  .have:=Of (z:=z) (x:=x) (pd:=pd) (kvs:=kvs) i
   lia
  have ec:En z x pd kvs (i+1)=Eu (En z x pd kvs i) (Xj x.nm (i:Int) (Oa c.way z)) (.int (n+if Sz c=true then pd else z.ct)):=by
   show Eu _ _ _=_;rw[hc];show Eu _ (Xj x.nm (i:Int) (Oa c.way z)) (.int (E6 (Os (En z x pd kvs i) x.nm (i:Int) (Oa c.way z))+_))=_;rw[en];rfl
  refine ab _ _ ⟨⟨_,_,_,rfl⟩,?_,λb ob y nb=>?_⟩
  .rw[ec]
   exact (B.same s4).put _
  .rw[Ag nb]
   exact s4 _ _ (Z _ _ (F b ob y nb))
 .rintro σ L ⟨⟨o4,o5,o6,rfl⟩,j,F⟩
  rw[lx] at j;exact q L F j
end
def M3 (H H':Hp):Prop:=∀ b o,H b=some o->(∀ m,o≠HO.dT m)->H' b=some o
def Wj {H H':Hp} {m:Jz} (g:H kp=some (.dT m)) (k:∀ b o,H b=some o->b≠kp->H' b=some o):M3 H H':=λb o h n=>k b o h (Ar h g (n _))
mutual
theorem VN.kd {H H':Hp} (s:M3 H H'):∀ {v} (t:Ia),VN κ H v t->VN κ H' v t
 |v,.at c,h=>by
  unfold VN at h ⊢;obtain⟨p,dx,e,h⟩:=h;exact⟨p,dx,e,s _ _ h (λ_ y=>by cases y)⟩
 |v,.no t,h=>by
  unfold VN at h ⊢;obtain⟨p,dx,w,e,h,r⟩:=h;exact⟨p,dx,w,e,s _ _ h (λ_ y=>by cases y),VN.kd s t r⟩
 |v,.al j,h=>by
  unfold VN at h ⊢;obtain⟨p,dx,l,vs,e,h,g,r⟩:=h;exact⟨p,dx,l,vs,e,s _ _ h (λ_ y=>by cases y),s _ _ g (λ_ y=>by cases y),CdsAt.kd s j r⟩
 |v,.so j,h=>by
  unfold VN at h ⊢;obtain⟨p,dx,l,vs,e,h,g,r⟩:=h;exact⟨p,dx,l,vs,e,s _ _ h (λ_ y=>by cases y),s _ _ g (λ_ y=>by cases y),CdsAt.kd s j r⟩
theorem CdsAt.kd {H H':Hp} (s:M3 H H'):∀ {vs} (g:List Ia),CdsAt κ H vs g->CdsAt κ H' vs g
 |[],[],_=>by unfold CdsAt;trivial
 |v::vs,t::g,h=>by
  unfold CdsAt at h ⊢;exact⟨VN.kd s t h.1,CdsAt.kd s g h.2⟩
 |[],_::_,h=>by unfold CdsAt at h;exact h.elim
 |_::_,[],h=>by unfold CdsAt at h;exact h.elim
end
def VT.kd {H H':Hp} {x:VS} (h:VT H x) (s:M3 H H'):VT H' x:=by
 obtain⟨dx,fs,L,cl,xs,e,j,B,U,g,z,F,q,S,M⟩:=h;exact⟨dx,fs,L,cl,xs,s _ _ e (λ_ y=>by cases y),j,B,U,g,z,VN.kd s _ F,s _ _ q (λ_ y=>by cases y),S.mono (λt _ _ _ y=>s _ _ y (λ_ y=>by cases y)),M⟩
def Fd (z:LF) (S:List Ih):List VS->Jz->Jz
 |[],k=>k
 |x::xs,k=>Fd z S xs (En z x (Fm x.nm S).sum k x.cs.length)
theorem Oy (z:LF) (S:List Ih) (x:VS):∀ (xs:List VS) (k:Jz),Fd z S (xs++[x]) k=En z x (Fm x.nm S).sum (Fd z S xs k) x.cs.length
 |[],k=>rfl
 |y::xs,k=>by
  rw[zCy];exact Oy z S x xs _
theorem Mo {z:LF} {S:List Ih}:∀ {xs} {k},WL k->WL (Fd z S xs k)
 |[],_,h=>h
 |x::xs,k,h=>Mo (xs:=xs) (Ut h _)
theorem Tv {z:LF} {S:List Ih}:∀ {xs} {k},(∀ x∈xs,x.cs.length<=8)->(Fd z S xs k).length<=k.length+8*xs.length
 |[],k,_=>zAi _
 |x::xs,k,h=>by
  have h1:=Tv (z:=z) (S:=S) (xs:=xs) (k:=En z x (Fm x.nm S).sum k x.cs.length) λy g=>h y (zAd _ g);have q:=Of (z:=z) (x:=x) (pd:=(Fm x.nm S).sum) (kvs:=k) x.cs.length;have j:=h x zAg;show (Fd z S xs _).length<=_;rw[zAf]
  lia
inductive V8 (vs:List V) (H:Hp) (Q:VK) (E:XK):Prop
 |mk (b cp kp kvs l z bs:_) (z0:vs=[.ref b,.ref cp,.ref l]) (z1:Fw H b bs) (z2:(∀ x∈bs,Ob x.t<4)) (z3:bs.length<=8) (z4:(bs.map (·.nm)).Nodup) (z5:WB CN H cp kp kvs) (z6:WL kvs) (z7:kvs.length<=700) (z8:H l=oT (LF.vs z)) (z9:0<z.ct) (z10:∀ r ys S H',(∀ b o,H b=some o->b≠kp->H' b=some o)->H r=none->H' r=oL ys->WA H' ys S->Du kvs z (Cq z bs) S->S.length<64->WB CN H' cp kp (Fd z S (Cq z bs) kvs)->Q (.ref r) H')
section
variable {P:Program} {w:World} {K:zAa} {mg:Str->Option Value} {base:Heap}
def GA (J:Pm P w K mg base):Jc J 8 "settle" ["book","counts","loss"] (V8):=Gb J.z J.qg ["book","counts","loss","strips","cover"] df λsc H Q hr h=>by
 obtain⟨b,cp,kp,kvs,l,z,bs,rfl,ask,hm,l8,nd,ct,iv,l7,hl,c0,q⟩:=h;refine⟨_,(Ab (Ce sc 3 (Cb (B7 J) hr (Ah (pv 0) (Bb (pv 1) (pv 2)))))
   (Ab (Bk PassesOwn.never rfl (Go K (Cb (Tg J) hr (Bb (pv 0) (pv 2)))) (Fj sc 4)
    (Ac (Bc (Cb (Zn J) hr (Ah (pv 4) (Ah (pv 1) (Bb (pv 2) (Cb (AZ J) hr (Bb (Aw (pv 4) rfl) (pv 3))))))))))
   (Ac (Ai (pv 3))))),?_⟩
 refine Hu λN eN=>?_;refine (vE rfl (vE rfl (vE rfl ⟨b,cp,kp,kvs,l,z,bs,rfl,ask,hm,l8,nd,ct,iv,hl,c0,(λr ys S H1 s1 nr hr1 sts so l64=>?_)⟩)));refine Fq eN [oR b,oR cp,oR l,oR r,none] rfl λN eN=>?_;obtain⟨d0,f0,ak0,eb,eb1,eb2,all⟩:=ask;refine (vE rfl (vE rfl ⟨b,l,bs,z,rfl,⟨d0,f0,ak0,s1 _ _ eb,eb1,s1 _ _ eb2,λx hx=>(all x hx).same s1⟩,hm,(by lia),(s1 _ _ hl),(λak H2 s2 nak hak=>?_)⟩));have S2:=s1.trans s2;have sub:∀ x∈Cq z bs,x∈bs:=λx hx=>(zAJ.mp hx).1;have la:(Cq z bs).length<=8:=zAz (zAE _ _) l8;have all2:∀ x∈Cq z bs,VT H2 x:=λx hx=>(all x (sub x hx)).same S2;have ct2:=ct.same S2;have hk2:=ct2.hk;have hl2:=S2 _ _ hl;have hr2:=s2 _ _ hr1;have sts2:=sts.mono (Aq s2);generalize Cq z bs=as at hak la all2 so q;have c8:∀ x∈as,x.cs.length<=8:=λx hx=>by
  obtain⟨_,_,_,_,_,_,_,_,_,_,_,_,_,_,y⟩:=all2 x hx;exact y
 refine⟨ak,rfl,⟨_,Dl.of hak⟩,?_⟩;refine Ea (K:=K) (a:=ak) (xs:=as.map xV) (λi σ H4=>(∃ o,σ=[oR b,oR cp,oR l,oR r,o])/\WB CN H4 cp kp (Fd z S (as.take i) kvs)/\(∀ b o,H2 b=some o->b≠kp->H4 b=some o))
  ⟨⟨none,rfl⟩,ct2,λ_ _ y _=>y⟩ (λi σ H4 _ hh=>Dl.of (hh.2.2 _ _ hak (Ar hak hk2 (by intro y;cases y)))) ?_ ?_
 .rintro i y σ H4 hi ⟨⟨o,rfl⟩,ct4,kp4⟩ N9 nx9
  rw[zAy] at hi;obtain⟨x,hx,rfl⟩:=zAP.mp hi;have mx:=zAC hx;have DF:=Wj hk2 kp4;have cx:=(all2 x mx).kd DF;obtain⟨dx,fs,_,_,_,e,a1,_⟩:=id cx;have hr4:=DF _ _ hr2 (λ_ y=>by cases y);have sts4:=sts2.mono λt ws y=>DF _ _ y (λ_ y=>by cases y);refine (vE rfl (vE rfl (vE rfl (vE rfl ⟨x.p,CV,dx,fs,_,rfl,e,J.aa.cl,J.am,a1,_,rfl,x.nm,r,ys,S,rfl,hr4,sts4,by lia,λH5 s5=>⟨x,cp,kp,_,l,z,_,rfl,(cx.same s5),(ct4.same s5),(Mo iv),?_,(s5 _ _ (DF _ _ hl2 (λ_ y=>by cases y))),(λH6 k6 ct6=>?_)⟩⟩))))
  .have:=Tv (z:=z) (S:=S) (xs:=as.take i) (k:=kvs) λx hx=>c8 x (zBQ hx)
   have:(as.take i).length<=8:=by rw[zAo];lia
   lia
  .refine nx9 _ _ ⟨⟨_,rfl⟩,?_,λb o y n=>k6 _ _ (s5 _ _ (kp4 b o y n)) n⟩
   rw[Be hx,Oy];exact ct6
 .rintro σ H4 ⟨⟨o,rfl⟩,ct4,kp4⟩
  rw[zAb,zAB] at ct4;have DF:=Wj hk2 kp4;subst eN;exact (vE rfl (q r ys S H4 (λb o y n=>kp4 _ _ (S2 _ _ y) n) nr (DF _ _ hr2 (λ_ y=>by cases y)) (sts2.mono λt ws y=>DF _ _ y (λ_ y=>by cases y)) so l64 ct4))
end
end CRL
namespace CRL
open PySem L2
def Ij {i:Nat} {v:Int} {nx:St->Hp->Prop} (lo hi:Int) (g:lo<=v/\v<=hi) (h:∀ x:Int,lo<=x->x<=hi->Cg i (.int x) σ H nx):Cg i (.int v) σ H nx:=h v g.1 g.2
def md {a b:Int} (h:0<b):0<=a%b/\a%b<=b-1:=⟨Int.emod_nonneg _ (by lia),by have:=Int.emod_lt_of_pos a h;lia⟩
def BF:List Nat:=[115,101,108,102]
def DW:Str.ofString "self"=tx BF:=by ac_nf
def HK {l m:List Nat} (h:tx l=tx m):l=m:=by
 have:=congrArg (λz=>z.cps.toList) h
 simpa [tx] using this
structure GS (ns:List Str):Prop where
 hi:ns.length<=8
 nd:ns.Nodup
 ok:∀ z∈ns,Gj (.str z)=true/\z.length<=8/\z ≠ "self"
def JS (g:Nat->List Nat) {k:Nat} (B:k<=8) (nm:∀ i,i<k->Gh (g i)) (ns:∀ i,i<k->g i≠BF) (inj:∀ i j,i<k->j<k->g i=g j->i=j):GS ((zAO k).map λi=>tx (g i)):=by
 refine⟨by rw[zAb,zBe];exact B,?_,λz F=>?_⟩
 .rw[zAS,zBG]
  refine List.Pairwise.imp_of_mem (R:=λa b=>a≠b) (λ{i j} hi L n e=>n ?_) (zAS.mp List.nodup_range);exact inj i j (zBH.mp hi) (zBH.mp L) (HK e)
 .obtain⟨i,hi,rfl⟩:=zAD.mp F
  have q:=zBH.mp hi;have n:=nm i q;refine⟨decide_eq_true n,by rw[Ee];exact n.1.2,λh=>?_⟩;have h':tx (g i)=Str.ofString "self":=h;rw[DW] at h';exact ns i q (HK h')
def e9:(10:Int)^(9:Int).toNat=1000000000:=by ac_nf
inductive QC (vs:List V) (H:Hp) (Q:VK) (E:XK):Prop
 |mk (n k:Int) (z0:vs=[.int n,.int k]) (z1:0<=k) (z2:k<=1000) (z3:∀ (i:Int) H',De H H'->0<=i->i<=100002->Q (.int i) H')
section
variable {P:Program} {w:World} {K:zAa} {mg:Str->Option Value} {base:Heap}
def By (J:Pm P w K mg base):Jc J 1 "_law_mix" ["_law_cell_here","_law_k"] QC:=Gb J.z J.qx ["_law_cell_here","_law_k","_law_primes","_law_number"] df λsc H Q hr h=>by
 obtain⟨n,k,rfl,h0,h1,q⟩:=h;refine⟨_,(Ab (Ce sc 2 (Bf (Ah Ad (Ah Ad (Ah Ad (Ah Ad (Ah Ad (Ah Ad (Bb Ad Ad)))))))))
   (Ab (Ce sc 3 (Aj Ax (Aj El (Aj Bd (Aj Ax (pv 0) (Aj A6 Ad Ad)) Ad) Ad) (Jo K (pv 2) (Aj Ax (pv 1) Ad))))
   (Ac (Ai (Aj Ax (Aj Bm (Aj El (pv 3) (Aj Bd (Aj Bd (pv 3) (Aj El Ad (pv 1))) Ad)) Ad) Ad))))),?_⟩
 refine⟨by show 8<=sizeLine;rw[zCE];decide,λp hp=>?_⟩;have s1:=Af hp (.lst [.int 999983,.int 999979,.int 999961,.int 999959,.int 999953,.int 999931,.int 999917,.int 999907]);have e1:upd H p (.lst [.int 999983,.int 999979,.int 999961,.int 999959,.int 999953,.int 999931,.int 999917,.int 999907]) p=oL [.int 999983,.int 999979,.int 999961,.int 999959,.int 999953,.int 999931,.int 999917,.int 999907]:=Aa;generalize upd H p (.lst [.int 999983,.int 999979,.int 999961,.int 999959,.int 999953,.int 999931,.int 999917,.int 999907])=H1 at s1 e1;refine Ga [oN n,oN k,oR p,none] rfl ?_;have b9:=md (a:=n) (b:=(10:Int)^(9:Int).toNat) (by rw[e9];decide);rw[e9] at b9;have b8:=md (a:=k) (b:=8) (by decide);obtain⟨m,hm0,hm1,hm⟩:∃ m:Int,0<m/\m<=999983/\Oq [V.int 999983,.int 999979,.int 999961,.int 999959,.int 999953,.int 999931,.int 999917,.int 999907] (k%8)=some (.int m):=by
  generalize k%8=i at b8;have z:i=0\/i=1\/i=2\/i=3\/i=4\/i=5\/i=6\/i=7:=by lia
  rcases z with rfl|rfl|rfl|rfl|rfl|rfl|rfl|rfl
  .exact⟨_,by decide,by decide,rfl⟩
  .exact⟨_,by decide,by decide,rfl⟩
  .exact⟨_,by decide,by decide,rfl⟩
  .exact⟨_,by decide,by decide,rfl⟩
  .exact⟨_,by decide,by decide,rfl⟩
  .exact⟨_,by decide,by decide,rfl⟩
  .exact⟨_,by decide,by decide,rfl⟩
  .exact⟨_,by decide,by decide,rfl⟩
 refine⟨_,rfl,_,_,rfl,rfl,⟨by decide,by decide,by decide⟩,_,_,rfl,rfl,(by show (0:Int)<(10:Int)^(9:Int).toNat;rw[e9];decide),_,_,rfl,rfl,_,_,rfl,rfl,.inr ⟨by decide,by decide⟩,_,rfl,_,rfl,_,_,rfl,rfl,(by show (0:Int)<8;decide),p,_,_,_,rfl,rfl,Dl.of e1,hm,_,_,rfl,rfl,hm0,?_⟩;refine Ij 0 999982 ⟨(md hm0).1,by have:=(md (a:=(n%(10:Int)^(9:Int).toNat+11)*48271) hm0).2;lia⟩ λx x0 x1=>?_;refine Ga [oN n,oN k,oR p,oN x] rfl ?_;refine⟨_,rfl,_,rfl,_,rfl,_,_,rfl,rfl,.inl ⟨by decide,by decide⟩,_,_,rfl,rfl,_,_,rfl,rfl,_,_,rfl,rfl,.inl ⟨by lia,by lia⟩,_,_,rfl,rfl,⟨by decide,by decide⟩,_,_,rfl,rfl,(by show (0:Int)<100003;decide),?_⟩;have b:=md (a:=x*(x+2*k+1)/7) (b:=100003) (by decide);exact q _ _ s1 b.1 b.2
end
abbrev Dg:Pos:=⟨35,31,35,54⟩
def fW (g j:Addr):([("waiting",.ref g),("numbers",.ref j)]:List (Str×V)).lookup ("waiting" : Str)=some (.ref g):=rfl
def fN (j g:Addr):([("waiting",.ref j),("numbers",.ref g)]:List (Str×V)).lookup ("numbers" : Str)=some (.ref g):=rfl
def PD (g j:Addr):([("waiting",.ref g),("numbers",.ref j)]:List (Str×V)).lookup ("put" : Str)=none:=rfl
def MT (g j:Addr):([("waiting",.ref g),("numbers",.ref j)]:List (Str×V)).lookup ("has_number" : Str)=none:=rfl
def RQ (g j:Addr):([("waiting",.ref g),("numbers",.ref j)]:List (Str×V)).lookup ("up_to" : Str)=none:=rfl
def pW (q g j:Addr):Ap ("waiting" : Str) (.ref g) ([("waiting",.ref q),("numbers",.ref j)]:List (Str×V))=([("waiting",.ref g),("numbers",.ref j)]:List (Str×V)):=rfl
inductive PL (C:Addr) (vs:List V) (H:Hp) (Q:VK) (E:XK):Prop
 |mk (x dx:_) (z0:vs=[.ref x]) (z1:H x=oI C dx []) (z2:∀ wl nl H',(∀ b o,H b=some o->b≠x->H' b=some o)->H wl=none->H nl=none->H' x=oI C dx [("waiting",.ref wl),("numbers",.ref nl)]->H' wl=oL []->H' nl=some (.dK [])->Q .non H')
inductive NF (C:Addr) (vs:List V) (H:Hp) (Q:VK) (E:XK):Prop
 |mk (x wl nl kvs:_) (n:Int) (z0:vs=[.ref x,.int n]) (z1:Dy C H x wl nl) (z2:H nl=some (.dK kvs)) (z3:Q (.bl (Dr kvs (.inl n)).isSome) H)
def Sa (H:Hp) (t wl nl:Addr) (xs:List V) (kvs:List (Fl×V)) (d r n:Int) (v:V):Hp:=upd (upd (upd H t (.tup [.int d,.int r,.int n,v])) wl (.lst (xs++[.ref t]))) nl (.dK (Eu kvs (.inl n) (.bl true)))
inductive NS (C:Addr) (vs:List V) (H:Hp) (Q:VK) (E:XK):Prop
 |mk (x wl nl xs kvs:_) (d r n:Int) (v:_) (z0:vs=[.ref x,.int d,.int r,.int n,v]) (z1:Dy C H x wl nl) (z2:H wl=oL xs) (z3:xs.length<1000) (z4:H nl=some (.dK kvs)) (z5:kvs.length<1000) (z6:∀ t,H t=none->Q .non (Sa H t wl nl xs kvs d r n v))
abbrev Wl:=Addr×LF
def W1 (e:Wl):List V:=[.int e.2.d,.int 0,.int e.2.n,.ref e.1]
def Q0 (e:Wl):List Int:=[e.2.d,0,e.2.n]
def w0:Wl:=(0,⟨0,0,"","","",0⟩)
theorem CZ {K:zAa}:∀ {xs} {es},TsAt W1 H xs es->WV K H xs (es.map Q0)
 |[],[],_=>trivial
 |[],_::_,h=>h.elim
 |_::_,[],h=>h.elim
 |x::xs,e::es,⟨⟨t,ex,h⟩,r⟩=>⟨⟨t,e.2.d,0,e.2.n,.ref e.1,ex,Jy.of h,rfl⟩,CZ r⟩
inductive ME (C T:Addr) (vs:List V) (H:Hp) (Q:VK) (E:XK):Prop
 |mk (x wl nl xs:_) (es:List Wl) (day:Int) (z0:vs=[.ref x,.int day]) (z1:Dy C H x wl nl) (z2:H wl=oL xs) (z3:TsAt W1 H xs es) (z4:es.length<64) (z5:LamAt T Dg Fh H) (z6:∀ wl' r ys zs es' H',(∀ b o,H b=some o->b≠T->b≠x->H' b=some o)->Dy C H' x wl' nl->H wl'=none->H r=none->wl'≠r->H' wl'=oL ys->TsAt W1 H' ys (es.filter λe=>decide (day<e.2.d))->H' r=oL zs->TsAt W1 H' zs es'->es'.Perm (es.filter λe=>decide (e.2.d<=day))->es'.Pairwise (LQ Q0)->LamAt T Dg Fh H'->Q (.ref r) H')
section
variable {P:Program} {w:World} {K:zAa} {mg:Str->Option Value} {base:Heap} (J:Pm P w K mg base)
def QM:Jk J 1 "Days" CD ["self"] (PL CD):=C9 J.z J.au J.jp ["self"] df λsc H Q hr h=>by
 obtain⟨x,dx,rfl,Z,q⟩:=h;refine⟨_,(Ab (Bh (pv 0) (Bf Cn) rfl)
   (Ac (Bh (pv 0) Xk rfl))),?_⟩
 refine⟨zAu _,λj B=>?_⟩;have S:=Af B (.lst []);have e1:upd H j (.lst []) j=oL []:=Aa;generalize upd H j (.lst [])=H1 at S e1;have L:j≠x:=(Ae Z B).symm;refine⟨_,rfl,x,CD,dx,_,rfl,S _ _ Z,J.au.cl,J.ar,by decide,?_⟩;have e2:upd H1 x (.ins CD dx (Ap "waiting" (.ref j) [])) x=oI CD dx [("waiting",.ref j)]:=Aa;have Y:∀ b o,H1 b=some o->b≠x->upd H1 x (.ins CD dx (Ap "waiting" (.ref j) [])) b=some o:=λb o z n=>by rw[Ag n];exact z
 generalize upd H1 x (.ins CD dx (Ap "waiting" (.ref j) []))=H2 at e2 Y;intro F g;have U:=Af g (.dK []);have e3:upd H2 F (.dK []) F=some (.dK []):=Aa;generalize upd H2 F (.dK [])=H3 at U e3;have M:F≠x:=(Ae e2 g).symm;refine⟨_,rfl,x,CD,dx,_,rfl,U _ _ e2,J.au.cl,J.bz,by show 1<1000;decide,?_⟩;refine q j F _ (λb o z n=>?_) B ?_ ?_ ?_ ?_
 .rw[Ag n]
  exact U _ _ (Y _ _ (S _ _ z) n)
 .cases z:H F with
  |none=>rfl
  |some o=>rw[Y _ _ (S _ _ z) M] at g;cases g
 .rw[Aa];rfl
 .rw[Ag L]
  exact U _ _ (Y _ _ e1 L)
 .rw[Ag M]
  exact e3
def Xo:Jm J 1 CD "has_number" ["self","number"] (NF CD):=GR J.z J.jh J.au.cl ["self","number"] df λsc H Q hr h=>by
 have g:=Ql hr;obtain⟨x,B,j,L,n,rfl,⟨dx,F⟩,z,q⟩:=h;refine⟨_,(Ac (Ai (LG (LM g (pv 1) (Aw (pv 0) rfl))))),?_⟩;exact⟨_,rfl,_,rfl,x,CD,dx,_,_,rfl,F,J.au.cl,J.bz,fN B j,j,_,rfl,WH.k (k:=.inl n) z,q⟩
def TV:Jm J 1 CD "put" ["self","day","rank","number","row"] (NS CD):=GR J.z J.oh J.au.cl ["self","day","rank","number","row"] df λsc H Q hr h=>by
 have M:=Ql hr;obtain⟨x,g,j,xs,Y,d,r,n,v,rfl,⟨dx,U⟩,F,lx,hn,lk,q⟩:=h;refine⟨_,(Ab (Bc (Db (K:=K) rfl PySem.F.plainAttrs_list PySem.F.slot_list_append PySem.F.type_list_append Cm (Aw (pv 0) rfl) (Bj (Ba (Ah (pv 1) (Ah (pv 2) (Bb (pv 3) (pv 4))))))))
   (Ac (Vs M (Aw (pv 0) rfl) (pv 3) Dd rfl))),?_⟩
 have B:4<=sizeLine:=by rw[zCE];decide
 refine⟨_,rfl,x,CD,dx,_,_,rfl,U,J.au.cl,J.ar,fW g j,.inl ⟨rfl,_,Dl.of F⟩,_,rfl,_,rfl,_,rfl,_,rfl,B,λt ht=>?_⟩;have L:=Af ht (.tup [.int d,.int r,.int n,v]);refine⟨g,xs,_,rfl,rfl,L _ _ F,by rw[zCE];lia,?_⟩;have S:upd (upd H t (.tup [.int d,.int r,.int n,v])) g (.lst (xs++[.ref t])) x=oI CD dx [("waiting",.ref g),("numbers",.ref j)]:=by
  rw[Ag (Ar U F (by intro z;cases z))];exact L _ _ U
 have Z:upd (upd H t (.tup [.int d,.int r,.int n,v])) g (.lst (xs++[.ref t])) j=some (.dK Y):=LC (L _ _ hn) (L _ _ F) _;exact⟨_,rfl,x,CD,dx,_,_,rfl,S,J.au.cl,J.bz,fN g j,_,rfl,j,_,rfl,WX.k (k:=.inl n) Z (by rw[zCE];lia),q t ht⟩
def Rk:Bz ["self","day","due"] ["self","day"] (Ao Hk):=⟨rfl,rfl,rfl,by ac_nf,rfl,by ac_nf,by ac_nf⟩
seal L2.PS L2.PSs L2.PE L2.PA
def Ri (J:Pm P w K mg base) {f c:Addr} (F:WC K "up_to" "Days.up_to" Hk f fd) (hc:fd.code=.ref c) (CH:PySem.W.CodeHd base c TT) (ab:BI mg base):Lp P w K mg base Ec 5 f fd ["self","day"] (ME CD TT):=by
 have sc:=Rk;refine F.okC hc sc (λvs H Q E h=>?_) (λA outer s H vs Q E hr h=>?_)
 .obtain⟨_,_,_,_,_,_,rfl,_⟩:=h
  rfl
 obtain⟨x,wl,Y,xs,es,B,rfl,⟨dx,hx⟩,hw,en,le,ad,q⟩:=h;refine⟨_,(Ab (Ef (NC:=["entry","day"]) (own:=["entry"]) (cs:=["day"]) (ix:=[1]) (j:=2) sc.nd rfl rfl rfl (Dt.of rfl) rfl ⟨⟨rfl,.inl rfl,rfl⟩,trivial⟩ (Go K (Aw (pv 0) rfl)) (λ_ _ _=>(Jq 0)) (λ_ _ _=>(Gi (Ak Gk (Da K (pv 0) Ad) (pv 1) (An _)))) (λ_ _ _=>(pv 0)))
   (Ab (Bh (pv 0) (Cc (NC:=["entry","day"]) (own:=["entry"]) (cs:=["day"]) (ix:=[1]) rfl (Dt.of rfl) rfl ⟨⟨rfl,.inl rfl,rfl⟩,trivial⟩ (Go K (Aw (pv 0) rfl)) (λ_ _ _=>(Jq 0)) (λ_ _ _=>(Gi (Ak Ng (Da K (pv 0) Ad) (pv 1) (An _)))) (λ_ _ _=>(pv 0))) rfl)
   (Ac (Ai (P9 (pv 2) (MX ⟨rfl,rfl,rfl,by decide,rfl,by ac_nf,by ac_nf⟩ (λ_ _ _ _=>rfl)) (hr.mono (by decide)) rfl CH ab rfl rfl rfl rfl (J.z.nn J.ce)))))),?_⟩
 refine⟨_,rfl,x,CD,dx,_,_,rfl,hx,J.au.cl,J.ar,fW wl Y,wl,rfl,⟨_,Dl.of hw⟩,λp hp=>?_⟩;refine K2 (K:=K) (fv:=W1) (λe=>decide (e.2.d<=B)) hw hp en (by lia) (λt e U Q _ _ ht q=>?_) (λx U Q q=>⟨_,rfl,q⟩) (λzs ez=>?_)
 .exact⟨_,rfl,t,_,_,_,rfl,rfl,Jy.of ht,rfl,_,rfl,_,_,rfl,rfl,_,rfl,q⟩
 have Z:=Af hp (.lst zs);have e1:upd H p (.lst zs) p=oL zs:=Aa;refine Ga [oR x,oN B,oR p] rfl ?_;generalize upd H p (.lst zs)=H1 at Z e1;refine⟨_,rfl,x,CD,dx,_,_,rfl,Z _ _ hx,J.au.cl,J.ar,fW wl Y,wl,rfl,⟨_,Dl.of (Z _ _ hw)⟩,λp2 S=>?_⟩;refine K2 (K:=K) (fv:=W1) (λe=>decide (B<e.2.d)) (Z _ _ hw) S (en.mono (Aq Z)) (by lia) (λt e U Q _ _ ht q=>?_) (λx U Q q=>⟨_,rfl,q⟩) (λys ey=>?_)
 .exact⟨_,rfl,t,_,_,_,rfl,rfl,Jy.of ht,rfl,_,rfl,_,_,rfl,rfl,_,rfl,q⟩
 have s2:=Af S (.lst ys);have e2:upd H1 p2 (.lst ys) p2=oL ys:=Aa;generalize upd H1 p2 (.lst ys)=U at s2 e2;have g:=Z.trans s2;have ac:p≠x:=(Ae hx hp).symm;have M:p2≠x:=(Ae (Z _ _ hx) S).symm;have ag:p≠p2:=Ae e1 S;refine⟨_,rfl,x,CD,dx,_,rfl,g _ _ hx,J.au.cl,J.ar,by show 2<1000;decide,?_⟩;rw[pW];have e3:upd U x (.ins CD dx [("waiting",.ref p2),("numbers",.ref Y)]) x=oI CD dx [("waiting",.ref p2),("numbers",.ref Y)]:=Aa;have k3:∀ b o,U b=some o->b≠x->upd U x (.ins CD dx [("waiting",.ref p2),("numbers",.ref Y)]) b=some o:=λb o z n=>by rw[Ag n];exact z
 have L:LamAt TT Dg Fh (upd U x (.ins CD dx [("waiting",.ref p2),("numbers",.ref Y)])):=(ad.same g).ins (g _ _ hx) _;have t3:W6 U (upd U x (.ins CD dx [("waiting",.ref p2),("numbers",.ref Y)])):=λt zs z=>by
  rw[Ag (Ar z (g _ _ hx) (by intro y;cases y))];exact z
 generalize upd U x (.ins CD dx [("waiting",.ref p2),("numbers",.ref Y)])=H3 at e3 k3 L t3;have aa:TsAt W1 H3 zs (es.filter λe=>decide (e.2.d<=B)):=(ez.mono (Aq g)).mono t3;have af:TsAt W1 H3 ys (es.filter λe=>decide (B<e.2.d)):=(ey.mono (Aq s2)).mono t3;have lz:=aa.len;have lf:(es.filter λe=>decide (e.2.d<=B)).length<=es.length:=zAE _ _;refine⟨_,rfl,p,zs,_,rfl,Dl.of (k3 _ _ (s2 _ _ e1) ac),CZ aa,by lia,L,λpm a H4 na S4 L4 hp hu ha=>?_⟩;have hT:∃ ps,H3 TT=some (.tbl ps):=by
  rcases L with z|⟨_,z,_⟩
  .exact⟨_,z⟩
  .exact⟨_,z⟩
 obtain⟨ah,hT⟩:=hT;have nT:∀ b o,H3 b=some o->(∀ ps,o≠.tbl ps)->b≠TT:=λb o z n y=>by rw[y,hT] at z;cases z;exact n _ rfl
 have t4:W6 H3 H4:=λt us z=>S4 _ _ z (nT _ _ z λ_ y=>by cases y);rw[lz] at hp hu;obtain⟨ae,pw⟩:=VZ w0 Q0 hp hu;refine q p2 a ys _ _ H4 (λb o z n1 n2=>S4 _ _ (k3 _ _ (g _ _ z) n2) n1) ⟨dx,S4 _ _ e3 (nT _ _ e3 λ_ y=>by cases y)⟩ (Z.free S) ?_ ?_ (S4 _ _ (k3 _ _ e2 M) (nT _ _ (k3 _ _ e2 M) λ_ y=>by cases y)) (af.mono t4) ha ?_ ae pw L4
 .cases z:H a with
  |none=>rfl
  |some o=>
   by_cases nx:a=x
   .rw[nx,e3] at na;cases na
   .rw[k3 _ _ (g _ _ z) nx] at na;cases na
 .intro z
  rw[<- z,k3 _ _ e2 M] at na;cases na
 .exact (TsAt.pick w0 aa _ λi hi=>by have:=HA hp i hi;lia).mono t4
def JB:Jm J 5 CD "up_to" ["self","day"] (ME CD TT):=UT J.kb J.si J.au.cl (λf fd c F e h=>Ri J F e h J.bi) bd
end
def Fk (l:List Nat):Prop:=(Ci 46 l).length<=4/\∀ p∈Ci 46 l,Gh p
instance (l:List Nat):Decidable (Fk l):=by unfold Fk;exact inferInstance
def Za:V->Bool
 |.str z=>decide (Fk z.cps.toList)
 |_=>false
set_option tactic.hygienic true in
def FB {c:Nat}:∀ {l p:List Nat},p∈Ci c l->p.length<=l.length:=by
 intro l
 induction l with
 |nil=>
  intro p g;have e:p=[]:=by simpa [Ci] using g
  rw[e];exact zAi _
 |cons a r ih=>
  intro p g;unfold Ci at g
  split at g
  .rcases zAn.mp g with e|g
   .rw[e];exact zAu _
   .exact Nat.le_succ_of_le (ih g)
  .split at g
   .have e:p=[a]:=by simpa using g
    rw[e,zAf,zAf];exact zBU (zAu _)
   .rename_i q t z
    rcases zAn.mp g with e|g
    .rw[e,zAf,zAf]
     exact zBU (ih (by rw[z];exact zAg))
    .exact Nat.le_succ_of_le (ih (by rw[z];exact zAd _ g))
inductive EW (K:zAa) (vs:List V) (H:Hp) (Q:VK) (E:XK):Prop
 |mk (x T:_) (z0:vs=[x]) (z1:Hb K H x (.type T)) (z2:SA x) (z3:∀ H',De H H'->Q (.bl (Za x)) H')
def HD (n d:Int) (ev th ca:List Nat) (c:Int):Prop:=N7 1000000000 (.int n)=true/\N7 1000000 (.int d)=true/\(Fk ev/\ev.length<=900)/\Gh th/\Gh ca/\N7 999999999999 (.int c)=true/\1<=c
inductive AB (vs:List V) (H:Hp) (Q:VK) (E:XK):Prop
 |mk (n d:Int) (ev th ca:List Nat) (c:Int) (z0:vs=[.int n,.int d,.str (tx ev),.str (tx th),.str (tx ca),.int c]) (z1:HD n d ev th ca c) (z2:∀ p H',De H H'->H p=none->H' p=oT [.int n,.int d,.str (tx ev),.str (tx th),.str (tx ca),.int c]->Q (.ref p) H')
def JD {l:List Nat} (_:Fk l) (h:l.length<=900):l.length<=900:=h
section
seal L2.PS L2.PSs L2.PE
variable {P:Program} {w:World} {K:zAa} {mg:Str->Option Value} {base:Heap} (J:Pm P w K mg base)
def O3:Jc J 3 "is_event" ["thing"] (EW K):=Gb J.z J.d3 ["thing","names","name"] df λsc H Q hr h=>by
 obtain⟨x,ty,rfl,F,ok,q⟩:=h;refine⟨_,(Ab (Au (Bp (Bg (Lh Br J.z J.ae (Bb (pv 0) (Ip "str" rfl (J.z.nn J.gy) rfl)))))
    (Ac (Ai Dd))
    Al)
   (Ab (Ce sc 1 (Db (K:=K) rfl PySem.F.plainAttrs_str PySem.F.slot_str_split PySem.F.type_str_split BN (pv 0) (Bj Az)))
   (Ab (Au (Ak Ng (Cw (Cr (K:=K) rfl) rfl (J.z.nn J.az) (show zCF _=some (.builtin "len") from rfl) (Bj (pv 1))) (Op J.z J.ip) (An _))
    (Ac (Ai Dd))
    Al)
   (Ab (Bk PassesOwn.never rfl (Go K (pv 1)) (Fj sc 2)
    (Ac (Au (Bp (Bg (Cb (Jg J) hr (Bj (pv 2)))))
    (Ac (Ai Dd))
    Al)))
   (Ac (Ai Dd)))))),?_⟩
 refine⟨_,rfl,_,_,_,_,_,rfl,Iu,F,F3 F,_,rfl,?_⟩;cases x with
 |str z=>
  have hz:=ok z rfl;obtain⟨l,rfl⟩:∃ l,z=tx l:=⟨_,(Jw z).symm⟩;have hl:l.length<=900:=by rw[<- Ee];exact hz
  have eq:Za (.str (tx l))=decide (Fk l):=rfl;rw[eq] at q;refine Cy ⟨_,rfl,rfl,_,_,rfl,rfl,rfl,by rw[zCE];omega,λp hp=>?_⟩;have ed:(Str.ofString ".")=tx [46]:=by ac_nf
  have es:Txt.split (tx l) (Str.ofString ".")=(Ci 46 l).map tx:=by rw[ed,U6]
  rw[es];have L:=Af hp (.lst (List.map V.str ((Ci 46 l).map tx)));have h1:upd H p (.lst (List.map V.str ((Ci 46 l).map tx))) p=oL (List.map V.str ((Ci 46 l).map tx)):=Aa;generalize upd H p (.lst (List.map V.str ((Ci 46 l).map tx)))=H1 at L h1;have U:(List.map V.str ((Ci 46 l).map tx)).length=(Ci 46 l).length:=by rw[zAb,zAb]
  refine⟨_,rfl,p,_,rfl,.inl (Dl.of h1),_,_,rfl,rfl,_,rfl,?_⟩;by_cases c4:(4:Int)<(List.map V.str ((Ci 46 l).map tx)).length
  .refine dT c4 ?_
   rw[decide_eq_false (λy:Fk l=>by have:=y.1;rw[U] at c4;omega)] at q;exact q _ L
  refine dF c4 ⟨_,rfl,p,rfl,⟨_,Dl.of h1⟩,Cp (K:=K) (a:=p) (xs:=List.map V.str ((Ci 46 l).map tx)) (λi σ S=>((∃ o,σ=[oS (tx l),oR p,o])/\S=H1)/\∀ j y,j<i->(Ci 46 l)[j]?=some y->Gh y) ⟨⟨⟨none,rfl⟩,rfl⟩,λ_ _ z=>absurd z (zBE _)⟩ (λi σ S _ ⟨⟨_,e⟩,_⟩=>by rw[e];exact Dl.of h1) ?_ ?_⟩
  .rintro i y σ S hi ⟨⟨⟨o,rfl⟩,rfl⟩,g⟩
   rw[zAy,zAy] at hi;cases B:(Ci 46 l)[i]? with
   |none=>rw[B] at hi;cases hi
   |some c=>
    rw[B] at hi;cases hi;have lc:c.length<=900:=zAz (FB (zAC B)) hl;refine⟨_,rfl,_,_,rfl,.str _,(λz e=>by cases e;rw[Ee];exact lc),_,rfl,?_⟩;show if (!decide (Gh c))=true then _ else _;by_cases M:Gh c
    .refine nF M ⟨⟨⟨_,rfl⟩,rfl⟩,λj d Z Y=>?_⟩
     by_cases e:j=i
     .subst e
      rw[B] at Y;cases Y;exact M
     .exact g j d (by omega) Y
    .refine nT M ?_
     rw[decide_eq_false (λy:Fk l=>M (y.2 _ (zAC B)))] at q;exact q _ L
  .rintro σ S ⟨⟨⟨o,rfl⟩,rfl⟩,g⟩
   rw[decide_eq_true (show Fk l from ⟨by rw[U] at c4;omega,λy hy=>by obtain⟨j,Z,e⟩:=zAW hy;exact g j y (by rw[U];exact Z) (by rw[zAe Z,e])⟩)] at q;exact q _ L
 |_=>exact Jt (q _ (De.refl _))
def Qn:Jc J 2 "is_number" ["thing"] (Z2 K 1000000000):=Gb J.z J.d4 ["thing"] df λsc H Q hr h=>by
 obtain⟨x,ty,rfl,g,q⟩:=h;refine⟨_,(Ac (Ai (Mb (Cb (Js J) hr (Bj (pv 0))) (Kc (Iq Gk Gk Ad (pv 0) (Op J.z J.gq)))))),?_⟩;refine⟨_,rfl,_,_,rfl,g,_,rfl,?_⟩;cases x with
 |int i=>
  refine Jt ⟨_,rfl,_,_,rfl,rfl,_,rfl,?_⟩;by_cases c1:(0:Int)<=i
  .refine dT c1 ⟨_,_,rfl,rfl,?_⟩
   show Q (.bl (decide (i<=1000000000))) H;have e:decide (0<=i/\i<=1000000000)=decide (i<=1000000000):=by
    by_cases c2:i<=1000000000
    .rw[decide_eq_true c2,decide_eq_true ⟨c1,c2⟩]
    .rw[decide_eq_false c2,decide_eq_false (λy=>c2 y.2)]
   rw[<- e];exact q
  .refine dF c1 ?_
   rw[show N7 1000000000 (.int i)=false from decide_eq_false (λy=>c1 y.1)] at q;exact q
 |_=>exact Cy q
def E5:Jc J 2 "is_day" ["thing"] (Z2 K 1000000):=Gb J.z J.d5 ["thing"] df λsc H Q hr h=>by
 obtain⟨x,ty,rfl,g,q⟩:=h;refine⟨_,(Ac (Ai (Mb (Cb (Js J) hr (Bj (pv 0))) (Kc (Iq Gk Gk Ad (pv 0) (Op J.z J.j6)))))),?_⟩;refine⟨_,rfl,_,_,rfl,g,_,rfl,?_⟩;cases x with
 |int i=>
  refine Jt ⟨_,rfl,_,_,rfl,rfl,_,rfl,?_⟩;by_cases c1:(0:Int)<=i
  .refine dT c1 ⟨_,_,rfl,rfl,?_⟩
   show Q (.bl (decide (i<=1000000))) H;have e:decide (0<=i/\i<=1000000)=decide (i<=1000000):=by
    by_cases c2:i<=1000000
    .rw[decide_eq_true c2,decide_eq_true ⟨c1,c2⟩]
    .rw[decide_eq_false c2,decide_eq_false (λy=>c2 y.2)]
   rw[<- e];exact q
  .refine dF c1 ?_
   rw[show N7 1000000 (.int i)=false from decide_eq_false (λy=>c1 y.1)] at q;exact q
 |_=>exact Cy q
def Y3:Jc J 4 "loss_of" ["number","day","event","thing","cause","cents"] AB:=Gb J.z J.d8 ["number","day","event","thing","cause","cents"] df λsc H Q hr h=>by
 obtain⟨n,d,U,th,B,c,rfl,g,q⟩:=h;obtain⟨g0,Y,j,M,F,S,g6⟩:=g;refine⟨_,(Ab (Au (Bp (Bg (Cb (Qn J) hr (Bj (pv 0)))))
    (Ac Bs)
    Al)
   (Ab (Au (Bp (Bg (Cb (E5 J) hr (Bj (pv 1)))))
    (Ac Bs)
    Al)
   (Ab (Au (Bp (Bg (Cb (O3 J) hr (Bj (pv 2)))))
    (Ac Bs)
    Al)
   (Ab (Au (PW.pt (Eb (Bp (Bg (Cb (Jg J) hr (Bj (pv 3))))) (Dx (Bp (Bg (Cb (Jg J) hr (Bj (pv 4))))))))
    (Ac Bs)
    Al)
   (Ab (Au (PW.pt (Eb (Bp (Bg (Cb (Pq J) hr (Bj (pv 5))))) (Dx (Ak Gx (pv 5) Ad (An _)))))
    (Ac Bs)
    Al)
   (Ac (Ai (Ba (Ah (pv 0) (Ah (pv 1) (Ah (pv 2) (Ah (pv 3) (Bb (pv 4) (pv 5)))))))))))))),?_⟩
 refine⟨_,rfl,_,_,rfl,.int _,_,rfl,bF (by rw[show N7 1000000000 (.int n)=true from g0];rfl) ?_⟩;refine⟨_,rfl,_,_,rfl,.int _,_,rfl,bF (by rw[show N7 1000000 (.int d)=true from Y];rfl) ?_⟩;refine⟨_,rfl,_,_,rfl,.str _,Zs (JD j.1 j.2),λH1 z=>⟨_,rfl,bF (by rw[show Za (.str (tx U))=true from decide_eq_true j.1];rfl) ?_⟩⟩;have Z:th.length<=900:=by have:=M.1.2;omega
 have l4:B.length<=900:=by have:=F.1.2;omega
 refine⟨_,rfl,_,_,rfl,.str _,Zs Z,_,rfl,bF (by rw[show Gj (.str (tx th))=true from decide_eq_true M];rfl) ⟨_,rfl,_,_,rfl,.str _,Zs l4,_,rfl,bF (by rw[show Gj (.str (tx B))=true from decide_eq_true F];rfl) ?_⟩⟩;refine⟨_,rfl,_,_,rfl,.int _,_,rfl,bF (by rw[show N7 999999999999 (.int c)=true from S];rfl) ⟨_,rfl,_,_,rfl,rfl,_,rfl,dF (by omega) ?_⟩⟩;exact⟨_,rfl,_,rfl,_,rfl,_,rfl,_,rfl,_,rfl,Dk (by show 6<=1000;decide),λp L=>q p _ (z.trans (Af L _)) (z.free L) Aa⟩
end
def EJ (n:Str):Prop:=∃ l,n=tx l/\Gh l
def JP:Co->Prop
 |.alw=>True
 |.cau n=>EJ n
 |.thi n=>EJ n
 |.day a b=>0<=a/\a<=b/\b<=1000000
 |.ovr m=>0<=m/\m<=999999999999
def Qj {H H':Hp} {p:Addr} {o:HO} (h:H p=none) (s:De H H'):De H (upd H' p o):=λb u e=>by rw[Ag (Ae e h)];exact s _ _ e
def Qs {y d:Addr} (j:H y=none) (g:H d=none):De H (upd (upd H d o1) y o2):=λb o e=>by rw[Ag (Ae e j),Ag (Ae e g)];exact e
def Fy {y d:Addr} (g:H y=none) (j:H d=none):De H (upd (upd (upd H d o1) y o2) y o3):=λb o e=>by rw[Ag (Ae e g),Ag (Ae e g),Ag (Ae e j)];exact e
def WP (p:Addr) (H:Hp):Hp:=λb=>if b=p then none else H b
def WP.at {p b:Addr} {o:HO} (h:WP p H b=some o):b≠p/\H b=some o:=by
 unfold WP at h;by_cases e:b=p
 .rw[if_pos e] at h;cases h
 .rw[if_neg e] at h;exact⟨e,h⟩
def WP.of {p b:Addr} {o:HO} (n:b≠p) (h:H b=some o):WP p H b=some o:=by
 unfold WP;rw[if_neg n];exact h
abbrev NJ:=Str×Str×Int×Int
def FI (r:NJ):List V:=[.str r.1,.str r.2.1,.int r.2.2.1,.int r.2.2.2]
def okC (r:NJ):Prop:=(r.1="own" \/ r.1="layer" \/ r.1="limit")/\Pg r.2.1/\(0<=r.2.2.1/\r.2.2.1<=120000000230)/\(r.1="layer"->r.2.2.1<r.2.2.2/\r.2.2.2<=240000000461)
def Ka (r:NJ):Cl:=if r.1="own" then .own r.2.1 r.2.2.1 else if r.1="layer" then .lay r.2.1 r.2.2.1 r.2.2.2 else .lim r.2.1 r.2.2.1
inductive QO (vs:List V) (H:Hp) (Q:VK) (E:XK):Prop
 |mk (t r:_) (z0:vs=[.ref t]) (z1:H t=oT (FI r)) (z2:okC r) (z3:∀ p H',De H H'->H p=none->WK H' p (Ka r)->Q (.ref p) H')
section
variable {P:Program} {w:World} {K:zAa} {mg:Str->Option Value} {base:Heap}
def Ui (J:Pm P w K mg base):Jc J 6 "_law_clause" ["_law_clause_here"] (QO):=Gb J.z J.rh ["_law_clause_here","_law_word","_law_by","_law_low","_law_high"] df λsc H Q hr h=>by
 obtain⟨t,⟨Z,y,lo,hi⟩,rfl,ht,⟨hw,M,⟨z,m1⟩,S⟩,q⟩:=h;refine⟨_,(Ab (B0 (pv 0) (Cu (K:=K) (n:=4) rfl rfl (As (Fj sc 1) (As (Fj sc 2) (As (Fj sc 3) (As (Fj sc 4) Cs))))))
   (Ab (Au (Ak Bv (pv 1) Az (An _))
    (Ac (Ai (Ca (UA J) (hr.mono (by decide)) rfl (Bb (pv 2) (pv 3)))))
    Al)
   (Ab (Au (Ak Bv (pv 1) Az (An _))
    (Ac (Ai (Ca (IA J) (hr.mono (by decide)) rfl (Ah (pv 2) (Bb (pv 3) (pv 4))))))
    Al)
   (Ac (Ai (Ca (JT J) (hr.mono (by decide)) rfl (Bb (pv 2) (pv 3)))))))),?_⟩
 have z:0<=lo:=z;have m1:lo<=120000000230:=m1;refine (vE rfl ⟨t,_,rfl,(Jy.of ht),rfl,(vC rfl (vC rfl (vC rfl (vC rfl (⟨rfl,?_⟩)))))⟩);refine (vE rfl ⟨rfl,vE rfl ?_⟩);by_cases c1:Z="own"
 .refine dT (congrArg V.str c1) (vE rfl (vE rfl (λp dx j g L=>⟨p,dx,y,lo,rfl,Aa,M,⟨z,by lia⟩,(λF B D=>⟨rfl,q p F (Ft j g B) j ?_⟩)⟩)))
  unfold Ka;rw[if_pos (by exact c1)];exact D
 refine dF (λe=>c1 (V.str.inj e)) (vE rfl ⟨rfl,vE rfl ?_⟩);by_cases c2:Z="layer"
 .obtain⟨U,Y⟩:=S c2
  have U:lo<hi:=U;have Y:hi<=240000000461:=Y;refine dT (congrArg V.str c2) (vE rfl (vE rfl (vE rfl (λp dx j g L=>⟨p,dx,y,lo,hi,rfl,Aa,M,⟨z,by lia⟩,⟨by lia,by lia⟩,U,(λF B D=>⟨rfl,q p F (Ft j g B) j ?_⟩)⟩))));unfold Ka;rw[if_neg (by exact c1),if_pos (by exact c2)];exact D
 .refine dF (λe=>c2 (V.str.inj e)) (vE rfl (vE rfl (λp dx j g L=>⟨p,dx,y,lo,rfl,Aa,M,⟨z,by lia⟩,(λF B D=>⟨rfl,q p F (Ft j g B) j ?_⟩)⟩)))
  unfold Ka;rw[if_neg (by exact c1),if_neg (by exact c2)];exact D
end
inductive D0 (m:Nat) (vs:List V) (H:Hp) (Q:VK) (E:XK):Prop
 |mk (v t:_) (z0:vs=[v]) (z1:VR H v t) (z2:Ob t<m) (z3:Yv JP t) (z4:∀ u H',De H H'->VN κ (Nw H H') u t->Q u H')
section
seal L2.PS L2.PSs L2.PE L2.PA
variable {P:Program} {w:World} {K:zAa} {mg:Str->Option Value} {base:Heap}
def Lo (J:Pm P w K mg base) {f:Addr} (F:WC K "_law_condition" "_law_condition" Gu f fd) {m:Nat} (C_law_condition:HQ P w K mg base (m+2) "_law_condition" ["_law_cond_here"] (D0 m)) (U:UN K mg "Condition" Dj):Lp P w K mg base Ec (m+1+2) f fd ["_law_cond_here"] (D0 (m+1)):=Kt F ["_law_cond_here"] df λsc H Q hr h=>by
 obtain⟨v,t,rfl,L,hg,ok,q⟩:=h;refine⟨_,(Ab (Au (Ak Bv (Da K (pv 0) Ad) Az (An _))
    (Ac (Ai (Ca (X0 J) (hr.mono (by lia)) rfl (Bj (Da K (pv 0) Ad)))))
    Al)
   (Ab (Au (Ak Bv (Da K (pv 0) Ad) Az (An _))
    (Ac (Ai (Ca (Y0 J) (hr.mono (by lia)) rfl (Bj (Da K (pv 0) Ad)))))
    Al)
   (Ab (Au (Ak Bv (Da K (pv 0) Ad) Az (An _))
    (Ac (Ai (Ca (EY J) (hr.mono (by lia)) rfl (Bb (Da K (pv 0) Ad) (Da K (pv 0) Ad)))))
    Al)
   (Ab (Au (Ak Bv (Da K (pv 0) Ad) Az (An _))
    (Ac (Ai (Ca (OE J) (hr.mono (by lia)) rfl (Bj (Da K (pv 0) Ad)))))
    Al)
   (Ab (Au (Ak Bv (Da K (pv 0) Ad) Az (An _))
    (Ac (Ai (Ca (RJ J) (hr.mono (by lia)) rfl (Bj (Li C_law_condition (hr.mono (by lia)) rfl (Bj (Da K (pv 0) Ad)))))))
    Al)
   (Ab (Au (Ak Bv (Da K (pv 0) Ad) Az (An _))
    (Ac (Ai (Ca (SV J) (hr.mono (by lia)) rfl (Bj (Cc (NC:=["_law_part"]) (own:=["_law_part"]) (cs:=[]) (ix:=[]) rfl (Dt.of rfl) rfl trivial (Go K (Da K (pv 0) Ad)) (λ_ _ _=>(Jq 0)) (λ_ _ _=>Bw) (λ_ _ _=>(Li C_law_condition (hr.mono (by lia)) rfl (Bj (pv 0)))))))))
    Al)
   (Ab (Au (Ak Bv (Da K (pv 0) Ad) Az (An _))
    (Ac (Ai (Ca (OB J) (hr.mono (by lia)) rfl (Bj (Cc (NC:=["_law_part"]) (own:=["_law_part"]) (cs:=[]) (ix:=[]) rfl (Dt.of rfl) rfl trivial (Go K (Da K (pv 0) Ad)) (λ_ _ _=>(Jq 0)) (λ_ _ _=>Bw) (λ_ _ _=>(Li C_law_condition (hr.mono (by lia)) rfl (Bj (pv 0)))))))))
    Al)
   (Ac (Ai (FO U rfl)))))))))),?_⟩
 have g:∀ {y z:Str},y≠z->¬ V.str y=V.str z:=λh e=>h (V.str.inj e);cases t with
 |«at» c=>
  cases c with
  |alw=>
   unfold VR at L;obtain⟨p,rfl,j⟩:=L;refine (vE rfl (vI rfl rfl (Jy.of j) rfl ⟨rfl,vE rfl (dF (g (by ac_nf)) ?_)⟩));refine (vE rfl (vI rfl rfl (Jy.of j) rfl ⟨rfl,vE rfl (dF (g (by ac_nf)) ?_)⟩));refine (vE rfl (vI rfl rfl (Jy.of j) rfl ⟨rfl,vE rfl (dF (g (by ac_nf)) ?_)⟩));refine (vE rfl (vI rfl rfl (Jy.of j) rfl ⟨rfl,vE rfl (dF (g (by ac_nf)) ?_)⟩));refine (vE rfl (vI rfl rfl (Jy.of j) rfl ⟨rfl,vE rfl (dF (g (by ac_nf)) ?_)⟩));refine (vE rfl (vI rfl rfl (Jy.of j) rfl ⟨rfl,vE rfl (dF (g (by ac_nf)) ?_)⟩));refine (vE rfl (vI rfl rfl (Jy.of j) rfl ⟨rfl,vE rfl (dF (g (by ac_nf)) ?_)⟩));refine λy dx B nd ne=>q _ _ (Qs B nd) ?_;unfold VN;exact⟨y,dx,rfl,Nw.of B Aa⟩
  |cau n=>
   unfold VR at L;obtain⟨p,rfl,j⟩:=L;refine (vE rfl (vI rfl rfl (Jy.of j) rfl ⟨rfl,vE rfl (dT rfl (vE rfl (vI rfl rfl (Jy.of j) rfl (λy dx B nd ne=>⟨y,dx,_,rfl,Aa,rfl,(q _ _ (Fy B nd) ?_)⟩))))⟩));unfold VN;exact⟨y,dx,rfl,Nw.of B Aa⟩
  |thi n=>
   unfold VR at L;obtain⟨p,rfl,j⟩:=L;refine (vE rfl (vI rfl rfl (Jy.of j) rfl ⟨rfl,vE rfl (dF (g (by ac_nf)) ?_)⟩));refine (vE rfl (vI rfl rfl (Jy.of j) rfl ⟨rfl,vE rfl (dT rfl (vE rfl (vI rfl rfl (Jy.of j) rfl (λy dx B nd ne=>⟨y,dx,_,rfl,Aa,rfl,(q _ _ (Fy B nd) ?_)⟩))))⟩));unfold VN;exact⟨y,dx,rfl,Nw.of B Aa⟩
  |day a b=>
   unfold VR at L;obtain⟨p,rfl,j⟩:=L;refine (vE rfl (vI rfl rfl (Jy.of j) rfl ⟨rfl,vE rfl (dF (g (by ac_nf)) ?_)⟩));refine (vE rfl (vI rfl rfl (Jy.of j) rfl ⟨rfl,vE rfl (dF (g (by ac_nf)) ?_)⟩));refine (vE rfl (vI rfl rfl (Jy.of j) rfl ⟨rfl,vE rfl (dT rfl (vE rfl (vI rfl rfl (Jy.of j) rfl (vE rfl (vI rfl rfl (Jy.of j) rfl (λy dx B nd ne=>⟨y,dx,_,_,rfl,Aa,(λH' kp hy=>⟨rfl,q _ _ (λz o e=>?_) ?_⟩)⟩))))))⟩))
   .have n1:=Ae e B
    rw[kp z n1,Ag n1,Ag (Ae e nd)];exact e
   .unfold VN
    exact⟨y,dx,rfl,Nw.of B hy⟩
  |ovr c=>
   unfold VR at L;obtain⟨p,rfl,j⟩:=L;refine (vE rfl (vI rfl rfl (Jy.of j) rfl ⟨rfl,vE rfl (dF (g (by ac_nf)) ?_)⟩));refine (vE rfl (vI rfl rfl (Jy.of j) rfl ⟨rfl,vE rfl (dF (g (by ac_nf)) ?_)⟩));refine (vE rfl (vI rfl rfl (Jy.of j) rfl ⟨rfl,vE rfl (dF (g (by ac_nf)) ?_)⟩));refine (vE rfl (vI rfl rfl (Jy.of j) rfl ⟨rfl,vE rfl (dT rfl (vE rfl (vI rfl rfl (Jy.of j) rfl (λy dx B nd ne=>⟨y,dx,_,rfl,Aa,rfl,(q _ _ (Fy B nd) ?_)⟩))))⟩));unfold VN;exact⟨y,dx,rfl,Nw.of B Aa⟩
 |no t=>
  unfold VR at L;obtain⟨p,wt,rfl,j,L⟩:=L;unfold Ob at hg;unfold Yv at ok;refine (vE rfl (vI rfl rfl (Jy.of j) rfl ⟨rfl,vE rfl (dF (g (by ac_nf)) ?_)⟩));refine (vE rfl (vI rfl rfl (Jy.of j) rfl ⟨rfl,vE rfl (dF (g (by ac_nf)) ?_)⟩));refine (vE rfl (vI rfl rfl (Jy.of j) rfl ⟨rfl,vE rfl (dF (g (by ac_nf)) ?_)⟩));refine (vE rfl (vI rfl rfl (Jy.of j) rfl ⟨rfl,vE rfl (dF (g (by ac_nf)) ?_)⟩));refine (vE rfl (vI rfl rfl (Jy.of j) rfl ⟨rfl,vE rfl (dT rfl (vE rfl (vI rfl rfl (Jy.of j) rfl ⟨wt,t,rfl,L,(by lia),ok,(λu H1 s1 cd y dx B nd ne=>⟨y,dx,_,rfl,Aa,rfl,(q _ _ (s1.trans (Fy B nd)) ?_)⟩)⟩)))⟩));unfold VN;exact⟨y,dx,u,rfl,(Nw.of (s1.free B) Aa),(cd.same (Nw.grow λb o _ e=>Fy B nd _ _ e))⟩
 |al ts=>
  unfold VR at L;obtain⟨p,a,vs,rfl,j,ha,aa⟩:=L;unfold Ob at hg;have Z:=aa.len;unfold Yv at ok;obtain⟨_,ad,ac⟩:=ok;refine (vE rfl (vI rfl rfl (Jy.of j) rfl ⟨rfl,vE rfl (dF (g (by ac_nf)) ?_)⟩));refine (vE rfl (vI rfl rfl (Jy.of j) rfl ⟨rfl,vE rfl (dF (g (by ac_nf)) ?_)⟩));refine (vE rfl (vI rfl rfl (Jy.of j) rfl ⟨rfl,vE rfl (dF (g (by ac_nf)) ?_)⟩));refine (vE rfl (vI rfl rfl (Jy.of j) rfl ⟨rfl,vE rfl (dF (g (by ac_nf)) ?_)⟩));refine (vE rfl (vI rfl rfl (Jy.of j) rfl ⟨rfl,vE rfl (dF (g (by ac_nf)) ?_)⟩));refine (vE rfl (vI rfl rfl (Jy.of j) rfl ⟨rfl,vE rfl (dT rfl (vE rfl (vI rfl rfl (Jy.of j) rfl ⟨a,rfl,⟨_,Dl.of ha⟩,λpc ab=>?_⟩)))⟩));refine Bi (K:=K) (a:=a) (xs:=vs) (λi ys S=>S pc=oL ys/\ys.length=i/\De H S/\CdsAt κ (WP pc (Nw H S)) ys (ts.take i)) ⟨Aa,rfl,Af ab _,by rw[zAV];unfold CdsAt;trivial⟩ (λi ys S _ ⟨h1,h2,M,_⟩=>⟨h1,by lia,Dl.of (M _ _ ha)⟩) (by rw[zCE];lia) ?_ ?_
  .rintro i v ys S hi ⟨h1,h2,M,h4⟩
   obtain⟨t,et,L⟩:=aa.get hi;refine (vE rfl ⟨v,t,rfl,(L.same M),(Oh (by lia) i et),(G8 ac t (zAC et)),(λu H6 s6 cd=>⟨s6 _ _ h1,rfl,Aa,by rw[zAj,h2];rfl,Qj ab (M.trans s6),?_⟩)⟩);rw[Be et];refine CdsAt.snoc (h4.same λb o e=>?_) (cd.same λb o e=>?_)
   .obtain⟨n,e⟩:=WP.at e
    obtain⟨Y,e⟩:=Nw.at e;exact WP.of n (Nw.of Y (by rw[Ag n];exact s6 _ _ e))
   .obtain⟨Y,e⟩:=Nw.at e
    have n:b≠pc:=λz=>by rw[z,h1] at Y;cases Y
    exact WP.of n (Nw.of (M.free Y) (by rw[Ag n];exact e))
  .rintro ys S ⟨h1,h2,M,h4⟩
   rw[Z,zAB] at h4;intro y dx B nd ne;have s3:De S (upd (upd S dx (.own y)) y (.ins Kb dx [])):=Qs B nd;refine⟨y,dx,pc,ys,rfl,Aa,(s3 _ _ h1),(λl H4 nl kp hy hl=>⟨rfl,?_⟩)⟩;have k4:∀ b o,S b=some o->H4 b=some o:=λb o e=>by rw[kp b (Ae e B) (Ae (s3 _ _ e) nl)];exact s3 _ _ e
   refine q _ _ (λb o e=>k4 _ _ (M _ _ e)) ?_;unfold VN;refine⟨y,dx,l,ys,rfl,(Nw.of (M.free B) hy),(Nw.of (M.free (s3.free nl)) hl),(h4.same λb o e=>?_)⟩;obtain⟨n,e⟩:=WP.at e;obtain⟨Y,e⟩:=Nw.at e;exact Nw.of Y (k4 _ _ e)
 |so ts=>
  unfold VR at L;obtain⟨p,a,vs,rfl,j,ha,aa⟩:=L;unfold Ob at hg;have Z:=aa.len;unfold Yv at ok;obtain⟨_,ad,ac⟩:=ok;refine (vE rfl (vI rfl rfl (Jy.of j) rfl ⟨rfl,vE rfl (dF (g (by ac_nf)) ?_)⟩));refine (vE rfl (vI rfl rfl (Jy.of j) rfl ⟨rfl,vE rfl (dF (g (by ac_nf)) ?_)⟩));refine (vE rfl (vI rfl rfl (Jy.of j) rfl ⟨rfl,vE rfl (dF (g (by ac_nf)) ?_)⟩));refine (vE rfl (vI rfl rfl (Jy.of j) rfl ⟨rfl,vE rfl (dF (g (by ac_nf)) ?_)⟩));refine (vE rfl (vI rfl rfl (Jy.of j) rfl ⟨rfl,vE rfl (dF (g (by ac_nf)) ?_)⟩));refine (vE rfl (vI rfl rfl (Jy.of j) rfl ⟨rfl,vE rfl (dF (g (by ac_nf)) ?_)⟩));refine (vE rfl (vI rfl rfl (Jy.of j) rfl ⟨rfl,vE rfl (dT rfl (vE rfl (vI rfl rfl (Jy.of j) rfl ⟨a,rfl,⟨_,Dl.of ha⟩,λpc ab=>?_⟩)))⟩));refine Bi (K:=K) (a:=a) (xs:=vs) (λi ys S=>S pc=oL ys/\ys.length=i/\De H S/\CdsAt κ (WP pc (Nw H S)) ys (ts.take i)) ⟨Aa,rfl,Af ab _,by rw[zAV];unfold CdsAt;trivial⟩ (λi ys S _ ⟨h1,h2,M,_⟩=>⟨h1,by lia,Dl.of (M _ _ ha)⟩) (by rw[zCE];lia) ?_ ?_
  .rintro i v ys S hi ⟨h1,h2,M,h4⟩
   obtain⟨t,et,L⟩:=aa.get hi;refine (vE rfl ⟨v,t,rfl,(L.same M),(Oh (by lia) i et),(G8 ac t (zAC et)),(λu H6 s6 cd=>⟨s6 _ _ h1,rfl,Aa,by rw[zAj,h2];rfl,Qj ab (M.trans s6),?_⟩)⟩);rw[Be et];refine CdsAt.snoc (h4.same λb o e=>?_) (cd.same λb o e=>?_)
   .obtain⟨n,e⟩:=WP.at e
    obtain⟨Y,e⟩:=Nw.at e;exact WP.of n (Nw.of Y (by rw[Ag n];exact s6 _ _ e))
   .obtain⟨Y,e⟩:=Nw.at e
    have n:b≠pc:=λz=>by rw[z,h1] at Y;cases Y
    exact WP.of n (Nw.of (M.free Y) (by rw[Ag n];exact e))
  .rintro ys S ⟨h1,h2,M,h4⟩
   rw[Z,zAB] at h4;intro y dx B nd ne;have s3:De S (upd (upd S dx (.own y)) y (.ins Gr dx [])):=Qs B nd;refine⟨y,dx,pc,ys,rfl,Aa,(s3 _ _ h1),(λl H4 nl kp hy hl=>⟨rfl,?_⟩)⟩;have k4:∀ b o,S b=some o->H4 b=some o:=λb o e=>by rw[kp b (Ae e B) (Ae (s3 _ _ e) nl)];exact s3 _ _ e
   refine q _ _ (λb o e=>k4 _ _ (M _ _ e)) ?_;unfold VN;refine⟨y,dx,l,ys,rfl,(Nw.of (M.free B) hy),(Nw.of (M.free (s3.free nl)) hl),(h4.same λb o e=>?_)⟩;obtain⟨n,e⟩:=WP.at e;obtain⟨Y,e⟩:=Nw.at e;exact Nw.of Y (k4 _ _ e)
def C_law_condition (J:Pm P w K mg base):∀ m,Jc J (m+2) "_law_condition" ["_law_cond_here"] (D0 m):=by
  intro m
  induction m with
  |zero=>
   refine GP J.z J.oq bd λf fd F=>FY λ_ _ _ _ z=>?_;obtain⟨_,_,_,_,z,_⟩:=z;exact zBE _ z
  |succ m ih=>exact GP J.z J.oq bd λf fd F=>Lo J F ih ⟨J.bp.mi,J.ng,J.bp.kp,(J.z.nv J.bp.ns)⟩
end
structure XF where
 p:Addr
 nm:Str
 t:Ia
 rs:List NJ
 wt:Bool
def GN (r:XF):V:=.ref r.p
def WQ (H:Hp) (r:XF):Prop:=∃ tv cl hl ht xs hn,H r.p=oT [.str r.nm,tv,.ref cl,.ref hl,.bl r.wt]/\VR H tv r.t/\H cl=oL xs/\TsAt FI H xs r.rs/\H hl=oL [.ref ht]/\H ht=oT [.str hn,.int 1]/\(Gj (.str hn)=true/\hn.length<=8)
structure Sb (r:XF):Prop where
 hg:Ob r.t<3
 ok:Yv JP r.t
 l3:r.rs.length<=3
 oc:∀ c∈r.rs,okC c
def WQ.same {H H':Hp} {r:XF} (h:WQ H r) (s:De H H'):WQ H' r:=by
 obtain⟨tv,cl,hl,z,xs,j,h1,q,L,F,B,g,M⟩:=h;exact⟨tv,cl,hl,z,xs,j,s _ _ h1,q.same s,s _ _ L,F.mono (Aq s),s _ _ B,s _ _ g,M⟩
def cu (r:XF):VS:=⟨r.p,r.nm,r.t,r.rs.map Ka,r.wt⟩
def un (x:VS):Str×Ia×List Cl×Bool:=(x.nm,x.t,x.cs,x.wt)
def Fp (xs:List VS):List VS:=xs.filter (λx => !x.wt)++xs.filter (λx=>x.wt)
def Jb {α β:Type} (f:α->β) (g:β->Bool) (xs:List α):((xs.map f).filter g)=(xs.filter (λx=>g (f x))).map f:=by
 rw[List.filter_map];rfl
theorem Yt {α:Type} (p:α->Bool):∀ xs:List α,(xs.filter (λx => !p x)++xs.filter p).Perm xs
 |[]=>.nil
 |x::xs=>by
  have ih:=Yt p xs;cases e:p x with
  |true=>
   rw[zBg (by rw[e];decide),zBf e];exact List.perm_middle.trans (ih.cons x)
  |false=>
   rw[zBf (by rw[e];rfl),zBg (by rw[e];decide)];exact ih.cons x
def Hc (xs:List VS):(Fp xs).Perm xs:=Yt (λx:VS=>x.wt) xs
def Yf (z:LF) (xs:List VS):(Cq z xs).map un=(xs.map un).filter (λy=>hT y.2.1 z.ls):=by
 unfold Cq;rw[Jb];rfl
def CP {bs:List VS} {rows:List XF} (h:bs.map un=(Fp (rows.map cu)).map un):∀ x∈bs,∃ r∈rows,un x=un (cu r):=λx g=>by
 have:un x∈(Fp (rows.map cu)).map un:=by rw[<- h];exact zAD.mpr ⟨x,g,rfl⟩
 obtain⟨y,j,e⟩:=zAD.mp this;obtain⟨r,hr,rfl⟩:=zAD.mp ((Hc _).mem_iff.mp j);exact⟨r,hr,e.symm⟩
def KW {bs:List VS} {rows:List XF} (h:bs.map un=(Fp (rows.map cu)).map un):bs.length=rows.length:=by
 have:=congrArg List.length h;rw[zAb,zAb,(Hc _).length_eq,zAb] at this;exact this
def QK {bs:List VS} {rows:List XF} (h:bs.map un=(Fp (rows.map cu)).map un) (nd:(rows.map (·.nm)).Nodup):(bs.map (·.nm)).Nodup:=by
 have e:=congrArg (List.map (λy:Str×Ia×List Cl×Bool=>y.1)) h;rw[zBq,zBq] at e;have g:bs.map (·.nm)=(Fp (rows.map cu)).map (·.nm):=e;rw[g,((Hc (rows.map cu)).map (·.nm)).nodup_iff,zBq];exact nd
def QG {z:Str} (h:Gj (.str z)=true):EJ z:=⟨z.cps.toList,(Jw z).symm,of_decide_eq_true h⟩
theorem Ch.uniq {f:Int->Int}:∀ {ps qs} {s:Int} {lk L:Option Int} {e:Int},CRP.Ch f s lk ps e->CRP.Ch f s L qs e->ps=qs
 |[],[],_,_,_,_,_,_=>rfl
 |[],(l,h,k)::r,s,_,_,e,h1,j=>by
  have g:=CRP.Ch.get (i:=0) (p:=(l,h,k)) j rfl;have e1:s=e:=h1;have g1:l<h:=g.1;have q:h<=e:=g.2.2.2.2;have g3:s<=l:=g.2.2.2.1
  lia
 |(l,h,k)::r,[],s,_,_,e,h1,j=>by
  have g:=CRP.Ch.get (i:=0) (p:=(l,h,k)) h1 rfl;have e1:s=e:=j;have g1:l<h:=g.1;have q:h<=e:=g.2.2.2.2;have g3:s<=l:=g.2.2.2.1
  lia
 |(l,h,k)::r,(l',h',k')::U,s,_,_,e,h1,j=>by
  have aa:h<=e:=(CRP.Ch.get (i:=0) (p:=(l,h,k)) h1 rfl).2.2.2.2;have Z:h'<=e:=(CRP.Ch.get (i:=0) (p:=(l',h',k')) j rfl).2.2.2.2;obtain⟨a1,a2,a3,S,M⟩:=h1;obtain⟨b1,b2,b3,Y,B⟩:=j;have ek:k=k':=by
   have z1:=S s (by lia) (by lia);have z2:=Y s (by lia) (by lia)
   lia
  have el:l=l':=by lia
  subst ek el;have eh:h=h':=by
   rcases Int.lt_trichotomy h h' with z|z|z
   .cases r with
    |nil=>have:h=e:=M;lia
    |cons x r=>
     obtain⟨l2,q,F⟩:=x;obtain⟨c1,c2,c3,c4,c5⟩:=M;have:=c4 h (by lia) (by lia);have:=Y h (by lia) z;exact absurd (congrArg some (show k=F by lia)) c3
   .exact z
   .cases U with
    |nil=>have:h'=e:=B;lia
    |cons x U=>
     obtain⟨l2,q,F⟩:=x;obtain⟨c1,c2,c3,c4,c5⟩:=B;have:=c4 h' (by lia) (by lia);have:=S h' (by lia) z;exact absurd (congrArg some (show k=F by lia)) c3
  subst eh;rw[Ch.uniq M B]
theorem Su {α:Type} (f:α->Int):∀ {S T:List α},S.Perm T->S.Pairwise (λs t=>f s<f t)->T.Pairwise (λs t=>f s<f t)->S=T
 |[],T,p,_,_=>by rw[List.nil_perm.mp p]
 |a::S,[],p,_,_=>by simp at p
 |a::S,b::T,p,h,g=>by
  obtain⟨h1,F⟩:=zAM.mp h;obtain⟨B,z⟩:=zAM.mp g;have q:a∈b::T:=p.mem_iff.mp zAg;have L:b∈a::S:=p.mem_iff.mpr zAg;have e:a=b:=by
   rcases zAn.mp q with e|e
   .exact e
   .rcases zAn.mp L with j|j
    .exact j.symm
    .have:=B a e
     have:=h1 b j
     lia
  subst e;rw[Su f (List.Perm.cons_inv p) F z]
def Z0 {m n:Int} {l:List Int} (h:F1 m l) (g:F1 n l):m=n:=by
 have:=h.2 n g.1;have:=g.2 m h.1
 lia
def AO {m n:Int} {l:List Int} (h:G3 m l) (g:G3 n l):m=n:=by
 have:=h.2 n g.1;have:=g.2 m h.1
 lia
theorem Yh {kvs:Jz} {z:LF}:∀ {xs ys} {as bs},xs.map un=ys.map un->XD kvs z xs as->XD kvs z ys bs->as=bs
 |[],[],[],[],_,_,_=>rfl
 |[],[],[],_::_,_,_,h=>h.elim
 |[],[],_::_,_,_,h,_=>h.elim
 |[],_::_,_,_,e,_,_=>by simp at e
 |_::_,[],_,_,e,_,_=>by simp at e
 |_::_,_::_,[],_,_,h,_=>h.elim
 |_::_,_::_,_::_,[],_,_,h=>h.elim
 |x::xs,y::ys,a::as,b::bs,e,⟨⟨W,F,B⟩,r⟩,⟨⟨W',q,S⟩,Y⟩=>by
  rw[zAw,zAw] at e;injection e with e1 e2;have L:x.nm=y.nm:=congrArg (·.1) e1;have M:x.cs=y.cs:=congrArg (·.2.2.1) e1;have Z:numsOf kvs z x=numsOf kvs z y:=by unfold numsOf;rw[L,M]
  rw[M,Z] at F B;obtain⟨lo,hi,m1,m2,rfl⟩:=F;obtain⟨aa,U,j,g,rfl⟩:=q;rw[Z0 m1 j,AO m2 g,L] at B;rw[Yh e2 r Y,B,S]
def Xn {kvs:Jz} {z:LF} {xs ys:List VS} {S T:List Ih} (e:xs.map un=ys.map un) (h:Du kvs z xs S) (g:Du kvs z ys T):S=T:=by
 match xs,ys,e,h,g with
 |[],[],_,h,g=>exact Eq.trans (show S=_ from h) (show T=_ from g).symm
 |[],_::_,e,_,_=>simp at e
 |_::_,[],e,_,_=>simp at e
 |x::xs,y::ys,e,⟨av,pa,Y,q,j,M⟩,⟨ab,aa,Z,b2,U,L⟩=>
  have e0:=e;rw[zAw,zAw] at e;injection e with e1 e2;have F:x.nm=y.nm:=congrArg (·.1) e1;have B:x.cs=y.cs:=congrArg (·.2.2.1) e1;have k3:numsOf kvs z x=numsOf kvs z y:=by unfold numsOf;rw[F,B]
  rw[B,k3] at q j;rw[Yh e0 Y Z,Ch.uniq q b2,F] at j;exact Su (λs:Ih=>s.1) (j.trans U.symm) M L
def MA (x:VS):Cv:=(x.p,x.nm,x.wt)
inductive L8 (vs:List V) (H:Hp) (Q:VK) (E:XK):Prop
 |mk (a:_) (rows:List XF) (z0:vs=[.ref a]) (z1:H a=oL (rows.map GN)) (z2:(∀ x∈rows,WQ H x/\Sb x)) (z3:GS (rows.map (·.nm))) (z4:∀ b cl ak (cvs:List VS) H',De H H'->GG CB H' b cl ak (cvs.map MA)->H b=none->H ak=none->(∀ x∈cvs,VT (Nw H H') x)->cvs.map un=(rows.map cu).map un->Q (.ref b) H')
def IT {H:Hp} {g:List VS} (h:∀ x∈g,VT H x):WF CV H (g.map MA):=λc z=>by
 obtain⟨x,B,rfl⟩:=zAD.mp z;obtain⟨dx,fs,_,_,_,e,q,_,_,j,_⟩:=h x B;exact⟨dx,fs,e,q,j⟩
def IP {b cl z:Addr} (B:GG CB H b cl z (g.map MA)) (h:∀ x∈g,VT H x):Fw H b (Fp g):=by
 obtain⟨⟨L,gs,q,Y,S,U⟩,F,j⟩:=B;refine⟨L,gs,z,q,S,?_,λx M=>h x ((Hc g).mem_iff.mp M)⟩;rw[j];unfold LA Fp;rw[Jb,Jb,<- zAp,zBq];rfl
def Zw {xs ys:List VS} (e:xs.map un=ys.map un):(Fp xs).map un=(Fp ys).map un:=by
 have g:∀ xs:List VS,(Fp xs).map un=(xs.map un).filter (λy => !y.2.2.2)++(xs.map un).filter (λy=>y.2.2.2):=λxs=>by
  unfold Fp;rw[Jb,Jb,zAp];rfl
 rw[g,g,e]
def G0 {H H':Hp} {b cl z:Addr} (B:GG CB H' b cl z (g.map MA)) (S:H b=none) (U:H z=none) (h:∀ x∈g,VT (Nw H H') x):Fw (Nw H H') b (Fp g):=by
 obtain⟨dx,fs,M,h1,F,Y,_⟩:=IP B λx q=>(h x q).same (Nw.sub H H');obtain⟨⟨Z,gs,j,_,L,_⟩,_,_⟩:=B;rw[h1] at j;cases j;rw[F] at L;cases L;exact⟨_,_,_,Nw.of S h1,F,Nw.of U Y,λx q=>h x ((Hc g).mem_iff.mp q)⟩
section
seal L2.PS L2.PSs L2.PE L2.PA
variable {P:Program} {w:World} {K:zAa} {mg:Str->Option Value} {base:Heap}
def Uy (J:Pm P w K mg base) {f} {fd} (F:WC K "_law_book" "_law_book" Nm f fd) (C_law_condition:HQ P w K mg base 5 "_law_condition" ["_law_cond_here"] (D0 3)):Lp P w K mg base Ec 8 f fd ["_law_covers_here"] (L8):=Kt F ["_law_covers_here","_law_some","_law_name","_law_cond_here","_law_clauses","_law_houses","_law_waits"] df λsc H Q hr h=>by
 obtain⟨a,rows,rfl,ha,all,N,q⟩:=h;refine⟨_,(Ab (Ce sc 1 (Bf Cn))
   (Ab (Bk PassesOwn.never rfl (Go K (pv 0)) (Cu (K:=K) (n:=5) rfl rfl (As (Fj sc 2) (As (Fj sc 3) (As (Fj sc 4) (As (Fj sc 5) (As (Fj sc 6) Cs))))))
    (Ac (Bc (Db (K:=K) rfl PySem.F.plainAttrs_list PySem.F.slot_list_append PySem.F.type_list_append Cm (pv 1) (Bj (Ca (IY J) (hr.mono (by decide)) rfl (Ah (pv 2) (Ah (Cb C_law_condition hr (Bj (pv 3))) (Ah (Cc (NC:=["_law_one"]) (own:=["_law_one"]) (cs:=[]) (ix:=[]) rfl (Dt.of rfl) rfl trivial (Go K (pv 4)) (λ_ _ _=>(Jq 0)) (λ_ _ _=>Bw) (λ_ _ _=>(Cb (Ui J) hr (Bj (pv 0))))) (Bb (Cz (Bx (K:=K) rfl) rfl (J.z.nn J.ax) (show zCF _=some (.type "list") from rfl) (Bj (pv 5))) (pv 6)))))))))))
   (Ac (Ai (Ca (QL J) (hr.mono (by decide)) rfl (Bj (pv 1))))))),?_⟩
 have l8:rows.length<=8:=by have:=N.hi;rwa [zAb] at this
 have lm:(rows.map GN).length=rows.length:=zAb _;refine⟨zAu _,λsl al=>?_⟩;refine Ga [oR a,oR sl,none,none,none,none,none] rfl ?_;have s1:=Af al (.lst []);have h1:upd H sl (.lst []) sl=oL []:=Aa;generalize upd H sl (.lst [])=H1 at s1 h1;refine (vE rfl ⟨a,rfl,⟨_,Dl.of (s1 _ _ ha)⟩,?_⟩);refine Ea (K:=K) (a:=a) (xs:=rows.map GN) (λi σ H3=>(∃ o2 o3 o4 o5 o6,σ=[oR a,oR sl,o2,o3,o4,o5,o6])/\(∃ L:List VS,H3 sl=oL (L.map xV)/\(∀ x∈L,VT (WP sl (Nw H H3)) x)/\L.map un=((rows.take i).map cu).map un)/\De H H3)
  ⟨⟨none,none,none,none,none,rfl⟩,⟨[],h1,(λx Y=>nomatch Y),by rw[zAV];rfl⟩,s1⟩ (λi σ H3 _ hh=>Dl.of (hh.2.2 _ _ ha)) ?_ ?_
 .rintro i x σ H4 hi ⟨⟨o2,o3,o4,o5,o6,rfl⟩,⟨L,aa,aj,M⟩,s4⟩ N9 ax
  rw[zAy] at hi;obtain⟨r,Y,rfl⟩:=zAP.mp hi;have mx:=zAC Y;have il:i<rows.length:=(zAl.mp Y).1;obtain⟨⟨tv,cl,an,Z,xs,hn,g1,g2,g3,g4,g5,g6,az⟩,ad⟩:=all r mx;have lx:=g4.len;have l3:=ad.l3;refine⟨r.p,_,rfl,(Jy.of (s4 _ _ g1)),rfl,(vC rfl (vC rfl (vC rfl (vC rfl (vC rfl (⟨rfl,?_⟩))))))⟩;refine PN [oR a,oR sl,oS r.nm,some tv,oR cl,oR an,some (.bl r.wt)] rfl ?_;refine (vE rfl ⟨.inl ⟨rfl,_,Dl.of aa⟩,vE rfl (vE rfl ⟨tv,r.t,rfl,(VR.same s4 _ g2),ad.hg,ad.ok,(λu H5 s5 cd=>?_)⟩)⟩);have ab:=s4.trans s5;refine (vE rfl ⟨cl,rfl,⟨_,Dl.of (ab _ _ g3)⟩,λkl au=>?_⟩);refine Bi (K:=K) (a:=cl) (xs:=xs) (λj ys H6=>WD (Nw H5 H6) ys ((r.rs.take j).map Ka)/\H6 kl=oL ys/\De H5 H6) ⟨trivial,Aa,Af au _⟩
   (λj ys H6 hj ⟨c1,c2,c3⟩=>⟨c2,by rw[c1.len,zAb,zAo];lia,Dl.of (c3 _ _ (ab _ _ g3))⟩) (by rw[zCE];lia) (λj y ys H6 hj ⟨c1,c2,c3⟩=>?_) (λys H6 ⟨c1,a6,s6⟩=>?_)
  .obtain⟨tc,c,ec,rfl,a8⟩:=g4.get hj
   refine (vE rfl ⟨tc,c,rfl,(c3 _ _ (ab _ _ a8)),(ad.oc c (zAC ec)),(λp H7 U np hp=>⟨U _ _ c2,rfl,?_,Aa,Qj au (c3.trans U)⟩)⟩);rw[Be ec,zAp];obtain⟨a7,a9⟩:=hp;have kn:∀ b C dx fs,H7 b=oI C dx fs->upd H7 kl (.lst (ys++[V.ref p])) b=oI C dx fs:=λb C dx fs z=>by rw[Ag (Ar z (U _ _ c2) (by intro e;cases e))];exact z
   refine (c1.mono λb C dx fs z=>?_).snoc ⟨a7,Nw.of (c3.free np) (kn _ _ _ _ a9)⟩;obtain⟨z0,z1⟩:=Nw.at z;exact Nw.of z0 (kn _ _ _ _ (U _ _ z1))
  rw[lx,zAB] at c1;have ae:=ab.trans s6;have S:=s6 _ _ (s5 _ _ aa);refine (vE rfl ⟨an,_,rfl,(.inl (Dl.of (ae _ _ g5))),(λh2 bb=>?_)⟩);have U:=Af bb (.lst [V.ref Z]);have ar:upd H6 h2 (.lst [V.ref Z]) h2=oL [V.ref Z]:=Aa;generalize upd H6 h2 (.lst [V.ref Z])=H7 at U ar;refine (vE rfl (λp dp np aw a5=>?_));have s8:De H7 (upd (upd H7 dp (.own p)) p (.ins CV dp [])):=(Af aw _).trans (Af (by rw[Ag (Ne.symm a5)];exact np) _);refine⟨p,dp,r.nm,u,kl,ys,h2,Z,hn,r.wt,rfl,Aa,N.ok _ (zAD.mpr ⟨r,mx,rfl⟩),s8 _ _ (U _ _ a6),by rw[c1.len,zAb];lia,s8 _ _ ar,s8 _ _ (U _ _ (ae _ _ g6)),az,λH9 as h9 d0 fs k9 e9 b1 b2 b3 bh b4 b5 am ag bg a1=>⟨rfl,?_⟩⟩;have s9:De H7 H9:=Ft np aw k9;have ac:=U.trans s9;have af:=ac _ _ S;have bc:L.length=i:=by
   have:=congrArg List.length M;rw[zAb,zAb,zAb,zAo] at this
   lia
  refine⟨sl,_,_,rfl,rfl,af,(by rw[zAb,zCE];lia),?_⟩;have ap:L.map xV++[V.ref p]=(L++[VS.mk p r.nm r.t (r.rs.map Ka) r.wt]).map xV:=by rw[zAp];rfl
  rw[ap];have a3:p≠sl:=(Ae (U _ _ S) np).symm;have a2:as≠sl:=(Ae (s8 _ _ (U _ _ S)) ag).symm;have bi:h9≠sl:=(Ae (s8 _ _ (U _ _ S)) a1).symm;have up:∀ {b:Addr} {o:HO},b≠sl->H b=none->H9 b=some o->WP sl (Nw H (upd H9 sl (.lst ((L++[VS.mk p r.nm r.t (r.rs.map Ka) r.wt]).map xV)))) b=some o:=λn f y=>WP.of n (Nw.of f (by rw[Ag n];exact y));have fp:=(ae.trans U).free np;have fc:=(ae.trans (U.trans s8)).free ag;have aq:=s5.trans (s6.trans ac);refine ax _ _ ⟨⟨_,_,_,_,_,rfl⟩,⟨_,Aa,λx Y=>?_,?_⟩,λb o y=>?_⟩
  .rcases zAs.mp Y with g|g
   .exact (aj x g).same λb o y=>by
     obtain⟨n,y⟩:=WP.at y;obtain⟨y0,y1⟩:=Nw.at y;exact up n y0 (aq _ _ y1)
   .rw[zAm.mp g]
    refine⟨d0,fs,u,as,ys,up a3 fp e9,b1,b2,b3,b4,b5,VN.same (λb o y=>?_) _ cd,up a2 fc am,c1.mono λt C dx fs z=>?_,by show (r.rs.map Ka).length<=8;rw[zAb];lia⟩
    .obtain⟨y1,y2⟩:=Nw.at y
     exact up (λe=>by rw[e,aa] at y1;cases y1) (s4.free y1) (ac _ _ (s6 _ _ y2))
    .obtain⟨z0,z1⟩:=Nw.at z
     have z9:=ac _ _ z1;exact up (Ar z9 af (by intro e;cases e)) (ab.free z0) z9
  .rw[zAp,M,Be Y,zAp,zAp]
   rfl
  .rw[Ag (Ae y al)]
   exact aq _ _ (s4 b o y)
 .rintro σ H3 ⟨⟨o2,o3,o4,o5,o6,rfl⟩,⟨L,a4,aj,M⟩,s3⟩
  rw[zAb,zAB] at M;have bc:L.length=rows.length:=by
   have:=congrArg List.length M
   rwa [zAb,zAb,zAb] at this
  have ah:∀ x∈L,VT (Nw H H3) x:=λx Y=>(aj x Y).same λb o y=>(WP.at y).2;have ao:∀ x∈L,VT H3 x:=λx Y=>(ah x Y).same (Nw.sub H H3);have be:L.map (·.nm)=rows.map (·.nm):=by
   have:=congrArg (List.map (λy:Str×Ia×List Cl×Bool=>y.1)) M;rw[zBq,zBq,zBq] at this;exact this
  refine (vE rfl (λbk db ai av ay=>?_));have s4:De H3 (upd (upd H3 db (.own bk)) bk (.ins CB db [])):=(Af av _).trans (Af (by rw[Ag (Ne.symm ay)];exact ai) _);have ba:(L.map MA).map Rc=L.map xV:=by rw[zBq];rfl
  refine⟨bk,db,sl,L.map MA,rfl,Aa,by rw[ba];exact s4 _ _ a4,(IT ao).same s4,by rw[zAb];lia,?_,λcl ak H5 k5 B bf a0=>⟨rfl,?_⟩⟩
  .rw[zBq]
   show (L.map (·.nm)).Nodup;rw[be];exact N.nd
  .have s5:De H3 H5:=Ft ai av k5
   exact q bk cl ak L H5 (s3.trans s5) B (s3.free ai) ((s3.trans s4).free a0) (λx Y=>(ah x Y).same (Nw.grow λb o _ e=>s5 _ _ e)) M
def Pa (J:Pm P w K mg base):Jc J 8 "_law_book" ["_law_covers_here"] L8:=GP J.z J.rj bd λf fd F=>Uy J F (C_law_condition J 3)
end
def MI:Option Int->V
 |none=>.non
 |some d=>.int d
def HI (c:Option Int) (day:Int):Prop:=∀ d,c=some d->d<day
inductive OD (vs:List V) (H:Hp) (Q:VK) (E:XK):Prop
 |mk (c:_) (day:Int) (z0:vs=[MI c,.int day]) (z1:HI c day) (z2:Q .non H)
inductive PU (CD:Addr) (vs:List V) (H:Hp) (Q:VK) (E:XK):Prop
 |mk (x wl nl kvs c:_) (n day:Int) (z0:vs=[.ref x,MI c,.int n,.int day]) (z1:Dy CD H x wl nl) (z2:H nl=some (.dK kvs)) (z3:Dr kvs (.inl n)=none) (z4:HI c day) (z5:Q .non H)
inductive OZ (vs:List V) (H:Hp) (Q:VK) (E:XK):Prop
 |mk (c:_) (day:Int) (z0:vs=[MI c,.int day]) (z1:0<=day) (z2:day<=1000000) (z3:HI c day) (z4:Q (.bl true) H)
inductive NA (vs:List V) (H:Hp) (Q:VK) (E:XK):Prop
 |mk (a kvs v:_) (n:Int) (z0:vs=[.ref a,.int n]) (z1:H a=some (.dK kvs)) (z2:Dr kvs (.inl n)=some v) (z3:0<=n) (z4:n<=1000000000) (z5:Q .non H)
section
variable {P:Program} {w:World} {K:zAa} {mg:Str->Option Value} {base:Heap} (J:Pm P w K mg base)
def Wi:Jc J 1 "check_open" ["closed","day"] OD:=Gb J.z J.qh ["closed","day"] df λsc H Q hr h=>by
 obtain⟨c,j,rfl,g,q⟩:=h;refine⟨_,(Ac (Au (PW.pt (Pu (Ak Vg (pv 0) Ep (An _)) (Lj (Ak Gk (pv 1) (pv 0) (An _)))))
    (Ac Bs)
    Al)),?_⟩
 cases c with
 |none=>exact vE rfl ⟨rfl,vE rfl (nF rfl (Cy q))⟩
 |some d=>
  have:=g d rfl;exact vE rfl ⟨rfl,vE rfl (nT (λe=>by cases e) (vE rfl (vE rfl ⟨_,_,rfl,rfl,vE rfl (dF (by lia) q)⟩)))⟩
def Yu:Jc J 2 "check_free" ["days","closed","number","day"] (PU CD):=Gb J.z J.qi ["days","closed","number","day"] df λsc H Q hr h=>by
 obtain⟨x,B,z,g,c,n,j,rfl,F,M,L,U,q⟩:=h;refine⟨_,(Ab (Au (Bg (Bo (Xo J) (hr.mono (by decide)) (pv 0) (Bj (pv 2))))
    (Ac Bs)
    Al)
   (Ac (Bc (Cb (Wi J) hr (Bb (pv 1) (pv 3)))))),?_⟩
 obtain⟨dx,S⟩:=id F;refine vE rfl ⟨x,dx,_,rfl,S,MT B z,vE rfl ⟨x,B,z,g,n,rfl,F,M,?_⟩⟩;rw[L];exact vE rfl (Cy (vE rfl (vE rfl ⟨c,j,rfl,U,q⟩)))
def Vc:Jc J 3 "opens_close" ["closed","day"] OZ:=Gb J.z J.qj ["closed","day"] df λsc H Q hr h=>by
 obtain⟨c,g,rfl,j,B,z,q⟩:=h;refine⟨_,(Ab (Au (Bp (Bg (Cb (E5 J) hr (Bj (pv 1)))))
    (Ac Bs)
    Al)
   (Ac (Ai (OO (Ez Mi (pv 0) Ep (An _)) (Kc (Ez Ng (pv 1) (pv 0) (An _))))))),?_⟩
 have e:N7 1000000 (.int g)=true:=decide_eq_true ⟨j,B⟩;refine vE rfl ⟨_,_,rfl,.int _,?_⟩;rw[e];refine vE rfl (Cy ?_);cases c with
 |none=>exact vE rfl ⟨rfl,vE rfl (dT rfl q)⟩
 |some d=>
  have:=z d rfl;have e2:decide (d<g)=true:=decide_eq_true this;rw[<- e2] at q;exact vE rfl ⟨rfl,vE rfl (dF (λe=>by cases e) (vE rfl (vE rfl ⟨_,_,rfl,rfl,q⟩)))⟩
def Yi:Jc J 3 "check_told" ["kept","number"] NA:=Gb J.z J.qk ["kept","number"] df λsc H Q hr h=>by
 have g:=Ql hr;obtain⟨a,j,v,n,rfl,B,z,F,n1,q⟩:=h;refine⟨_,(Ac (Au (PW.pt (Eb (Bp (Bg (Cb (Qn J) hr (Bj (pv 1))))) (Dx (LU (M9 g (pv 1) (pv 0))))))
    (Ac Bs)
    Al)),?_⟩
 have e:N7 1000000000 (.int n)=true:=decide_eq_true ⟨F,n1⟩;refine vE rfl ⟨_,_,rfl,.int _,?_⟩;rw[e];refine vE rfl (Cy (vE rfl (vE rfl ⟨a,_,rfl,WH.k (k:=.inl n) B,?_⟩)));rw[z];exact vE rfl (Cy q)
end
def U2 (f:List VS->Sp):Sp:=λvs H Q E=>∃ bs,f bs vs H Q E
def Rb {w:World} {K:zAa} {mg:Str->Option Value} {CX:DE} {k:Nat} {f:Addr} {ps:List Str} {g:List VS->Sp} (h:∀ bs,Lp P w K mg base CX k f fd ps (g bs)):Lp P w K mg base CX k f fd ps (U2 g):=
 ⟨λvs H Q E ⟨bs,q⟩=>(h bs).len vs H Q E q,λA outer s H j L vs Q E hr B z F ⟨bs,q⟩=>(h bs).run A outer s H j L vs Q E hr B z F q⟩
def VX (bs:List VS):Jz->List LF->List (List Ih)->Jz->Prop
 |k,[],[],k'=>k'=k
 |k,z::zs,S::Ss,k'=>Du k z (Cq z bs) S/\VX bs (Fd z S (Cq z bs) k) zs Ss k'
 |_,_,_,_=>False
theorem VX.snoc {bs:List VS} {z:LF} {S:List Ih}:∀ {zs} {Ss} {k j},VX bs k zs Ss j->Du j z (Cq z bs) S->VX bs k (zs++[z]) (Ss++[S]) (Fd z S (Cq z bs) j)
 |[],[],k,j,h,g=>by
  have e:j=k:=h;subst e;exact⟨g,rfl⟩
 |[],_::_,_,_,h,_=>h.elim
 |_::_,[],_,_,h,_=>h.elim
 |y::zs,U::Ss,k,j,h,g=>⟨h.1,VX.snoc (zs:=zs) h.2 g⟩
theorem VX.len {bs:List VS}:∀ {zs} {Ss} {k g},VX bs k zs Ss g->zs.length=Ss.length
 |[],[],_,_,_=>rfl
 |[],_::_,_,_,h=>h.elim
 |_::_,[],_,_,h=>h.elim
 |y::zs,U::Ss,k,g,h=>by rw[zAf,zAf,VX.len h.2]
theorem VX.int {bs:List VS}:∀ {zs} {Ss} {k g},WL k->VX bs k zs Ss g->WL g
 |[],[],k,g,i,h=>by
  have e:g=k:=h;rw[e];exact i
 |[],_::_,_,_,_,h=>h.elim
 |_::_,[],_,_,_,h=>h.elim
 |y::zs,U::Ss,k,g,i,h=>VX.int (zs:=zs) (Mo i) h.2
theorem Pi {z:LF} {S:List Ih}:∀ {xs} {k},(∀ x∈xs,x.cs.length<=3)->(Fd z S xs k).length<=k.length+3*xs.length
 |[],k,_=>zAi _
 |x::xs,k,h=>by
  have h1:=Pi (z:=z) (S:=S) (xs:=xs) (k:=En z x (Fm x.nm S).sum k x.cs.length) λy g=>h y (zAd _ g);have q:=Of (z:=z) (x:=x) (pd:=(Fm x.nm S).sum) (kvs:=k) x.cs.length;have j:=h x zAg;show (Fd z S xs _).length<=_;rw[zAf]
  lia
theorem VX.klen {bs:List VS} (j:bs.length<=4) (c3:∀ x∈bs,x.cs.length<=3):∀ {zs} {Ss} {k g},VX bs k zs Ss g->g.length<=k.length+12*zs.length
 |[],[],k,g,h=>by
  have e:g=k:=h;rw[e];exact zAi _
 |[],_::_,_,_,h=>h.elim
 |_::_,[],_,_,h=>h.elim
 |y::zs,U::Ss,k,g,h=>by
  have h1:=VX.klen j c3 (zs:=zs) h.2;have B:=Pi (z:=y) (S:=U) (xs:=Cq y bs) (k:=k) λx q=>c3 x (zAJ.mp q).1;have F:(Cq y bs).length<=bs.length:=zAE _ _;rw[zAf]
  lia
def Mu:HO->Prop
 |.tup _=>False
 |.ext _=>False
 |.tbl _=>False
 |_=>True
structure Rl where
 r:Addr
 b:Addr
 cp:Addr
 kp:Addr
 dy:Addr
 wl:Addr
 nl:Addr
 lr:Addr
 oc:Addr
def Oj (R:Rl) (c:Option Int):List (Str×V):=[("book",.ref R.b),("counts",.ref R.cp),("days",.ref R.dy),("closed",MI c),("loss_rows",.ref R.lr),("outcomes",.ref R.oc)]
def Rl.own (R:Rl):List Addr:=[R.r,R.cp,R.kp,R.dy,R.wl,R.nl,R.lr,R.oc]
structure WE (bs:List VS) (D:Addr->Prop) (H:Hp) (R:Rl) (c:Option Int) (es:List Wl) (zs:List LF) (Ss:List (List Ih)) (rows:List LF) (ns:List Int):Prop where
 hr:∃ dx,H R.r=oI CR dx (Oj R c)
 ct:∃ kv,WB CN H R.cp R.kp kv/\VX bs [] zs Ss kv
 dy:Dy CD H R.dy R.wl R.nl
 wt:∃ xs,H R.wl=oL xs/\TsAt W1 H xs es
 el:∀ e∈es,H e.1=oT e.2.vs
 nm:∃ ks,H R.nl=some (.dK ks)/\ks.length<=ns.length/\∀ n,Dr ks (.inl n)≠none->n∈ns
 ls:∃ xs,H R.lr=oL xs/\TsAt LF.vs H xs rows
 oc:∃ om,H R.oc=some (.dK om)/\om.length<=zs.length/\∀ (i:Nat) z S,zs[i]?=some z->Ss[i]?=some S->∃ p ys,Dr om (.inl z.n)=some (.ref p)/\D p/\p≠R.wl/\p≠R.lr/\H p=oL ys/\WA H ys S/\S.length<64
 ap:R.wl≠R.lr/\R.nl≠R.oc
 own:∀ a∈R.own,D a
 al:∀ a,D a->a≠TT/\∃ o,H a=some o/\Mu o
def UZ (R:Rl) (c:Option Int):(Oj R c).lookup ("book" : Str)=some (.ref R.b):=rfl
def UR (R:Rl) (c:Option Int):(Oj R c).lookup ("counts" : Str)=some (.ref R.cp):=rfl
def RO (R:Rl) (c:Option Int):(Oj R c).lookup ("days" : Str)=some (.ref R.dy):=rfl
def UL (R:Rl) (c:Option Int):(Oj R c).lookup ("closed" : Str)=some (MI c):=rfl
def UF (R:Rl) (c:Option Int):(Oj R c).lookup ("loss_rows" : Str)=some (.ref R.lr):=rfl
def RU (R:Rl) (c:Option Int):(Oj R c).lookup ("outcomes" : Str)=some (.ref R.oc):=rfl
def pX (R:Rl) (c:Option Int) (d:Int):Ap ("closed" : Str) (.int d) (Oj R c)=Oj R (some d):=rfl
def WE.keep {bs} {D:Addr->Prop} {H H'} {R} {c:Option Int} {es} {zs} {Ss} {rows} {ns:List Int} (h:WE bs D H R c es zs Ss rows ns)
  (k:∀ b o,H b=some o->(D b\/∃ xs,o=.tup xs)->H' b=some o):WE bs D H' R c es zs Ss rows ns:=by
 have o:=h.own;have t:∀ t ws,H t=oT ws->H' t=oT ws:=λb ws e=>k _ _ e (.inr ⟨_,rfl⟩);have g:∀ a,a∈R.own->∀ o,H a=some o->H' a=some o:=λa j o e=>k _ _ e (.inl (h.own a j));obtain⟨⟨dx,hr⟩,⟨kv,⟨⟨d2,fs,e1,e2⟩,e3⟩,M⟩,⟨d3,hd⟩,⟨xs,B,ts⟩,el,⟨ks,hn,n1,n2⟩,⟨ls,hl,tl⟩,⟨om,L,o1,o2⟩,Y,ow,U⟩:=h;refine⟨⟨dx,g _ (by simp [Rl.own]) _ hr⟩,⟨kv,⟨⟨d2,fs,g _ (by simp [Rl.own]) _ e1,e2⟩,g _ (by simp [Rl.own]) _ e3⟩,M⟩,⟨d3,g _ (by simp [Rl.own]) _ hd⟩,⟨xs,g _ (by simp [Rl.own]) _ B,ts.mono t⟩,λe he=>t _ _ (el e he),⟨ks,g _ (by simp [Rl.own]) _ hn,n1,n2⟩,⟨ls,g _ (by simp [Rl.own]) _ hl,tl.mono t⟩,⟨om,g _ (by simp [Rl.own]) _ L,o1,λi z S hz F=>?_⟩,Y,ow,λa j=>?_⟩
 .obtain⟨p,ys,g1,q,g3,g4,g5,g6,g7⟩:=o2 i z S hz F
  exact⟨p,ys,g1,q,g3,g4,k _ _ g5 (.inl q),g6.mono t,g7⟩
 .obtain⟨a1,o,Z,a3⟩:=U a j
  exact⟨a1,o,k _ _ Z (.inl j),a3⟩
def WE.same {bs} {D:Addr->Prop} {H H'} {R} {c:Option Int} {es} {zs} {Ss} {rows} {ns:List Int} (h:WE bs D H R c es zs Ss rows ns) (s:De H H'):WE bs D H' R c es zs Ss rows ns:=h.keep λb o e _=>s b o e
def FX {t g j b:Addr} {xs:List V} {ks:List (Fl×V)} {d r n:Int} {v:V} (h1:b≠t) (z:b≠g) (q:b≠j):Sa H t g j xs ks d r n v b=H b:=by
 unfold Sa;rw[Ag q,Ag z,Ag h1]
def Td {y d:Addr} (j:H y=none) (g:H d=none):De H (upd (upd H d o1) y o2):=λb o e=>by rw[Ag (Ae e j),Ag (Ae e g)];exact e
def fr {p x:Addr} {o:HO} (k:KB p H H1) (q:H1 p=some o) (g:H1 x=none):H x=none/\x≠p:=by
 have j:x≠p:=λe=>by rw[e,q] at g;cases g
 refine⟨?_,j⟩;cases z:H x with
 |none=>rfl
 |some o=>rw[k _ _ z j] at g;cases g
def Fu {p b:Addr} {o o':HO} (h:H b=some o) (n:b≠p):upd H p o' b=some o:=by rw[Ag n];exact h
def BL {p:Addr} {o:HO} (k:KB p H H1):KB p H (upd H1 p o):=λb u e n=>Fu (k b u e n) n
inductive HC (bs:List VS) (vs:List V) (H:Hp) (Q:VK) (E:XK):Prop
 |mk (p dx b:_) (z0:vs=[.ref p,.ref b]) (z1:H p=oI CR dx []) (z2:(∃ ps,H TT=some (.tbl ps))) (z3:∀ R D H',KB p H H'->R.r=p->R.b=b->(∀ a,D a->a=p\/H a=none)->WE bs D H' R none [] [] [] [] []->Q .non H')
def Yl (z:LF):Prop:=HD z.n z.d z.ev.cps.toList z.th.cps.toList z.ca.cps.toList z.ct
inductive GZ (bs:List VS) (vs:List V) (H:Hp) (Q:VK) (E:XK):Prop
 |mk (R D c es zs Ss rows ns z:_) (z0:vs=.ref R.r::LF.vs z) (z1:WE bs D H R c es zs Ss rows ns) (z2:Yl z) (z3:z.n∉ns) (z4:HI c z.d) (z5:es.length<=500) (z6:ns.length<=500) (z7:∀ l H',(∀ b o,H b=some o->¬ D b->H' b=some o)->WE bs D H' R c (es++[(l,z)]) zs Ss rows (ns++[z.n])->Q .non H')
inductive CS (bs:List VS) (vs:List V) (H:Hp) (Q:VK) (E:XK):Prop
 |mk (R D c es zs Ss rows ns:_) (i:Nat) (z S:_) (z0:vs=[.ref R.r,.int z.n]) (z1:WE bs D H R c es zs Ss rows ns) (z2:zs[i]?=some z) (z3:Ss[i]?=some S) (z4:Yl z) (z5:∀ a ys H',De H H'->H a=none->H' a=oL ys->WA H' ys S->Q (.ref a) H')
inductive AF (bs:List VS) (vs:List V) (H:Hp) (Q:VK) (E:XK):Prop
 |mk (R D c es zs Ss rows ns:_) (z0:vs=[.ref R.r]) (z1:WE bs D H R c es zs Ss rows ns) (z2:rows.length<=500) (z3:∀ a xs H',De H H'->H a=none->H' a=oL xs->TsAt LF.vs H' xs rows->Q (.ref a) H')
section
variable {P:Program} {w:World} {K:zAa} {mg:Str->Option Value} {base:Heap} (J:Pm P w K mg base)
def Mh (J:Pm P w K mg base) {f:Addr} {bs:List VS} (F:WC K "__init__" "Roll.__init__" Hy f fd):Lp P w K mg base Ec 3 f fd ["self","book"] (HC bs):=Kt F ["self","book"] df λsc H Q hr h=>by
 obtain⟨p,dx,b,rfl,hp,⟨a7,hT⟩,q⟩:=h;refine⟨_,(Ab (Bh (pv 0) (pv 1) rfl)
   (Ab (Bh (pv 0) (Sw (FQ J) (hr.mono (by decide)) rfl) rfl)
   (Ab (Bh (pv 0) (Sw (QM J) (hr.mono (by decide)) rfl) rfl)
   (Ab (Bh (pv 0) Ep rfl)
   (Ab (Bh (pv 0) (Bf Cn) rfl)
   (Ac (Bh (pv 0) Xk rfl))))))),?_⟩
 refine vE rfl (vE rfl ⟨p,CR,dx,_,rfl,hp,J.ag.cl,J.ii,(by decide),?_⟩);have k1:KB p H (upd H p (.ins CR dx (Ap "book" (.ref b) []))):=λb u e n=>Fu e n;have e1:upd H p (.ins CR dx (Ap "book" (.ref b) [])) p=oI CR dx [("book",.ref b)]:=Aa;generalize upd H p (.ins CR dx (Ap "book" (.ref b) []))=H1 at k1 e1;intro cp d2 M ax a9;have sC:De H1 (upd (upd H1 d2 (.own cp)) cp (.ins CN d2 [])):=Td M ax;have eC:upd (upd H1 d2 (.own cp)) cp (.ins CN d2 []) cp=oI CN d2 []:=Aa;refine⟨cp,d2,rfl,eC,(λkp H2 kb ct fk=>⟨rfl,?_⟩)⟩;have L:p≠cp:=Ae e1 M;have k2:KB p H H2:=λb u e n=>kb _ _ (sC _ _ (k1 _ _ e n)) (Ae (k1 _ _ e n) M);have e2:=kb _ _ (sC _ _ e1) L;have a6:=fr k1 e1 M;have a4:H1 kp=none:=sC.free fk;have g:=fr k1 e1 a4;refine vE rfl ⟨p,CR,dx,_,rfl,e2,J.ag.cl,J.gb,(by show 1<1000;decide),?_⟩;have k3:=BL (o:=.ins CR dx (Ap "counts" (.ref cp) [("book",.ref b)])) k2;have e3:upd H2 p (.ins CR dx (Ap "counts" (.ref cp) [("book",.ref b)])) p=oI CR dx [("book",.ref b),("counts",.ref cp)]:=Aa;obtain⟨⟨d4,fs,ec,av⟩,ek⟩:=ct;have ad:=Fu (o':=.ins CR dx (Ap "counts" (.ref cp) [("book",.ref b)])) ec L.symm;have ac:=Fu (o':=.ins CR dx (Ap "counts" (.ref cp) [("book",.ref b)])) ek g.2;generalize upd H2 p (.ins CR dx (Ap "counts" (.ref cp) [("book",.ref b)]))=H3 at k3 e3 ad ac;intro dy d3 j a1 a8;have sD:De H3 (upd (upd H3 d3 (.own dy)) dy (.ins CD d3 [])):=Td j a1;have eD:upd (upd H3 d3 (.own dy)) dy (.ins CD d3 []) dy=oI CD d3 []:=Aa;refine⟨dy,d3,rfl,eD,(λwl nl H4 k4 fw fn ey ew en=>⟨rfl,?_⟩)⟩
 have U:p≠dy:=Ae e3 j;have a0:=fr k3 e3 j;have Y:=fr k3 e3 (sD.free fw);have B:=fr k3 e3 (sD.free fn);have a5:KB p H H4:=λb u e n=>k4 _ _ (sD _ _ (k3 _ _ e n)) (Ae (k3 _ _ e n) j);have e4:=k4 _ _ (sD _ _ e3) U;have a2:=k4 _ _ (sD _ _ ad) (Ae ad j);have aw:=k4 _ _ (sD _ _ ac) (Ae ac j);refine vE rfl ⟨p,CR,dx,_,rfl,e4,J.ag.cl,J.bu,(by show 2<1000;decide),?_⟩;have k5:=BL (o:=.ins CR dx (Ap "days" (.ref dy) [("book",.ref b),("counts",.ref cp)])) a5;have e5:upd H4 p (.ins CR dx (Ap "days" (.ref dy) [("book",.ref b),("counts",.ref cp)])) p=oI CR dx [("book",.ref b),("counts",.ref cp),("days",.ref dy)]:=Aa;have ar:=Fu (o':=.ins CR dx (Ap "days" (.ref dy) [("book",.ref b),("counts",.ref cp)])) a2 L.symm;have al:=Fu (o':=.ins CR dx (Ap "days" (.ref dy) [("book",.ref b),("counts",.ref cp)])) aw g.2;have au:=Fu (o':=.ins CR dx (Ap "days" (.ref dy) [("book",.ref b),("counts",.ref cp)])) ey U.symm;have as:=Fu (o':=.ins CR dx (Ap "days" (.ref dy) [("book",.ref b),("counts",.ref cp)])) ew Y.2;have ap:=Fu (o':=.ins CR dx (Ap "days" (.ref dy) [("book",.ref b),("counts",.ref cp)])) en B.2;generalize upd H4 p (.ins CR dx (Ap "days" (.ref dy) [("book",.ref b),("counts",.ref cp)]))=H5 at k5 e5 ar al au as ap;refine vE rfl ⟨p,CR,dx,_,rfl,e5,J.ag.cl,J.bo,(by show 3<1000;decide),?_⟩;have k6:=BL (o:=.ins CR dx (Ap "closed" .non [("book",.ref b),("counts",.ref cp),("days",.ref dy)])) k5;have e6:upd H5 p (.ins CR dx (Ap "closed" .non [("book",.ref b),("counts",.ref cp),("days",.ref dy)])) p=oI CR dx [("book",.ref b),("counts",.ref cp),("days",.ref dy),("closed",.non)]:=Aa
 have aj:=Fu (o':=.ins CR dx (Ap "closed" .non [("book",.ref b),("counts",.ref cp),("days",.ref dy)])) ar L.symm;have ai:=Fu (o':=.ins CR dx (Ap "closed" .non [("book",.ref b),("counts",.ref cp),("days",.ref dy)])) al g.2;have aq:=Fu (o':=.ins CR dx (Ap "closed" .non [("book",.ref b),("counts",.ref cp),("days",.ref dy)])) au U.symm;have aa:=Fu (o':=.ins CR dx (Ap "closed" .non [("book",.ref b),("counts",.ref cp),("days",.ref dy)])) as Y.2;have ae:=Fu (o':=.ins CR dx (Ap "closed" .non [("book",.ref b),("counts",.ref cp),("days",.ref dy)])) ap B.2;generalize upd H5 p (.ins CR dx (Ap "closed" .non [("book",.ref b),("counts",.ref cp),("days",.ref dy)]))=H6 at k6 e6 aj ai aq aa ae;refine⟨zAu _,λlr ag=>?_⟩;have ab:=fr k6 e6 ag;have s7:=Af ag (.lst []);have ao:upd H6 lr (.lst []) lr=oL []:=Aa;generalize upd H6 lr (.lst [])=H7 at s7 ao;refine vE rfl ⟨p,CR,dx,_,rfl,(s7 _ _ e6),J.ag.cl,J.bq,(by show 4<1000;decide),?_⟩;have k8:=BL (o:=.ins CR dx (Ap "loss_rows" (.ref lr) [("book",.ref b),("counts",.ref cp),("days",.ref dy),("closed",.non)])) (λb u e n=>s7 _ _ (k6 b u e n):KB p H H7);have u8:∀ a o,H7 a=some o->a≠p->upd H7 p (.ins CR dx (Ap "loss_rows" (.ref lr) [("book",.ref b),("counts",.ref cp),("days",.ref dy),("closed",.non)])) a=some o:=λa o e n=>Fu e n;have e8:upd H7 p (.ins CR dx (Ap "loss_rows" (.ref lr) [("book",.ref b),("counts",.ref cp),("days",.ref dy),("closed",.non)])) p=oI CR dx [("book",.ref b),("counts",.ref cp),("days",.ref dy),("closed",.non),("loss_rows",.ref lr)]:=Aa
 generalize upd H7 p (.ins CR dx (Ap "loss_rows" (.ref lr) [("book",.ref b),("counts",.ref cp),("days",.ref dy),("closed",.non)]))=H8 at k8 u8 e8;intro oc af;have am:=fr k8 e8 af;have s9:=Af af (.dK []);have ak:upd H8 oc (.dK []) oc=some (.dK []):=Aa;generalize upd H8 oc (.dK [])=H9 at s9 ak;refine vE rfl ⟨p,CR,dx,_,rfl,(s9 _ _ e8),J.ag.cl,J.bc,(by show 5<1000;decide),?_⟩;have all:∀ a o,H6 a=some o->a≠p->upd H9 p (.ins CR dx (Ap "outcomes" (.ref oc) [("book",.ref b),("counts",.ref cp),("days",.ref dy),("closed",.non),("loss_rows",.ref lr)])) a=some o:=λa o e n=>Fu (s9 _ _ (u8 _ _ (s7 _ _ e) n)) n;have a3:wl≠lr:=Ae aa ag;have az:nl≠oc:=Ae (u8 _ _ (s7 _ _ ae) B.2) af;have T1:=Fu (o':=.ins CR dx (Ap "outcomes" (.ref oc) [("book",.ref b),("counts",.ref cp),("days",.ref dy),("closed",.non),("loss_rows",.ref lr)])) (s9 _ _ (u8 _ _ ao ab.2)) ab.2;have T2:=Fu (o':=.ins CR dx (Ap "outcomes" (.ref oc) [("book",.ref b),("counts",.ref cp),("days",.ref dy),("closed",.non),("loss_rows",.ref lr)])) ak am.2;have T3:upd H9 p (.ins CR dx (Ap "outcomes" (.ref oc) [("book",.ref b),("counts",.ref cp),("days",.ref dy),("closed",.non),("loss_rows",.ref lr)])) p=oI CR dx (Oj ⟨p,b,cp,kp,dy,wl,nl,lr,oc⟩ none):=Aa;have an:=BL (o:=.ins CR dx (Ap "outcomes" (.ref oc) [("book",.ref b),("counts",.ref cp),("days",.ref dy),("closed",.non),("loss_rows",.ref lr)])) (λb u e n=>s9 _ _ (k8 b u e n):KB p H H9);have c1:=all _ _ aj L.symm;have c2:=all _ _ ai g.2;have c3:=all _ _ aq U.symm;have c4:=all _ _ aa Y.2
 have c5:=all _ _ ae B.2;generalize upd H9 p (.ins CR dx (Ap "outcomes" (.ref oc) [("book",.ref b),("counts",.ref cp),("days",.ref dy),("closed",.non),("loss_rows",.ref lr)]))=ay at T1 T2 T3 an c1 c2 c3 c4 c5;have ah:∀ a∈Rl.own ⟨p,b,cp,kp,dy,wl,nl,lr,oc⟩,a=p\/H a=none:=λa Z=>by
  simp only [Rl.own,zAn,zBc,or_false] at Z;rcases Z with rfl|rfl|rfl|rfl|rfl|rfl|rfl|rfl
  .exact .inl rfl
  .exact .inr a6.1
  .exact .inr g.1
  .exact .inr a0.1
  .exact .inr Y.1
  .exact .inr B.1
  .exact .inr ab.1
  .exact .inr am.1
 refine q ⟨p,b,cp,kp,dy,wl,nl,lr,oc⟩ (λa=>a∈Rl.own ⟨p,b,cp,kp,dy,wl,nl,lr,oc⟩) ay an rfl rfl ah ⟨⟨dx,T3⟩,⟨[],⟨⟨d4,fs,c1,av⟩,c2⟩,rfl⟩,⟨d3,c3⟩,⟨[],c4,trivial⟩,λe he=>(by cases he),⟨[],c5,zAi _,λn h=>absurd rfl h⟩,⟨[],T1,trivial⟩,⟨[],T2,zAi _,λi z S h=>by simp at h⟩,⟨a3,az⟩,λa Z=>Z,λa Z=>⟨λy=>?_,?_⟩⟩
 .rcases ah a Z with z|z
  .rw[<- y,z,hp] at hT;cases hT
  .rw[<- y,z] at hT;cases hT
 .simp only [Rl.own,zAn,zBc,or_false] at Z
  rcases Z with rfl|rfl|rfl|rfl|rfl|rfl|rfl|rfl
  .exact⟨_,T3,trivial⟩
  .exact⟨_,c1,trivial⟩
  .exact⟨_,c2,trivial⟩
  .exact⟨_,c3,trivial⟩
  .exact⟨_,c4,trivial⟩
  .exact⟨_,c5,trivial⟩
  .exact⟨_,T1,trivial⟩
  .exact⟨_,T2,trivial⟩
def BB:Jk J 3 "Roll" CR ["self","book"] (U2 (HC)):=UJ J.z J.ag J.jq bd λf fd F=>Rb λbs=>Mh J F
def Rj (J:Pm P w K mg base) {f:Addr} {bs:List VS} (F:WC K "enter" "Roll.enter" Lv f fd):Lp P w K mg base Ec 5 f fd ["self","number","day","event","thing","cause","cents"] (GZ bs):=Kt F ["self","number","day","event","thing","cause","cents","loss"] df λsc H Q hr h=>by
 obtain⟨R,D,c,es,zs,Ss,rows,ns,z,rfl,RA,gz,ae,af,le,ln,q⟩:=h;refine⟨_,(Ab (Ce sc 7 (Cb (Y3 J) hr (Ah (pv 1) (Ah (pv 2) (Ah (pv 3) (Ah (pv 4) (Bb (pv 5) (pv 6))))))))
   (Ab (Bc (Cb (Yu J) hr (Ah (Aw (pv 0) rfl) (Ah (Aw (pv 0) rfl) (Bb (pv 1) (pv 2))))))
   (Ac (Bc (Bo (TV J) (hr.mono (by decide)) (Aw (pv 0) rfl) (Ah (pv 2) (Ah (Op J.z J.j3) (Bb (pv 1) (pv 7))))))))),?_⟩
 refine Hu λN eN=>?_;refine vE rfl (vE rfl (vE rfl (vE rfl (vE rfl (vE rfl ⟨z.n,z.d,z.ev.cps.toList,z.th.cps.toList,z.ca.cps.toList,z.ct,by rw[Jw,Jw,Jw];rfl,gz,λl H1 s1 fl hl=>?_⟩)))));rw[Jw,Jw,Jw] at hl;have ab:H1 l=oT z.vs:=hl;clear hl;refine Fq eN [oR R.r,oN z.n,oN z.d,oS z.ev,oS z.th,oS z.ca,oN z.ct,oR l] rfl λN eN=>?_;have B:=RA.same s1;obtain⟨dx,L⟩:=B.hr;obtain⟨xs,Y,ts⟩:=B.wt;obtain⟨U,M,n1,n2⟩:=B.nm;obtain⟨d3,hd⟩:=id B.dy;have nn:Dr U (.inl z.n)=none:=by
  cases e:Dr U (.inl z.n) with
  |none=>rfl
  |some v=>exact absurd (n2 z.n (by rw[e];exact λy=>by cases y)) ae
 refine vE rfl ⟨R.r,CR,dx,_,_,rfl,L,J.ag.cl,J.bu,(RO R c),(vE rfl ⟨R.r,CR,dx,_,_,rfl,L,J.ag.cl,J.bo,(UL R c),(vE rfl (vE rfl ⟨R.dy,R.wl,R.nl,U,c,z.n,z.d,rfl,B.dy,M,nn,af,?_⟩))⟩)⟩;have lx:=ts.len
 first|refine Nt eN λN eN=>?_|subst eN
 refine vE rfl ⟨R.r,CR,dx,_,_,rfl,L,J.ag.cl,J.bu,RO R c,R.dy,d3,_,rfl,hd,PD _ _,vE rfl (vE rfl (vE rfl ⟨R.dy,R.wl,R.nl,xs,U,z.d,0,z.n,.ref l,rfl,B.dy,Y,by lia,M,by lia,λt ht=>?_⟩))⟩;have ag:t≠R.wl:=(Ae Y ht).symm;have ac:t≠R.nl:=(Ae M ht).symm;have ad:R.wl≠R.nl:=Ar Y M (by intro y;cases y);have j:∀ b o,H1 b=some o->b≠R.wl->b≠R.nl->Sa H1 t R.wl R.nl xs U z.d 0 z.n (.ref l) b=some o:=λb o e h1 h2=>by rw[FX (Ae e ht) h1 h2];exact e
 have et:Sa H1 t R.wl R.nl xs U z.d 0 z.n (.ref l) t=oT [.int z.d,.int 0,.int z.n,.ref l]:=by
  unfold Sa;rw[Ag ac,Ag ag];exact Aa
 have ew:Sa H1 t R.wl R.nl xs U z.d 0 z.n (.ref l) R.wl=oL (xs++[.ref t]):=by
  unfold Sa;rw[Ag ad];exact Aa
 have en:Sa H1 t R.wl R.nl xs U z.d 0 z.n (.ref l) R.nl=some (.dK (Eu U (.inl z.n) (.bl true))):=Aa;generalize Sa H1 t R.wl R.nl xs U z.d 0 z.n (.ref l)=H2 at j et ew en;have tk:∀ b ws,H1 b=oT ws->H2 b=oT ws:=λb ws e=>j _ _ e (Ar e Y (by intro y;cases y)) (Ar e M (by intro y;cases y));have dw:=B.own R.wl (by simp [Rl.own]);have dn:=B.own R.nl (by simp [Rl.own]);have ap:=B.ap;refine q l H2 (λb o e nd=>j _ _ (s1 _ _ e) (λy=>nd (y▸dw)) (λy=>nd (y▸dn))) ?_;obtain⟨kv,⟨⟨d2,fs,e1,e2⟩,e3⟩,ru⟩:=B.ct;obtain⟨ls,aa,ah⟩:=B.ls;obtain⟨om,ho,o1,o2⟩:=B.oc;refine⟨⟨dx,j _ _ L (Ar L Y (by intro y;cases y)) (Ar L M (by intro y;cases y))⟩,⟨kv,⟨⟨d2,fs,j _ _ e1 (Ar e1 Y (by intro y;cases y)) (Ar e1 M (by intro y;cases y)),e2⟩,j _ _ e3 (Ar e3 Y (by intro y;cases y)) (Ar e3 M (by intro y;cases y))⟩,ru⟩,⟨d3,j _ _ hd (Ar hd Y (by intro y;cases y)) (Ar hd M (by intro y;cases y))⟩,⟨_,ew,(ts.mono tk).snoc et⟩,λe he=>?_,⟨_,en,?_,λn Z=>?_⟩,⟨ls,j _ _ aa ap.1.symm (Ar aa M (by intro y;cases y)),ah.mono tk⟩,⟨om,j _ _ ho (Ar ho Y (by intro y;cases y)) ap.2.symm,o1,λi z' S hz hS=>?_⟩,ap,B.own,λa ha=>?_⟩
 .rcases zAs.mp he with g|g
  .exact tk _ _ (B.el e g)
  .rw[zAm.mp g]
   exact tk _ _ ab
 .have:=Ff U (.inl z.n) (.bl true)
  rw[zAj,zAU]
  lia
 .rw[Lr] at Z
  by_cases y:(Sum.inl n:Fl)=.inl z.n
  .exact zAs.mpr (.inr (zAm.mpr (Sum.inl.inj y)))
  .rw[if_neg y] at Z
   exact zAs.mpr (.inl (n2 n Z))
 .obtain⟨p,ys,g1,g2,g3,g4,g5,g6,g7⟩:=o2 i z' S hz hS
  exact⟨p,ys,g1,g2,g3,g4,j _ _ g5 g3 (Ar g5 M (by intro y;cases y)),g6.mono tk,g7⟩
 .obtain⟨a1,o,a2,a3⟩:=B.al a ha
  refine⟨a1,?_⟩;by_cases yw:a=R.wl
  .rw[yw];exact⟨_,ew,trivial⟩
  by_cases yn:a=R.nl
  .rw[yn];exact⟨_,en,trivial⟩
  .exact⟨o,j _ _ a2 yw yn,a3⟩
def KP:∀ bs,Jm J 5 CR "enter" ["self","number","day","event","thing","cause","cents"] (GZ bs):=λbs=>Jr J.z J.mr J.ag.cl bd λf fd F=>Rj J F
def Vt (J:Pm P w K mg base) {f:Addr} {bs:List VS} (F:WC K "told" "Roll.told" Nl f fd):Lp P w K mg base Ec 4 f fd ["self","number"] (CS bs):=Kt F ["self","number"] df λsc H Q hr h=>by
 have B:=Ql hr;obtain⟨R,D,c,es,zs,Ss,rows,ns,i,z,S,rfl,U,hz,hS,gz,q⟩:=h;refine⟨_,(Ab (Bc (Cb (Yi J) hr (Bb (Aw (pv 0) rfl) (pv 1))))
   (Ac (Ai (Cz (Bx (K:=K) rfl) rfl (J.z.nn J.ax) (show zCF _=some (.type "list") from rfl) (Bj (EU B (Aw (pv 0) rfl) (pv 1) (λ_ _=>rfl))))))),?_⟩
 obtain⟨dx,j⟩:=U.hr;obtain⟨om,M,_,o2⟩:=U.oc;obtain⟨p,ys,Y,_,_,_,Z,g6,_⟩:=o2 i z S hz hS;have g:=of_decide_eq_true gz.1;refine vE rfl ⟨R.r,CR,dx,_,_,rfl,j,J.ag.cl,J.bc,(RU R c),(vE rfl ⟨R.oc,om,_,z.n,rfl,M,Y,g.1,g.2,?_⟩)⟩;exact vE rfl ⟨R.r,CR,dx,_,_,rfl,j,J.ag.cl,J.bc,RU R c,vE rfl ⟨R.oc,_,rfl,Y▸WH.k (k:=.inl z.n) M,p,ys,rfl,.inl (Dl.of Z),λl L=>q l ys _ (Af L _) L Aa (g6.mono (Aq (Af L _)))⟩⟩
def CU:Jm J 4 CR "told" ["self","number"] (U2 (CS)):=Jr J.z J.nq J.ag.cl bd λf fd F=>Rb λbs=>Vt J F
def Oc (J:Pm P w K mg base) {f:Addr} {bs:List VS} (F:WC K "settled" "Roll.settled" Jh f fd):Lp P w K mg base Ec 1 f fd ["self"] (AF bs):=Kt F ["self"] df λsc H Q hr h=>by
 obtain⟨R,D,c,es,zs,Ss,rows,ns,rfl,z,L,q⟩:=h;refine⟨_,(Ac (Ai (Cz (Bx (K:=K) rfl) rfl (J.z.nn J.ax) (show zCF _=some (.type "list") from rfl) (Bj (Aw (pv 0) rfl))))),?_⟩;obtain⟨dx,j⟩:=z.hr;obtain⟨xs,hl,B⟩:=z.ls;exact vE rfl ⟨R.r,CR,dx,_,_,rfl,j,J.ag.cl,J.bq,UF R c,R.lr,xs,rfl,.inl (Dl.of hl),λl g=>q l xs _ (Af g _) g Aa (B.mono (Aq (Af g _)))⟩
def AU:Jm J 1 CR "settled" ["self"] (U2 (AF)):=Jr J.z J.kc J.ag.cl bd λf fd F=>Rb λbs=>Oc J F
end
open Classical in
noncomputable def VO (D:Addr->Prop) (T:Addr) (H:Hp):Hp:=λb=>if D b\/b=T then none else H b
set_option tactic.hygienic true in
def VO.at {D:Addr->Prop} {b:Addr} {o:HO} (h:VO D TT H b=some o):¬ D b/\b≠TT/\H b=some o:=by
 unfold VO at h
 split at h
 .cases h
 .rename_i n
  exact⟨λy=>n (.inl y),λy=>n (.inr y),h⟩
def VO.of {D:Addr->Prop} {b:Addr} {o:HO} (n:¬ D b) (t:b≠TT) (h:H b=some o):VO D TT H b=some o:=by
 unfold VO;rw[if_neg (λy=>y.elim n t)];exact h
def Gz {D D':Addr->Prop} {H H':Hp} (f:∀ b o,H b=some o->¬ D b->b≠TT->H' b=some o) (g:∀ b,D' b->D b\/H b=none):De (VO D TT H) (VO D' TT H'):=λb o h=>by
 obtain⟨h1,q,j⟩:=VO.at h;refine VO.of (λy=>?_) q (f b o j h1 q);rcases g b y with z|z
 .exact h1 z
 .rw[z] at j;cases j
def EL {D:Addr->Prop} {H H':Hp} (f:∀ b o,H b=some o->¬ D b->b≠TT->H' b=some o):De (VO D TT H) H':=λb o h=>by
 obtain⟨h1,g,j⟩:=VO.at h;exact f b o j h1 g
def Ei {H H':Hp} {b:Addr} {bs:List VS} (h:Fw H b bs) (s:De H H'):Fw H' b bs:=by
 obtain⟨dx,fs,g,h1,q,B,z⟩:=h;exact⟨dx,fs,g,s _ _ h1,q,s _ _ B,λx j=>(z x j).same s⟩
section
variable {bs:List VS} {D:Addr->Prop} {H H1:Hp} {R:Rl} {c:Option Int} {es:List Wl} {zs:List LF} {Ss:List (List Ih)} {rows:List LF} {ns:List Int}
def WE.step {r:Addr} {ys:List V} {S:List Ih} {z:LF} (h:WE bs D H R c es zs Ss rows ns) (ru:VX bs [] zs Ss kv) (F:H R.kp=some (.dT kv)) (k:∀ b o,H b=some o->b≠R.kp->H1 b=some o) (hr:H r=none) (e1:H1 r=oL ys) (st:WA H1 ys S) (aa:S.length<64)
  (so:Du kv z (Cq z bs) S) (ct:WB CN H1 R.cp R.kp (Fd z S (Cq z bs) kv)) (q:H R.oc=some (.dK om)) (ae:om.length<=zs.length) (ad:∀ (i:Nat) z S,zs[i]?=some z->Ss[i]?=some S->∃ p ys,Dr om (.inl z.n)=some (.ref p)/\D p/\p≠R.wl/\p≠R.lr/\H p=oL ys/\WA H ys S/\S.length<64)
  (ac:∀ y∈zs,y.n≠z.n) (hT:∃ o,H TT=some o):WE bs (λa=>D a\/a=r) (upd H1 R.oc (.dK (Eu om (.inl z.n) (.ref r)))) R c es (zs++[z]) (Ss++[S]) rows ns:=by
 have j:=k _ _ q (Ar q F (by intro y;cases y));have up:∀ b o,H1 b=some o->b≠R.oc->upd H1 R.oc (.dK (Eu om (.inl z.n) (.ref r))) b=some o:=λb o e n=>Fu e n;have eo:upd H1 R.oc (.dK (Eu om (.inl z.n) (.ref r))) R.oc=some (.dK (Eu om (.inl z.n) (.ref r))):=Aa;generalize upd H1 R.oc (.dK (Eu om (.inl z.n) (.ref r)))=H2 at up eo;have B:∀ b o,H b=some o->b≠R.kp->b≠R.oc->H2 b=some o:=λb o e n1 n2=>up _ _ (k _ _ e n1) n2;have Y:∀ b ws,H b=oT ws->H2 b=oT ws:=λb ws e=>B _ _ e (Ar e F (by intro y;cases y)) (Ar e q (by intro y;cases y));have Z:∀ b ws,H1 b=oT ws->H2 b=oT ws:=λb ws e=>up _ _ e (Ar e j (by intro y;cases y));have len:=ru.len;obtain⟨⟨dx,h1⟩,_,⟨d3,h3⟩,⟨xs,U,ts⟩,el,⟨ks,hn,n1,n2⟩,⟨ls,hl,tl⟩,_,ap,ow,al⟩:=h;obtain⟨⟨d2,fs,c1,c2⟩,c3⟩:=ct;refine⟨⟨dx,B _ _ h1 (Ar h1 F (by intro y;cases y)) (Ar h1 q (by intro y;cases y))⟩,⟨_,⟨⟨d2,fs,up _ _ c1 (Ar c1 j (by intro y;cases y)),c2⟩,up _ _ c3 (Ar c3 j (by intro y;cases y))⟩,ru.snoc so⟩,⟨d3,B _ _ h3 (Ar h3 F (by intro y;cases y)) (Ar h3 q (by intro y;cases y))⟩,⟨xs,B _ _ U (Ar U F (by intro y;cases y)) (Ar U q (by intro y;cases y)),ts.mono Y⟩,λe he=>Y _ _ (el e he),⟨ks,B _ _ hn (Ar hn F (by intro y;cases y)) ap.2,n1,n2⟩,⟨ls,B _ _ hl (Ar hl F (by intro y;cases y)) (Ar hl q (by intro y;cases y)),tl.mono Y⟩,⟨_,eo,?_,λi z' S' L M=>?_⟩,ap,λa ha=>.inl (ow a ha),λa ha=>?_⟩
 .have:=Ff om (.inl z.n) (.ref r)
  rw[zAj,zAU]
  lia
 .by_cases hi:i<zs.length
  .rw[zBB hi] at L
   rw[zBB (by lia)] at M;obtain⟨p,ab,g1,g2,g3,g4,g5,g6,g7⟩:=ad i z' S' L M;refine⟨p,ab,?_,.inl g2,g3,g4,B _ _ g5 (Ar g5 F (by intro y;cases y)) (Ar g5 q (by intro y;cases y)),g6.mono Y,g7⟩;rw[Lr,if_neg (λy=>ac z' (zAC L) (Sum.inl.inj y))];exact g1
  .rw[zBp (by lia)] at L
   rw[zBp (by lia)] at M;have e0:i-zs.length=0:=by
    have:=(zAl.mp L).1;rw[zAU] at this
    lia
   rw[e0] at L;rw[show i-Ss.length=0 by lia] at M;cases L;cases M;refine⟨r,ys,by rw[Lr,if_pos rfl],.inr rfl,λy=>?_,λy=>?_,up _ _ e1 (Ar e1 j (by intro y;cases y)),st.mono Z,aa⟩
   .rw[y,U] at hr;cases hr
   .rw[y,hl] at hr;cases hr
 .rcases ha with g|g
  .obtain⟨a1,o,a2,a3⟩:=al a g
   refine⟨a1,?_⟩;by_cases y1:a=R.oc
   .rw[y1];exact⟨_,eo,trivial⟩
   by_cases y2:a=R.kp
   .rw[y2];exact⟨_,up _ _ c3 (Ar c3 j (by intro y;cases y)),trivial⟩
   .exact⟨o,B _ _ a2 y2 y1,a3⟩
  .subst g
   refine⟨λy=>?_,_,up _ _ e1 (Ar e1 j (by intro y;cases y)),trivial⟩;obtain⟨o,hT⟩:=hT;rw[<- y,hr] at hT;cases hT
def WE.ext {xs vs:List V} {us:List LF} (h:WE bs D H R c es zs Ss rows ns) (hl:H R.lr=oL xs) (tl:TsAt LF.vs H (xs++vs) us):WE bs D (upd H R.lr (.lst (xs++vs))) R c es zs Ss us ns:=by
 have up:∀ b o,H b=some o->b≠R.lr->upd H R.lr (.lst (xs++vs)) b=some o:=λb o e n=>Fu e n;have j:upd H R.lr (.lst (xs++vs)) R.lr=oL (xs++vs):=Aa;generalize upd H R.lr (.lst (xs++vs))=H2 at up j;have g:∀ b ws,H b=oT ws->H2 b=oT ws:=λb ws e=>up _ _ e (Ar e hl (by intro y;cases y));obtain⟨⟨dx,h1⟩,⟨kv,⟨⟨d2,fs,c1,c2⟩,c3⟩,ru⟩,⟨d3,U⟩,⟨B,hw,ts⟩,el,⟨ks,Z,n1,n2⟩,_,⟨om,F,o1,o2⟩,L,ow,al⟩:=h;refine⟨⟨dx,up _ _ h1 (Ar h1 hl (by intro y;cases y))⟩,⟨kv,⟨⟨d2,fs,up _ _ c1 (Ar c1 hl (by intro y;cases y)),c2⟩,up _ _ c3 (Ar c3 hl (by intro y;cases y))⟩,ru⟩,⟨d3,up _ _ U (Ar U hl (by intro y;cases y))⟩,⟨B,up _ _ hw L.1,ts.mono g⟩,λe he=>g _ _ (el e he),⟨ks,up _ _ Z (Ar Z hl (by intro y;cases y)),n1,n2⟩,⟨_,j,tl.mono g⟩,⟨om,up _ _ F (Ar F hl (by intro y;cases y)),o1,λi z S hz hS=>?_⟩,L,ow,λa ha=>?_⟩
 .obtain⟨p,q,g1,g2,g3,Y,g5,g6,g7⟩:=o2 i z S hz hS
  exact⟨p,q,g1,g2,g3,Y,up _ _ g5 Y,g6.mono g,g7⟩
 .obtain⟨a1,o,a2,a3⟩:=al a ha
  refine⟨a1,?_⟩;by_cases M:a=R.lr
  .rw[M];exact⟨_,j,trivial⟩
  .exact⟨o,up _ _ a2 M,a3⟩
def WE.shut {d:Int} (h:WE bs D H R c es zs Ss rows ns) (hr:H R.r=oI CR dx (Oj R c)) (n1:CR≠CN) (n2:CR≠CD):WE bs D (upd H R.r (.ins CR dx (Oj R (some d)))) R (some d) es zs Ss rows ns:=by
 have up:∀ b o,H b=some o->b≠R.r->upd H R.r (.ins CR dx (Oj R (some d))) b=some o:=λb o e n=>Fu e n;have q:upd H R.r (.ins CR dx (Oj R (some d))) R.r=oI CR dx (Oj R (some d)):=Aa;generalize upd H R.r (.ins CR dx (Oj R (some d)))=H2 at up q;have g:∀ b ws,H b=oT ws->H2 b=oT ws:=λb ws e=>up _ _ e (Ar e hr (by intro y;cases y));obtain⟨_,⟨kv,⟨⟨d2,fs,c1,c2⟩,c3⟩,ru⟩,⟨d3,j⟩,⟨M,U,ts⟩,el,⟨ks,hn,B,L⟩,⟨ls,hl,tl⟩,⟨om,Y,o1,o2⟩,ap,ow,al⟩:=h;refine⟨⟨dx,q⟩,⟨kv,⟨⟨d2,fs,up _ _ c1 (λy=>?_),c2⟩,up _ _ c3 (Ar c3 hr (by intro y;cases y))⟩,ru⟩,⟨d3,up _ _ j (λy=>?_)⟩,⟨M,up _ _ U (Ar U hr (by intro y;cases y)),ts.mono g⟩,λe he=>g _ _ (el e he),⟨ks,up _ _ hn (Ar hn hr (by intro y;cases y)),B,L⟩,⟨ls,up _ _ hl (Ar hl hr (by intro y;cases y)),tl.mono g⟩,⟨om,up _ _ Y (Ar Y hr (by intro y;cases y)),o1,λi z S hz hS=>?_⟩,ap,ow,λa ha=>?_⟩
 .rw[y,hr] at c1
  cases c1
 .rw[y,hr] at j
  cases j
 .obtain⟨p,F,g1,g2,g3,g4,g5,g6,g7⟩:=o2 i z S hz hS
  exact⟨p,F,g1,g2,g3,g4,up _ _ g5 (Ar g5 hr (by intro y;cases y)),g6.mono g,g7⟩
 .obtain⟨a1,o,a2,a3⟩:=al a ha
  refine⟨a1,?_⟩;by_cases Z:a=R.r
  .rw[Z];exact⟨_,q,trivial⟩
  .exact⟨o,up _ _ a2 Z,a3⟩
def WE.up {xs:List V} (h:WE bs D H R c es zs Ss rows ns) (k:∀ b o,H b=some o->b≠TT->b≠R.dy->H1 b=some o) (dy:Dy CD H1 R.dy wl R.nl) (fw:H wl=none) (hw:H1 wl=oL xs) (ts:TsAt W1 H1 xs L) (sub:∀ e∈L,e∈es) (nC:CD≠CN) (nR:CR≠CD) (hT:∃ ps,H TT=some (.tbl ps)) :
  WE bs (λa=>D a\/a=wl) H1 { R with wl:=wl } c L zs Ss rows ns:=by
 obtain⟨⟨dx,h1⟩,⟨kv,⟨⟨d2,fs,c1,c2⟩,c3⟩,ru⟩,⟨d3,j⟩,⟨ad,ab,aa⟩,el,⟨ks,hn,n1,n2⟩,⟨ls,hl,tl⟩,⟨om,ho,o1,o2⟩,ap,q,al⟩:=h;have nT:∀ a,D a->a≠TT:=λa B=>(al a B).1;have F:∀ a,a∈R.own->∀ o,H a=some o->a≠R.dy->H1 a=some o:=λa B o e n=>k _ _ e (nT a (q a B)) n;obtain⟨ac,hT⟩:=hT;have Z:∀ b ws,H b=oT ws->H1 b=oT ws:=λb ws e=>k _ _ e (Ar e hT (by intro y;cases y)) (Ar e j (by intro y;cases y));have nw:∀ b o,H b=some o->b≠wl:=λb o e=>Ae e fw;refine⟨⟨dx,F _ (by simp [Rl.own]) _ h1 (λy=>?_)⟩,⟨kv,⟨⟨d2,fs,F _ (by simp [Rl.own]) _ c1 (λy=>?_),c2⟩,F _ (by simp [Rl.own]) _ c3 (Ar c3 j (by intro y;cases y))⟩,ru⟩,dy,⟨xs,hw,ts⟩,λe he=>Z _ _ (el e (sub e he)),⟨ks,F _ (by simp [Rl.own]) _ hn (Ar hn j (by intro y;cases y)),n1,n2⟩,⟨ls,F _ (by simp [Rl.own]) _ hl (Ar hl j (by intro y;cases y)),tl.mono Z⟩,⟨om,F _ (by simp [Rl.own]) _ ho (Ar ho j (by intro y;cases y)),o1,λi z S hz hS=>?_⟩,⟨(nw _ _ hl).symm,ap.2⟩,λa B=>?_,λa B=>?_⟩
 .have M:R.r=R.dy:=y
  rw[M,j] at h1;cases h1
 .have M:R.cp=R.dy:=y
  rw[M,j] at c1;cases c1
 .obtain⟨p,Y,g1,g2,g3,g4,U,g6,g7⟩:=o2 i z S hz hS
  exact⟨p,Y,g1,.inl g2,nw _ _ U,g4,k _ _ U (nT p g2) (Ar U j (by intro y;cases y)),g6.mono Z,g7⟩
 .simp only [Rl.own,zAn,zBc,or_false] at B
  rcases B with rfl|rfl|rfl|rfl|rfl|rfl|rfl|rfl
  .exact .inl (q _ (by simp [Rl.own]))
  .exact .inl (q _ (by simp [Rl.own]))
  .exact .inl (q _ (by simp [Rl.own]))
  .exact .inl (q _ (by simp [Rl.own]))
  .exact .inr rfl
  .exact .inl (q _ (by simp [Rl.own]))
  .exact .inl (q _ (by simp [Rl.own]))
  .exact .inl (q _ (by simp [Rl.own]))
 .rcases B with g|g
  .obtain⟨a1,o,a2,a3⟩:=al a g
   refine⟨a1,?_⟩;by_cases y1:a=R.dy
   .obtain⟨d9,h9⟩:=dy
    rw[y1];exact⟨_,h9,trivial⟩
   .exact⟨o,k _ _ a2 a1 y1,a3⟩
  .subst g
   refine⟨λy=>?_,_,hw,trivial⟩;rw[y,hT] at fw;cases fw
end
theorem Qr {f:LF->List V}:∀ {xs ys} {as cs},TsAt f H xs as->TsAt f H ys cs->TsAt f H (xs++ys) (as++cs)
 |[],_,[],_,_,h=>h
 |[],_,_::_,_,h,_=>h.elim
 |_::_,_,[],_,h,_=>h.elim
 |x::xs,ys,a::as,cs,⟨h,r⟩,g=>⟨h,Qr r g⟩
theorem Ud {H:Hp}:∀ {es:List Wl},(∀ e∈es,H e.1=oT e.2.vs)->TsAt LF.vs H (es.map λe=>V.ref e.1) (es.map (·.2))
 |[],_=>trivial
 |e::es,h=>⟨⟨e.1,rfl,h e zAg⟩,Ud λx g=>h x (zAd _ g)⟩
structure DV (bs:List VS):Prop where
 hm:∀ x∈bs,Ob x.t<4
 l4:bs.length<=4
 nd:(bs.map (·.nm)).Nodup
 c3:∀ x∈bs,x.cs.length<=3
inductive Ue (bs:List VS) (vs:List V) (H:Hp) (Q:VK) (E:XK):Prop
 |mk (R D c es zs Ss ns:_) (day:Int) (z0:vs=[.ref R.r,.int day]) (z1:WE bs D H R c es zs Ss zs ns) (z2:Fw (VO D TT H) R.b bs) (z3:DV bs) (z4:HI c day) (z5:0<=day) (z6:day<=1000000) (z7:zs.length+es.length<=50) (z8:((zs++es.map (·.2)).map (·.n)).Nodup) (z9:(∀ e∈es,0<e.2.ct)) (z10:LamAt TT Dg Fh H) (z11:∀ (a:Addr) (R':Rl) (D':Addr->Prop) (es':List Wl) (Ss':List (List Ih)) (H':Hp),R'.r=R.r->R'.b=R.b->(∀ b o,H b=some o->¬ D b->b≠TT->H' b=some o)->(∀ b,D' b->D b\/H b=none)->LamAt TT Dg Fh H'->es'.Perm (es.filter λe=>decide (e.2.d<=day))->es'.Pairwise (LQ Q0)->WE bs D' H' R' (some day) (es.filter λe=>decide (day<e.2.d)) (zs++es'.map (·.2)) (Ss++Ss') (zs++es'.map (·.2)) ns->H a=none->¬ D' a->H' a=oL (es'.map λe=>V.int e.2.n)->Q (.ref a) H')
section
variable {P:Program} {w:World} {K:zAa} {mg:Str->Option Value} {base:Heap}
def Rv (J:Pm P w K mg base) {f} {fd} {bs} (F:WC K "close" "Roll.close" Kz f fd):Lp P w K mg base Ec 9 f fd ["self","day"] (Ue bs):=Kt F ["self","day","losses","loss"] df λsc H Q hr h=>by
 have bz:=Ql hr;obtain⟨R,D,c,es,zs,Ss,ns,L,rfl,RA,bm,bk,af,d0,d1,le,nd,pos,bl,q⟩:=h;refine⟨_,(Ab (Au (Bp (Bg (Cb (Vc J) hr (Bb (Aw (pv 0) rfl) (pv 1)))))
    (Ac (Ai (Bf Cn)))
    Al)
   (Ab (Bh (pv 0) (pv 1) rfl)
   (Ab (Ef (NC:=["entry"]) (own:=["entry"]) (cs:=[]) (ix:=[]) (j:=2) sc.nd rfl rfl rfl (Dt.of rfl) rfl trivial (Go K (Bo (JB J) (hr.mono (by decide)) (Aw (pv 0) rfl) (Bj (pv 1)))) (λ_ _ _=>(Jq 0)) (λ_ _ _=>Bw) (λ_ _ _=>(Da K (pv 0) Ad)))
   (Ab (Bk PassesOwn.never rfl (Go K (pv 2)) (Fj sc 3)
    (Ac (Vs bz (Aw (pv 0) rfl) (Da K (pv 3) (Op J.z J.cq)) (Cb (GA J) hr (Ah (Aw (pv 0) rfl) (Bb (Aw (pv 0) rfl) (pv 3)))) rfl)))
   (Ab (Bc (Db (K:=K) rfl PySem.F.plainAttrs_list PySem.F.slot_list_extend PySem.F.type_list_extend Gv (Aw (pv 0) rfl) (Bj (pv 2))))
   (Ac (Ai (Cc (NC:=["loss"]) (own:=["loss"]) (cs:=[]) (ix:=[]) rfl (Dt.of rfl) rfl trivial (Go K (pv 2)) (λ_ _ _=>(Jq 0)) (λ_ _ _=>Bw) (λ_ _ _=>(Da K (pv 0) (Op J.z J.cq))))))))))),?_⟩
 refine Hu λN Z=>?_;obtain⟨dx,am⟩:=RA.hr;refine vE rfl ⟨R.r,CR,dx,_,_,rfl,am,J.ag.cl,J.bo,UL R c,vE rfl ⟨c,L,rfl,d0,d1,af,vE rfl (Cy ?_)⟩⟩
 first|refine Nt Z λN Z=>?_|subst Z
 refine vE rfl (vE rfl ⟨R.r,CR,dx,_,rfl,am,J.ag.cl,J.bo,by show 6<1000;decide,?_⟩);rw[pX];have ab:([CN,CD,CR]:List Addr).Nodup:=by
  have bg:=List.Nodup.sublist (List.drop_sublist 15 _) VJ;exact bg
 have b2:CD≠CN:=λy=>by rw[y] at ab;simp at ab
 have bq:CR≠CN:=λy=>by rw[y] at ab;simp at ab
 have av:CR≠CD:=λy=>by rw[y] at ab;simp at ab
 have RB:=RA.shut (d:=L) am bq av;have k1:∀ b o,H b=some o->b≠R.r->upd H R.r (.ins CR dx (Oj R (some L))) b=some o:=λb o e n=>Fu e n;have ag:LamAt TT Dg Fh (upd H R.r (.ins CR dx (Oj R (some L)))):=bl.ins am _;have f1:∀ x,upd H R.r (.ins CR dx (Oj R (some L))) x=none->H x=none:=λx hx=>by
  cases z:H x with
  |none=>rfl
  |some o=>
   by_cases y:x=R.r
   .rw[y,Aa] at hx;cases hx
   .rw[k1 _ _ z y] at hx;cases hx
 generalize upd H R.r (.ins CR dx (Oj R (some L)))=H1 at RB k1 ag f1;obtain⟨ba,a4⟩:=RB.hr;obtain⟨bt,bi,b1⟩:=RB.wt;obtain⟨d3,a1⟩:=id RB.dy
 first|refine Nt Z λN Z=>?_|subst Z
 refine vE rfl ⟨R.r,CR,ba,_,_,rfl,a4,J.ag.cl,J.bu,RO R _,R.dy,d3,_,rfl,a1,RQ _ _,vE rfl ⟨R.dy,R.wl,R.nl,bt,es,L,rfl,RB.dy,bi,b1,by lia,ag,λwl r ys us B H2 k2 bv fw b6 b5 br bp au bh pm pw an=>?_⟩⟩;obtain⟨b3,ar⟩:∃ ps,H1 TT=some (.tbl ps):=by
  rcases ag with z|⟨_,z,_⟩
  .exact⟨_,z⟩
  .exact⟨_,z⟩
 have l':B.length<=es.length:=by rw[pm.length_eq];exact zAE _ _
 have sub:∀ e∈B,e∈es:=λe M=>(zAJ.mp (pm.mem_iff.mp M)).1;have RC:=RB.up k2 bv fw br bp (λe M=>(zAJ.mp M).1) b2 av ⟨_,ar⟩;have bf:∀ e∈B,H2 e.1=oT e.2.vs:=λe M=>k2 _ _ (RB.el e (sub e M)) (Ar (RB.el e (sub e M)) ar (by intro y;cases y)) (Ar (RB.el e (sub e M)) a1 (by intro y;cases y));have dr:=RA.own R.r (by simp [Rl.own]);have dd:=RA.own R.dy (by simp [Rl.own]);refine⟨r,rfl,⟨_,Dl.of au⟩,λp hp=>?_⟩;refine Ul (fv:=W1) (g:=λe=>V.ref e.1) au hp bh (by lia) (λt e H9 Q9 _ _ ht q9=>vE rfl (vI rfl rfl (Jy.of ht) rfl q9)) ?_;have np:¬ (D p\/p=wl):=λy=>by
  obtain⟨_,o,e,_⟩:=RC.al p y;rw[hp] at e;cases e
 have s3:=Af hp (.lst (B.map λe=>V.ref e.1));have ak:upd H2 p (.lst (B.map λe=>V.ref e.1)) p=oL (B.map λe=>V.ref e.1):=Aa;have RD:=RC.same s3;have ae:=an.same s3;have fp:H p=none:=f1 p (by
  cases z:H1 p with
  |none=>rfl
  |some o=>
   by_cases y1:p=TT
   .rcases an with z|⟨_,z,_⟩
    .rw[<- y1,hp] at z;cases z
    .rw[<- y1,hp] at z;cases z
   by_cases y2:p=R.dy
   .exact absurd (.inl (y2▸dd)) np
   .rw[k2 _ _ z y1 y2] at hp;cases hp)
 refine Fq Z [oR R.r,oN L,oR p,none] rfl λN Z=>?_;generalize upd H2 p (.lst (B.map λe=>V.ref e.1))=H3 at s3 ak RD ae;have al:∀ b o,H b=some o->¬ D b->b≠TT->H3 b=some o/\¬ (D b\/b=wl):=λb o e n1 n2=>by
  have e1:=k1 _ _ e (λy=>n1 (y▸dr));refine⟨s3 _ _ (k2 _ _ e1 n2 (λy=>n1 (y▸dd))),λy=>?_⟩;rcases y with y|y
  .exact n1 y
  .exact Ae e1 fw y
 have ap:∀ e∈B,H3 e.1=oT e.2.vs:=λe M=>s3 _ _ (bf e M);have a3:∀ e∈B,¬ (D e.1\/e.1=wl):=λe M y=>by
  obtain⟨_,o,e1,n⟩:=RD.al _ y;rw[ap e M] at e1;cases e1;exact n
 have bj:((zs++B.map (·.2)).map (·.n)).Nodup:=by
  have q1:((zs++(es.filter λe=>decide (e.2.d<=L)).map (·.2)).map (·.n)).Nodup:=List.Nodup.sublist ((List.Sublist.append (List.Sublist.refl _) (List.filter_sublist.map _)).map _) nd;exact (((pm.map (·.2)).append_left zs).map (·.n)).nodup_iff.mpr q1
 obtain⟨b7,ai⟩:∃ ps,H3 TT=some (.tbl ps):=by
  rcases ae with z|⟨_,z,_⟩
  .exact⟨_,z⟩
  .exact⟨_,z⟩
 refine vE rfl ⟨p,rfl,⟨_,Dl.of ak⟩,?_⟩;refine Ea (K:=K) (a:=p) (xs:=B.map λe=>V.ref e.1) (λi σ H4=>(∃ o,σ=[oR R.r,oN L,oR p,o])/\∃ (D4:Addr->Prop) (aa:List (List Ih)),WE bs D4 H4 { R with wl:=wl } (some L) (es.filter λe=>decide (L<e.2.d)) (zs++(B.take i).map (·.2)) (Ss++aa) zs ns/\(∀ a,D4 a->(D a\/a=wl)\/H3 a=none)/\(∀ a,(D a\/a=wl)->D4 a)/\(∀ b o,H3 b=some o->¬ (D b\/b=wl)->H4 b=some o))
  ⟨⟨none,rfl⟩,_,[],by rw[zAV,zAY,zAL,zAL];exact RD,λa h=>.inl h,λa h=>h,λ_ _ e _=>e⟩ (λi σ H4 _ hh=>by
   obtain⟨_,D4,aa,_,_,_,Y⟩:=hh;exact Dl.of (Y _ _ ak np)) ?_ ?_
 .rintro i y σ H4 hi ⟨⟨o,rfl⟩,D4,aa,RE,g4,j4,Y⟩ N9 a8
  rw[zAy] at hi;obtain⟨e,M,rfl⟩:=zAP.mp hi;have me:=zAC M;have U:=Y _ _ (ap e me) (a3 e me);obtain⟨ad,ac⟩:=RE.hr;obtain⟨kv,a2,ru⟩:=RE.ct;obtain⟨om,ao,o1,o2⟩:=RE.oc;have az:=Ei bm (EL λb o h1 h2 h3=>Y _ _ (al b o h1 h2 h3).1 (al b o h1 h2 h3).2);have lt:((B.take i).map (·.2)).length<=es.length:=by rw[zAb,zAo];lia
  have kl:=ru.klen bk.l4 bk.c3;rw[zAj] at kl o1;have a9:kv.length<=700:=by
   rw[zCq] at kl
   lia
  have l8:=bk.l4;refine vE rfl ⟨R.r,CR,ad,_,_,rfl,ac,J.ag.cl,J.ii,UZ _ _,vE rfl ⟨R.r,CR,ad,_,_,rfl,ac,J.ag.cl,J.gb,UR _ _,vE rfl ⟨R.b,R.cp,R.kp,kv,e.1,e.2,bs,rfl,az,bk.hm,by lia,bk.nd,a2,ru.int (λk v h=>by simp [Dr] at h),a9,U,pos e (sub e me),λr5 b4 S H5 k5 ah bn bu a7 bo bx=>?_⟩⟩⟩;have aj:=a2.hk;have b0:=k5 _ _ ao (Ar ao aj (by intro y;cases y));have be:∀ y∈zs++(B.take i).map (·.2),y.n≠e.2.n:=λy hy ey=>by
   have st:(zs++(B.take i).map (·.2)++[e.2]).map (·.n)=((zs++(B.take (i+1)).map (·.2)).map (·.n)):=by
    rw[zAT,M,zAp (l₁:=B.take i),<- zAZ];rfl
   have q1:((zs++(B.take (i+1)).map (·.2)).map (·.n)).Nodup:=List.Nodup.sublist ((List.Sublist.append (List.Sublist.refl _) ((zBF _ _).map _)).map _) bj;rw[<- st,zAp,zCf] at q1;exact q1.2.2 _ (zBy hy) _ (zAm.mpr rfl) ey
  have RF:=RE.step ru aj k5 ah bn bu bo a7 bx ao (by rw[zAj];exact o1) o2 be ⟨_,Y _ _ ai (λy=>(RD.al _ y).1 rfl)⟩;refine vE rfl ⟨R.r,CR,ad,_,_,rfl,k5 _ _ ac (Ar ac aj (by intro y;cases y)),J.ag.cl,J.bc,RU _ _,vE rfl (vI rfl rfl (Jy.of (k5 _ _ U (Ar U aj (by intro y;cases y)))) rfl ⟨R.oc,_,rfl,WX.k (k:=.inl e.2.n) b0 (by rw[zCE];lia),a8 _ _ ⟨⟨_,rfl⟩,(λa=>D4 a\/a=r5),aa++[S],?_,λa h=>?_,λa h=>.inl (j4 a h),λb o h n=>?_⟩⟩)⟩
  .rw[zAT,M,zAp,<- zAZ,<- zAZ]
   exact RF
  .rcases h with h|h
   .exact g4 a h
   .subst h
    refine .inr ?_;cases z:H3 a with
    |none=>rfl
    |some o=>
     by_cases y:D a\/a=wl
     .obtain⟨_,o',e',_⟩:=RE.al a (j4 a y)
      rw[ah] at e';cases e'
     .rw[Y _ _ z y] at ah;cases ah
  .have n1:¬ D4 b:=λy=>by
    rcases g4 b y with z|z
    .exact n z
    .rw[h] at z;cases z
   have e4:=Y _ _ h n;have z1:D4 R.oc:=RE.own _ (by simp [Rl.own]);have z2:D4 R.kp:=RE.own _ (by simp [Rl.own]);rw[Ag (λy=>n1 (by rw[y];exact z1))];exact k5 _ _ e4 (λy=>n1 (by rw[y];exact z2))
 .rintro σ H4 ⟨⟨o,rfl⟩,D4,aa,RE,g4,j4,Y⟩
  rw[zAb,zAB] at RE;obtain⟨ad,ac⟩:=RE.hr;obtain⟨ls,U,a0⟩:=RE.ls;have as:=Y _ _ ak np;have ll:=a0.len
  first|refine Nt Z λN Z=>?_|subst Z
  refine vE rfl ⟨R.r,CR,ad,_,_,rfl,ac,J.ag.cl,J.bq,UF _ _,.inl ⟨rfl,_,Dl.of U⟩,vE rfl ⟨R.lr,p,ls,_,rfl,rfl,U,as,by rw[zCE,zAb];lia,?_⟩⟩;have aq:∀ e∈B,H4 e.1=oT e.2.vs:=λe M=>Y _ _ (ap e M) (a3 e M);have RG:=RE.ext (vs:=B.map λe=>V.ref e.1) U (Qr a0 (Ud aq));have a6:p≠R.lr:=λy=>np (.inl (y▸RA.own _ (by simp [Rl.own])));have k5:∀ b o,H4 b=some o->b≠R.lr->upd H4 R.lr (.lst (ls++B.map λe=>V.ref e.1)) b=some o:=λb o e n=>Fu e n;have f5:∀ x,upd H4 R.lr (.lst (ls++B.map λe=>V.ref e.1)) x=none->H4 x=none:=λx hx=>by
   by_cases y:x=R.lr
   .rw[y,Aa] at hx;cases hx
   .rw[Ag y] at hx;exact hx
  generalize upd H4 R.lr (.lst (ls++B.map λe=>V.ref e.1))=H5 at RG k5 f5;have ay:=k5 _ _ as a6;have bw:∀ e∈B,H5 e.1=oT e.2.vs:=λe M=>k5 _ _ (aq e M) (Ar (aq e M) U (by intro y;cases y))
  first|refine Nt Z λN Z=>?_|subst Z
  refine vE rfl ⟨p,rfl,⟨_,Dl.of ay⟩,λa ha=>?_⟩;refine Ul (fv:=LF.vs) (g:=λz:LF=>V.int z.n) ay ha (Ud bw) (by rw[zAb];lia) (λt z H9 Q9 _ _ ht q9=>vE rfl (vI rfl rfl (Jy.of ht) rfl q9)) ?_;rw[zBq];have s6:=Af ha (.lst (B.map ((λz:LF=>V.int z.n) ∘ λx:Wl=>x.2)));have aw:∀ b o,H b=some o->¬ D b->b≠TT->H5 b=some o:=λb o e n1 n2=>by
   obtain⟨e3,n3⟩:=al b o e n1 n2;exact k5 _ _ (Y _ _ e3 n3) (λy=>n1 (y▸RA.own _ (by simp [Rl.own])))
  have bc:∀ b,D4 b->D b\/H b=none:=λb hb=>by
   rcases g4 b hb with (z|z)|z
   .exact .inl z
   .refine .inr ?_
    rw[z];exact f1 _ fw
   .by_cases y:D b
    .exact .inl y
    refine .inr ?_;cases u:H b with
    |none=>rfl
    |some o=>
     by_cases t:b=TT
     .rw[t,ai] at z;cases z
     .rw[(al b o u y t).1] at z;cases z
  have fa:H a=none:=by
   cases u:H a with
   |none=>rfl
   |some o=>
    have a5:H5 a=none:=ha;by_cases y:D a
    .obtain⟨_,o',e',_⟩:=RG.al a (j4 a (.inl y))
     rw[a5] at e';cases e'
    by_cases t:a=TT
    .have z:=k5 _ _ (Y _ _ ai (λy=>(RD.al _ y).1 rfl)) (Ar (Y _ _ ai (λy=>(RD.al _ y).1 rfl)) U (by intro y;cases y))
     rw[<- t,a5] at z;cases z
    .rw[aw a o u y t] at a5;cases a5
  have ax:LamAt TT Dg Fh H5:=ae.mono λb o e h=>k5 _ _ (Y _ _ e (λy=>?_)) (λy=>?_)
  .exact q a { R with wl:=wl } D4 B aa _ rfl rfl (λb o e n1 n2=>s6 _ _ (aw b o e n1 n2)) bc (ax.same s6) pm pw (RG.same s6) fa (λy=>by
    obtain⟨_,o',e',_⟩:=RG.al a y;rw[ha] at e';cases e') Aa
  .obtain⟨n1,o',e',n2⟩:=RD.al b y
   rw[e] at e';cases e';rcases h with ⟨ps,h⟩|⟨φ,h⟩
   .rw[h] at n2
    exact n2
   .rw[h] at n2
    exact n2
  .rw[y] at e
   obtain⟨xs9,h9,_⟩:=RD.ls;have bb:H3 R.lr=oL xs9:=h9;rw[bb] at e;cases e;rcases h with ⟨ps,h⟩|⟨φ,h⟩ <;> cases h
def A4 (J:Pm P w K mg base):∀ bs,Jm J 9 CR "close" ["self","day"] (Ue bs):=λbs=>Jr J.z J.mt J.ag.cl bd λf fd F=>Rv J F
end
end CRL
namespace CRL
open PySem L2
def LL:List Nat:=[113,119,101,114,116,121,117,105,111,112,97,100,103,104,106,107,108,122,120,99,118,98,110,109]
def PH:Str.ofString "qwertyuiopadghjklzxcvbnm"=tx LL:=by ac_nf
def HH:∀ c∈LL,Gm c/\c≠115:=by unfold Gm;decide
def QA:LL.Nodup:=by decide
def NO {i:Int} (q:0<=i) (h1:i<24):∃ c,c∈LL/\Oq LL i=some c/\LL[i.toNat]?=some c:=by
 obtain⟨j,rfl⟩:=Int.eq_ofNat_of_zero_le q;have g:j<LL.length:=by show j<24;lia
 refine⟨LL[j],zBw _,Ge (zAe g),?_⟩;rw[show ((j:Int)).toNat=j by lia];exact zAe g
theorem GX:∀ g:List Nat,Str.join (tx []) (g.map λc=>tx [c])=tx g
 |[]=>rfl
 |[c]=>rfl
 |c::d::g=>by
  have ih:=GX (d::g);show tx [c]++tx []++Str.join (tx []) ((d::g).map λc=>tx [c])=_;rw[ih,Vn,Vn];rfl
def U9 {l:List Nat} {i j:Int} (g:0<=i) (h1:i<=j) (q:j<=l.length):Txt.slice (tx l) (some i) (some j)=tx ((l.drop i.toNat).take (j-i).toNat):=by
 show StrLaws.sliceText (tx l) (some i) (some j)=_;rw[StrLaws.sliceText_plain ⟨g,h1,q⟩];rfl
def GY {g:Nat->List Nat} (nm:∀ i,i<4->1<=(g i).length/\(g i).length<=8/\∀ c∈g i,c∈LL) (inj:∀ i j,i<4->j<4->g i=g j->i=j):GS ((zAO 4).map λi=>tx (g i)):=by
 refine JS g (by decide) (λi hi=>⟨⟨(nm i hi).1,(nm i hi).2.1⟩,λc q=>(HH c ((nm i hi).2.2 c q)).1⟩) (λi hi e=>?_) inj;have:(115:Nat)∈g i:=by rw[e];simp [BF]
 exact (HH _ ((nm i hi).2.2 _ this)).2 rfl
inductive EZ (vs:List V) (H:Hp) (Q:VK) (E:XK):Prop
 |mk (c:Int) (z0:vs=[.int c,.int 4]) (z1:∀ r ns H',De H H'->H r=none->H' r=oL (ns.map V.str)->GS ns->ns.length=4->Q (.ref r) H')
section
seal L2.PS L2.PSs L2.PE L2.PA
variable {P:Program} {w:World} {K:zAa} {mg:Str->Option Value} {base:Heap}
def Nv (J:Pm P w K mg base):Jc J 2 "_law_names" ["_law_cell_here","_law_many"] EZ:=Gb J.z J.qy ["_law_cell_here","_law_many","_law_letters","_law_picks","_law_some","_law_size","_law_at","_law_first","_law_names_here","_law_k","_law_sign"] df λsc H Q hr h=>by
 obtain⟨c,rfl,q⟩:=h;refine⟨_,(Ab (Mm (i:=2) sc.nd rfl (Or.inr rfl) Az)
   (Ab (Ef (NC:=["_law_k","_law_cell_here"]) (own:=["_law_k"]) (cs:=["_law_cell_here"]) (ix:=[0]) (j:=3) sc.nd rfl rfl rfl (Dt.of rfl) rfl ⟨⟨rfl,.inl rfl,rfl⟩,trivial⟩ (Er rfl (J.z.nn J.b7) (Bj Ad)) (λ_ _ _=>(Jq 0)) (λ_ _ _=>Bw) (λ_ _ _=>(Aj Ax (Cb (By J) hr (Bb (pv 1) (pv 0))) Ad)))
   (Ab (Mm (i:=4) sc.nd rfl (Or.inr rfl) (Db (K:=K) rfl PySem.F.plainAttrs_str PySem.F.slot_str_join PySem.F.type_str_join BJ Az (Bj (Cc (NC:=["_law_k","_law_letters"]) (own:=["_law_k"]) (cs:=["_law_letters"]) (ix:=[2]) rfl (Dt.of rfl) rfl ⟨⟨rfl,.inl rfl,rfl⟩,trivial⟩ (Go K (pv 3)) (λ_ _ _=>(Jq 0)) (λ_ _ _=>Bw) (λ_ _ _=>(K8 BO (pv 1) (pv 0) (λ_ _=>rfl)))))))
   (Ab (Au (Ak Bv (Aj Ax (pv 0) Ad) Ad (An _))
    (Ac (Ai (Cc (NC:=["_law_k","_law_some"]) (own:=["_law_k"]) (cs:=["_law_some"]) (ix:=[4]) rfl (Dt.of rfl) rfl ⟨⟨rfl,.inl rfl,rfl⟩,trivial⟩ (Er rfl (J.z.nn J.b7) (Bj (pv 1))) (λ_ _ _=>(Jq 0)) (λ_ _ _=>Bw) (λ_ _ _=>(Ek Zo (pv 1) Hl (Eh (Aj Bd (pv 0) Ad)))))))
    Al)
   (Ab (Ce sc 5 (Aj Bd Ad (Aj Ax (Aj Bm (pv 0) Ad) Ad)))
   (Ab (Ce sc 6 (Aj Ax (Aj Bm (pv 0) Ad) (pv 5)))
   (Ab (Ce sc 7 (Aj Ax (Aj Bm (pv 0) Ad) Ad))
   (Ab (Ce sc 8 (Bf Cn))
   (Ab (Bk PassesOwn.never rfl (Er rfl (J.z.nn J.b7) (Bj (pv 1))) (Fj sc 9)
    (Ab (Ce sc 10 (K8 BO (pv 2) (Aj Bd (pv 7) (pv 9)) (λ_ _=>rfl)))
   (Ac (Bc (Db (K:=K) rfl PySem.F.plainAttrs_list PySem.F.slot_list_append PySem.F.type_list_append Cm (pv 8) (Bj (Aj Hr (Aj Hr (Ek Zo (pv 4) Hl (Eh (pv 6))) (pv 10)) (Ek Zo (pv 4) (Eh (Aj Bd (pv 6) Ad)) (Eh (pv 5))))))))))
   (Ac (Ai (pv 8)))))))))))),?_⟩
 refine Hu λN eN=>?_;refine Fq eN [oN c,oN 4,oS (tx LL),none,none,none,none,none,none,none,none] (by rw[<- PH];rfl) λN eN=>?_;refine vE rfl ⟨by decide,by decide,λr ag=>?_⟩;refine Hg (lo:=0) (n:=8) (λi ys L=>∃ Y:List Int,ys=Y.map V.int/\Y.length=i/\(∀ k∈Y,0<=k/\k<24)/\L r=oL ys/\De H L) ⟨[],rfl,rfl,(λk hk=>by cases hk),Aa,Af ag _⟩
  (λi ys L _ ⟨Y,e,l,_,h1,_⟩=>⟨h1,by rw[e,zAb,l];exact zAi _⟩) (by rw[zCE];lia) (λi ys L hi ⟨Y,e,l,ok,h1,U⟩=>?_) (λys L ⟨Y,e,l,ok,h1,U⟩=>?_)
 .refine vE rfl (vE rfl ⟨c,0+(i:Int),rfl,by lia,by lia,λm Z s3 m0 m1=>⟨_,_,rfl,rfl,(by show (0:Int)<24;decide),s3 _ _ h1,rfl,Y++[m%24],?_,?_,λk hk=>?_,Aa,λx o z=>?_⟩⟩)
  .rw[e,zAp];rfl
  .rw[zAj,l];rfl
  .rcases zAs.mp hk with y|y
   .exact ok k y
   .rw[zAm.mp y]
    have:=md (a:=m) (b:=24) (by decide)
    lia
  .rw[Ag (Ae z ag)]
   exact s3 _ _ (U x o z)
 subst e;refine Fq eN [oN c,oN 4,oS (tx LL),oR r,none,none,none,none,none,none,none] rfl λN eN=>?_;have af:(tx LL).length<=sizeLine:=by
  rw[Ee,zCE]
  decide
 refine⟨rfl,vE rfl ⟨r,rfl,⟨_,Dl.of h1⟩,λr2 ae=>?_⟩⟩;have sm:∀ ys:List V,De L (upd L r2 (.lst ys)):=λys=>Af ae _;refine Bi (K:=K) (a:=r) (xs:=Y.map V.int) (λi ys Z=>Z=upd L r2 (.lst ys)/\∃ cs:List Nat,ys=cs.map (λc=>V.str (tx [c]))/\cs.length=i/\∀ c∈cs,c∈LL) ⟨rfl,[],rfl,rfl,λc hc=>by cases hc⟩ (λi ys Z _ ⟨e,cs,ec,S,_⟩=>⟨by rw[e];exact Aa,by rw[ec,zAb,S];exact zAi _,by rw[e];exact Dl.of (sm ys _ _ h1)⟩) (by rw[zCE,zAb];lia) (λi x ys Z hi ⟨e,cs,ec,S,oc⟩=>?_) (λys Z ⟨e,cs,ec,S,oc⟩=>?_)
 .rw[zAy] at hi
  obtain⟨k,hk,rfl⟩:=zAP.mp hi;obtain⟨k0,k1⟩:=ok k (zAC hk);obtain⟨d,ah,ad,_⟩:=NO k0 k1;subst e;refine vE rfl (vE rfl ⟨tx LL,k,d,rfl,rfl,af,ad,Aa,rfl,by rw[Uc],cs++[d],?_,?_,λc hc=>?_⟩)
  .rw[ec,zAp];rfl
  .rw[zAj,S];rfl
  .rcases zAs.mp hc with y|y
   .exact oc c y
   .rw[zAm.mp y];exact ah
 rw[zAb,l] at S;subst e ec;have S3:=U.trans (sm (cs.map λc=>V.str (tx [c])));have h3:upd L r2 (.lst (cs.map λc=>V.str (tx [c]))) r2=oL ((cs.map λc=>tx [c]).map V.str):=by rw[Aa,zBq];rfl
 generalize upd L r2 (.lst (cs.map λc=>V.str (tx [c])))=Z at S3 h3;have e0:Str.ofString ""=tx []:=by ac_nf
 refine⟨_,r2,cs.map λc=>tx [c],rfl,rfl,Dl.of h3,by rw[zAb];lia,by rw[e0,Ee];decide,λy hy=>?_,?_⟩
 .obtain⟨d,_,rfl⟩:=zAD.mp hy
  rw[Ee];show 1<=1000
  decide
 rw[e0,GX];refine Fq eN [oN c,oN 4,oS (tx LL),oR r,oS (tx cs),none,none,none,none,none,none] rfl λN eN=>?_;clear h1 h3 ae sm U;have ac:(tx cs).length<=sizeLine:=by rw[Ee,S,zCE];decide
 refine vE rfl (vF rfl rfl ⟨(by show (0:Int)<3;decide),rfl,vE rfl ?_⟩);by_cases c3:c%3=1
 .refine dT (congrArg V.int c3) (vE rfl (vE rfl ⟨by decide,by decide,λa ha=>?_⟩))
  refine Hg (lo:=0) (n:=4) (λi ys F=>ys=((zAO i).map λj=>tx (cs.take (j+1))).map V.str/\F a=oL ys/\De Z F) ⟨rfl,Aa,Af ha _⟩
   (λi ys F _ ⟨e,h1,_⟩=>⟨h1,by rw[e,zAb,zAb,zBe];exact zAi _⟩) (by rw[zCE];decide) (λi ys F hi ⟨e,h1,U⟩=>?_) (λys F ⟨e,h1,U⟩=>?_)
  .refine vE rfl (vE rfl (vF rfl rfl (vE rfl ⟨tx cs,rfl,ac,h1,rfl,?_,Aa,λx o z=>?_⟩)))
   .rw[Vz (by lia) (by rw[S];lia),show (0+(i:Int)+1).toNat=i+1 by lia,e,List.range_succ,zAp,zAp]
    rfl
   .rw[Ag (Ae z ha)]
    exact U x o z
  subst e;refine q a _ F (S3.trans U) (S3.free ha) h1 (GY (g:=λj=>cs.take (j+1)) (λi hi=>⟨by rw[zAo];lia,by rw[zAo];lia,λc hc=>oc c (zBQ hc)⟩) (λi j hi hj e=>?_)) (by rw[zAb,zBe]);have:=congrArg List.length e;simp only [zAo] at this
  lia
 refine dF (λz=>c3 (V.int.inj z)) ?_;have d8:=md (a:=c/3) (b:=8) (by decide);subst eN;refine vE rfl (vF rfl rfl ⟨⟨by decide,by decide⟩,_,_,rfl,rfl,(by show (0:Int)<8;decide),_,_,rfl,rfl,Ij 1 8 ⟨by lia,by lia⟩ λsz z1 z8=>?_⟩);obtain⟨n,rfl⟩:=Int.eq_ofNat_of_zero_le (show 0<=sz by lia);refine Ga [oN c,oN 4,oS (tx LL),oR r,oS (tx cs),oN n,none,none,none,none,none] rfl ?_;refine vE rfl (vF rfl rfl ⟨⟨by decide,by decide⟩,vE rfl (vF rfl rfl ⟨(by show (0:Int)<(n:Int);lia),Ij 0 ((n:Int)-1) (md (by lia)) λaj ai al=>?_⟩)⟩);obtain⟨b,rfl⟩:=Int.eq_ofNat_of_zero_le ai;have hb:b<n:=by lia
 refine Ga [oN c,oN 4,oS (tx LL),oR r,oS (tx cs),oN n,oN b,none,none,none,none] rfl ?_;have ak:=md (a:=c/192) (b:=18) (by decide);refine vE rfl (vF rfl rfl ⟨⟨by decide,by decide⟩,_,_,rfl,rfl,(by show (0:Int)<18;decide),Ij 0 17 ⟨by lia,by lia⟩ λfi f0 f1=>?_⟩);refine Ga [oN c,oN 4,oS (tx LL),oR r,oS (tx cs),oN n,oN b,oN fi,none,none,none] rfl ?_;refine⟨zAu _,λa ha=>?_⟩;refine Ga [oN c,oN 4,oS (tx LL),oR r,oS (tx cs),oN n,oN b,oN fi,oR a,none,none] rfl ?_;obtain⟨B,rfl⟩:=Int.eq_ofNat_of_zero_le f0;refine vE rfl (vE rfl ⟨by decide,by decide,?_⟩);refine Ji (lo:=0) (n:=4) (λi σ F=>(∃ o9 M,σ=[oN c,oN 4,oS (tx LL),oR r,oS (tx cs),oN n,oN b,oN B,oR a,o9,M])/\F a=oL (((zAO i).map λj=>tx (cs.take b++[LL.getD (B+j) 0]++(cs.drop (b+1)).take (n-(b+1)))).map V.str)/\De Z F)
  ⟨⟨_,_,rfl⟩,Aa,Af ha _⟩ ?_ ?_
 .rintro i σ F hi ⟨⟨o9,M,rfl⟩,h4,s4⟩
  refine Ga [oN c,oN 4,oS (tx LL),oR r,oS (tx cs),oN n,oN b,oN B,oR a,oN (0+(i:Int)),M] rfl ?_;have hL:B+i<LL.length:=by show B+i<24;lia
  have aL:Oq LL ((B:Int)+(0+(i:Int)))=some (LL.getD (B+i) 0):=by
   rw[show (B:Int)+(0+(i:Int))=((B+i:Nat):Int) by lia];refine Ge ?_;rw[zAe hL,zAq,zAe hL];rfl
  refine vE rfl (vE rfl (vE rfl (vF rfl rfl ⟨tx LL,_,_,rfl,rfl,af,aL,?_⟩)));refine Ga [oN c,oN 4,oS (tx LL),oR r,oS (tx cs),oN n,oN b,oN B,oR a,oN (0+(i:Int)),oS (tx [LL.getD (B+i) 0])] rfl ?_;have e1:Txt.slice (tx cs) none (some (b:Int))=tx (cs.take b):=by rw[Vz (by lia) (by rw[S];lia),show ((b:Int)).toNat=b by lia]
  have e2:Txt.slice (tx cs) (some ((b:Int)+1)) (some (n:Int))=tx ((cs.drop (b+1)).take (n-(b+1))):=by rw[U9 (by lia) (by lia) (by rw[S];lia),show ((b:Int)+1).toNat=b+1 by lia,show ((n:Int)-((b:Int)+1)).toNat=n-(b+1) by lia]
  refine vE rfl ⟨.inl ⟨rfl,_,Dl.of h4⟩,vE rfl (vE rfl (vE rfl ⟨tx cs,rfl,ac,?_⟩))⟩;rw[e1];refine vE rfl ⟨_,_,rfl,rfl,(by rw[Ee,Ee,zCE,zAo,zAU];lia),?_⟩;rw[Vn];refine vE rfl (vE rfl (vF rfl rfl (vE rfl (vE rfl (vE rfl ⟨tx cs,rfl,ac,?_⟩)))));rw[e2];refine⟨_,_,rfl,rfl,(by rw[Ee,Ee,zCE,zAj,zAo,zAo,zBm,zAU];lia),?_⟩;rw[Vn];refine⟨a,_,_,rfl,rfl,h4,(by rw[zAb,zAb,zBe,zCE];lia),⟨_,_,rfl⟩,?_,(λx o z=>?_)⟩
  .rw[Aa,List.range_succ,zAp,zAp]
   rfl
  .rw[Ag (Ae z ha)]
   exact s4 x o z
 .rintro σ F ⟨⟨o9,M,rfl⟩,h4,s4⟩
  refine vE rfl (q a _ F (S3.trans s4) (S3.free ha) h4 (GY (g:=λj=>cs.take b++[LL.getD (B+j) 0]++(cs.drop (b+1)).take (n-(b+1))) (λi hi=>⟨?_,?_,λd hd=>?_⟩) (λi j hi hj e=>?_)) (by rw[zAb,zBe]))
  .simp only [zAj,zAo,zBm,zAU]
   lia
  .simp only [zAj,zAo,zBm,zAU]
   lia
  .have hL:B+i<LL.length:=by show B+i<24;lia
   rcases zAs.mp hd with y|y
   .rcases zAs.mp y with y|y
    .exact oc d (zBQ y)
    .rw[zAm.mp y,zAq,zAe hL]
     exact zBw _
   .exact oc d (List.mem_of_mem_drop (zBQ y))
  .have e1:=List.append_cancel_right e
   have e2:=List.append_cancel_left e1;have e3:LL.getD (B+i) 0=LL.getD (B+j) 0:=by injection e2
   have aa:B+i<LL.length:=by show B+i<24;lia
   have ab:B+j<LL.length:=by show B+j<24;lia
   rw[zAq,zAq,zAe aa,zAe ab] at e3;have e4:LL[B+i]=LL[B+j]:=e3;have nd:=QA;rw[zAS,zAH] at nd;rcases zBr (B+i) (B+j) with y|y|y
   .exact absurd e4 (nd _ _ aa ab y)
   .lia
   .exact absurd e4.symm (nd _ _ ab aa y)
end
def BE (u:Int):Prop:=1<=u/\u<=1000000007
inductive ES (vs:List V) (H:Hp) (Q:VK) (E:XK):Prop
 |mk (c:Int) (z0:vs=[.int c]) (z1:∀ (st:Int) H',De H H'->0<=st->st<=999995->Q (.int st) H')
inductive IZ (vs:List V) (H:Hp) (Q:VK) (E:XK):Prop
 |mk (c u st:Int) (nl:_) (ns:List Str) (z0:vs=[.int c,.ref nl,.int st,.int u]) (z1:BE u) (z2:0<=st) (z3:st<=999995) (z4:H nl=oL (ns.map V.str)) (z5:ns.length=4) (z6:(∀ z∈ns,EJ z)) (z7:∀ v t H',De H H'->VR (Nw H H') v t->Ob t<3->Yv JP t->Q v H')
inductive QP (vs:List V) (H:Hp) (Q:VK) (E:XK):Prop
 |mk (c u:Int) (z0:vs=[.int c,.int u]) (z1:BE u) (z2:∀ t r H',De H H'->H t=none->H' t=oT (FI r)->okC r->Q (.ref t) H')
def Ir {ns:List Str} {i:Int} (q:0<=i) (h:i<ns.length):∃ z,z∈ns/\Oq (ns.map V.str) i=some (.str z):=by
 obtain⟨j,rfl⟩:=Int.eq_ofNat_of_zero_le q;have g:j<ns.length:=by lia
 refine⟨ns[j],zBw _,Ge ?_⟩;rw[zAy,zAe g];rfl
section
seal L2.PS L2.PSs L2.PE L2.PA
variable {P:Program} {w:World} {K:zAa} {mg:Str->Option Value} {base:Heap} (J:Pm P w K mg base)
def Yc:Jc J 1 "_law_start" ["_law_cell_here"] ES:=Gb J.z J.qz ["_law_cell_here","_law_far"] df λsc H Q hr h=>by
 obtain⟨c,rfl,q⟩:=h;refine⟨_,(Ab (Ce sc 1 (Aj Ax (Aj Bm (pv 0) Ad) Ad))
   (Ac (Ai (Jo K (Bf (Ah Ad (Ah (Aj Bd Ad (Aj El Ad (pv 1))) (Bb (Aj Il (Aj A6 Ad Ad) Ad) (Aj Bd (Aj El Ad (pv 1)) (Aj Ax (pv 1) Ad)))))) (Aj Ax (pv 0) Ad))))),?_⟩
 have four:4<=sizeLine:=by rw[zCE];decide
 refine vE rfl (vF rfl rfl ⟨⟨by decide,by decide⟩,_,_,rfl,rfl,(by show (0:Int)<2700;decide),?_⟩);refine Ij 0 2699 ⟨by have:=md (a:=c/4) (b:=2700) (by decide);lia,by have:=md (a:=c/4) (b:=2700) (by decide);lia⟩ λx x0 x1=>?_;refine Ga [oN c,oN x] rfl ?_;have c4:=md (a:=c) (b:=4) (by decide);have e6':(10:Int)^(6:Int).toNat=1000000:=by ac_nf
 refine vE rfl (vF rfl rfl ⟨.inl ⟨by decide,by decide⟩,_,_,rfl,rfl,_,_,rfl,rfl,⟨by decide,by decide,by decide⟩,_,_,rfl,rfl,?_⟩);rw[e6'];refine vE rfl (vF rfl rfl ⟨.inl ⟨by decide,by decide⟩,vE rfl (vF rfl rfl ⟨(by show (0:Int)<360;decide),_,_,rfl,rfl,four,λpl hpl=>?_⟩)⟩);have x3:=md (a:=x) (b:=360) (by decide);have sl:=Af hpl (.lst [.int 0,.int (362+365*x),.int (1000000-5),.int (365*x+x%360)]);have el:upd H pl (.lst [.int 0,.int (362+365*x),.int (1000000-5),.int (365*x+x%360)]) pl=oL [.int 0,.int (362+365*x),.int (1000000-5),.int (365*x+x%360)]:=Aa;obtain⟨m,m0,m1,hm⟩:∃ m:Int,0<=m/\m<=999995/\Oq [V.int 0,.int (362+365*x),.int (1000000-5),.int (365*x+x%360)] (c%4)=some (.int m):=by
  generalize c%4=i at c4;have z:i=0\/i=1\/i=2\/i=3:=by lia
  rcases z with rfl|rfl|rfl|rfl
  .exact⟨_,Int.le_refl _,by decide,rfl⟩
  .exact⟨_,by lia,by lia,rfl⟩
  .exact⟨_,by decide,by decide,rfl⟩
  .exact⟨_,by lia,by lia,rfl⟩
 exact vE rfl (vF rfl rfl ⟨(by show (0:Int)<4;decide),vI rfl rfl (Dl.of el) hm (q m _ sl m0 m1)⟩)
def Zd:Jc J 1 "_law_cond" ["_law_cell_here","_law_names_here","_law_start_here","_law_unit"] IZ:=Gb J.z J.r6 ["_law_cell_here","_law_names_here","_law_start_here","_law_unit","_law_one","_law_other","_law_first","_law_way"] df λsc H Q hr h=>by
 obtain⟨c,u,st,nl,ns,rfl,uo,s0,j,hn,l4,nn,q⟩:=h;refine⟨_,(Ab (Ce sc 4 (Jo K (pv 1) (Aj Ax (Aj Bm (pv 0) Ad) Ad)))
   (Ab (Ce sc 5 (Jo K (pv 1) (Aj Ax (Aj Bm (pv 0) Ad) Ad)))
   (Ab (Ce sc 6 (Aj Bd (pv 2) (Aj Ax (Aj Bm (pv 0) Ad) Ad)))
   (Ab (Ce sc 7 (Aj Ax (pv 0) Ad))
   (Ab (Au (Ak Bv (pv 7) Ad (An _))
    (Ac (Ai (Ba (Bb Az (pv 4)))))
    Al)
   (Ab (Au (Ak Bv (pv 7) Ad (An _))
    (Ac (Ai (Ba (Bb Az (pv 4)))))
    Al)
   (Ab (Au (Ak Bv (pv 7) Ad (An _))
    (Ac (Ai (Ba (Ah Az (Bb (pv 6) (Aj Bd (pv 6) (Aj Ax (Aj Bm (pv 0) Ad) Ad)))))))
    Al)
   (Ab (Au (Ak Bv (pv 7) Ad (An _))
    (Ac (Ai (Ba (Bb Az (Aj El (Aj Ax (Aj Bm (pv 0) Ad) Ad) (pv 3))))))
    Al)
   (Ab (Au (Ak Bv (pv 7) Ad (An _))
    (Ac (Ai (Ba (Bb Az (Ba (Bb Az (Bf (Bb (Ba (Bb Az (pv 4))) (Ba (Bb Az (pv 5)))))))))))
    Al)
   (Ab (Au (Ak Bv (pv 7) Ad (An _))
    (Ac (Ai (Ba (Bb Az (Bf (Bb (Ba (Bb Az (pv 4))) (Ba (Bb Az (pv 5)))))))))
    Al)
   (Ac (Ai (Ba (Bj Az)))))))))))))),?_⟩
 refine Hu λN M=>?_;have one:1<=sizeLine:=by rw[zCE];decide
 have g:2<=sizeLine:=by rw[zCE];decide
 have Y:3<=sizeLine:=by rw[zCE];decide
 have m4:∀ a:Int,0<=a%4/\a%4<ns.length:=λa=>by have:=md (a:=a) (b:=4) (by decide);lia
 obtain⟨z,i1,a1⟩:=Ir (ns:=ns) (i:=c/9%4) (m4 _).1 (m4 _).2;obtain⟨U,i2,a2⟩:=Ir (ns:=ns) (i:=c/36%4) (m4 _).1 (m4 _).2;have o1:=nn z i1;have o2:=nn U i2;refine vE rfl (vE rfl (vF rfl rfl ⟨⟨by decide,by decide⟩,_,_,rfl,rfl,(by show (0:Int)<4;decide),vI rfl rfl (Dl.of hn) a1 ?_⟩));refine Fq M [oN c,oR nl,oN st,oN u,oS z,none,none,none] rfl λN M=>?_;refine vE rfl (vE rfl (vF rfl rfl ⟨⟨by decide,by decide⟩,_,_,rfl,rfl,(by show (0:Int)<4;decide),vI rfl rfl (Dl.of hn) a2 ?_⟩));refine Fq M [oN c,oR nl,oN st,oN u,oS z,oS U,none,none] rfl λN M=>?_;refine vE rfl (vE rfl (vF rfl rfl ⟨⟨by decide,by decide⟩,_,_,rfl,rfl,(by show (0:Int)<4;decide),_,_,rfl,rfl,?_⟩));have d4:=md (a:=c/144) (b:=4) (by decide);refine Ij 0 999998 ⟨by lia,by lia⟩ λfi f0 f1=>?_;refine Fq M [oN c,oR nl,oN st,oN u,oS z,oS U,oN fi,none] rfl λN M=>?_;have d9:=md (a:=c) (b:=9) (by decide);refine vE rfl (vF rfl rfl ⟨(by show (0:Int)<9;decide),Ij 0 8 ⟨by lia,by lia⟩ λS w0 w1=>?_⟩);refine Fq M [oN c,oR nl,oN st,oN u,oS z,oS U,oN fi,oN S] rfl λN M=>?_;subst M;have ne:∀ {k:Int},S≠k->¬ V.int S=V.int k:=λh e=>h (by injection e);by_cases h3:S=3
 .refine vE rfl ⟨rfl,vE rfl (dT (by rw[h3]) (vE rfl ⟨g,λt k=>q (.ref t) (.at (.cau z)) _ (Af k _) (by unfold VR;exact⟨t,rfl,Nw.of k Aa⟩) (by unfold Ob;decide) (by unfold Yv;exact o1)⟩))⟩
 refine vE rfl ⟨rfl,vE rfl (dF (ne h3) ?_)⟩;by_cases h4:S=4
 .refine vE rfl ⟨rfl,vE rfl (dT (by rw[h4]) (vE rfl ⟨g,λt k=>q (.ref t) (.at (.thi z)) _ (Af k _) (by unfold VR;exact⟨t,rfl,Nw.of k Aa⟩) (by unfold Ob;decide) (by unfold Yv;exact o1)⟩))⟩
 refine vE rfl ⟨rfl,vE rfl (dF (ne h4) ?_)⟩;by_cases h5:S=5
 .have d3:=md (a:=c/576) (b:=3) (by decide)
  refine vE rfl ⟨rfl,vE rfl (dT (by rw[h5]) (vE rfl (vE rfl (vE rfl (vF rfl rfl ⟨⟨by decide,by decide⟩,_,_,rfl,rfl,(by show (0:Int)<3;decide),_,_,rfl,rfl,Y,λt k=>q (.ref t) (.at (.day fi (fi+c/576%3))) _ (Af k _) (by unfold VR;exact⟨t,rfl,Nw.of k Aa⟩) (by unfold Ob;decide) (by unfold Yv;exact⟨f0,by lia,by lia⟩)⟩)))))⟩
 refine vE rfl ⟨rfl,vE rfl (dF (ne h5) ?_)⟩;by_cases h6:S=6
 .have ab:=md (a:=c/144) (b:=20) (by decide)
  have aa:0<=c/144%20*u:=Int.mul_nonneg ab.1 (by have:=uo.1;lia);have ac:c/144%20*u<=19*1000000007:=Int.mul_le_mul (by lia) uo.2 (by have:=uo.1;lia) (by decide);refine vE rfl ⟨rfl,vE rfl (dT (by rw[h6]) (vE rfl (vF rfl rfl ⟨⟨by decide,by decide⟩,_,_,rfl,rfl,(by show (0:Int)<20;decide),vE rfl (vF rfl rfl ⟨.inl ⟨by lia,by lia⟩,g,λt k=>q (.ref t) (.at (.ovr (c/144%20*u))) _ (Af k _) (by unfold VR;exact⟨t,rfl,Nw.of k Aa⟩) (by unfold Ob;decide) (by unfold Yv;exact⟨aa,by lia⟩)⟩)⟩)))⟩
 refine vE rfl ⟨rfl,vE rfl (dF (ne h6) ?_)⟩;by_cases h7:S=7
 .refine vE rfl ⟨rfl,vE rfl (dT (by rw[h7]) (vE rfl ⟨g,λt1 k1=>vE rfl ⟨g,λZ k2=>⟨g,λl k3=>⟨g,λt3 k4=>⟨g,λt4 k5=>?_⟩⟩⟩⟩⟩))⟩
  have j:=Af k1 (.tup [V.str "thing",.str z]);have F:=Af k2 (.tup [V.str "cause",.str U]);have B:=Af k3 (.lst [V.ref t1,.ref Z]);have L:=Af k4 (.tup [V.str "all",.ref l]);have s5:=Af k5 (.tup [V.str "not",.ref t3]);refine q (.ref t4) (.no (.al [.at (.thi z),.at (.cau U)])) _ (j.trans (F.trans (B.trans (L.trans s5)))) ?_ (by simp [Ob,hgts]) (by simp only [Yv,okTs];exact⟨by show 2<=2;decide,by show 2<=8;decide,o1,o2,trivial⟩);unfold VR;have f2:=j.free k2;have f3:=j.free (F.free k3);have f4:=j.free (F.free (B.free k4));have f5:=j.free (F.free (B.free (L.free k5)));refine⟨t4,_,rfl,Nw.of f5 Aa,?_⟩;unfold VR;refine⟨t3,l,_,rfl,Nw.of f4 (s5 _ _ Aa),Nw.of f3 (s5 _ _ (L _ _ Aa)),?_⟩;unfold TrsAt;refine⟨?_,?_⟩
  .unfold VR
   exact⟨t1,rfl,Nw.of k1 (s5 _ _ (L _ _ (B _ _ (F _ _ Aa))))⟩
  unfold TrsAt;refine⟨?_,?_⟩
  .unfold VR
   exact⟨Z,rfl,Nw.of f2 (s5 _ _ (L _ _ (B _ _ Aa)))⟩
  unfold TrsAt;trivial
 refine vE rfl ⟨rfl,vE rfl (dF (ne h7) ?_)⟩;by_cases h8:S=8
 .refine vE rfl ⟨rfl,vE rfl (dT (by rw[h8]) (vE rfl ⟨g,λt1 k1=>vE rfl ⟨g,λZ k2=>⟨g,λl k3=>⟨g,λt3 k4=>?_⟩⟩⟩⟩))⟩
  have j:=Af k1 (.tup [V.str "cause",.str z]);have F:=Af k2 (.tup [V.str "thing",.str U]);have B:=Af k3 (.lst [V.ref t1,.ref Z]);have L:=Af k4 (.tup [V.str "some",.ref l]);refine q (.ref t3) (.so [.at (.cau z),.at (.thi U)]) _ (j.trans (F.trans (B.trans L))) ?_ (by simp [Ob,hgts]) (by simp only [Yv,okTs];exact⟨by show 2<=2;decide,by show 2<=8;decide,o1,o2,trivial⟩);unfold VR;have f2:=j.free k2;have f3:=j.free (F.free k3);have f4:=j.free (F.free (B.free k4));refine⟨t3,l,_,rfl,Nw.of f4 Aa,Nw.of f3 (L _ _ Aa),?_⟩;unfold TrsAt;refine⟨?_,?_⟩
  .unfold VR
   exact⟨t1,rfl,Nw.of k1 (L _ _ (B _ _ (F _ _ Aa)))⟩
  unfold TrsAt;refine⟨?_,?_⟩
  .unfold VR
   exact⟨Z,rfl,Nw.of f2 (L _ _ (B _ _ Aa))⟩
  unfold TrsAt;trivial
 refine vE rfl ⟨rfl,vE rfl (dF (ne h8) ?_)⟩;exact⟨one,λt k=>q (.ref t) (.at .alw) _ (Af k _) (by unfold VR;exact⟨t,rfl,Nw.of k Aa⟩) (by unfold Ob;decide) (by unfold Yv;trivial)⟩
def Ny:Jc J 1 "_law_clause_by" ["_law_cell_here","_law_unit"] QP:=Gb J.z J.r9 ["_law_cell_here","_law_unit","_law_word","_law_by","_law_low"] df λsc H Q hr h=>by
 obtain⟨c,u,rfl,uo,q⟩:=h;refine⟨_,(Ab (Ce sc 2 (Jo K (Bf (Ah Az (Ah Az (Bb Az Az)))) (Aj Ax (pv 0) Ad)))
   (Ab (Ce sc 3 (Jo K (Bf (Ah Az (Ah Az (Bb Az Az)))) (Aj Ax (Aj Bm (pv 0) Ad) Ad)))
   (Ab (Ce sc 4 (Aj Bd (Aj El (Aj Ax (Aj Bm (pv 0) Ad) Ad) (pv 1)) (Aj Ax (Aj Bm (pv 0) Ad) Ad)))
   (Ab (Au (Ak Bv (pv 2) Az (An _))
    (Ac (Ai (Ba (Ah (pv 2) (Ah (pv 3) (Bb (pv 4) (Aj Bd (Aj Bd (pv 4) Ad) (Aj El (Aj Ax (Aj Bm (pv 0) Ad) Ad) (pv 1)))))))))
    Al)
   (Ab (Au (Ak Bv (pv 2) Az (An _))
    (Ac (Ce sc 4 (Aj Bd (Aj El (Aj Ax (Aj Bm (pv 0) Ad) Ad) (pv 1)) (Aj Ax (Aj Bm (pv 0) Ad) Ad))))
    Al)
   (Ac (Ai (Ba (Ah (pv 2) (Ah (pv 3) (Bb (pv 4) Ad))))))))))),?_⟩
 refine Hu λN F=>?_;have g:4<=sizeLine:=by rw[zCE];decide
 have c4:=md (a:=c) (b:=4) (by decide);have b4:=md (a:=c/4) (b:=4) (by decide);obtain⟨j,iw,aw⟩:=Ir (ns:=["own","layer","limit","limit"]) (i:=c%4) c4.1 (by show _<(4:Int);lia);obtain⟨by',ib,ab⟩:=Ir (ns:=["event","thing","year","loss"]) (i:=c/4%4) b4.1 (by show _<(4:Int);lia);refine⟨g,λpl aa=>vE rfl (vF rfl rfl ⟨(by show (0:Int)<4;decide),vI rfl rfl (Dl.of Aa) aw ?_⟩)⟩;have B:=Af aa (.lst [V.str "own",.str "layer",.str "limit",.str "limit"]);generalize upd H pl (.lst [V.str "own",.str "layer",.str "limit",.str "limit"])=H1 at B;refine Fq F [oN c,oN u,oS j,none,none] rfl λN F=>?_;refine⟨g,λp2 ac=>vE rfl (vF rfl rfl ⟨⟨by decide,by decide⟩,_,_,rfl,rfl,(by show (0:Int)<4;decide),vI rfl rfl (Dl.of Aa) ab ?_⟩)⟩;have L:=Af ac (.lst [V.str "event",.str "thing",.str "year",.str "loss"]);generalize upd H1 p2 (.lst [V.str "event",.str "thing",.str "year",.str "loss"])=H2 at L;refine Fq F [oN c,oN u,oS j,oS by',none] rfl λN F=>?_;have Y:=md (a:=c/16) (b:=23) (by decide);have d2:=md (a:=c/368) (b:=2) (by decide);have M:=md (a:=c/736) (b:=29) (by decide);have S:=md (a:=c/16) (b:=61) (by decide);have d3:=md (a:=c/976) (b:=3) (by decide);have u1:=uo.1;have ml:∀ {x k:Int},0<=x->x<=k->0<=x*u/\x*u<=k*1000000007:=λ{x k} h0 h1=>⟨Int.mul_nonneg h0 (by lia),Int.mul_le_mul h1 uo.2 (by lia) (by lia)⟩;have af:=ml Y.1 Y.2;have ae:=ml M.1 M.2;have ad:=ml S.1 S.2;have wy:Pg by':=by
  simp only [zAn,zBc,or_false] at ib;exact ib
 refine vE rfl (vF rfl rfl ⟨⟨by decide,by decide⟩,_,_,rfl,rfl,(by show (0:Int)<23;decide),vE rfl (vF rfl rfl ⟨.inl ⟨by lia,by lia⟩,vE rfl (vF rfl rfl ⟨⟨by decide,by decide⟩,_,_,rfl,rfl,(by show (0:Int)<2;decide),_,_,rfl,rfl,Ij 0 22000000155 ⟨by lia,by lia⟩ λlo l0 l1=>?_⟩)⟩)⟩);refine Fq F [oN c,oN u,oS j,oS by',oN lo] rfl λN F=>?_;have U:∀ {y z:Str},y≠z->¬ V.str y=V.str z:=λh e=>h (V.str.inj e);by_cases hl:j="layer"
 .refine vE rfl ⟨rfl,vE rfl (dT (by rw[hl]) ?_)⟩
  refine vE rfl (vE rfl (vE rfl (vE rfl (vF rfl rfl (vE rfl (vF rfl rfl ⟨⟨by decide,by decide⟩,_,_,rfl,rfl,(by show (0:Int)<29;decide),vE rfl (vF rfl rfl ⟨.inl ⟨by lia,by lia⟩,_,_,rfl,rfl,g,λt k=>?_⟩)⟩))))));exact q t (j,by',lo,lo+1+c/736%29*u) _ ((B.trans L).trans (Af k _)) ((B.trans L).free k) Aa ⟨.inr (.inl hl),wy,⟨l0,by lia⟩,λ_=>⟨by show lo<_;lia,by show lo+1+c/736%29*u<=_;lia⟩⟩
 refine vE rfl ⟨rfl,vE rfl (dF (U hl) ?_)⟩;subst F;by_cases Z:j="limit"
 .refine vE rfl ⟨rfl,vE rfl (dT (by rw[Z]) ?_)⟩
  refine vE rfl (vF rfl rfl ⟨⟨by decide,by decide⟩,_,_,rfl,rfl,(by show (0:Int)<61;decide),vE rfl (vF rfl rfl ⟨.inl ⟨by lia,by lia⟩,vE rfl (vF rfl rfl ⟨⟨by decide,by decide⟩,_,_,rfl,rfl,(by show (0:Int)<3;decide),_,_,rfl,rfl,Ij 0 60000000422 ⟨by lia,by lia⟩ λlo l0 l1=>?_⟩)⟩)⟩);refine Ga [oN c,oN u,oS j,oS by',oN lo] rfl ?_;exact vE rfl (vE rfl (vE rfl ⟨g,λt k=>q t (j,by',lo,0) _ ((B.trans L).trans (Af k _)) ((B.trans L).free k) Aa ⟨.inr (.inr Z),wy,⟨l0,by show lo<=_;lia⟩,λh=>absurd h hl⟩⟩))
 .refine vE rfl ⟨rfl,vE rfl (dF (U Z) ?_)⟩
  have ho:j="own":=by
   simp only [zAn,zBc,or_false] at iw;rcases iw with y|y|y|y
   .exact y
   .exact absurd y hl
   .exact absurd y Z
   .exact absurd y Z
  exact vE rfl (vE rfl (vE rfl ⟨g,λt k=>q t (j,by',lo,0) _ ((B.trans L).trans (Af k _)) ((B.trans L).free k) Aa ⟨.inl ho,wy,⟨l0,by show lo<=_;lia⟩,λh=>absurd h hl⟩⟩))
end
inductive IN (K:zAa) (vs:List V) (H:Hp) (Q:VK) (E:XK):Prop
 |mk (a ns nl:_) (u st:Int) (D:List Str) (z0:vs=[.ref a,.ref nl,.int u,.int st]) (z1:Dl K H a (List.map V.int ns)) (z2:ns.length<=63) (z3:BE u) (z4:0<=st) (z5:st<=999995) (z6:H nl=oL (D.map V.str)) (z7:GS D) (z8:D.length=4) (z9:∀ r (rows:List XF) H',De H H'->H r=none->H' r=oL (rows.map GN)->(∀ x∈rows,WQ H' x/\Sb x)->GS (rows.map (·.nm))->rows.length<=4->Q (.ref r) H')
section
seal L2.PS L2.PSs L2.PE L2.PA
variable {P:Program} {w:World} {K:zAa} {mg:Str->Option Value} {base:Heap}
def Ux (J:Pm P w K mg base):Jc J 3 "_law_covers" ["_law_script","_law_names_here","_law_unit","_law_start_here"] (IN K):=Gb J.z J.re ["_law_script","_law_names_here","_law_unit","_law_start_here","_law_head","_law_tags","_law_covers_here","_law_k","_law_cell_here","_law_clauses","_law_cond_here"] df λsc H Q hr h=>by
 obtain⟨a,ns,nl,u,st,D,rfl,ha,l63,uo,st0,st1,hnl,ND,d4,q⟩:=h;refine⟨_,(Ab (Ce sc 4 (Cb (Et J) hr (Bb (pv 0) Ad)))
   (Ab (Ce sc 5 (Cb (Nv J) hr (Bb (Aj Bm (pv 4) Ad) Ad)))
   (Ab (Ce sc 6 (Bf Cn))
   (Ab (Bk PassesOwn.never rfl (Er rfl (J.z.nn J.b7) (Bj (Jo K (Bf (Bb (Aj Bd Ad (Aj Ax (pv 4) Ad)) Ad)) (Cz T7 rfl (J.z.nn J.j7) (show zCF _=some (.type "int") from rfl) (Bj (Ez Bv (Aj Ax (Aj Bm (pv 4) Ad) Ad) Ad (An _))))))) (Fj sc 7)
    (Ab (Mm (i:=8) sc.nd rfl (Or.inr rfl) (Cb (Et J) hr (Bb (pv 0) (Aj Bd Ad (pv 7)))))
   (Ab (Ef (NC:=["_law_j","_law_unit","_law_cell_here"]) (own:=["_law_j"]) (cs:=["_law_unit","_law_cell_here"]) (ix:=[2,8]) (j:=9) sc.nd rfl rfl rfl (Dt.of rfl) rfl ⟨⟨rfl,.inl rfl,rfl⟩,⟨⟨rfl,.inl rfl,rfl⟩,trivial⟩⟩ (Er rfl (J.z.nn J.b7) (Bj (Aj Ax (Cb (By J) hr (Bb (pv 8) Ad)) Ad))) (λ_ _ _=>(Jq 0)) (λ_ _ _=>Bw) (λ_ _ _=>(Cb (Ny J) hr (Bb (Cb (By J) hr (Bb (pv 2) (Aj Bd Ad (pv 0)))) (pv 1)))))
   (Ab (Ce sc 10 (Cb (Zd J) hr (Ah (Cb (By J) hr (Bb (pv 8) Ad)) (Ah (pv 1) (Bb (pv 3) (pv 2))))))
   (Ac (Bc (Db (K:=K) rfl PySem.F.plainAttrs_list PySem.F.slot_list_append PySem.F.type_list_append Cm (pv 6) (Bj (Ba (Ah (Jo K (pv 5) (pv 7)) (Ah (pv 10) (Ah (pv 9) (Bb (Bf (Bj (Ba (Bb (Jo K (pv 1) (pv 7)) Ad)))) (Ez Bv (Aj Ax (Cb (By J) hr (Bb (pv 8) Ad)) Ad) Ad (An _)))))))))))))))
   (Ac (Ai (pv 6))))))),?_⟩
 refine Hu λN eN=>?_;have one:1<=sizeLine:=by rw[zCE];decide
 have two:2<=sizeLine:=by rw[zCE];decide
 refine vE rfl ⟨a,ns,2,rfl,ha,by decide,l63,?_⟩;generalize ns.getD (2:Int).toNat 0=hd;refine Fq eN [oR a,oR nl,oN u,oN st,oN hd,none,none,none,none,none,none] rfl λN eN=>?_;refine vE rfl (vF rfl rfl ⟨⟨by decide,by decide⟩,hd/64,rfl,λtg tags H0 s0 ntg htg NT t4=>?_⟩);refine Fq eN [oR a,oR nl,oN u,oN st,oN hd,oR tg,none,none,none,none,none] rfl λN eN=>?_;refine⟨zAu _,λcl ncl=>?_⟩;refine Fq eN [oR a,oR nl,oN u,oN st,oN hd,oR tg,oR cl,none,none,none,none] rfl λN eN=>?_;have s1:=Af ncl (.lst []);have h1:upd H0 cl (.lst []) cl=oL []:=Aa;generalize upd H0 cl (.lst [])=H1 at s1 h1;have h4:=md (a:=hd) (b:=4) (by decide);refine vE rfl (vF rfl rfl ⟨(by show (0:Int)<4;decide),_,_,rfl,rfl,two,λpl npl=>?_⟩);have sP:=Af npl (.lst [.int (1+hd%4),.int 0]);have hP:upd H1 pl (.lst [.int (1+hd%4),.int 0]) pl=oL [.int (1+hd%4),.int 0]:=Aa;generalize upd H1 pl (.lst [.int (1+hd%4),.int 0])=H2 at sP hP;refine vE rfl (vF rfl rfl ⟨⟨by decide,by decide⟩,_,_,rfl,rfl,(by show (0:Int)<16;decide),rfl,?_⟩);obtain⟨m,m4,hm⟩:∃ m:Nat,m<=4/\Oq [V.int (1+hd%4),.int 0] (if decide (V.int (hd/4%16)=V.int 1)=true then 1 else 0)=some (.int (m:Int)):=by
  by_cases y:decide (V.int (hd/4%16)=V.int 1)=true
  .rw[if_pos y]
   exact⟨0,by decide,rfl⟩
  .rw[if_neg y]
   refine⟨(1+hd%4).toNat,by lia,?_⟩;rw[show (((1+hd%4).toNat:Nat):Int)=1+hd%4 by lia];rfl
 refine .inr ⟨_,rfl,vI rfl rfl (Dl.of hP) hm (vE rfl ⟨by lia,by lia,?_⟩)⟩;rw[show ((m:Int)).toNat=m by lia];have S2:=s0.trans (s1.trans sP);have ncl':H cl=none:=s0.free ncl;refine Pt (lo:=0) (n:=m) (λi σ H3=>(∃ o7 o8 o9 o10,σ=[oR a,oR nl,oN u,oN st,oN hd,oR tg,oR cl,o7,o8,o9,o10])/\(∃ rows:List XF,H3 cl=oL (rows.map GN)/\(∀ x∈rows,WQ (WP cl H3) x/\Sb x)/\rows.map (·.nm)=tags.take i)/\De H0 H3)
  ⟨⟨none,none,none,none,rfl⟩,⟨[],sP _ _ h1,(λx hx=>nomatch hx),by rw[zAV];rfl⟩,s1.trans sP⟩ ?_ ?_
 .rintro i σ H2 hi ⟨⟨o7,o8,o9,o10,rfl⟩,⟨rows,hrows,okr,enm⟩,s2⟩ N9 nx9
  have S2:=s0.trans s2;subst eN;refine Ga [oR a,oR nl,oN u,oN st,oN hd,oR tg,oR cl,oN (0+(i:Int)),o8,o9,o10] rfl ?_;refine vE rfl (vE rfl (vF rfl rfl ⟨a,ns,3+(0+(i:Int)),rfl,S2.seq ha,by lia,l63,?_⟩));generalize ns.getD (3+(0+(i:Int))).toNat 0=x;subst eN;refine Ga [oR a,oR nl,oN u,oN st,oN hd,oR tg,oR cl,oN (0+(i:Int)),oN x,o9,o10] rfl ?_;refine vE rfl ⟨x,0,rfl,by decide,by decide,λm0 H3 s3 q0 q1=>⟨_,_,rfl,rfl,(by show (0:Int)<4;decide),?_⟩⟩;obtain⟨mm,em,m3⟩:∃ mm:Nat,m0%4=(mm:Int)/\mm<=3:=⟨(m0%4).toNat,by have:=md (a:=m0) (b:=4) (by decide);lia,by have:=md (a:=m0) (b:=4) (by decide);lia⟩;refine vE rfl ⟨by lia,by lia,λkl nkl=>?_⟩;rw[show (m0%4).toNat=mm by lia];refine Hg (lo:=0) (n:=mm) (λj ys H4=>∃ rs:List NJ,H4 kl=oL ys/\TsAt FI H4 ys rs/\rs.length=j/\(∀ c∈rs,okC c)/\De H3 H4) ⟨[],Aa,trivial,rfl,(λc hc=>nomatch hc),Af nkl _⟩
   (λj ys H4 _ ⟨rs,h4,ts,lr,_,_⟩=>⟨h4,by rw[ts.len,lr];exact zAi _⟩) (by rw[zCE];lia) (λj ys H4 hj ⟨rs,h4,ts,lr,okc,s4⟩=>?_) (λys H4 ⟨rs,h4,ts,lr,okc,s4⟩=>?_)
  .refine vE rfl (vE rfl (vF rfl rfl ⟨x,2+(0+(j:Int)),rfl,by lia,by lia,λm1 H5 s5 _ _=>vE rfl ⟨m1,u,rfl,uo,λt r H6 s6 nt ht okr'=>⟨s6 _ _ (s5 _ _ h4),rfl,rs++[r],Aa,?_,by rw[zAj,lr];rfl,λy hy=>?_,λb o y=>?_⟩⟩⟩))
   .exact ((ts.mono (Aq (s5.trans s6))).snoc ht).mono (Cj (s6 _ _ (s5 _ _ h4)) _)
   .rcases zAs.mp hy with g|g
    .exact okc y g
    .rw[zAm.mp g];exact okr'
   .rw[Ag (Ae y nkl)]
    exact s6 _ _ (s5 _ _ (s4 b o y))
  subst eN;refine Ga [oR a,oR nl,oN u,oN st,oN hd,oR tg,oR cl,oN (0+(i:Int)),oN x,oR kl,o10] rfl ?_;refine vE rfl ⟨x,1,rfl,by decide,by decide,λm2 H5 s5 _ _=>vE rfl (vE rfl (vE rfl ⟨m2,u,st,nl,D,rfl,uo,st0,st1,(S2.trans (s3.trans (s4.trans s5))) _ _ hnl,d4,(λz hz=>QG (ND.ok z hz).1),λv t H6 s6 tr hg okt=>?_⟩))⟩;subst eN;refine Ga [oR a,oR nl,oN u,oN st,oN hd,oR tg,oR cl,oN (0+(i:Int)),oN x,oR kl,some v] rfl ?_;have S36:=s3.trans (s4.trans (s5.trans s6));have S6:=S2.trans S36;have hrows6:=S36 _ _ hrows;have hi4:i<tags.length:=by lia
  have en:tags[i]?=some tags[i]:=zAe hi4;have ed:D[i]?=some D[i]:=zAe (by lia);have mD:D[i]∈D:=zBw _;generalize tags[i]=z at en;generalize D[i]=hn at ed mD;have ez:Oq (tags.map V.str) (0+(i:Int))=some (.str z):=by
   rw[show (0+(i:Int))=(i:Int) by lia];refine Ge ?_;rw[zAy,en];rfl
  have ehn:Oq (D.map V.str) (0+(i:Int))=some (.str hn):=by
   rw[show (0+(i:Int))=(i:Int) by lia];refine Ge ?_;rw[zAy,ed];rfl
  refine vE rfl ⟨.inl ⟨rfl,_,Dl.of hrows6⟩,vE rfl (vE rfl (vI rfl rfl (Dl.of ((s2.trans S36) _ _ htg)) ez (vE rfl (vE rfl (vE rfl (vE rfl (vI rfl rfl (Dl.of (S6 _ _ hnl)) ehn ⟨two,λht nht=>?_⟩)))))))⟩;have s7:=Af nht (.tup [V.str hn,.int 1]);have h7:upd H6 ht (.tup [V.str hn,.int 1]) ht=oT [V.str hn,.int 1]:=Aa;generalize upd H6 ht (.tup [V.str hn,.int 1])=H7 at s7 h7;refine⟨one,λhl nhl=>?_⟩;have s8:=Af nhl (.lst [V.ref ht]);have h8:upd H7 hl (.lst [V.ref ht]) hl=oL [V.ref ht]:=Aa;generalize upd H7 hl (.lst [V.ref ht])=H8 at s8 h8;refine vE rfl ⟨x,6,rfl,by decide,by decide,λm6 H9 s9 _ _=>⟨_,_,rfl,rfl,(by show (0:Int)<4;decide),rfl,Dk (by show 5<=1000;decide),λtp ntp=>?_⟩⟩;generalize decide (V.int (m6%4)=V.int 1)=wb;have s10:=Af ntp (.tup [V.str z,v,.ref kl,.ref hl,.bl wb]);have h10:upd H9 tp (.tup [V.str z,v,.ref kl,.ref hl,.bl wb]) tp=oT [V.str z,v,.ref kl,.ref hl,.bl wb]:=Aa;generalize upd H9 tp (.tup [V.str z,v,.ref kl,.ref hl,.bl wb])=H10 at s10 h10;have S10:=s7.trans (s8.trans (s9.trans s10));have hrows10:=S10 _ _ hrows6;have lrows:rows.length=i:=by
   have:=congrArg List.length enm;rw[zAb,zAo] at this
   lia
  refine⟨cl,_,_,rfl,rfl,hrows10,by rw[zAb,zCE];lia,?_⟩;have eapp:rows.map GN++[V.ref tp]=(rows++[XF.mk tp z t rs wb]).map GN:=by rw[zAp];rfl
  rw[eapp];have nclk:kl≠cl:=(Ae (s3 _ _ hrows) nkl).symm;have nhtc:ht≠cl:=(Ae hrows6 nht).symm;have nhlc:hl≠cl:=(Ae (s7 _ _ hrows6) nhl).symm;have ntpc:tp≠cl:=(Ae (s9 _ _ (s8 _ _ (s7 _ _ hrows6))) ntp).symm;have up:∀ {b:Addr} {o:HO},b≠cl->H10 b=some o->WP cl (upd H10 cl (.lst ((rows++[XF.mk tp z t rs wb]).map GN))) b=some o:=λn y=>WP.of n (by rw[Ag n];exact y);refine nx9 _ _ ⟨⟨_,_,_,_,rfl⟩,⟨_,Aa,λy hy=>?_,?_⟩,λb o y=>?_⟩
  .rcases zAs.mp hy with g|g
   .obtain⟨y1,y2⟩:=okr y g
    exact⟨y1.same λb o y=>up (WP.at y).1 (S10 _ _ (S36 _ _ (WP.at y).2)),y2⟩
   .rw[zAm.mp g]
    refine⟨⟨v,kl,hl,ht,ys,hn,up ntpc h10,VR.same (λb o y=>?_) _ tr,up nclk (S10 _ _ (s6 _ _ (s5 _ _ h4))),ts.mono λb o y=>?_,up nhlc (s10 _ _ (s9 _ _ h8)),up nhtc (s10 _ _ (s9 _ _ (s8 _ _ h7))),(ND.ok hn mD).1,(ND.ok hn mD).2.1⟩,⟨hg,okt,by show rs.length<=3;lia,okc⟩⟩
    .obtain⟨y1,y2⟩:=Nw.at y
     exact up (λe=>by rw[e,s5 _ _ (s4 _ _ (s3 _ _ hrows))] at y1;cases y1) (S10 _ _ y2)
    .have y':=S10 _ _ (s6 _ _ (s5 _ _ y))
     exact up (Ar y' hrows10 (by intro e;cases e)) y'
  .rw[zAp,enm,zAT,en]
   rfl
  .rw[Ag (Ae y ncl)]
   exact S10 _ _ (S36 _ _ (s2 b o y))
 .rintro σ H3 ⟨⟨o7,o8,o9,o10,rfl⟩,⟨rows,hrows,okr,enm⟩,s3⟩
  have lr:rows.length<=4:=by
   have:=congrArg List.length enm;rw[zAb,zAo] at this
   lia
  first|refine Nt eN λN eN=>?_|subst eN
  refine vE rfl (q cl rows H3 (s0.trans s3) ncl' hrows (λx hx=>⟨(okr x hx).1.same λb o y=>(WP.at y).2,(okr x hx).2⟩) ?_ lr);rw[enm];exact⟨zAz (by rw[zAo];exact Nat.min_le_right _ _) NT.hi,List.Nodup.sublist (zBF _ _) NT.nd,λz hz=>NT.ok z (zBQ hz)⟩
end
def dS (s:Ih):D:=.seq true [.at (.int s.1),.at (.int s.2.1),.at (.str s.2.2.1),.at (.int s.2.2.2)]
theorem Wx {K:zAa}:∀ {ys} {S},WA H ys S->Reps K H (S.map dS) ys
 |[],[],_=>by rw[zAY];unfold Reps;rfl
 |[],_::_,h=>h.elim
 |_::_,[],h=>h.elim
 |y::ys,s::S,⟨⟨t,e,h⟩,r⟩=>by
  rw[zAw];unfold Reps;refine⟨y,ys,rfl,?_,Wx r⟩;unfold dS Ma;refine⟨t,_,e,λ_=>Jy.of h,(λz=>by cases z),?_⟩;simp [Reps,Ma,U0,Dq]
theorem E7:∀ S:List Ih,deps (S.map dS)<=1
 |[]=>by rw[zAY];unfold deps;lia
 |s::S=>by
  have:=E7 S;rw[zAw];unfold deps;have e:DP (dS s)=1:=by simp [dS,DP,deps]
  lia
theorem Yk:∀ S:List Ih,eqDs (S.map dS) (S.map dS)=true
 |[]=>by rw[zAY];unfold eqDs;rfl
 |s::S=>by
  rw[zAw];unfold eqDs;rw[Yk S];simp [dS,N4,eqDs,P3]
def Uj {K:zAa} {a:Addr} {ys:List V} {S:List Ih} (h:H a=oL ys) (r:WA H ys S):Ma K H (.seq false (S.map dS)) (.ref a):=by
 unfold Ma;exact⟨a,ys,rfl,(λz=>by cases z),λ_=>Dl.of h,Wx r⟩
inductive IF (vs:List V) (H:Hp) (Q:VK) (E:XK):Prop
 |mk (a ys S:_) (c:Int) (z0:vs=[.ref a,.int c]) (z1:H a=oL ys) (z2:WA H ys S) (z3:CRT.FormS 0 none S c) (z4:∀ H',De H H'->Q (.bl true) H')
section
seal L2.PS L2.PSs L2.PE L2.PA
variable {P:Program} {w:World} {K:zAa} {mg:Str->Option Value} {base:Heap}
def Yy (J:Pm P w K mg base):Jc J 2 "_law_form" ["_law_strips","_law_cents"] IF:=Gb J.z J.rp ["_law_strips","_law_cents","_law_at","_law_strip"] df λsc H Q hr h=>by
 obtain⟨a,ys,S,c,rfl,Z,F,fo,q⟩:=h;refine⟨_,(Ab (Au (Bp (Bg (Lh Br J.z J.ae (Bb (pv 0) (Ip "list" rfl (J.z.nn J.ax) rfl)))))
    (Ac (Ai Dd))
    Al)
   (Ab (Ce sc 2 Ad)
   (Ab (Bk PassesOwn.never rfl (Go K (pv 0)) (Fj sc 3)
    (Ab (Au (PW.pt (Eb (Bp (Bg (Lh Br J.z J.ae (Bb (pv 3) (Ip "tuple" rfl (J.z.nn J.kj) rfl))))) (Eb (Ak GQ (Cw (Cr (K:=K) rfl) rfl (J.z.nn J.az) (show zCF _=some (.builtin "len") from rfl) (Bj (pv 3))) Ad (An _)) (Eb (Bp (Bg (Cb (Ix J) hr (Bj (Da K (pv 3) Ad))))) (Dx (Bp (Bg (Cb (Ix J) hr (Bj (Da K (pv 3) Ad))))))))))
    (Ac (Ai Dd))
    Al)
   (Ab (Au (PW.pt (Eb (Ak GQ (Da K (pv 3) Ad) (pv 2) (An _)) (Eb (Ak Gk (Da K (pv 3) Ad) (pv 2) (An _)) (Eb (Bp (Bg (Lh Br J.z J.ae (Bb (Da K (pv 3) Ad) (Ip "str" rfl (J.z.nn J.gy) rfl))))) (Dx (Bp (Bg (Cb (Ix J) hr (Bj (Da K (pv 3) Ad))))))))))
    (Ac (Ai Dd))
    Al)
   (Ac (Ce sc 2 (Da K (pv 3) Ad))))))
   (Ac (Ai (Ez Bv (pv 2) (pv 1) (An _))))))),?_⟩
 have ly:=F.len;refine (vE rfl ⟨_,_,_,_,_,rfl,Iu,.lst Z,DA,_,rfl,Cy ?_⟩);refine (vE rfl ⟨a,rfl,⟨_,Dl.of Z⟩,?_⟩);refine Ea (K:=K) (a:=a) (xs:=ys) (λi σ L=>∃ j Y U,σ=[oR a,oN c,oN j,U]/\CRT.FormS j Y (S.drop i) c/\De H L)
  ⟨0,none,none,rfl,fo,De.refl _⟩ (λi σ L _ ⟨_,_,_,_,_,B⟩=>Dl.of (B _ _ Z)) ?_ ?_
 .rintro i x σ L hi ⟨j,Y,U,rfl,z,B⟩ N9 M
  obtain⟨t,p,hp,rfl,ht⟩:=F.get hi;rw[Vm hp] at z;obtain⟨f1,f2,f3,f4⟩:=z;have g:=B _ _ ht;refine Ga [oR a,oN c,oN j,oR t] rfl ?_;refine (vE rfl ⟨_,_,_,_,_,rfl,Iu,.tup g,IM,_,rfl,Cy (vE rfl ⟨t,_,rfl,.inr (Jy.of g),rfl,vE rfl (nF rfl ?_)⟩)⟩);refine vE rfl (vI rfl rfl (Jy.of g) rfl ⟨_,_,rfl,.int _,_,rfl,Cy (vE rfl (vI rfl rfl (Jy.of g) rfl ⟨_,_,rfl,.int _,_,rfl,Cy ?_⟩))⟩);refine vE rfl (vI rfl rfl (Jy.of g) rfl (vE rfl ⟨rfl,vE rfl (nF (congrArg V.int f1) ?_)⟩));refine vE rfl (vI rfl rfl (Jy.of g) rfl (vE rfl (vF rfl rfl (vE rfl (dF (by lia) ?_)))));refine vE rfl (vI rfl rfl (Jy.of g) rfl ⟨_,_,_,_,_,rfl,Iu,.str _,X4,_,rfl,Cy (vE rfl (vI rfl rfl (Jy.of g) rfl ⟨_,_,rfl,.int _,_,rfl,Cy ?_⟩))⟩);refine vE rfl (vI rfl rfl (Jy.of g) rfl ?_);exact M _ _ ⟨p.2.1,some p.2.2,_,rfl,f4,B⟩
 .rintro σ L ⟨j,Y,U,rfl,z,B⟩
  rw[ly,zBJ] at z;have e:j=c:=z;have q':=q L B;rw[<- decide_eq_true (congrArg V.int e)] at q';exact (vE rfl (vE rfl ⟨rfl,q'⟩))
end
def NG (R:Rl) (c:Option Int):(Oj R c).lookup ("enter" : Str)=none:=rfl
def Z3 (R:Rl) (c:Option Int):(Oj R c).lookup ("close" : Str)=none:=rfl
def AG (R:Rl) (c:Option Int):(Oj R c).lookup ("told" : Str)=none:=rfl
def PR (R:Rl) (c:Option Int):(Oj R c).lookup ("settled" : Str)=none:=rfl
inductive BM (bs:List VS) (vs:List V) (H:Hp) (Q:VK) (E:XK):Prop
 |mk (R D c es zs Ss rows ns z l0:_) (z0:vs=[.ref R.r,.ref l0]) (z1:H l0=oT (LF.vs z)) (z2:WE bs D H R c es zs Ss rows ns) (z3:Yl z) (z4:z.n∉ns) (z5:HI c z.d) (z6:es.length<=500) (z7:ns.length<=500) (z8:∀ l H',(∀ b o,H b=some o->¬ D b->H' b=some o)->WE bs D H' R c (es++[(l,z)]) zs Ss rows (ns++[z.n])->Q .non H')
inductive BZ (vs:List V) (H:Hp) (Q:VK) (E:XK):Prop
 |mk (l z:_) (z0:vs=[.ref l]) (z1:H l=oT (LF.vs z)) (z2:∀ p,H p=none->Q (.ref p) (upd H p (.tup [.int z.d,.int z.n])))
inductive AS (vs:List V) (H:Hp) (Q:VK) (E:XK):Prop
 |mk (a xs:_) (k:Nat) (z0:vs=[.ref a,.int (k:Int)]) (z1:H a=oL xs) (z2:xs.length<=500) (z3:k<=xs.length) (z4:∀ p H',De H H'->H p=none->H' p=oL (xs.drop k++xs.take k)->Q (.ref p) H')
section
variable {P:Program} {w:World} {K:zAa} {mg:Str->Option Value} {base:Heap} (J:Pm P w K mg base)
def Rq (J:Pm P w K mg base) {f:Addr} {bs:List VS} (F:WC K "_law_enter" "_law_enter" Ky f fd):Lp P w K mg base Ec 6 f fd ["_law_roll","_law_loss"] (BM bs):=Kt F ["_law_roll","_law_loss"] df λsc H Q hr h=>by
 obtain⟨R,D,c,es,zs,Ss,rows,ns,z,Y,rfl,hl,B,M,g,U,S,L,q⟩:=h;refine⟨_,(Ac (Ai (Bo (KP J bs) (hr.mono (by decide)) (pv 0) (Ah (Da K (pv 1) Ad) (Ah (Da K (pv 1) Ad) (Ah (Da K (pv 1) Ad) (Ah (Da K (pv 1) Ad) (Bb (Da K (pv 1) Ad) (Da K (pv 1) Ad))))))))),?_⟩;obtain⟨dx,j⟩:=B.hr;exact vE rfl ⟨R.r,dx,_,rfl,j,NG _ _,vE rfl (vI rfl rfl (Jy.of hl) rfl (vE rfl (vI rfl rfl (Jy.of hl) rfl (vE rfl (vI rfl rfl (Jy.of hl) rfl (vE rfl (vI rfl rfl (Jy.of hl) rfl (vE rfl (vI rfl rfl (Jy.of hl) rfl (vE rfl (vI rfl rfl (Jy.of hl) rfl ⟨R,D,c,es,zs,Ss,rows,ns,z,rfl,B,M,g,U,S,L,q⟩)))))))))))⟩
def Io:∀ bs,Jc J 6 "_law_enter" ["_law_roll","_law_loss"] (BM bs):=λbs=>GP J.z J.rk bd λf fd F=>Rq J F
def Ze:Jc J 1 "_law_turn" ["_law_loss"] BZ:=Gb J.z J.rn ["_law_loss"] df λsc H Q hr h=>by
 obtain⟨l,z,rfl,hl,q⟩:=h;refine⟨_,(Ac (Ai (Ba (Bb (Da K (pv 0) Ad) (Da K (pv 0) Ad))))),?_⟩;exact vE rfl (vI rfl rfl (Jy.of hl) rfl (vE rfl (vI rfl rfl (Jy.of hl) rfl ⟨by show 2<=sizeLine;rw[zCE];decide,q⟩)))
def Lq:Jc J 1 "_law_turned" ["_law_losses_here","_law_at"] AS:=Gb J.z J.rq ["_law_losses_here","_law_at"] df λsc H Q hr h=>by
 obtain⟨a,xs,k,rfl,L,lx,hk,q⟩:=h;refine⟨_,(Ac (Ai (Aj Kg (Ek (Iw (K:=K) rfl) (pv 0) (Eh (pv 1)) Hl) (Ek (Iw (K:=K) rfl) (pv 0) Hl (Eh (pv 1)))))),?_⟩;have Z:HT.sIx xs.length 0 (some (k:Int))=k:=by simp only [HT.sIx];lia
 have M:HT.sIx xs.length xs.length (some (k:Int))=k:=by simp only [HT.sIx];lia
 have U:HT.sIx xs.length xs.length none=xs.length:=rfl;have S:HT.sIx xs.length 0 none=0:=rfl;have e1:Ku xs (some (k:Int)) none=xs.drop k:=by
  unfold Ku;rw[Z,U,zBZ (by rw[zBm];exact zAi _)]
 have e2:Ku xs none (some (k:Int))=xs.take k:=by
  unfold Ku;rw[S,M,List.drop_zero,Nat.sub_zero]
 refine vE rfl (vE rfl (vE rfl ⟨a,xs,rfl,Dl.of L,λp1 z=>?_⟩));rw[e1];have F:=Af z (.lst (xs.drop k));refine vE rfl (vE rfl (vE rfl ⟨a,xs,rfl,Dl.of (F _ _ L),λp2 j=>?_⟩));rw[e2];have B:=Af j (.lst (xs.take k));have ld:(xs.drop k).length+(xs.take k).length<=500:=by
  rw[zBm,zAo]
  lia
 refine⟨p1,p2,xs.drop k,xs.take k,rfl,rfl,B _ _ Aa,Aa,by rw[zCE];lia,λY g=>?_⟩;exact q Y _ ((F.trans B).trans (Af g _)) ((F.trans B).free g) Aa
end
def WE.apart {bs} {D E:Addr->Prop} {H H'} {R} {c:Option Int} {es} {zs} {Ss} {rows} {ns:List Int} (h:WE bs D H R c es zs Ss rows ns) (f:∀ b o,H b=some o->¬ E b->b≠TT->H' b=some o) (q:∀ a,D a->¬ E a)
  (z:∀ a,E a->a≠TT/\∃ o,H a=some o/\Mu o) (hT:∃ ps,H TT=some (.tbl ps)):WE bs D H' R c es zs Ss rows ns:=by
 refine h.keep λb o e g=>?_;rcases g with g|⟨xs,g⟩
 .exact f b o e (q b g) (h.al b g).1
 .subst g
  obtain⟨ps,hT⟩:=hT;refine f b _ e (λy=>?_) (Ar e hT (by intro y;cases y));obtain⟨_,o,j,m⟩:=z b y;rw[e] at j;cases j;exact m
def Zj {D E j:Addr->Prop} {H:Hp} (F:∀ a,D a->∃ o,H a=some o) (B:∀ a,D a->¬ E a) (g:∀ b,j b->E b\/H b=none):∀ a,D a->¬ j a:=λa q y=>by
 rcases g a y with z|z
 .exact B a q z
 .obtain⟨o,e⟩:=F a q
  rw[z] at e;cases e
def Ry (z:LF):List Int:=[z.d,0,z.n]
def K5:LF->LF->Prop:=LQ Ry
def DN {a b:LF} (h:a.d<b.d):K5 a b:=by
 show HT.lexLt (Ry b) (Ry a)=false;unfold Ry;simp only [HT.lexLt];simp
 lia
def JC {es:List Wl} (h:es.Pairwise (LQ Q0)):(es.map (·.2)).Pairwise K5:=by
 rw[zBG];exact h
structure Iv (ws u:List LF) (es:List Wl) (day:Int):Prop where
 pw:u.Pairwise K5
 lo:∀ z∈u,z.d<=day
 hi:∀ e∈es,day<e.2.d
 pm:(u++es.map (·.2)).Perm ws
theorem Xm {α:Type} (p q:α->Bool) (h:∀ x,q x = !p x):∀ l:List α,(l.filter p++l.filter q).Perm l
 |[]=>List.Perm.refl _
 |x::l=>by
  have ih:=Xm p q h l;cases c:p x with
  |true=>
   have g:q x=false:=by rw[h,c];rfl
   rw[zBf c,zBg (by rw[g];exact zAk)];exact ih.cons x
  |false=>
   have g:q x=true:=by rw[h,c];rfl
   rw[zBg (by rw[c];exact zAk),zBf g];exact List.perm_middle.trans (ih.cons x)
def Iv.step {L u:List LF} {es j:List Wl} {B d:Int} (h:Iv L u es B) (hd:B<=d) (F:j.Perm (es.filter λe=>decide (e.2.d<=d))) (M:j.Pairwise (LQ Q0)):Iv L (u++j.map (·.2)) (es.filter λe=>decide (d<e.2.d)) d:=by
 refine⟨?_,λz hz=>?_,λe q=>of_decide_eq_true (zAJ.mp q).2,?_⟩
 .rw[List.pairwise_append]
  refine⟨h.pw,JC M,λa Z b U=>?_⟩;obtain⟨e,q,rfl⟩:=zAD.mp U;have h1:=h.lo a Z;have h2:=h.hi e (zAJ.mp (F.mem_iff.mp q)).1;exact DN (by lia)
 .rcases zAs.mp hz with g|g
  .have:=h.lo z g
   lia
  .obtain⟨e,q,rfl⟩:=zAD.mp g
   exact of_decide_eq_true (zAJ.mp (F.mem_iff.mp q)).2
 .have Y:=Xm (λe:Wl=>decide (e.2.d<=d)) (λe=>decide (d<e.2.d)) (λe=>by
   by_cases y:e.2.d<=d
   .rw[decide_eq_true y,decide_eq_false (by lia)];rfl
   .rw[decide_eq_false y,decide_eq_true (by lia)];rfl) es
  have S:(j.map (·.2)++(es.filter λe=>decide (d<e.2.d)).map (·.2)).Perm (es.map (·.2)):=by
   rw[<- zAp];exact ((F.append_right _).trans Y).map _
  rw[zAZ];exact (S.append_left u).trans h.pm
def N1 {a b:LF} (h1:K5 a b) (j:K5 b a):a.d=b.d/\a.n=b.n:=by
 have e:=Mr (Ry a) (Ry b) j h1;unfold Ry at e;injection e with e1 e2;injection e2 with _ e3;injection e3 with g _;exact⟨e1,g⟩
def Oz {g u v:List LF} (nd:(g.map (·.n)).Nodup) (S:u.Perm g) (p2:v.Perm g) (U:u.Pairwise K5) (s2:v.Pairwise K5):u=v:=by
 refine List.Perm.eq_of_pairwise (le:=K5) (λa b ha Y h1 h2=>?_) U s2 (S.trans p2.symm);have L:=(N1 h1 h2).2;have Z:=S.mem_iff.mp ha;have mb:=p2.mem_iff.mp Y;obtain⟨i,hi,z⟩:=zCl.mp Z;obtain⟨j,hj,B⟩:=zCl.mp mb;have q:i=j:=by
  rw[zAS,zAH] at nd;have M:i<(g.map (·.n)).length:=by rw[zAb];exact hi
  have F:j<(g.map (·.n)).length:=by rw[zAb];exact hj
  rcases zBr i j with y|y|y
  .exact absurd (by rw[zAX,zAX,z,B,L]) (nd i j M F y)
  .exact y
  .exact absurd (by rw[zAX,zAX,z,B,L]) (nd j i F M y)
 subst q;rw[<- z,<- B]
theorem Xx (z:LF) (S:List Ih):∀ {xs ys} {k},xs.map un=ys.map un->Fd z S xs k=Fd z S ys k
 |[],[],_,_=>rfl
 |[],_::_,_,h=>by cases h
 |_::_,[],_,h=>by cases h
 |x::xs,y::ys,k,h=>by
  rw[zAw,zAw] at h;injection h with h1 g;have e1:x.nm=y.nm:=congrArg (·.1) h1;have e3:x.cs=y.cs:=congrArg (·.2.2.1) h1;show Fd z S xs (En z x (Fm x.nm S).sum k x.cs.length)=Fd z S ys (En z y (Fm y.nm S).sum k y.cs.length);have e:∀ n,En z x (Fm x.nm S).sum k n=En z y (Fm y.nm S).sum k n:=λn=>by
   cases x;cases y
   simp only at e1 e3;subst e1 e3
   induction n with
   |zero=>rfl
   |succ m ih=>unfold En;rw[ih]
  rw[e,e3];exact Xx z S g
theorem VX.uniq {bs cs:List VS} (e:bs.map un=cs.map un):∀ {zs} {Ss j} {k L B},VX bs k zs Ss L->VX cs k zs j B->Ss=j
 |[],[],[],_,_,_,_,_=>rfl
 |[],_::_,_,_,_,_,h,_=>h.elim
 |[],[],_::_,_,_,_,_,h=>h.elim
 |_::_,[],_,_,_,_,h,_=>h.elim
 |_::_,_::_,[],_,_,_,_,h=>h.elim
 |z::zs,S::Ss,U::j,k,L,B,h,g=>by
  have F:(Cq z bs).map un=(Cq z cs).map un:=by rw[Yf,Yf,e]
  have es:=Xn F h.1 g.1;subst es;have q:=h.2;rw[Xx z S F] at q;rw[VX.uniq e q g.2]
structure XA (bs:List VS) (H:Hp) (D1 D2:Addr->Prop) (R1 R2:Rl) (c1:Option Int) (e1:List Wl) (u1:List LF) (S1:List (List Ih)) (n1:List Int) (c2:Option Int) (e2:List Wl) (u2:List LF) (S2:List (List Ih)) (n2:List Int):Prop where
 r1:WE bs D1 H R1 c1 e1 u1 S1 u1 n1
 r2:WE bs D2 H R2 c2 e2 u2 S2 u2 n2
 a1:Fw (VO (λa=>D1 a\/D2 a) TT H) R1.b bs
 a2:Fw (VO (λa=>D1 a\/D2 a) TT H) R2.b bs
 ap:∀ a,D1 a->¬ D2 a
 lam:LamAt TT Dg Fh H
section
variable {bs:List VS} {H H':Hp} {D1 D2 E1:Addr->Prop} {R1 R2 R3:Rl} {c1 c2 c3:Option Int} {e1 e2 e3:List Wl} {u1 u2 u3:List LF} {S1 S2 S3:List (List Ih)} {n1 n2 n3:List Int}
def Ct {TT:Addr} (h:LamAt TT Dg Fh H):∃ ps,H TT=some (.tbl ps):=by
 rcases h with z|⟨_,z,_⟩
 .exact⟨_,z⟩
 .exact⟨_,z⟩
def Qo {TT:Addr} {D:Addr->Prop} {H H':Hp} (h:LamAt TT Dg Fh H) (f:∀ b o,H b=some o->¬ D b->H' b=some o) (q:∀ a,D a->a≠TT/\∃ o,H a=some o/\Mu o):LamAt TT Dg Fh H':=h.mono λb o e g=>f b o e λy=>by
 obtain⟨_,o',j,m⟩:=q b y;rw[e] at j;cases j;rcases g with ⟨ps,g⟩|⟨φ,g⟩
 .rw[g] at m
  exact m
 .rw[g] at m
  exact m
def Lb {D:Addr->Prop} {TT t:Addr} {vs:List V} (j:∀ a,D a->a≠TT/\∃ o,H a=some o/\Mu o) (h:H t=oT vs):¬ D t:=λy=>by
 obtain⟨_,o',g,m⟩:=j t y;rw[h] at g;cases g;exact m
def XA.swap (h:XA bs H D1 D2 R1 R2 c1 e1 u1 S1 n1 c2 e2 u2 S2 n2):XA bs H D2 D1 R2 R1 c2 e2 u2 S2 n2 c1 e1 u1 S1 n1:=by
 have e:(λa=>D1 a\/D2 a)=λa=>D2 a\/D1 a:=funext λa=>propext Or.comm;exact⟨h.r2,h.r1,by rw[<- e];exact h.a2,by rw[<- e];exact h.a1,λa g y=>h.ap a y g,h.lam⟩
def XA.op (h:XA bs H D1 D2 R1 R2 c1 e1 u1 S1 n1 c2 e2 u2 S2 n2) (f:∀ b o,H b=some o->¬ D1 b->b≠TT->H' b=some o) (g:∀ b,E1 b->D1 b\/H b=none) (r:WE bs E1 H' R3 c3 e3 u3 S3 u3 n3) (F:R3.b=R1.b) (l:LamAt TT Dg Fh H') :
  XA bs H' E1 D2 R3 R2 c3 e3 u3 S3 n3 c2 e2 u2 S2 n2:=by
 have q:De (VO (λa=>D1 a\/D2 a) TT H) (VO (λa=>E1 a\/D2 a) TT H'):=Gz (λb o e n t=>f b o e (λy=>n (.inl y)) t) λb y=>by
  rcases y with y|y
  .rcases g b y with z|z
   .exact .inl (.inl z)
   .exact .inr z
  .exact .inl (.inr y)
 refine⟨r,h.r2.apart f (λa g y=>h.ap a y g) h.r1.al (Ct h.lam),by rw[F];exact Ei h.a1 q,Ei h.a2 q,λa j B=>?_,l⟩;exact Zj (λa j=>by obtain⟨_,o,e,_⟩:=h.r2.al a j;exact⟨o,e⟩) (λa g y=>h.ap a y g) g a B j
def XA.same (h:XA bs H D1 D2 R1 R2 c1 e1 u1 S1 n1 c2 e2 u2 S2 n2) (s:De H H'):XA bs H' D1 D2 R1 R2 c1 e1 u1 S1 n1 c2 e2 u2 S2 n2:=
 h.op (λb o e _ _=>s b o e) (λb y=>.inl y) (h.r1.same s) rfl (h.lam.same s)
def XA.ask1 (h:XA bs H D1 D2 R1 R2 c1 e1 u1 S1 n1 c2 e2 u2 S2 n2):Fw (VO D1 TT H) R1.b bs:=
 Ei h.a1 λb o e=>by
  obtain⟨n,t,e⟩:=VO.at e;exact VO.of (λy=>n (.inl y)) t e
end
structure MD (st:Int) (zs:List LF):Prop where
 nd:(zs.map (·.n)).Nodup
 l40:zs.length<=40
 ok:∀ z∈zs,Yl z/\st<=z.d/\z.d<=st+5
 st0:0<=st
 st1:st+5<=1000000
def Ig (u:List LF):List V:=u.map λz=>V.int z.n
def Em {D E:Addr->Prop} {a:Addr} {H H':Hp} {o:HO} (h:VO D TT H a=some o) (f:∀ b o,H b=some o->¬ D b->b≠TT->H' b=some o) (g:∀ b,E b->D b\/H b=none):VO E TT H' a=some o:=Gz f g a o h
def Uz (u:List LF) (es:List Wl):Ig u++(es.map λe=>V.int e.2.n)=Ig (u++es.map (·.2)):=by
 unfold Ig;rw[zAp,zBq];rfl
def Iv.none {st:Int} {g zs u:List LF} {es:List Wl} (h:Iv g u es (st+5)) (p:g.Perm zs) (q:MD st zs):es=[]:=by
 refine List.eq_nil_iff_forall_not_mem.mpr λe j=>?_;have h1:=h.hi e j;have z:=(q.ok e.2 (p.mem_iff.mp (h.pm.mem_iff.mp (zAs.mpr (.inr (zBy j)))))).2.2
 lia
def Iv.nd {st g:Int} {q zs u:List LF} {es:List Wl} (h:Iv q u es g) (p:q.Perm zs) (j:MD st zs):((u++es.map (·.2)).map (·.n)).Nodup/\u.length+es.length<=40/\∀ e∈es,0<e.2.ct:=by
 refine⟨((h.pm.trans p).map _).nodup_iff.mpr j.nd,?_,λe z=>?_⟩
 .have:=(h.pm.trans p).length_eq
  rw[zAj,zAb] at this;have:=j.l40
  lia
 .have:=(j.ok e.2 (p.mem_iff.mp (h.pm.mem_iff.mp (zAs.mpr (.inr (zBy z)))))).1.2.2.2.2.2.2
  lia
inductive F4 (bs:List VS) (vs:List V) (H:Hp) (Q:VK) (E:XK):Prop
 |mk (R1 R2:Rl) (D1 D2:Addr->Prop) (la lb:Addr) (xs ys:List V) (zs ws:List LF) (st:Int) (k:Nat) (z0:vs=[.ref R1.r,.ref R2.r,.ref la,.ref lb,.int st,.int (k:Int)]) (z1:XA bs H D1 D2 R1 R2 none [] [] [] [] none [] [] [] []) (z2:DV bs) (z3:VO (λa=>D1 a\/D2 a) TT H la=oL xs) (z4:TsAt LF.vs H xs zs) (z5:VO (λa=>D1 a\/D2 a) TT H lb=oL ys) (z6:TsAt LF.vs H ys ws) (z7:MD st zs) (z8:ws.Perm zs) (z9:k<=5) (z10:∀ (t p q:Addr) (R3 R4:Rl) (D3 D4:Addr->Prop) (u1 u2:List LF) (S1 S2:List (List Ih)) (n1 n2:List Int) (H':Hp),(∀ b o,H b=some o->¬ D1 b->¬ D2 b->b≠TT->H' b=some o)->(∀ b,D3 b\/D4 b->(D1 b\/D2 b)\/H b=none)->R3.r=R1.r->R4.r=R2.r->R3.b=R1.b->R4.b=R2.b->XA bs H' D3 D4 R3 R4 (some (st+5)) [] u1 S1 n1 (some (st+5)) [] u2 S2 n2->u1.Perm zs->u1.Pairwise K5->u2.Perm zs->u2.Pairwise K5->H' t=oT [.ref p,.ref q]->VO (λa=>D3 a\/D4 a) TT H' p=oL (Ig u1)->VO (λa=>D3 a\/D4 a) TT H' q=oL (Ig u2)->(∀ o,H p=some o->D1 p\/D2 p\/p=TT)->(∀ o,H q=some o->D1 q\/D2 q\/q=TT)->Q (.ref t) H')
section
variable {P:Program} {w:World} {K:zAa} {mg:Str->Option Value} {base:Heap}
def Mg (J:Pm P w K mg base) {f:Addr} {bs:List VS} (F:WC K "_law_by_turns" "_law_by_turns" Ib f fd):Lp P w K mg base Ec 10 f fd ["_law_one","_law_two","_law_losses_here","_law_turned_here","_law_start_here","_law_at"] (F4 bs):=Kt F ["_law_one","_law_two","_law_losses_here","_law_turned_here","_law_start_here","_law_at","_law_loss","_law_told","_law_told_at_once","_law_day"] df λsc H Q hr h=>by
 obtain⟨R1,R2,D1,D2,la,lb,xs,ys,zs,ws,st,k,rfl,tw,bk,co,a6,bw,bf,lg,pw,k5,q⟩:=h;refine⟨_,(Ab (Bk PassesOwn.never rfl (Go K (pv 2)) (Fj sc 6)
    (Ac (Bc (Cb (Io J bs) hr (Bb (pv 0) (pv 6))))))
   (Ab (Bk PassesOwn.never rfl (Go K (pv 3)) (Fj sc 6)
    (Ac (Bc (Cb (Io J bs) hr (Bb (pv 1) (pv 6))))))
   (Ab (Ce sc 7 (Bf Cn))
   (Ab (Ce sc 8 (Bf Cn))
   (Ab (Bk PassesOwn.never rfl (Sr rfl (J.z.nn J.b7) (Bb (pv 4) (Aj Bd (pv 4) Ad))) (Fj sc 9)
    (Ab (Ce sc 7 (Aj Kg (pv 7) (Bo (A4 J bs) (hr.mono (by decide)) (pv 0) (Bj (pv 9)))))
   (Ac (Au (Ak Bv (pv 9) (Aj Bd (pv 4) (pv 5)) (An _))
    (Ac (Ce sc 8 (Bo (A4 J bs) (hr.mono (by decide)) (pv 1) (Bj (Aj Bd (pv 4) Ad)))))
    Al))))
   (Ac (Ai (Ba (Bb (pv 7) (pv 8)))))))))),?_⟩
 obtain⟨na,ch,aq⟩:=VO.at co;obtain⟨nb,br,an⟩:=VO.at bw;have lx:=a6.len;refine vE rfl ⟨la,rfl,⟨_,Dl.of aq⟩,?_⟩;refine Ea (K:=K) (a:=la) (xs:=xs) (λi σ H2=>(∃ o,σ=[oR R1.r,oR R2.r,oR la,oR lb,oN st,oN (k:Int),o,none,none,none])/\∃ es:List Wl,es.map (·.2)=zs.take i/\XA bs H2 D1 D2 R1 R2 none es [] [] ((zs.take i).map (·.n)) none [] [] [] []/\∀ b o,H b=some o->¬ D1 b->¬ D2 b->b≠TT->H2 b=some o)
  ⟨⟨none,rfl⟩,[],by rw[zAV];rfl,by rw[zAV];exact tw,λ_ _ e _ _ _=>e⟩ (λi σ H2 _ hh=>by
   obtain⟨_,es,_,_,Z⟩:=hh;exact Dl.of (Z _ _ aq (λy=>na (.inl y)) (λy=>na (.inr y)) ch)) ?_ ?_
 .rintro i x σ H2 hi ⟨⟨o,rfl⟩,es,ee,g,Z⟩ N9 aj
  obtain⟨t,z,hz,rfl,ht⟩:=a6.get hi;obtain⟨a4,hT⟩:=Ct tw.lam;have aw:=Z _ _ ht (Lb tw.r1.al ht) (Lb tw.r2.al ht) (Ar ht hT (by intro y;cases y));have le:es.length=(zs.take i).length:=by rw[<- ee,zAb]
  have lt:(zs.take i).length<=40:=by rw[zAo];have:=lg.l40;lia
  have tk:(zs.take i).map (·.n)++[z.n]=(zs.take (i+1)).map (·.n):=by
   rw[zAT,hz,zAp];rfl
  have as:z.n∉(zs.take i).map (·.n):=λy=>by
   have q1:((zs.take (i+1)).map (·.n)).Nodup:=List.Nodup.sublist ((zBF _ _).map _) lg.nd;rw[<- tk,zCf] at q1;exact q1.2.2 _ y _ (zAm.mpr rfl) rfl
  refine Ga [oR R1.r,oR R2.r,oR la,oR lb,oN st,oN (k:Int),oR t,none,none,none] rfl ?_;refine vE rfl (vE rfl ⟨R1,D1,none,es,[],[],[],_,z,t,rfl,aw,g.r1,(lg.ok z (zAC hz)).1,as,(λd h=>by cases h),by lia,by rw[zAb];lia,λl H3 k3 r3=>?_⟩);rw[tk] at r3;refine aj _ _ ⟨⟨_,rfl⟩,es++[(l,z)],?_,g.op (λb o e n _=>k3 b o e n) (λb y=>.inl y) r3 rfl (Qo g.lam k3 g.r1.al),λb o e a1 a2 a3=>k3 _ _ (Z b o e a1 a2 a3) a1⟩;rw[zAp,ee,zAT,hz];rfl
 rintro σ H2 ⟨⟨o,rfl⟩,es,ee,g,Z⟩;rw[lx,zAB] at ee g;have ae:=Z _ _ an (λy=>nb (.inl y)) (λy=>nb (.inr y)) br;have ly:=bf.len;refine vE rfl ⟨lb,rfl,⟨_,Dl.of ae⟩,?_⟩;refine Cp (K:=K) (a:=lb) (xs:=ys) (λi σ H2=>(∃ o,σ=[oR R1.r,oR R2.r,oR la,oR lb,oN st,oN (k:Int),o,none,none,none])/\∃ fs:List Wl,fs.map (·.2)=ws.take i/\XA bs H2 D1 D2 R1 R2 none es [] [] (zs.map (·.n)) none fs [] [] ((ws.take i).map (·.n))/\∀ b o,H b=some o->¬ D1 b->¬ D2 b->b≠TT->H2 b=some o)
  ⟨⟨_,rfl⟩,[],by rw[zAV];rfl,by rw[zAV];exact g,Z⟩ (λi σ H3 _ hh=>by
   obtain⟨_,fs,_,_,f3⟩:=hh;exact Dl.of (f3 _ _ an (λy=>nb (.inl y)) (λy=>nb (.inr y)) br)) ?_ ?_
 .clear g Z ae
  rintro i x σ H2 hi ⟨⟨o,rfl⟩,fs,fe,g,Z⟩;obtain⟨t,z,hz,rfl,ht⟩:=bf.get hi;obtain⟨a4,hT⟩:=Ct tw.lam;have aw:=Z _ _ ht (Lb tw.r1.al ht) (Lb tw.r2.al ht) (Ar ht hT (by intro y;cases y));have le:fs.length=(ws.take i).length:=by rw[<- fe,zAb]
  have lw:=pw.length_eq;have lt:(ws.take i).length<=40:=by rw[zAo];have:=lg.l40;lia
  have tk:(ws.take i).map (·.n)++[z.n]=(ws.take (i+1)).map (·.n):=by
   rw[zAT,hz,zAp];rfl
  have as:z.n∉(ws.take i).map (·.n):=λy=>by
   have q1:((ws.take (i+1)).map (·.n)).Nodup:=List.Nodup.sublist ((zBF _ _).map _) ((pw.map (·.n)).nodup_iff.mpr lg.nd);rw[<- tk,zCf] at q1;exact q1.2.2 _ y _ (zAm.mpr rfl) rfl
  refine Ga [oR R1.r,oR R2.r,oR la,oR lb,oN st,oN (k:Int),oR t,none,none,none] rfl ?_;refine vE rfl (vE rfl ⟨R2,D2,none,fs,[],[],[],_,z,t,rfl,aw,g.r2,(lg.ok z (pw.mem_iff.mp (zAC hz))).1,as,(λd h=>by cases h),by lia,by rw[zAb];lia,λl H3 k3 r3=>?_⟩);rw[tk] at r3;refine⟨⟨_,rfl⟩,fs++[(l,z)],?_,(g.swap.op (λb o e n _=>k3 b o e n) (λb y=>.inl y) r3 rfl (Qo g.lam k3 g.r2.al)).swap,λb o e a1 a2 a3=>k3 _ _ (Z b o e a1 a2 a3) a2⟩;rw[zAp,fe,zAT,hz];rfl
 clear g Z ae;rintro σ H2 ⟨⟨o,rfl⟩,fs,fe,g,Z⟩;rw[ly,zAB] at fe g;refine⟨zAu _,λp0 ad=>?_⟩;refine Ga [oR R1.r,oR R2.r,oR la,oR lb,oN st,oN (k:Int),o,oR p0,none,none] rfl ?_;have sA:=Af ad (.lst []);have eA:upd H2 p0 (.lst []) p0=oL []:=Aa;generalize upd H2 p0 (.lst [])=H3 at sA eA;refine⟨zAu _,λq0 aa=>?_⟩;refine Ga [oR R1.r,oR R2.r,oR la,oR lb,oN st,oN (k:Int),o,oR p0,oR q0,none] rfl ?_;have sB:=Af aa (.lst []);have eB:upd H3 q0 (.lst []) q0=oL []:=Aa;generalize upd H3 q0 (.lst [])=H4 at sB eB;have cj:=g.same (sA.trans sB);have cc:¬ (D1 p0\/D2 p0):=λy=>by
  rcases y with y|y
  .obtain⟨_,o',S,_⟩:=g.r1.al _ y
   rw[ad] at S;cases S
  .obtain⟨_,o',S,_⟩:=g.r2.al _ y
   rw[ad] at S;cases S
 have b2:¬ (D1 q0\/D2 q0):=λy=>by
  rcases y with y|y
  .obtain⟨_,o',S,_⟩:=g.r1.al _ y
   have z:=sA _ _ S;rw[aa] at z;cases z
  .obtain⟨_,o',S,_⟩:=g.r2.al _ y
   have z:=sA _ _ S;rw[aa] at z;cases z
 obtain⟨a4,au⟩:=Ct g.lam;have cq:p0≠TT:=λy=>by rw[y,au] at ad;cases ad
 have cb:q0≠TT:=λy=>by rw[y,sA _ _ au] at aa;cases aa
 have ct:p0≠q0:=λy=>by rw[<- y,eA] at aa;cases aa
 refine vE rfl (vE rfl (vF rfl rfl ?_));refine⟨st,st+6,rfl,?_⟩;rw[show (st+6-st).toNat=6 by lia];have lw:=pw.length_eq;have ao:∀ x,H2 x=none->∀ o,H x=some o->D1 x\/D2 x\/x=TT:=λx hx o e=>by
  by_cases B:D1 x
  .exact .inl B
  by_cases L:D2 x
  .exact .inr (.inl L)
  by_cases y3:x=TT
  .exact .inr (.inr y3)
  rw[Z x o e B L y3] at hx;cases hx
 refine Pt (lo:=st) (n:=6) (λi σ H5=>∃ o6 o9 p5 q5,σ=[oR R1.r,oR R2.r,oR la,oR lb,oN st,oN (k:Int),o6,oR p5,oR q5,o9]/\∃ (R3 R4:Rl) (D3 j:Addr->Prop) (c1 c2:Option Int) (g1 g2:List Wl) (u1 u2:List LF) (S1 S2:List (List Ih)) (n1 n2:List Int),
   XA bs H5 D3 j R3 R4 c1 g1 u1 S1 n1 c2 g2 u2 S2 n2/\R3.r=R1.r/\R4.r=R2.r/\R3.b=R1.b/\R4.b=R2.b/\HI c1 (st+i)/\(i≠0->c1=some (st+i-1))/\Iv zs u1 g1 (st+i-1)/\VO (λa=>D3 a\/j a) TT H5 p5=oL (Ig u1)/\VO (λa=>D3 a\/j a) TT H5 q5=oL (Ig u2) /\
   ((i<=k/\c2=none/\u2=[]/\g2.map (·.2)=ws)\/(k<i/\c2=some (st+5)/\g2=[]/\u2.Perm zs/\u2.Pairwise K5))/\(∀ b o,H4 b=some o->¬ D1 b->¬ D2 b->b≠TT->H5 b=some o)/\(∀ b,D3 b\/j b->(D1 b\/D2 b)\/H4 b=none)/\(∀ o,H p5=some o->D1 p5\/D2 p5\/p5=TT)/\∀ o,H q5=some o->D1 q5\/D2 q5\/q5=TT)
  ⟨o,none,p0,q0,rfl,R1,R2,D1,D2,none,none,es,fs,[],[],[],[],_,_,cj,rfl,rfl,rfl,rfl,(λd h=>by cases h),λh=>absurd rfl h,⟨.nil,(λz hz=>by cases hz),λe he=>?_,by rw[ee];exact List.Perm.refl _⟩,VO.of cc cq (sB _ _ eA),VO.of b2 cb eB,.inl ⟨zAu _,rfl,rfl,fe⟩,λ_ _ e _ _ _=>e,λb h=>.inl h,ao p0 ad,ao q0 (sA.free aa)⟩ ?_ ?_
 .have:=(lg.ok e.2 (ee▸zBy he)).2.1
  lia
 .rintro i σ H5 hi ⟨o6,o9,p5,q5,rfl,R3,R4,D3,j,c1,c2,g1,g2,u1,u2,S1,S2,n1,n2,Y,r3,r4,b3,b4,af,hc,iv,ax,av,al,f5,ai,a9,ar⟩ N9 aj
  refine Ga [oR R1.r,oR R2.r,oR la,oR lb,oN st,oN (k:Int),o6,oR p5,oR q5,oN (st+i)] rfl ?_;obtain⟨dx,ba⟩:=Y.r1.hr;rw[r3] at ba;obtain⟨bx,cz,bt⟩:=iv.nd (List.Perm.refl _) lg;have cs:=lg.st0;have c9:=lg.st1;refine vE rfl (vE rfl (x3 R1.r dx _ (c4 rfl ba (Z3 _ _) (vE rfl ⟨R3,D3,c1,g1,u1,S1,n1,st+i,by rw[r3];rfl,Y.r1,Y.ask1,bk,af,by lia,by lia,by lia,bx,bt,Y.lam,λa R5 D5 ac cy H6 r5 b5 f6 bg bb bj cg cd cx cr cf=>?_⟩))));have ak:=Y.op f6 bg cd b5 bb;have bz:=iv.step (d:=st+i) (by lia) bj cg;have gU:∀ b,(D5 b\/j b)->(D3 b\/j b)\/H5 b=none:=λb y=>by
   rcases y with y|y
   .rcases bg b y with z|z
    .exact .inl (.inl z)
    .exact .inr z
   .exact .inl (.inr y)
  have fU:∀ b o,H5 b=some o->¬ (D3 b\/j b)->b≠TT->H6 b=some o:=λb o e n t=>f6 b o e (λy=>n (.inl y)) t;have bv:=Em ax fU gU;have ci:=Em av fU gU;have lu:(Ig u1).length+(ac.map λe=>V.int e.2.n).length<=1000:=by
   have:=bj.length_eq;have:=zAE (λe:Wl=>decide (e.2.d<=st+i)) g1;unfold Ig;rw[zAb,zAb]
   lia
  refine⟨p5,a,Ig u1,_,rfl,rfl,(VO.at bv).2.2,cf,by rw[zCE];lia,λM ab=>?_⟩;rw[Uz];refine Ga [oR R1.r,oR R2.r,oR la,oR lb,oN st,oN (k:Int),o6,oR M,oR q5,oN (st+i)] rfl ?_;have s7:=Af ab (.lst (Ig (u1++ac.map (·.2))));have e7:upd H6 M (.lst (Ig (u1++ac.map (·.2)))) M=oL (Ig (u1++ac.map (·.2))):=Aa;generalize upd H6 M (.lst (Ig (u1++ac.map (·.2))))=H7 at s7 e7;have U:=ak.same s7;have n7:¬ (D5 M\/j M):=λy=>by
   rcases y with y|y
   .obtain⟨_,o',S,_⟩:=ak.r1.al _ y
    rw[ab] at S;cases S
   .obtain⟨_,o',S,_⟩:=ak.r2.al _ y
    rw[ab] at S;cases S
  obtain⟨c0,b0⟩:=Ct ak.lam;have t7:M≠TT:=λy=>by rw[y,b0] at ab;cases ab
  have ap:VO (λa=>D5 a\/j a) TT H7 M=oL (Ig (u1++ac.map (·.2))):=VO.of n7 t7 e7;have bu:VO (λa=>D5 a\/j a) TT H7 q5=oL (Ig u2):=Em ci (λb o e _ _=>s7 b o e) λb y=>.inl y;have f7:∀ b o,H4 b=some o->¬ D1 b->¬ D2 b->b≠TT->H7 b=some o/\¬ (D5 b\/j b):=λb o e n1 n2 t=>by
   have e5:=f5 b o e n1 n2 t;have n5:¬ (D3 b\/j b):=λy=>by
    rcases ai b y with z|z
    .exact z.elim n1 n2
    .rw[e] at z;cases z
   refine⟨s7 _ _ (fU b o e5 n5 t),λy=>?_⟩;rcases gU b y with z|z
   .exact n5 z
   .rw[e5] at z;cases z
  have a0:∀ o,H M=some o->D1 M\/D2 M\/M=TT:=λo e=>by
   by_cases B:D1 M
   .exact .inl B
   by_cases L:D2 M
   .exact .inr (.inl L)
   by_cases y3:M=TT
   .exact .inr (.inr y3)
   have e4:=sB _ _ (sA _ _ (Z _ _ e B L y3));have e5:=f5 _ _ e4 B L y3;have n5:¬ (D3 M\/j M):=λy=>by
    rcases ai _ y with z|z
    .exact z.elim B L
    .rw[e4] at z;cases z
   rw[fU _ _ e5 n5 y3] at ab;cases ab
  have g7:∀ b,D5 b\/j b->(D1 b\/D2 b)\/H4 b=none:=λb y=>by
   rcases gU b y with z|z
   .exact ai b z
   .by_cases B:D1 b
    .exact .inl (.inl B)
    by_cases L:D2 b
    .exact .inl (.inr L)
    refine .inr ?_;cases u:H4 b with
    |none=>rfl
    |some o=>
     by_cases t:b=TT
     .obtain⟨_,b9⟩:=Ct Y.lam
      rw[t,b9] at z;cases z
     .rw[f5 b o u B L t] at z;cases z
  have a5:HI (some (st+(i:Int))) (st+((i+1:Nat):Int)):=λd h=>by
   cases h
   lia
  have be:Iv zs (u1++ac.map (·.2)) (g1.filter λe=>decide (st+i<e.2.d)) (st+((i+1:Nat):Int)-1):=by
   rw[show st+((i+1:Nat):Int)-1=st+i by lia];exact bz
  have bp:i+1≠0->some (st+(i:Int))=some (st+((i+1:Nat):Int)-1):=λ_=>by
   rw[show st+((i+1:Nat):Int)-1=st+i by lia]
  refine vE rfl (vE rfl (vE rfl (vF rfl rfl ⟨rfl,vE rfl ?_⟩)));by_cases ik:i=k
  .refine dT (by rw[ik]) ?_
   rcases al with ⟨_,rfl,rfl,ew⟩|⟨y,_⟩
   .obtain⟨cm,bo⟩:=U.r2.hr
    rw[r4] at bo;have bl:Iv ws [] g2 (st-1):=⟨.nil,(λz hz=>by cases hz),λe he=>by
     have:=(lg.ok e.2 (pw.mem_iff.mp (ew▸zBy he))).2.1
     lia,by rw[ew];exact List.Perm.refl _⟩
    obtain⟨ce,cw,ck⟩:=bl.nd pw lg;refine vE rfl (x3 R2.r cm _ (c4 rfl bo (Z3 _ _) (vE rfl (vF rfl rfl ⟨R4,j,none,g2,[],S2,n2,st+5,by rw[r4];rfl,U.r2,U.swap.ask1,bk,(λd h=>by cases h),by lia,by lia,by lia,ce,ck,U.lam,λa8 R8 D8 az cv H8 r8 b8 f8 bm bc ca b6 cn ag b7 bh=>?_⟩))));have bn:=(U.swap.op f8 bm cn b8 bc).swap;have am:=bl.step (d:=st+5) (by lia) ca b6;have e8:=am.none pw lg;rw[e8] at bn am;have ah:=am.pm;rw[zAY,zAL] at ah;have en:(az.map λe=>V.int e.2.n)=Ig ([]++az.map (·.2)):=by
     rw[<- Uz];rfl
    rw[en] at bh;have a7:∀ b,(D5 b\/D8 b)->(D5 b\/j b)\/H7 b=none:=λb y=>by
     rcases y with y|y
     .exact .inl (.inl y)
     .rcases bm b y with z|z
      .exact .inl (.inr z)
      .exact .inr z
    have ay:∀ b o,H7 b=some o->¬ (D5 b\/j b)->b≠TT->H8 b=some o:=λb o e n t=>f8 b o e (λy=>n (.inr y)) t;obtain⟨c7,bq⟩:=Ct U.lam;have t8:a8≠TT:=λy=>by rw[y,bq] at ag;cases ag
    have n8:¬ (D5 a8\/D8 a8):=λy=>by
     rcases y with y|y
     .obtain⟨_,o',S,_⟩:=U.r1.al _ y
      rw[ag] at S;cases S
     .exact b7 y
    have cp:∀ o,H a8=some o->D1 a8\/D2 a8\/a8=TT:=λo e=>by
     by_cases B:D1 a8
     .exact .inl B
     by_cases L:D2 a8
     .exact .inr (.inl L)
     by_cases y3:a8=TT
     .exact .inr (.inr y3)
     rw[(f7 _ _ (sB _ _ (sA _ _ (Z _ _ e B L y3))) B L y3).1] at ag;cases ag
    refine aj _ _ (x4 o6 _ M a8 ⟨rfl,R5,R8,D5,D8,_,_,_,_,_,_,_,_,_,_,bn,r5.trans r3,r8.trans r4,b5.trans b3,b8.trans b4,a5,bp,be,Em ap ay a7,VO.of n8 t8 bh,.inr ⟨by lia,rfl,rfl,ah.trans pw,am.pw⟩,λb o e n1 n2 t=>ay b o (f7 b o e n1 n2 t).1 (f7 b o e n1 n2 t).2 t,λb y=>?_,a0,cp⟩);rcases a7 b y with z|z
    .exact g7 b z
    .by_cases B:D1 b
     .exact .inl (.inl B)
     by_cases L:D2 b
     .exact .inl (.inr L)
     refine .inr ?_;cases u:H4 b with
     |none=>rfl
     |some o=>
      by_cases t:b=TT
      .rw[t,bq] at z;cases z
      .rw[(f7 b o u B L t).1] at z;cases z
   .lia
  .refine dF (λy=>ik (by injection y with y;lia)) ?_
   refine aj _ _ (x4 o6 _ M q5 ⟨rfl,R5,R4,D5,j,_,c2,_,g2,_,u2,_,S2,_,n2,U,r5.trans r3,r4,b5.trans b3,b4,a5,bp,be,ap,bu,?_,λb o e n1 n2 t=>(f7 b o e n1 n2 t).1,g7,a0,ar⟩);rcases al with ⟨y,r⟩|⟨y,r⟩
   .exact .inl ⟨by lia,r⟩
   .exact .inr ⟨by lia,r⟩
 .rintro σ H5 ⟨o6,o9,p5,q5,rfl,R3,R4,D3,j,c1,c2,g1,g2,u1,u2,S1,S2,n1,n2,Y,r3,r4,b3,b4,af,hc,iv,ax,av,al,f5,ai,a9,ar⟩
  have e6:st+((6:Nat):Int)-1=st+5:=by lia
  have bi:=hc (by decide);rw[e6] at iv bi;subst bi;have eg:=iv.none (List.Perm.refl _) lg;subst eg;have ah:=iv.pm;rw[zAY,zAL] at ah;have b1:2<=sizeLine:=by rw[zCE];decide
  rcases al with ⟨y,_⟩|⟨_,rfl,rfl,p2,w2⟩
  .lia
  refine vE rfl (vE rfl ⟨b1,λt ht=>?_⟩);have s9:=Af ht (.tup [.ref p5,.ref q5]);have fr:∀ b o,H b=some o->¬ D1 b->¬ D2 b->b≠TT->H4 b=some o:=λb o e n1 n2 t=>sB _ _ (sA _ _ (Z b o e n1 n2 t));refine q t p5 q5 R3 R4 D3 j u1 u2 S1 S2 n1 n2 _ (λb o e n1 n2 t=>s9 _ _ (f5 b o (fr b o e n1 n2 t) n1 n2 t)) (λb y=>?_) r3 r4 b3 b4 (Y.same s9) ah iv.pw p2 w2 Aa (Em ax (λb o e _ _=>s9 b o e) λb y=>.inl y) (Em av (λb o e _ _=>s9 b o e) λb y=>.inl y) a9 ar;rcases ai b y with z|z
  .exact .inl z
  .by_cases B:D1 b
   .exact .inl (.inl B)
   by_cases L:D2 b
   .exact .inl (.inr L)
   refine .inr ?_;cases u:H b with
   |none=>rfl
   |some o=>
    by_cases t:b=TT
    .rw[t,sB _ _ (sA _ _ au)] at z;cases z
    .rw[fr b o u B L t] at z;cases z
def Qp (J:Pm P w K mg base):Jc J 10 "_law_by_turns" ["_law_one","_law_two","_law_losses_here","_law_turned_here","_law_start_here","_law_at"] (U2 (F4)):=GP J.z J.sd bd λf fd F=>Rb λbs=>Mg J F
end
inductive MG (K:zAa) (vs:List V) (H:Hp) (Q:VK) (E:XK):Prop
 |mk (a ns nl:_) (u st:Int) (D:List Str) (z0:vs=[.ref a,.ref nl,.int u,.int st]) (z1:Dl K H a (List.map V.int ns)) (z2:ns.length<=40) (z3:BE u) (z4:0<=st) (z5:st<=999995) (z6:H nl=oL (D.map V.str)) (z7:GS D) (z8:D.length=4) (z9:∀ r xs zs H',De H H'->H r=none->H' r=oL xs->TsAt LF.vs H' xs zs->MD st zs->Q (.ref r) H')
def B6:Str.ofString "."=tx [46]:=by ac_nf
def SC {z:Str} (h:Gj (.str z)=true):46∉z.cps.toList:=λy=>by
 have n:Gh z.cps.toList:=of_decide_eq_true h;have l:=n.2 46 y;unfold Gm at l
 lia
def Wt {ps:List Str} (j:ps≠[]) (B:ps.length<=2) (h:∀ p∈ps,Gj (.str p)=true):Fk (Str.join (tx [46]) ps).cps.toList:=by
 unfold Fk;rw[Qa j λp g=>SC (h p g)];refine⟨by rw[zAb];lia,λp g=>?_⟩;obtain⟨z,q,rfl⟩:=zAD.mp g;exact of_decide_eq_true (h z q)
def CI {zs:List LF} (h:∀ (j:Nat) z,zs[j]?=some z->z.n%64=(j:Int)):(zs.map (·.n)).Nodup:=by
 rw[zAS,zAH];intro i j hi g q e;rw[zAb] at hi g;rw[zAX,zAX] at e;have h1:=h i _ (zAe hi);have B:=h j _ (zAe g);rw[e] at h1
 lia
section
seal L2.PS L2.PSs L2.PE L2.PA
variable {P:Program} {w:World} {K:zAa} {mg:Str->Option Value} {base:Heap}
def Ua (J:Pm P w K mg base):Jc J 2 "_law_losses" ["_law_cells","_law_names_here","_law_unit","_law_start_here"] (MG K):=Gb J.z J.rf ["_law_cells","_law_names_here","_law_unit","_law_start_here","_law_losses_here","_law_k","_law_cell_here","_law_event","_law_day","_law_cents","_law_thing"] df λsc H Q hr h=>by
 obtain⟨a,ns,nl,u,st,D,rfl,ha,au,uo,am,ay,Z,ND,d4,q⟩:=h;refine⟨_,(Ab (Ce sc 4 (Bf Cn))
   (Ab (Bk PassesOwn.never rfl (Hv rfl (J.z.nn J.ao) (Bj (pv 0))) (Cu (K:=K) (n:=2) rfl rfl (As (Fj sc 5) (As (Fj sc 6) Cs)))
    (Ab (Ce sc 7 (Jo K (pv 1) (Aj Ax (Cb (By J) hr (Bb (pv 6) Ad)) Ad)))
   (Ab (Au (Ak Bv (Aj Ax (Cb (By J) hr (Bb (pv 6) Ad)) Ad) Ad (An _))
    (Ac (Ce sc 7 (Aj Hr (Aj Hr (pv 7) Az) (Jo K (pv 1) (Aj Ax (Cb (By J) hr (Bb (pv 6) Ad)) Ad)))))
    Al)
   (Ab (Ce sc 8 (Aj Bd (pv 3) (Aj Ax (Cb (By J) hr (Bb (pv 6) Ad)) Ad)))
   (Ab (Ce sc 9 (Aj Bd (Aj Bd Ad (Aj El (Aj Ax (Cb (By J) hr (Bb (pv 6) Ad)) Ad) (pv 2))) (Aj Ax (Cb (By J) hr (Bb (pv 6) Ad)) Ad)))
   (Ab (Ce sc 10 (Jo K (pv 1) (Aj Ax (Cb (By J) hr (Bb (pv 6) Ad)) Ad)))
   (Ac (Bc (Db (K:=K) rfl PySem.F.plainAttrs_list PySem.F.slot_list_append PySem.F.type_list_append Cm (pv 4) (Bj (Ba (Ah (Aj Bd (Aj El (Aj Ax (pv 6) Ad) Ad) (pv 5)) (Ah (pv 8) (Ah (pv 7) (Ah (pv 10) (Bb (Jo K (pv 1) (Aj Ax (Cb (By J) hr (Bb (pv 6) Ad)) Ad)) (pv 9)))))))))))))))))
   (Ac (Ai (pv 4))))),?_⟩
 refine⟨zAu _,λr nr=>?_⟩;refine Ga [oR a,oR nl,oN u,oN st,oR r,none,none,none,none,none,none] rfl ?_;have s1:=Af nr (.lst []);have h1:upd H r (.lst []) r=oL []:=Aa;generalize upd H r (.lst [])=H1 at s1 h1;have m4:∀ b:Int,0<=b%4/\b%4<D.length:=λb=>by have:=md (a:=b) (b:=4) (by decide);lia
 refine vE rfl ⟨a,rfl,⟨_,s1.seq ha⟩,Tp (K:=K) (a:=a) (xs:=ns.map V.int) (λi σ H2=>(∃ o5 o6 o7 o8 o9 B,σ=[oR a,oR nl,oN u,oN st,oR r,o5,o6,o7,o8,o9,B])/\(∃ xs zs,H2 r=oL xs/\TsAt LF.vs H2 xs zs/\zs.length=i/\(∀ (j:Nat) z,zs[j]?=some z->z.n%64=(j:Int))/\∀ z∈zs,Yl z/\st<=z.d/\z.d<=st+5)/\De H H2)
  ⟨⟨none,none,none,none,none,none,rfl⟩,⟨[],[],h1,trivial,rfl,(λj z h=>by simp at h),λz U=>nomatch U⟩,s1⟩ (λi σ H2 _ hh=>hh.2.2.seq ha) ?_ ?_⟩
 .rintro i x σ H2 t hi ⟨⟨o5,o6,o7,o8,o9,B,rfl⟩,⟨xs,zs,af,ts,lz,mo,gd⟩,s2⟩ nt N9 aj
  rw[zAy] at hi;obtain⟨x,hx,rfl⟩:=zAP.mp hi;have as:i<ns.length:=(zAl.mp hx).1;have s3:=Af nt (.tup [.int i,.int x]);generalize upd H2 t (.tup [.int i,.int x])=H3 at s3;have S3:=s2.trans s3;refine PN [oR a,oR nl,oN u,oN st,oR r,oN i,oN x,o7,o8,o9,B] rfl ?_;refine vE rfl (vE rfl ⟨x,1,rfl,by decide,by decide,λe1 H4 s4 _ _=>⟨_,_,rfl,rfl,(by show (0:Int)<4;decide),?_⟩⟩);obtain⟨S,i1,a1⟩:=Ir (ns:=D) (i:=e1%4) (m4 _).1 (m4 _).2;have S4:=S3.trans s4;refine vI rfl rfl (Dl.of (S4 _ _ Z)) a1 ?_;refine Ga [oR a,oR nl,oN u,oN st,oR r,oN i,oN x,oS S,o8,o9,B] rfl ?_;refine Hu λN eN=>?_;refine Nt eN λN eN=>?_;have M:=ND.ok S i1;have go:∀ F H6,De H4 H6->Fk F.cps.toList->F.length<=17->N [oR a,oR nl,oN u,oN st,oR r,oN i,oN x,oS F,o8,o9,B] H6:=by
   intro F H6 s6 oe le;subst eN;refine vE rfl (vE rfl ⟨x,0,rfl,by decide,by decide,λe0 H7 s7 _ _=>⟨_,_,rfl,rfl,(by show (0:Int)<6;decide),_,_,rfl,rfl,Ij st (st+5) ⟨by have:=md (a:=e0) (b:=6) (by decide);lia,by have:=md (a:=e0) (b:=6) (by decide);lia⟩ λd d0 d1=>?_⟩⟩);refine Ga [oR a,oR nl,oN u,oN st,oR r,oN i,oN x,oS F,oN d,o9,B] rfl ?_;refine vE rfl ⟨x,4,rfl,by decide,by decide,λe4 H8 s8 _ _=>⟨_,_,rfl,rfl,(by show (0:Int)<40;decide),?_⟩⟩;have ap:=md (a:=e4) (b:=40) (by decide);have u1:=uo.1;have av:0<=e4%40*u:=Int.mul_nonneg ap.1 (by lia);have ax:e4%40*u<=39*1000000007:=Int.mul_le_mul (by lia) uo.2 (by lia) (by decide);refine vE rfl (vF rfl rfl ⟨.inl ⟨by lia,by lia⟩,_,_,rfl,rfl,vE rfl ⟨x,5,rfl,by decide,by decide,λe5 H9 s9 _ _=>⟨_,_,rfl,rfl,(by show (0:Int)<3;decide),_,_,rfl,rfl,Ij 1 39000000276 ⟨by have:=md (a:=e5) (b:=3) (by decide);lia,by have:=md (a:=e5) (b:=3) (by decide);lia⟩ λct c0 c1=>?_⟩⟩⟩);refine Ga [oR a,oR nl,oN u,oN st,oR r,oN i,oN x,oS F,oN d,oN ct,B] rfl ?_;refine vE rfl (vE rfl ⟨x,2,rfl,by decide,by decide,λe2 aw ah _ _=>⟨_,_,rfl,rfl,(by show (0:Int)<4;decide),?_⟩⟩);obtain⟨L,i2,a2⟩:=Ir (ns:=D) (i:=e2%4) (m4 _).1 (m4 _).2;have ai:=S4.trans (s6.trans (s7.trans (s8.trans (s9.trans ah))));have ad:=s3.trans (s4.trans (s6.trans (s7.trans (s8.trans (s9.trans ah)))));refine vI rfl rfl (Dl.of (ai _ _ Z)) a2 ?_;refine Ga [oR a,oR nl,oN u,oN st,oR r,oN i,oN x,oS F,oN d,oN ct,oS L] rfl ?_;have ab:=ad _ _ af;have aq:6<=sizeLine:=by rw[zCE];decide
   have dx:=md (a:=x) (b:=15625000) (by decide);refine vE rfl ⟨.inl ⟨rfl,_,Dl.of ab⟩,vE rfl (vF rfl rfl ⟨(by show (0:Int)<15625000;decide),_,_,rfl,rfl,.inl ⟨by lia,by lia⟩,vE rfl (vF rfl rfl (vE rfl (vE rfl (vE rfl (vE rfl (vE rfl ⟨x,3,rfl,by decide,by decide,λe3 ae aa _ _=>⟨_,_,rfl,rfl,(by show (0:Int)<4;decide),?_⟩⟩))))))⟩)⟩;obtain⟨z3,i3,a3⟩:=Ir (ns:=D) (i:=e3%4) (m4 _).1 (m4 _).2;have ar:=ai.trans aa;refine vI rfl rfl (Dl.of (ar _ _ Z)) a3 (vE rfl ⟨aq,λtp ak=>?_⟩);have ac:=aa _ _ ab;have Y:=Af ak (.tup (LF.vs ⟨x%15625000*64+i,d,F,L,z3,ct⟩));have an:upd ae tp (.tup (LF.vs ⟨x%15625000*64+i,d,F,L,z3,ct⟩)) tp=oT (LF.vs ⟨x%15625000*64+i,d,F,L,z3,ct⟩):=Aa;have lx:=ts.len;refine⟨r,xs,_,rfl,rfl,Y _ _ ac,by rw[zCE];lia,?_⟩;have ao:W6 (upd ae tp (.tup (LF.vs ⟨x%15625000*64+i,d,F,L,z3,ct⟩))) (upd (upd ae tp (.tup (LF.vs ⟨x%15625000*64+i,d,F,L,z3,ct⟩))) r (.lst (xs++[.ref tp]))):=Cj (Y _ _ ac) _;refine aj _ _ ⟨⟨_,_,_,_,_,_,rfl⟩,⟨xs++[V.ref tp],zs++[LF.mk (x%15625000*64+i) d F L z3 ct],Aa,?_,by rw[zAj,lz];rfl,λj z U=>?_,λz U=>?_⟩,λb o y=>?_⟩
   .exact ((ts.mono (Aq (ad.trans (aa.trans Y)))).snoc an).mono ao
   .by_cases hj:j<zs.length
    .rw[zBB hj] at U
     exact mo j z U
    .rw[zBp (by lia)] at U
     have e0:j-zs.length=0:=by
      have:=(zAl.mp U).1;rw[zAU] at this
      lia
     rw[e0] at U;cases U;show (x%15625000*64+(i:Int))%64=_
     lia
   .rcases zAs.mp U with g|g
    .exact gd z g
    .rw[zAm.mp g]
     refine⟨⟨decide_eq_true ⟨by lia,by lia⟩,decide_eq_true ⟨by lia,by lia⟩,⟨oe,?_⟩,of_decide_eq_true (ND.ok L i2).1,of_decide_eq_true (ND.ok z3 i3).1,decide_eq_true ⟨by lia,by lia⟩,c0⟩,d0,d1⟩;have e9:F.cps.toList.length=F.length:=rfl;show F.cps.toList.length<=900
     lia
   .rw[Ag (Ae y nr)]
    exact Y _ _ (aa _ _ (ad _ _ (s2 b o y)))
  refine vE rfl ⟨x,6,rfl,by decide,by decide,λe6 H5 s5 _ _=>⟨_,_,rfl,rfl,(by show (0:Int)<6;decide),rfl,vE rfl ?_⟩⟩;by_cases h6:V.int (e6%6)=V.int 1
  .refine dT h6 (vE rfl ⟨_,_,rfl,rfl,?_,vE rfl (vE rfl ⟨x,7,rfl,by decide,by decide,λe7 H6 s6 _ _=>⟨_,_,rfl,rfl,(by show (0:Int)<4;decide),?_⟩⟩)⟩)
   .rw[B6,Ee,zCE]
    have:=M.2.1;show S.length+1<=_
    lia
   obtain⟨L,i2,a2⟩:=Ir (ns:=D) (i:=e7%4) (m4 _).1 (m4 _).2;have ag:=ND.ok L i2;have el:(S++Str.ofString ".").length=S.length+1:=by
    rw[B6];show (S.cps++[46].toArray).size=_;rw[zCe];rfl
   have al:(S++Str.ofString "."++L).length=S.length+1+L.length:=by
    rw[<- el];show ((S++Str.ofString ".").cps++L.cps).size=_;rw[zCe];rfl
   refine vI rfl rfl (Dl.of ((S4.trans (s5.trans s6)) _ _ Z)) a2 ⟨_,_,rfl,rfl,?_,?_⟩
   .rw[el,zCE]
    have:=M.2.1;have:=ag.2.1
    lia
   refine go _ _ (s5.trans s6) ?_ (by have:=M.2.1;have:=ag.2.1;rw[al];lia);have ej:S++Str.ofString "."++L=Str.join (tx [46]) [S,L]:=by rw[B6];rfl
   rw[ej];exact Wt (by simp) (by show 2<=2;decide) λp hp=>by
    rcases zAn.mp hp with y|y
    .rw[y];exact M.1
    .rw[zAm.mp y];exact ag.1
  .refine dF h6 (go S H5 s5 ?_ (by have:=M.2.1;lia))
   exact Wt (ps:=[S]) (by simp) (by show 1<=2;decide) λp hp=>by rw[zAm.mp hp];exact M.1
 .rintro σ H2 ⟨⟨o5,o6,o7,o8,o9,B,rfl⟩,⟨xs,zs,af,ts,lz,mo,gd⟩,s2⟩
  rw[zAb] at lz;exact vE rfl (q r xs zs H2 s2 nr af ts ⟨CI mo,by lia,gd,am,by lia⟩)
end
def QN {zs:List LF} (nd:(zs.map (·.n)).Nodup) {a b:LF} (M:a∈zs) (L:b∈zs) (e:a.n=b.n):a=b:=by
 obtain⟨i,hi,q⟩:=zCl.mp M;obtain⟨j,S,z⟩:=zCl.mp L;have g:i=j:=by
  rw[zAS,zAH] at nd;have F:i<(zs.map (·.n)).length:=by rw[zAb];exact hi
  have B:j<(zs.map (·.n)).length:=by rw[zAb];exact S
  rcases zBr i j with y|y|y
  .exact absurd (by rw[zAX,zAX,q,z,e]) (nd i j F B y)
  .exact y
  .exact absurd (by rw[zAX,zAX,q,z,e]) (nd j i B F y)
 subst g;rw[<- q,<- z]
def Ru (zs:List LF) (d:Int):List LF:=zs.filter λz=>decide (z.d<d)
def GT (zs:List LF) (d:Int):List LF:=zs.filter λz=>decide (z.d=d)
theorem X2 (d:Int):∀ zs:List LF,(Ru zs d++GT zs d).Perm (Ru zs (d+1))
 |[]=>List.Perm.refl _
 |z::zs=>by
  have ih:=X2 d zs;unfold Ru GT at ih ⊢;by_cases h1:z.d<d
  .rw[zBd,zBd,zBd,if_pos (decide_eq_true h1),if_neg (by rw[decide_eq_false (by lia)];exact zAk),if_pos (decide_eq_true (by lia))]
   exact ih.cons z
  by_cases g:z.d=d
  .rw[zBd,zBd,zBd,if_neg (by rw[decide_eq_false h1];exact zAk),if_pos (decide_eq_true g),if_pos (decide_eq_true (by lia))]
   exact List.perm_middle.trans (ih.cons z)
  .rw[zBd,zBd,zBd,if_neg (by rw[decide_eq_false h1];exact zAk),if_neg (by rw[decide_eq_false g];exact zAk),if_neg (by rw[decide_eq_false (by lia)];exact zAk)]
   exact ih
abbrev OC (bs:List VS) (H1:Hp) (D:Addr->Prop) (R:Rl) (zs:List LF) (st:Int) (i:Nat) (H5:Hp) (p5:Addr):Prop:=∃ (R3:Rl) (D3:Addr->Prop) (c:Option Int) (g:List Wl) (u:List LF) (S:List (List Ih)) (n:List Int) (cd:Int),
   WE bs D3 H5 R3 c g u S u n/\Fw (VO D3 TT H5) R3.b bs/\LamAt TT Dg Fh H5/\R3.r=R.r/\R3.b=R.b/\(∀ d,c=some d->d=cd)/\cd<st+i/\(i=6->cd=st+5)/\Iv (Ru zs (st+i)) u g cd/\(∀ m∈n,m∈(u++g.map (·.2)).map (·.n))/\n.length<=(u++g.map (·.2)).length/\VO D3 TT H5 p5=oL (Ig u)/\(∀ b o,H1 b=some o->¬ D b->b≠TT->H5 b=some o/\¬ D3 b)/\∀ b,D3 b->D b\/H1 b=none
inductive HN (bs:List VS) (vs:List V) (H:Hp) (Q:VK) (E:XK):Prop
 |mk (R:Rl) (D:Addr->Prop) (la:Addr) (xs:List V) (zs:List LF) (st bits:Int) (z0:vs=[.ref R.r,.ref la,.int st,.int bits]) (z1:WE bs D H R none [] [] [] [] []) (z2:Fw (VO D TT H) R.b bs) (z3:LamAt TT Dg Fh H) (z4:DV bs) (z5:VO D TT H la=oL xs) (z6:TsAt LF.vs H xs zs) (z7:MD st zs) (z8:∀ (p:Addr) (R3:Rl) (D3:Addr->Prop) (c:Option Int) (u:List LF) (S:List (List Ih)) (n:List Int) (H':Hp),(∀ b o,H b=some o->¬ D b->b≠TT->H' b=some o)->(∀ b,D3 b->D b\/H b=none)->R3.r=R.r->R3.b=R.b->WE bs D3 H' R3 c [] u S u n->LamAt TT Dg Fh H'->u.Perm zs->u.Pairwise K5->VO D3 TT H' p=oL (Ig u)->Q (.ref p) H')
section
variable {P:Program} {w:World} {K:zAa} {mg:Str->Option Value} {base:Heap}
def Ki (J:Pm P w K mg base) {f:Addr} {fd:zCG} {bs:List VS} (F:WC K "_law_day_by_day" "_law_day_by_day" Gf f fd):Lp P w K mg base Ec 10 f fd ["_law_roll","_law_losses_here","_law_start_here","_law_bits"] (HN bs):=Kt F ["_law_roll","_law_losses_here","_law_start_here","_law_bits","_law_told","_law_day","_law_loss"] df λsc H Q hr h=>by
 obtain⟨R,D,la,xs,zs,st,bits,rfl,RA,ask,lam,bk,hla,tsa,lg,q⟩:=h;refine⟨_,(Ab (Ce sc 4 (Bf Cn))
   (Ab (Bk PassesOwn.never rfl (Sr rfl (J.z.nn J.b7) (Bb (pv 2) (Aj Bd (pv 2) Ad))) (Fj sc 5)
    (Ab (Bk PassesOwn.never rfl (Go K (pv 1)) (Fj sc 6)
    (Ac (Au (Ak Bv (Da K (pv 6) Ad) (pv 5) (An _))
    (Ac (Bc (Cb (Io J bs) hr (Bb (pv 0) (pv 6)))))
    Al)))
   (Ac (Au (PW.pt (Eb (Ak Bv (pv 5) (Aj Bd (pv 2) Ad) (An _)) (Dx (Ak Bv (Aj Ax (Aj Bm (pv 3) (Jo K (Bf (Ah Ad (Ah Ad (Ah Ad (Ah Ad (Bb Ad Ad)))))) (Aj Il (pv 5) (pv 2)))) Ad) Ad (An _)))))
    (Ac (Ce sc 4 (Aj Kg (pv 4) (Bo (A4 J bs) (hr.mono (by decide)) (pv 0) (Bj (pv 5))))))
    Al))))
   (Ac (Ai (pv 4))))),?_⟩
 refine Hu λN eN=>?_;obtain⟨na,nta,hla0⟩:=VO.at hla;obtain⟨tps,hT⟩:=Ct lam;have lx:=tsa.len;have st0:=lg.st0;have st1:=lg.st1;refine⟨zAu _,λp0 hp0=>?_⟩;refine Fq eN [oR R.r,oR la,oN st,oN bits,oR p0,none,none] rfl λN eN=>?_;have sA:=Af hp0 (.lst []);have eA:upd H p0 (.lst []) p0=oL []:=Aa;generalize upd H p0 (.lst [])=H1 at sA eA;have np0:¬ D p0:=λy=>by
  obtain⟨_,o',e',_⟩:=RA.al _ y;rw[hp0] at e';cases e'
 have npT:p0≠TT:=λy=>by rw[y,hT] at hp0;cases hp0
 have ask1:=Ei ask (Gz (D':=D) (λb o e _ _=>sA b o e) λb y=>.inl y);refine vE rfl (vE rfl (vF rfl rfl ⟨st,st+6,rfl,?_⟩));rw[show (st+6-st).toNat=6 by lia];have b0:Ru zs st=[]:=List.filter_eq_nil_iff.mpr λz hz y=>by
  have:=(lg.ok z hz).2.1;have:=of_decide_eq_true y
  lia
 refine Ji (lo:=st) (n:=6) (λi σ H5=>∃ o5 o6 p5,σ=[oR R.r,oR la,oN st,oN bits,oR p5,o5,o6]/\OC bs H1 D R zs st i H5 p5)
  ⟨none,none,p0,rfl,R,D,none,[],[],[],[],st-1,RA.same sA,ask1,lam.same sA,rfl,rfl,(λd h=>by cases h),by lia,(λh=>by cases h),⟨.nil,(λz hz=>by cases hz),(λe he=>by cases he),by rw[show st+((0:Nat):Int)=st by lia,b0];exact List.Perm.refl _⟩,(λm hm=>by cases hm),zAu _,VO.of np0 npT eA,λb o e n _=>⟨e,n⟩,λb h=>.inl h⟩ ?_ ?_
 .rintro i σ H5 hi ⟨o5,o6,p5,rfl,R3,D3,c,g,u,S,n,cd,RB,ask5,lam5,r3,b3,hc,hcd,_,iv,nm,nl,hp5,f5,gr5⟩
  subst eN;refine Ga [oR R.r,oR la,oN st,oN bits,oR p5,oN (st+i),o6] rfl ?_;have hla5:=(f5 _ _ (sA _ _ hla0) na nta).1;refine vE rfl ⟨la,rfl,⟨_,Dl.of hla5⟩,?_⟩;refine Ea (K:=K) (a:=la) (xs:=xs) (λj σ H6=>(∃ o,σ=[oR R.r,oR la,oN st,oN bits,oR p5,oN (st+i),o])/\∃ (g:List Wl) (n:List Int),WE bs D3 H6 R3 c g u S u n/\LamAt TT Dg Fh H6/\Iv (Ru zs (st+i)++GT (zs.take j) (st+i)) u g cd/\(∀ m∈n,m∈(u++g.map (·.2)).map (·.n))/\n.length<=(u++g.map (·.2)).length/\∀ b o,H5 b=some o->¬ D3 b->H6 b=some o)
   ⟨⟨_,rfl⟩,g,n,RB,lam5,by rw[zAV];unfold GT;rw[zBu,zAL];exact iv,nm,nl,λ_ _ e _=>e⟩ (λj σ H6 _ hh=>by
    obtain⟨_,_,_,_,_,_,_,_,f6⟩:=hh;exact Dl.of (f6 _ _ hla5 (f5 _ _ (sA _ _ hla0) na nta).2)) ?_ ?_
  .rintro j x σ H6 hj ⟨⟨o,rfl⟩,g6,n6,RC,lam6,iv6,nm6,nl6,f6⟩ N9 nx9
   obtain⟨t,z,hz,rfl,ht⟩:=tsa.get hj;have mz:=zAC hz;have ht5:=f5 _ _ (sA _ _ ht) (Lb RA.al ht) (Ar ht hT (by intro y;cases y));have ht6:=f6 _ _ ht5.1 ht5.2;subst eN;refine Ga [oR R.r,oR la,oN st,oN bits,oR p5,oN (st+i),oR t] rfl ?_;refine vE rfl (vI rfl rfl (Jy.of ht6) rfl (vE rfl ⟨rfl,vE rfl ?_⟩));have tk:GT (zs.take (j+1)) (st+i)=GT (zs.take j) (st+i)++(if decide (z.d=st+i)=true then [z] else []):=by
    unfold GT;rw[zAT,hz,zBL]
    congr 1
    show List.filter _ [z]=_;rw[zBd,zBu]
   by_cases hd:z.d=st+i
   .refine dT (by rw[hd]) ?_
    have nin:z.n∉n6:=λy=>by
     obtain⟨z',hz',en⟩:=zAD.mp (nm6 _ y);rcases zAs.mp (iv6.pm.mem_iff.mp hz') with m|m
     .have m':=zAJ.mp m
      have e:=QN lg.nd m'.1 mz en;have:=of_decide_eq_true m'.2;rw[e] at this
      lia
     .have m':=(zAJ.mp m).1
      have q1:((zs.take (j+1)).map (·.n)).Nodup:=List.Nodup.sublist ((zBF _ _).map _) lg.nd;rw[zAT,hz,zAp,zCf] at q1;exact q1.2.2 _ (zBy m') _ (zAm.mpr rfl) en
    have len6:(u++g6.map (·.2)).length<=80:=by
     rw[iv6.pm.length_eq,zAj];have h1:(Ru zs (st+i)).length<=zs.length:=zAE _ _;have h2:(GT (zs.take j) (st+i)).length<=(zs.take j).length:=zAE _ _;have h3:=List.length_take_le j zs;have:=lg.l40;rw[zAo] at h2 h3
     lia
    have lg6:g6.length<=80:=by rw[zAj,zAb] at len6;lia
    refine vE rfl (vE rfl ⟨R3,D3,c,g6,u,S,u,n6,z,t,by rw[r3];rfl,ht6,RC,(lg.ok z mz).1,nin,(λd h=>by rw[hc d h];lia),by lia,by lia,λl H7 k7 r7=>?_⟩);refine nx9 _ _ ⟨⟨_,rfl⟩,g6++[(l,z)],n6++[z.n],r7,Qo lam6 k7 RC.al,?_,?_,?_,λb o e n=>k7 _ _ (f6 b o e n) n⟩
    .rw[tk,if_pos (decide_eq_true hd),<- zAZ]
     refine⟨iv6.pw,iv6.lo,λe he=>?_,?_⟩
     .rcases zAs.mp he with m|m
      .exact iv6.hi e m
      .rw[zAm.mp m]
       show cd<z.d
       lia
     .rw[zAp,<- zAZ]
      exact iv6.pm.append_right _
    .intro m hm
     rw[zAp (l₁:=g6),<- zAZ,zAp];rcases zAs.mp hm with y|y
     .exact zAs.mpr (.inl (nm6 m y))
     .exact zAs.mpr (.inr y)
    .rw[zAp (l₁:=g6),<- zAZ,zAj,zAj (as:=u++g6.map (·.2))]
     have:[z.n].length=([(l,z)].map (λx:Wl=>x.2)).length:=rfl
     lia
   .refine dF (λy=>hd (by injection y)) ?_
    refine nx9 _ _ ⟨⟨_,rfl⟩,g6,n6,RC,lam6,?_,nm6,nl6,f6⟩;rw[tk,if_neg (by rw[decide_eq_false hd];exact zAk),zAL];exact iv6
  .rintro σ H6 ⟨⟨o,rfl⟩,g6,n6,RC,lam6,iv6,nm6,nl6,f6⟩
   rw[lx,zAB] at iv6;have iv7:Iv (Ru zs (st+i+1)) u g6 cd:=⟨iv6.pw,iv6.lo,iv6.hi,iv6.pm.trans (X2 _ zs)⟩;have en:∀ {x y:Int},x=y->V.int x=V.int y:=λe=>by rw[e]
   have ei:st+((i+1:Nat):Int)=st+i+1:=by lia
   have cl:∀ H7,De H6 H7->∀ NX:St->Hp->Prop,(∀ p9 H9,OC bs H1 D R zs st (i+1) H9 p9->NX [oR R.r,oR la,oN st,oN bits,oR p9,oN (st+i),o] H9) ->
     LB QS (Q5 4) (Xz CR "close" (Ue bs) [] E0 (Q5 0) (Wv (Q5 5) Xs)) [oR R.r,oR la,oN st,oN bits,oR p5,oN (st+i),o] H7 λv H8=>Cg 4 v [oR R.r,oR la,oN st,oN bits,oR p5,oN (st+i),o] H8 NX:=by
    intro H7 s7 NX nx;have RD:=RC.same s7;have lam7:=lam6.same s7;have f57:∀ b o,H5 b=some o->¬ D3 b->H7 b=some o:=λb o e n=>s7 _ _ (f6 b o e n);have ask7:=Ei ask5 (Gz (D':=D3) (λb o e n _=>f57 b o e n) λb y=>.inl y);have hp7:VO D3 TT H7 p5=oL (Ig u):=Em hp5 (λb o e n _=>f57 b o e n) λb y=>.inl y;obtain⟨dx,hr7⟩:=RD.hr;rw[r3] at hr7;have mem:∀ z∈u++g6.map (·.2),z∈zs:=λz hz=>(zAJ.mp (iv7.pm.mem_iff.mp hz)).1;have nd7:((u++g6.map (·.2)).map (·.n)).Nodup:=(iv7.pm.map _).nodup_iff.mpr (List.Nodup.sublist (List.filter_sublist.map _) lg.nd);have ln7:u.length+g6.length<=40:=by
     have h1:=iv7.pm.length_eq;have h2:(Ru zs (st+i+1)).length<=zs.length:=zAE _ _;rw[zAj,zAb] at h1;have:=lg.l40
     lia
    refine vE rfl (vE rfl ⟨R.r,dx,_,rfl,hr7,Z3 _ _,vE rfl ⟨R3,D3,c,g6,u,S,n6,st+i,by rw[r3];rfl,RD,ask7,bk,(λd h=>by rw[hc d h];lia),by lia,by lia,by lia,nd7,(λe he=>by
     have:=(lg.ok e.2 (mem _ (zAs.mpr (.inr (zBy he))))).1.2.2.2.2.2.2
     lia),lam7,λa R8 D8 es' Ss' H8 r8 b8 f8 gr8 lam8 pm8 pw8 ra8 fa8 na8 ha8=>?_⟩⟩)
    have iv8:=iv7.step (d:=st+i) (by lia) pm8 pw8;have hp8:=Em hp7 f8 gr8;have lu:(Ig u).length+(es'.map λe=>V.int e.2.n).length<=1000:=by
     have:=pm8.length_eq;have:=zAE (λe:Wl=>decide (e.2.d<=st+i)) g6;unfold Ig;rw[zAb,zAb]
     lia
    refine⟨p5,a,Ig u,_,rfl,rfl,(VO.at hp8).2.2,ha8,by rw[zCE];lia,λp9 hp9=>?_⟩;rw[Uz];have s9:=Af hp9 (.lst (Ig (u++es'.map (·.2))));have e9:upd H8 p9 (.lst (Ig (u++es'.map (·.2)))) p9=oL (Ig (u++es'.map (·.2))):=Aa;refine Ga [oR R.r,oR la,oN st,oN bits,oR p9,oN (st+i),o] rfl (nx p9 _ ?_);generalize upd H8 p9 (.lst (Ig (u++es'.map (·.2))))=H9 at s9 e9;have n9:¬ D8 p9:=λy=>by
     obtain⟨_,o',e',_⟩:=ra8.al _ y;rw[hp9] at e';cases e'
    obtain⟨tp8,hT8⟩:=Ct lam8;have t9:p9≠TT:=λy=>by rw[y,hT8] at hp9;cases hp9
    have ask9:=Ei ask7 (Gz (H':=H9) (D':=D8) (λb o e n t=>s9 _ _ (f8 b o e n t)) gr8);have pmn:(u++g6.map (·.2)).Perm (u++es'.map (·.2)++(g6.filter λe=>decide (st+i<e.2.d)).map (·.2)):=iv7.pm.trans iv8.pm.symm;refine⟨R8,D8,_,_,_,_,n6,st+i,ra8.same s9,by rw[b8];exact ask9,lam8.same s9,r8.trans r3,b8.trans b3,(λd h=>by cases h;rfl),by lia,(λh=>by lia),by rw[ei];exact iv8,λm hm=>(pmn.map _).mem_iff.mp (nm6 m hm),by rw[<- pmn.length_eq];exact nl6,VO.of n9 t9 e9,λb o e n t=>?_,λb y=>?_⟩
    .obtain⟨e5,n5⟩:=f5 b o e n t
     have e7:=f57 b o e5 n5;refine⟨s9 _ _ (f8 b o e7 n5 t),λy=>?_⟩;rcases gr8 b y with z|z
     .exact n5 z
     .rw[e7] at z;cases z
    .rcases gr8 b y with z|z
     .exact gr5 b z
     .by_cases y1:D b
      .exact .inl y1
      refine .inr ?_;cases v:H1 b with
      |none=>rfl
      |some o=>
       by_cases t:b=TT
       .obtain⟨_,hT7⟩:=Ct lam7
        rw[t,hT7] at z;cases z
       .obtain⟨e5,n5⟩:=f5 b o v y1 t
        rw[f57 b o e5 n5] at z;cases z
   refine vE rfl (vE rfl (vF rfl rfl ⟨rfl,vE rfl ?_⟩));by_cases i5:i=5
   .exact dT (en (by lia)) (Jt (cl H6 (De.refl _) _ λp9 H9 h9=>(x3 _ _ p9 ⟨rfl,h9⟩)))
   .refine dF (λy=>i5 (by injection y with y;lia)) ?_
    have six:6<=sizeLine:=by rw[zCE];decide
    obtain⟨m,hm0,hm⟩:∃ m:Int,(0<m/\m<1073741824)/\Oq [V.int 1,.int 2,.int 4,.int 8,.int 16,.int 32] (st+i-st)=some (.int m):=by
     rw[show st+(i:Int)-st=i by lia];have z:i=0\/i=1\/i=2\/i=3\/i=4\/i=5:=by lia
     rcases z with rfl|rfl|rfl|rfl|rfl|rfl
     .exact⟨1,by decide,rfl⟩
     .exact⟨2,by decide,rfl⟩
     .exact⟨4,by decide,rfl⟩
     .exact⟨8,by decide,rfl⟩
     .exact⟨16,by decide,rfl⟩
     .exact⟨32,by decide,rfl⟩
    refine vE rfl ⟨six,λpl hpl=>vE rfl (vE rfl (vF rfl rfl ?_))⟩;have sl:=Af hpl (.lst [.int 1,.int 2,.int 4,.int 8,.int 16,.int 32]);have el:upd H6 pl (.lst [.int 1,.int 2,.int 4,.int 8,.int 16,.int 32]) pl=oL [.int 1,.int 2,.int 4,.int 8,.int 16,.int 32]:=Aa;generalize upd H6 pl (.lst [.int 1,.int 2,.int 4,.int 8,.int 16,.int 32])=H7 at sl el;refine vI rfl rfl (Dl.of el) hm (x2 _ _ (c4 rfl rfl hm0 (x2 _ _ (c5 rfl rfl (by show (0:Int)<2;decide) rfl (vE rfl ?_)))));by_cases hb:V.int (bits/m%2)=V.int 0
    .exact dT hb (cl H7 sl _ λp9 H9 h9=>(x3 _ _ p9 ⟨rfl,h9⟩))
    .refine dF hb ?_
     have f57:∀ b o,H5 b=some o->¬ D3 b->H7 b=some o:=λb o e n=>sl _ _ (f6 b o e n);exact (x3 _ _ p5 ⟨rfl,R3,D3,c,g6,u,S,n6,cd,RC.same sl,Ei ask5 (Gz (D':=D3) (λb o e n _=>f57 b o e n) λb y=>.inl y),lam6.same sl,r3,b3,hc,by lia,(λh=>by lia),by rw[ei];exact iv7,nm6,nl6,Em hp5 (λb o e n _=>f57 b o e n) (λb y=>.inl y),λb o e n t=>⟨f57 b o (f5 b o e n t).1 (f5 b o e n t).2,(f5 b o e n t).2⟩,gr5⟩)
 .rintro σ H5 ⟨o5,o6,p5,rfl,R3,D3,c,g,u,S,n,cd,RB,ask5,lam5,r3,b3,hc,hcd,h6,iv,nm,nl,hp5,f5,gr5⟩
  have e6:=h6 rfl;subst e6;have ba:Ru zs (st+((6:Nat):Int))=zs:=List.filter_eq_self.mpr λz hz=>decide_eq_true (by
   have:=(lg.ok z hz).2.2
   lia)
  rw[ba] at iv;have eg:=iv.none (List.Perm.refl _) lg;subst eg;have pm9:=iv.pm;rw[zAY,zAL] at pm9
  first|refine Nt eN λN eN=>?_|subst eN
  refine vE rfl (q p5 R3 D3 c u S n H5 (λb o e n t=>(f5 b o (sA _ _ e) n t).1) (λb y=>?_) r3 b3 RB lam5 pm9 iv.pw hp5);rcases gr5 b y with z|z
  .exact .inl z
  .exact .inr (sA.free z)
def Mj (J:Pm P w K mg base):Jc J 10 "_law_day_by_day" ["_law_roll","_law_losses_here","_law_start_here","_law_bits"] (U2 (HN)):=GP J.z J.se bd λf fd F=>Rb λbs=>Ki J F
end
inductive Og (K:zAa) (T:Addr) (vs:List V) (H:Hp) (Q:VK) (E:XK):Prop
 |mk (a:Addr) (ns:List Int) (z0:vs=[.ref a]) (z1:Dl K H a (ns.map V.int)) (z2:ns.length<=63) (z3:H T=some (.tbl #[])) (z4:∀ H',Q (.bl true) H')
def Xf (z:LF):List Int:=[z.d,z.n]
def MN {a b:LF} (h:LQ Xf a b):K5 a b:=by
 have h':HT.lexLt (Xf b) (Xf a)=false:=h;show HT.lexLt (Ry b) (Ry a)=false;unfold Xf at h';unfold Ry;simp only [HT.lexLt] at h' ⊢;simp at h' ⊢;exact h'
def DR:∀ {xs} {zs},TsAt LF.vs H xs zs->MY BZ 2 H xs (zs.map Xf):=λ{xs zs} h=>by
 refine⟨by rw[zAb,h.len],λj y F=>?_⟩;obtain⟨t,z,g,rfl,B⟩:=h.get F;exact⟨Xf z,by rw[zAy,g];rfl,rfl,λH' s Q q=>⟨t,z,rfl,(s _ _ B),q⟩⟩
theorem Um {f:LF->List V}:∀ {xs} {zs} (k:Nat),TsAt f H xs zs->TsAt f H (xs.take k) (zs.take k)
 |xs,zs,0,_=>by rw[zAV,zAV];trivial
 |[],[],k+1,_=>by rw[List.take_nil,List.take_nil];trivial
 |[],_::_,_+1,h=>h.elim
 |_::_,[],_+1,h=>h.elim
 |x::xs,z::zs,k+1,⟨h,r⟩=>by rw[List.take_succ_cons,List.take_succ_cons];exact⟨h,Um k r⟩
theorem Vb {f:LF->List V}:∀ {xs} {zs} (k:Nat),TsAt f H xs zs->TsAt f H (xs.drop k) (zs.drop k)
 |xs,zs,0,h=>by rw[List.drop_zero,List.drop_zero];exact h
 |[],[],k+1,_=>by rw[List.drop_nil,List.drop_nil];trivial
 |[],_::_,_+1,h=>h.elim
 |_::_,[],_+1,h=>h.elim
 |x::xs,z::zs,k+1,⟨h,r⟩=>by rw[List.drop_succ_cons,List.drop_succ_cons];exact Vb k r
theorem Z4 {f:LF->List V}:∀ {xs} {zs},TsAt f H xs zs->TsAt f H xs.reverse zs.reverse
 |[],[],_=>trivial
 |[],_::_,h=>h.elim
 |_::_,[],h=>h.elim
 |x::xs,z::zs,⟨⟨t,e,h⟩,r⟩=>by rw[zCu,zCu,e];exact (Z4 r).snoc h
def Pw {α:Type} (l:List α) (k:Nat):(l.drop k++l.take k).Perm l:=List.perm_append_comm.trans (by rw[List.take_append_drop])
def made {r d C:Addr} {H H':Hp} {D:Addr->Prop} (hr:H r=none) (q:H d=none) (n:d≠r) (k:KB r (upd (upd H d (.own r)) r (.ins C d [])) H') (f:∀ a,D a->a=r\/upd (upd H d (.own r)) r (.ins C d []) a=none):De H H'/\∀ a,D a->H a=none:=by
 have g:De H (upd (upd H d (.own r)) r (.ins C d [])):=Td hr q;refine⟨λb o e=>k b o (g b o e) (Ae e hr),λa j=>?_⟩;rcases f a j with y|y
 .rw[y];exact hr
 .exact g.free y
def HR {rows:List XF} {j:List VS} (e:j.map un=(rows.map cu).map un) (ok:∀ x∈rows,Sb x) (N:GS (rows.map (·.nm))) (B:rows.length<=4):DV (Fp j):=by
 have g:=Zw e;refine⟨λx q=>?_,by rw[KW g];exact B,QK g N.nd,λx q=>?_⟩
 .obtain⟨r,hr,e⟩:=CP g x q
  have z:x.t=r.t:=congrArg (·.2.1) e;rw[z];have:=(ok r hr).hg
  lia
 .obtain⟨r,hr,e⟩:=CP g x q
  have z:x.cs=r.rs.map Ka:=congrArg (·.2.2.1) e;rw[z,zAb];exact (ok r hr).l3
def Sg (H H':Hp):Prop:=∀ b o,H b=some o->(∀ ps,o≠HO.tbl ps)->H' b=some o
mutual
theorem VN.kt {H H':Hp} (s:Sg H H'):∀ {v} (t:Ia),VN κ H v t->VN κ H' v t
 |v,.at c,h=>by
  unfold VN at h ⊢;obtain⟨p,dx,e,h⟩:=h;exact⟨p,dx,e,s _ _ h (λ_ y=>by cases y)⟩
 |v,.no t,h=>by
  unfold VN at h ⊢;obtain⟨p,dx,w,e,h,r⟩:=h;exact⟨p,dx,w,e,s _ _ h (λ_ y=>by cases y),VN.kt s t r⟩
 |v,.al j,h=>by
  unfold VN at h ⊢;obtain⟨p,dx,l,vs,e,h,g,r⟩:=h;exact⟨p,dx,l,vs,e,s _ _ h (λ_ y=>by cases y),s _ _ g (λ_ y=>by cases y),CdsAt.kt s j r⟩
 |v,.so j,h=>by
  unfold VN at h ⊢;obtain⟨p,dx,l,vs,e,h,g,r⟩:=h;exact⟨p,dx,l,vs,e,s _ _ h (λ_ y=>by cases y),s _ _ g (λ_ y=>by cases y),CdsAt.kt s j r⟩
theorem CdsAt.kt {H H':Hp} (s:Sg H H'):∀ {vs} (g:List Ia),CdsAt κ H vs g->CdsAt κ H' vs g
 |[],[],_=>by unfold CdsAt;trivial
 |v::vs,t::g,h=>by
  unfold CdsAt at h ⊢;exact⟨VN.kt s t h.1,CdsAt.kt s g h.2⟩
 |[],_::_,h=>by unfold CdsAt at h;exact h.elim
 |_::_,[],h=>by unfold CdsAt at h;exact h.elim
end
def VT.kt {H H':Hp} {x:VS} (h:VT H x) (s:Sg H H'):VT H' x:=by
 obtain⟨dx,fs,L,cl,xs,e,j,B,U,g,z,F,q,S,M⟩:=h;exact⟨dx,fs,L,cl,xs,s _ _ e (λ_ y=>by cases y),j,B,U,g,z,VN.kt s _ F,s _ _ q (λ_ y=>by cases y),S.mono (λt _ _ _ y=>s _ _ y (λ_ y=>by cases y)),M⟩
def Zi {H H':Hp} {b:Addr} {bs:List VS} (h:Fw H b bs) (s:Sg H H'):Fw H' b bs:=by
 obtain⟨dx,fs,g,h1,q,B,z⟩:=h;exact⟨dx,fs,g,s _ _ h1 (λ_ y=>by cases y),q,s _ _ B (λ_ y=>by cases y),λx j=>(z x j).kt s⟩
def VD {N:St->Hp->Prop} {σ} {H} {t u} {D} (j:N=N5 t u D) (g:St) (e:σ=g) (h:∀ N:St->Hp->Prop,N=u D->t { D with nx:=N } g H):N σ H:=by
 subst e;exact Nt j h
def Na {K:zAa} {a:Addr} {u:List LF} (h:H a=oL (Ig u)):Ma K H (.seq false ((Ig u).map D.at)) (.ref a):=DQ h (by unfold Ig;rw[List.all_map];exact List.all_eq_true.mpr λ_ _=>rfl)
def MU (u:List LF):eqDs ((Ig u).map D.at) ((Ig u).map D.at)=true:=by
 rw[Mq];exact Ps (by unfold Ig;rw[List.all_map];exact List.all_eq_true.mpr λ_ _=>rfl)
def K6 (z:LF):z.vs.all Dq=true:=rfl
theorem L6 {K:zAa}:∀ {xs} {zs},TsAt LF.vs H xs zs->Reps K H ((zs.map LF.vs).map (Nz true)) xs
 |[],[],_=>by unfold Reps;trivial
 |[],_::_,h=>h.elim
 |_::_,[],h=>h.elim
 |x::xs,z::zs,⟨⟨t,e,h⟩,r⟩=>by
  rw[zAw,zAw];unfold Reps;exact (x2 x xs (c3 rfl (by rw[e];exact FL h (K6 z)) (L6 r)))
def AT {K:zAa} {a:Addr} {xs:List V} {zs:List LF} (h:H a=oL xs) (r:TsAt LF.vs H xs zs):Ma K H (.seq false ((zs.map LF.vs).map (Nz true))) (.ref a):=by
 unfold Ma;exact (x2 a xs (c4 rfl (λz=>(nomatch z)) (λ_=>Dl.of h) (L6 r)))
def PM (zs:List LF):eqDs ((zs.map LF.vs).map (Nz true)) ((zs.map LF.vs).map (Nz true))=true:=AK (λr hr=>by
 obtain⟨z,_,rfl⟩:=zAD.mp hr;exact K6 z) true
theorem VX.at {bs:List VS}:∀ {zs} {Ss} {k j},VX bs k zs Ss j->∀ {i:Nat} {z:LF} {S:List Ih},zs[i]?=some z->Ss[i]?=some S->∃ B,Du B z (Cq z bs) S
 |[],_,_,_,_,_,_,_,g,_=>by simp at g
 |_::_,[],_,_,h,_,_,_,_,_=>h.elim
 |y::zs,U::Ss,k,j,h,0,z,S,g,q=>by
  cases g
  cases q
  exact⟨k,h.1⟩
 |y::zs,U::Ss,k,j,h,i+1,z,S,g,q=>VX.at h.2 (by simpa using g) (by simpa using q)
section
seal L2.PS L2.PSs L2.PE L2.PA
variable {P:Program} {w:World} {K:zAa} {mg:Str->Option Value} {base:Heap}
def IV:Bz ["_law_script","_law_names_here","_law_unit","_law_start_here","_law_covers_here","_law_losses_here","_law_due","_law_head","_law_some","_law_more","_law_book_here","_law_rolls","_law_told","_law_told_at_once","_law_told_ahead","_law_numbers","_law_roll","_law_loss","_law_strips"] ["_law_script"] (Ao CG):=⟨rfl,rfl,rfl,by ac_nf,rfl,by ac_nf,by ac_nf⟩
def HX (J:Pm P w K mg base) {f:Addr} {fd:zCG} (F:WC K "law" "law" CG f fd):Lp P w K mg base Ec 11 f fd ["_law_script"] (Og K TT):=by
 have sc:=IV;refine F.ok sc (λvs H Q E h=>?_) (λcdv A outer s H vs Q E hr h=>?_)
 .obtain⟨_,_,rfl,_⟩:=h
  rfl
 have hu64:=FR hr;obtain⟨a,ns,rfl,ha,l63,hT,q⟩:=h;refine⟨_,(Ab (Ce sc 1 (Cb (Nv J) hr (Bb (Aj Bm (Cb (Et J) hr (Bb (pv 0) Ad)) Ad) Ad)))
   (Ab (Ce sc 2 (Jo K (Bf (Ah Ad (Bb Ad (Aj Bd (Aj A6 Ad Ad) Ad)))) (Aj Ax (Cb (Et J) hr (Bb (pv 0) Ad)) Ad)))
   (Ab (Ce sc 3 (Cb (Yc J) hr (Bj (Cb (Et J) hr (Bb (pv 0) Ad)))))
   (Ab (Ce sc 4 (Cb (Ux J) hr (Ah (pv 0) (Ah (pv 1) (Bb (pv 2) (pv 3))))))
   (Ab (Ce sc 5 (Cb (Ua J) hr (Ah (Ek (Iw (K:=K) rfl) (pv 0) (Eh Ad) (Eh Ad)) (Ah (pv 1) (Bb (pv 2) (pv 3))))))
   (Ab (Ce sc 6 (U1 (n:=1) (pv 5) (Ze J) (hr.mono (by decide)) rfl rfl (J.z.nn J.ce)))
   (Ab (Ce sc 7 (Cb (By J) hr (Bb (Cb (Et J) hr (Bb (pv 0) Ad)) Ad)))
   (Ab (Ce sc 8 (Cb (Lq J) hr (Bb (pv 5) (Aj Ax (pv 7) (Aj Bd (Cw (Cr (K:=K) rfl) rfl (J.z.nn J.az) (show zCF _=some (.builtin "len") from rfl) (Bj (pv 5))) Ad)))))
   (Ab (Ce sc 9 (Cb (Lq J) hr (Bb (pv 5) (Aj Ax (Aj Bm (pv 7) Ad) (Aj Bd (Cw (Cr (K:=K) rfl) rfl (J.z.nn J.az) (show zCF _=some (.builtin "len") from rfl) (Bj (pv 5))) Ad)))))
   (Ab (Ce sc 10 (Cb (Pa J) hr (Bj (pv 4))))
   (Ab (Ce sc 11 (Bf (Ah (Ca (BB J) (hr.mono (by decide)) rfl (Bj (pv 10))) (Bb (Ca (BB J) (hr.mono (by decide)) rfl (Bj (pv 10))) (Ca (BB J) (hr.mono (by decide)) rfl (Bj (Cb (Pa J) hr (Bj (pv 4)))))))))
   (Ab (B0 (Cb (Qp J) hr (Ah (Jo K (pv 11) Ad) (Ah (Jo K (pv 11) Ad) (Ah (pv 5) (Ah (KS (pv 8) (Sl Mw Ad)) (Bb (pv 3) (Aj Ax (Aj Bm (pv 7) Ad) Ad))))))) (Cu (K:=K) (n:=2) rfl rfl (As (Fj sc 12) (As (Fj sc 13) Cs))))
   (Ab (Ce sc 14 (Cb (Mj J) hr (Ah (Jo K (pv 11) Ad) (Ah (Aj Kg (FH (pv 9) Ad) (BQ (pv 9) Ad Ad)) (Bb (pv 3) (Aj Bm (pv 7) Ad))))))
   (Ab (Ef (NC:=["_law_loss"]) (own:=["_law_loss"]) (cs:=[]) (ix:=[]) (j:=15) sc.nd rfl rfl rfl (Dt.of rfl) rfl trivial (Go K (pv 6)) (λ_ _ _=>(Jq 0)) (λ_ _ _=>Bw) (λ_ _ _=>(Da K (pv 0) Ad)))
   (Ab (Au (PW.pt (Eb (Ak (Mf (K:=K) hu64) (pv 12) (pv 15) (An _)) (Eb (Ak (Mf (K:=K) hu64) (pv 13) (pv 15) (An _)) (Dx (Ak (Mf (K:=K) hu64) (pv 14) (pv 15) (An _))))))
    (Ac (Ai Dd))
    Al)
   (Ab (Bk PassesOwn.never rfl (Go K (pv 11)) (Fj sc 16)
    (Ac (Au (Ak (Mf (K:=K) hu64) (O0 (AU J) (hr.mono (by decide)) (pv 16)) (pv 6) (An _))
    (Ac (Ai Dd))
    Al)))
   (Ab (Bk PassesOwn.never rfl (Go K (pv 6)) (Fj sc 17)
    (Ab (Ce sc 18 (Bo (CU J) (hr.mono (by decide)) (Jo K (pv 11) Ad) (Bj (Da K (pv 17) Ad))))
   (Ab (Au (Bp (Bg (Cb (Yy J) hr (Bb (pv 18) (Da K (pv 17) Ad)))))
    (Ac (Ai Dd))
    Al)
   (Ac (Au (PW.pt (Eb (Ak (Mf (K:=K) hu64) (Bo (CU J) (hr.mono (by decide)) (Jo K (pv 11) Ad) (Bj (Da K (pv 17) Ad))) (pv 18) (An _)) (Dx (Ak (Mf (K:=K) hu64) (Bo (CU J) (hr.mono (by decide)) (Jo K (pv 11) Ad) (Bj (Da K (pv 17) Ad))) (pv 18) (An _)))))
    (Ac (Ai Dd))
    Al)))))
   (Ac (Ai Dd))))))))))))))))))),?_⟩
 refine Hu λN eN=>?_;have lam:LamAt TT Dg Fh H:=.inl hT;have three:3<=sizeLine:=by rw[zCE];decide
 refine vE rfl ⟨a,ns,0,rfl,ha,(by decide),l63,?_⟩;refine vF rfl rfl ⟨⟨by decide,by decide⟩,_,rfl,λnl D H1 s1 nnl hnl ND d4=>?_⟩;refine Fq eN [oR a,oR nl,none,none,none,none,none,none,none,none,none,none,none,none,none,none,none,none,none] rfl λN eN=>?_;have e9':(10:Int)^(9:Int).toNat=1000000000:=by ac_nf
 refine vF rfl rfl ⟨⟨by decide,by decide,by decide⟩,_,_,rfl,rfl,three,λpl hpl=>?_⟩;rw[e9'];have sP:=Af hpl (.lst [V.int 1,.int 97,.int (1000000000+7)]);have hP:upd H1 pl (.lst [V.int 1,.int 97,.int (1000000000+7)]) pl=oL [V.int 1,.int 97,.int (1000000000+7)]:=Aa;generalize upd H1 pl (.lst [V.int 1,.int 97,.int (1000000000+7)])=H2 at sP hP;have S2:=s1.trans sP;obtain⟨u,uo,hu⟩:∃ u:Int,BE u/\Oq [V.int 1,.int 97,.int (1000000000+7)] (ns.getD (0:Int).toNat 0%3)=some (.int u):=by
  have c3:=md (a:=ns.getD (0:Int).toNat 0) (b:=3) (by decide);generalize ns.getD (0:Int).toNat 0%3=i at c3;have z:i=0\/i=1\/i=2:=by lia
  rcases z with rfl|rfl|rfl
  .exact⟨_,⟨by decide,by decide⟩,rfl⟩
  .exact⟨_,⟨by decide,by decide⟩,rfl⟩
  .exact⟨_,⟨by decide,by decide⟩,rfl⟩
 refine vE rfl ⟨a,ns,0,rfl,(S2.seq ha),(by decide),l63,(vF rfl rfl ⟨(by show (0:Int)<3;decide),vI rfl rfl (Dl.of hP) hu ?_⟩)⟩;refine Fq eN [oR a,oR nl,oN u,none,none,none,none,none,none,none,none,none,none,none,none,none,none,none,none] rfl λN eN=>?_;refine vE rfl ⟨a,ns,1,rfl,S2.seq ha,by decide,l63,_,rfl,λst H3 s3 st0 st1=>?_⟩;refine Fq eN [oR a,oR nl,oN u,oN st,none,none,none,none,none,none,none,none,none,none,none,none,none,none,none] rfl λN eN=>?_;have S3:=S2.trans s3;have hnl3:=s3 _ _ (sP _ _ hnl);refine vE rfl (vE rfl (vE rfl (vE rfl ⟨a,ns,nl,u,st,D,rfl,(S3.seq ha),l63,uo,st0,st1,hnl3,ND,d4,(λcv rows H4 s4 ncv hcv okr NR r4=>?_)⟩)));refine Fq eN [oR a,oR nl,oN u,oN st,oR cv,none,none,none,none,none,none,none,none,none,none,none,none,none,none] rfl λN eN=>?_;have S4:=S3.trans s4;refine vE rfl (vE rfl (vE rfl ⟨a,_,rfl,(S4.seq ha),(λsl nsl=>?_)⟩));obtain⟨ms,em,lm⟩:∃ ms:List Int,Ku (ns.map V.int) (some 7) (some 47)=ms.map V.int/\ms.length<=40:=by
  refine⟨(ns.drop (HT.sIx (ns.map V.int).length 0 (some 7))).take (HT.sIx (ns.map V.int).length (ns.map V.int).length (some 47)-HT.sIx (ns.map V.int).length 0 (some 7)),?_,?_⟩
  .unfold Ku
   rw[List.map_take,List.map_drop]
  .rw[zAo]
   simp only [HT.sIx]
   lia
 rw[em];have s5:=Af nsl (.lst (ms.map V.int));have h5:upd H4 sl (.lst (ms.map V.int)) sl=oL (ms.map V.int):=Aa;generalize upd H4 sl (.lst (ms.map V.int))=H5 at s5 h5;have S5:=S4.trans s5;refine vE rfl (vE rfl (vE rfl ⟨sl,ms,nl,u,st,D,rfl,(Dl.of h5),lm,uo,st0,st1,(s5 _ _ (s4 _ _ hnl3)),ND,d4,(λll xs zs H6 s6 nll hll tsl lg=>?_)⟩));refine Fq eN [oR a,oR nl,oN u,oN st,oR cv,oR ll,none,none,none,none,none,none,none,none,none,none,none,none,none] rfl λN eN=>?_;have S6:=S5.trans s6;have lx:=tsl.len;have l40:=lg.l40;refine vE rfl ⟨ll,xs,zs.map Xf,rfl,Dl.of hll,DR tsl,by lia,λpm du H7 ndu s7 hpm hup hdu=>?_⟩;rw[lx] at hpm hup;obtain⟨dpm,dpw⟩:=VZ (⟨0,0,"","","",0⟩:LF) Xf hpm hup;have tdu:=(tsl.pick (⟨0,0,"","","",0⟩:LF) pm.toList λi hi=>by have:=HA hpm i hi;lia).mono (λt ws e=>s7 t _ e);have dpz:(pm.toList.map λi=>zs.getD i (⟨0,0,"","","",0⟩:LF)).Pairwise K5:=dpw.imp λh=>MN h;generalize (pm.toList.map λi=>zs.getD i (⟨0,0,"","","",0⟩:LF))=ds at dpm dpz tdu;generalize (pm.toList.map λi=>xs.getD i V.non)=dxs at hdu tdu;clear dpw hup hpm;refine Fq eN [oR a,oR nl,oN u,oN st,oR cv,oR ll,oR du,none,none,none,none,none,none,none,none,none,none,none,none] rfl λN eN=>?_;have S7:=S6.trans s7;refine vE rfl ⟨a,ns,2,rfl,(S7.seq ha),(by decide),l63,_,7,rfl,(by decide),(by decide),(λhd H8 s8 hd0 hd1=>?_)⟩;refine Fq eN [oR a,oR nl,oN u,oN st,oR cv,oR ll,oR du,oN hd,none,none,none,none,none,none,none,none,none,none,none] rfl λN eN=>?_
 have S8:=S7.trans s8;have hll8:=s8 _ _ (s7 _ _ hll);obtain⟨k1,ek1,hk1⟩:∃ k:Nat,hd%((xs.length:Int)+1)=(k:Int)/\k<=xs.length:=⟨(hd%((xs.length:Int)+1)).toNat,by have:=md (a:=hd) (b:=(xs.length:Int)+1) (by lia);lia,by have:=md (a:=hd) (b:=(xs.length:Int)+1) (by lia);lia⟩;obtain⟨k2,ek2,hk2⟩:∃ k:Nat,hd/64%((xs.length:Int)+1)=(k:Int)/\k<=xs.length:=⟨(hd/64%((xs.length:Int)+1)).toNat,by have:=md (a:=hd/64) (b:=(xs.length:Int)+1) (by lia);lia,by have:=md (a:=hd/64) (b:=(xs.length:Int)+1) (by lia);lia⟩;refine vE rfl (vE rfl (vE rfl ⟨ll,xs,rfl,(.inl (Dl.of hll8)),(vF rfl rfl (vF rfl rfl ⟨(by show (0:Int)<(xs.length:Int)+1;lia),ll,xs,k1,by rw[<- ek1];rfl,hll8,by lia,hk1,λsm H9 s9 nsm hsm=>?_⟩))⟩));refine Fq eN [oR a,oR nl,oN u,oN st,oR cv,oR ll,oR du,oN hd,oR sm,none,none,none,none,none,none,none,none,none,none] rfl λN eN=>?_;have hll9:=s9 _ _ hll8;refine vE rfl (vE rfl (vF rfl rfl ⟨⟨by decide,by decide⟩,vE rfl ⟨ll,xs,rfl,(.inl (Dl.of hll9)),(vF rfl rfl (vF rfl rfl ⟨(by show (0:Int)<(xs.length:Int)+1;lia),ll,xs,k2,by rw[<- ek2];rfl,hll9,by lia,hk2,λmo H10 s10 nmo hmo=>?_⟩))⟩⟩));refine Fq eN [oR a,oR nl,oN u,oN st,oR cv,oR ll,oR du,oN hd,oR sm,oR mo,none,none,none,none,none,none,none,none,none] rfl λN eN=>?_;have S10:=S8.trans (s9.trans s10);have T10:De H6 H10:=(show De H6 H7 from s7).trans (s8.trans (s9.trans s10));have T410:De H4 H10:=s5.trans (s6.trans T10);have ok10:∀ x∈rows,WQ H10 x/\Sb x:=λx hx=>⟨(okr x hx).1.same T410,(okr x hx).2⟩;refine vE rfl ⟨cv,rows,rfl,(T410 _ _ hcv),ok10,NR,(λb1 bcl bak cvs H11 s11 B11 fb1 fak1 cv11 eun=>?_)⟩
 refine Fq eN [oR a,oR nl,oN u,oN st,oR cv,oR ll,oR du,oN hd,oR sm,oR mo,oR b1,none,none,none,none,none,none,none,none] rfl λN eN=>?_;have ask11:=Ei (G0 B11 fb1 fak1 cv11) (Nw.sub _ _);have bk1:=HR eun (λx hx=>(okr x hx).2) NR r4;have lam11:=lam.same (S10.trans s11);obtain⟨tp11,hT11⟩:=Ct lam11;refine vE rfl ?_;intro r1 d1 hr1 hd1 nd1;refine⟨Fp cvs,r1,d1,b1,rfl,Aa,⟨_,Td hr1 hd1 _ _ hT11⟩,λR1 D1 H12 kb1 er1 eb1 fr1 RA1=>⟨rfl,?_⟩⟩;obtain⟨s12,fD1⟩:=made hr1 hd1 nd1 kb1 fr1;have hT12:=s12 _ _ hT11;refine vE rfl ?_;intro r2 d2 hr2 hd2 nd2;refine⟨Fp cvs,r2,d2,b1,rfl,Aa,⟨_,Td hr2 hd2 _ _ hT12⟩,λR2 D2 H13 kb2 er2 eb2 fr2 RA2=>⟨rfl,?_⟩⟩;obtain⟨s13,fD2⟩:=made hr2 hd2 nd2 kb2 fr2;have ok13:∀ x∈rows,WQ H13 x/\Sb x:=λx hx=>⟨(ok10 x hx).1.same (s11.trans (s12.trans s13)),(ok10 x hx).2⟩;refine vE rfl ⟨cv,rows,rfl,((T410.trans (s11.trans (s12.trans s13))) _ _ hcv),ok13,NR,(λb2 bcl2 bak2 cvs2 H14 s14 B14 fb2 fak2 cv14 eun2=>?_)⟩;have hT14:=s14 _ _ (s13 _ _ hT12);have ask14:=G0 B14 fb2 fak2 cv14;have bk2:=HR eun2 (λx hx=>(okr x hx).2) NR r4;intro r3 d3 hr3 hd3 nd3;refine⟨Fp cvs2,r3,d3,b2,rfl,Aa,⟨_,Td hr3 hd3 _ _ hT14⟩,λR3 D3 H15 kb3 er3 eb3 fr3 RA3=>⟨rfl,?_⟩⟩;obtain⟨s15,fD3⟩:=made hr3 hd3 nd3 kb3 fr3;refine⟨three,λrl nrl=>?_⟩;have s16:=Af nrl (.lst [V.ref r1,.ref r2,.ref r3]);have h16:upd H15 rl (.lst [V.ref r1,.ref r2,.ref r3]) rl=oL [V.ref r1,.ref r2,.ref r3]:=Aa;generalize upd H15 rl (.lst [V.ref r1,.ref r2,.ref r3])=H16 at s16 h16;refine Fq eN [oR a,oR nl,oN u,oN st,oR cv,oR ll,oR du,oN hd,oR sm,oR mo,oR b1,oR rl,none,none,none,none,none,none,none] rfl λN eN=>?_
 have S16:=S10.trans (s11.trans (s12.trans (s13.trans (s14.trans (s15.trans s16)))));have T16:De H10 H16:=s11.trans (s12.trans (s13.trans (s14.trans (s15.trans s16))));have RB1:=RA1.same (s13.trans (s14.trans (s15.trans s16)));have RB2:=RA2.same (s14.trans (s15.trans s16));have RB3:=RA3.same s16;have al1:∀ x,D1 x->∃ o,H12 x=some o:=λx y=>by obtain⟨_,o,e,_⟩:=RA1.al x y;exact⟨o,e⟩
 have al2:∀ x,D2 x->∃ o,H13 x=some o:=λx y=>by obtain⟨_,o,e,_⟩:=RA2.al x y;exact⟨o,e⟩
 have ap12:∀ x,D1 x->¬ D2 x:=λx y z=>by
  obtain⟨o,e⟩:=al1 x y;rw[fD2 x z] at e;cases e
 have ap13:∀ x,D1 x->¬ D3 x:=λx y z=>by
  obtain⟨o,e⟩:=al1 x y;have e':=s14 _ _ (s13 _ _ e);rw[fD3 x z] at e';cases e'
 have ap23:∀ x,D2 x->¬ D3 x:=λx y z=>by
  obtain⟨o,e⟩:=al2 x y;have e':=s14 _ _ e;rw[fD3 x z] at e';cases e'
 have off1:∀ x o,H11 x=some o->¬ D1 x/\¬ D2 x/\¬ D3 x:=λx o e=>by
  refine⟨λy=>?_,λy=>?_,λy=>?_⟩
  .rw[fD1 x y] at e;cases e
  .have e':=s12 _ _ e
   rw[fD2 x y] at e';cases e'
  .have e':=s14 _ _ (s13 _ _ (s12 _ _ e))
   rw[fD3 x y] at e';cases e'
 have lam16:=lam.same S16;obtain⟨tp16,hT16⟩:=Ct lam16;have T1116:De H11 H16:=s12.trans (s13.trans (s14.trans (s15.trans s16)));have tne:∀ x o,H11 x=some o->(∀ ps,o≠.tbl ps)->x≠TT:=λx o e n y=>by rw[y,hT11] at e;cases e;exact n _ rfl
 have hsm16:H16 sm=oL (xs.drop k1++xs.take k1):=T16 _ _ (s10 _ _ hsm);refine vE rfl (vI rfl rfl (Dl.of h16) rfl (vE rfl (vI rfl rfl (Dl.of h16) rfl (vE rfl (vE rfl (vE rfl ⟨rfl,sm,_,rfl,Dl.of hsm16,λrv nrv=>?_⟩))))));have s17:=Af nrv (.lst (xs.drop k1++xs.take k1).reverse);have h17:upd H16 rv (.lst (xs.drop k1++xs.take k1).reverse) rv=some (.lst (xs.drop k1++xs.take k1).reverse):=Aa;generalize upd H16 rv (.lst (xs.drop k1++xs.take k1).reverse)=H17 at s17 h17;have d6:=md (a:=hd/512) (b:=6) (by decide);obtain⟨k6,ek6,hk6⟩:∃ k:Nat,hd/512%6=(k:Int)/\k<=5:=⟨(hd/512%6).toNat,by lia,by lia⟩;refine vE rfl (vE rfl (vF rfl rfl ⟨⟨by decide,by decide⟩,_,_,rfl,rfl,(by show (0:Int)<6;decide),?_⟩));have T1117:De H11 H17:=T1116.trans s17;have kt12:Sg H11 (VO (λx=>D1 x\/D2 x) TT H17):=λb o e n=>VO.of (λy=>y.elim (off1 b o e).1 (off1 b o e).2.1) (tne b o e n) (T1117 _ _ e);have RC1:=RB1.same s17;have RC2:=RB2.same s17;have RC3:=RB3.same s17;have tw17:XA (Fp cvs) H17 D1 D2 R1 R2 none [] [] [] [] none [] [] [] []:=⟨RC1,RC2,by rw[eb1];exact Zi ask11 kt12,by rw[eb2];exact Zi ask11 kt12,ap12,lam16.same s17⟩;have hll11:H11 ll=oL xs:=s11 _ _ (T10 _ _ hll);have T617:De H6 H17:=T10.trans (s11.trans T1117);have ts17:TsAt LF.vs H17 xs zs:=tsl.mono (Aq T617);have nrvD:∀ (D:Addr->Prop),(∀ x,D x->∃ o,H16 x=some o)->¬ D rv:=λD al y=>by
  obtain⟨o,e⟩:=al rv y;rw[nrv] at e;cases e
 have nr1:¬ D1 rv:=nrvD D1 λx y=>by obtain⟨_,o,e,_⟩:=RB1.al x y;exact⟨o,e⟩
 have nr2:¬ D2 rv:=nrvD D2 λx y=>by obtain⟨_,o,e,_⟩:=RB2.al x y;exact⟨o,e⟩
 have nrT:rv≠TT:=λy=>by rw[y,hT16] at nrv;cases nrv
 have pws:(zs.drop k1++zs.take k1).reverse.Perm zs:=(List.reverse_perm _).trans (Pw zs k1);refine⟨Fp cvs,R1,R2,D1,D2,ll,rv,xs,_,zs,(zs.drop k1++zs.take k1).reverse,st,k6,by rw[er1,er2,<- ek6];rfl,tw17,bk1,kt12 _ _ hll11 (λ_ y=>by cases y),ts17,VO.of (λy=>y.elim nr1 nr2) nrT h17,Z4 (Qr (Vb k1 ts17) (Um k1 ts17)),lg,pws,hk6,λt p q9 R4 R5 D4 D5 u1 u2 S1 S2 n1 n2 H18 fr18 gr18 er4 er5 eb4 eb5 tw18 pu1 wu1 pu2 wu2 ht hp hq npp nqq=>?_⟩;have eu1:=Oz lg.nd pu1 dpm wu1 dpz;have eu2:=Oz lg.nd pu2 dpm wu2 dpz;subst eu1 eu2;have hr16:H17 rl=oL [V.ref r1,.ref r2,.ref r3]:=s17 _ _ h16;have nrl1:¬ D1 rl:=λy=>by
  obtain⟨o,e⟩:=al1 rl y;have e':=s15 _ _ (s14 _ _ (s13 _ _ e));rw[nrl] at e';cases e'
 have nrl2:¬ D2 rl:=λy=>by
  obtain⟨o,e⟩:=al2 rl y;have e':=s15 _ _ (s14 _ _ e);rw[nrl] at e';cases e'
 have nrl3:¬ D3 rl:=λy=>by
  obtain⟨_,o,e,_⟩:=RA3.al rl y;rw[nrl] at e;cases e
 have nrlT:rl≠TT:=λy=>by rw[y,s15 _ _ hT14] at nrl;cases nrl
 have hrl18:=fr18 _ _ hr16 nrl1 nrl2 nrlT;have k18:∀ b o,H11 b=some o->(∀ ps,o≠.tbl ps)->H18 b=some o:=λb o e n=>fr18 _ _ (T1117 _ _ e) (off1 b o e).1 (off1 b o e).2.1 (tne b o e n);obtain⟨tp17,hT17⟩:=Ct tw17.lam;have al12:∀ x,D1 x\/D2 x->x≠TT/\∃ o,H17 x=some o/\Mu o:=λx y=>y.elim (RC1.al x) (RC2.al x);have RD3:=RC3.apart (E:=λx=>D1 x\/D2 x) (λb o e n t=>fr18 b o e (λy=>n (.inl y)) (λy=>n (.inr y)) t) (λx y z=>z.elim (λz=>ap13 x z y) (λz=>ap23 x z y)) al12 ⟨_,hT17⟩;refine⟨t,_,rfl,(Jy.of ht),rfl,(vC rfl (vC rfl ⟨rfl,?_⟩))⟩;refine VD eN [oR a,oR nl,oN u,oN st,oR cv,oR ll,oR du,oN hd,oR sm,oR mo,oR b1,oR rl,oR p,oR q9,none,none,none,none,none] rfl λN eN=>?_;have hmo11:H11 mo=oL (xs.drop k2++xs.take k2):=s11 _ _ hmo;have hmo18:=k18 _ _ hmo11 (λ_ y=>by cases y);have ts18:TsAt LF.vs H18 xs zs:=(tsl.mono (Aq (T10.trans s11))).mono λb ws e=>k18 _ _ e (λ_ y=>by cases y);have tmo:TsAt LF.vs H18 (xs.drop k2++xs.take k2) (zs.drop k2++zs.take k2):=Qr (Vb k2 ts18) (Um k2 ts18);have pmo:=Pw zs k2;have lmo:(xs.drop k2++xs.take k2).length=xs.length:=(Pw xs k2).length_eq;generalize xs.drop k2++xs.take k2=mxs at hmo18 tmo lmo;generalize zs.drop k2++zs.take k2=mzs at tmo pmo;have px:=BD mxs (by lia);have pz:=BD mzs (by have:=tmo.len;lia);have tpx:=Qr (tmo.picks (So mxs.length none)) (tmo.picks (So mxs.length (some 1)));rw[<- tmo.len] at pz;have lpx:=px.length_eq;rw[zAj] at lpx;refine vE rfl (vI rfl rfl (Dl.of hrl18) rfl (vE rfl ⟨mo,mxs,2,rfl,rfl,(by decide),(Dl.of hmo18),?_,(λp1 np1=>?_)⟩))
 .show ((So mxs.length none).filterMap (mxs[·]?)).length<=1000
  lia
 have s19:=Af np1 (.lst (Ie mxs none 2));have h19:upd H18 p1 (.lst (Ie mxs none 2)) p1=oL ((So mxs.length none).filterMap (mxs[·]?)):=Aa;generalize upd H18 p1 (.lst (Ie mxs none 2))=H19 at s19 h19;refine vE rfl ⟨mo,mxs,1,2,rfl,rfl,rfl,(by decide),(Dl.of (s19 _ _ hmo18)),?_,(λp2 np2=>?_)⟩
 .show ((So mxs.length (some 1)).filterMap (mxs[·]?)).length<=1000
  lia
 have s20:=Af np2 (.lst (Ie mxs (some 1) 2));have h20:upd H19 p2 (.lst (Ie mxs (some 1) 2)) p2=oL ((So mxs.length (some 1)).filterMap (mxs[·]?)):=Aa;generalize upd H19 p2 (.lst (Ie mxs (some 1) 2))=H20 at s20 h20;refine⟨p1,p2,_,_,rfl,rfl,(s20 _ _ h19),h20,(by rw[zCE];lia),(λp3 np3=>?_)⟩;have s21:=Af np3 (.lst ((So mxs.length none).filterMap (mxs[·]?)++(So mxs.length (some 1)).filterMap (mxs[·]?)));have h21:upd H20 p3 (.lst ((So mxs.length none).filterMap (mxs[·]?)++(So mxs.length (some 1)).filterMap (mxs[·]?))) p3=oL ((So mxs.length none).filterMap (mxs[·]?)++(So mxs.length (some 1)).filterMap (mxs[·]?)):=Aa;generalize upd H20 p3 (.lst ((So mxs.length none).filterMap (mxs[·]?)++(So mxs.length (some 1)).filterMap (mxs[·]?)))=H21 at s21 h21;have s1821:=s19.trans (s20.trans s21);refine vE rfl (vE rfl (vF rfl rfl ⟨⟨by decide,by decide⟩,?_⟩));have RE3:=RD3.same s1821;have tw21:=tw18.same s1821;have np3D:¬ D3 p3:=λy=>by
  obtain⟨_,o,e,_⟩:=RD3.al p3 y;have e':=s20 _ _ (s19 _ _ e);rw[np3] at e';cases e'
 obtain⟨tp18,hT18⟩:=Ct tw18.lam;have np3T:p3≠TT:=λy=>by rw[y,s20 _ _ (s19 _ _ hT18)] at np3;cases np3
 have off14:∀ x o,H14 x=some o->¬ D3 x:=λx o e y=>by rw[fD3 x y] at e;cases e
 have kt3:Sg (Nw H13 H14) (VO D3 TT H21):=λb o e n=>by
  obtain⟨e0,e1⟩:=Nw.at e;have nT:b≠TT:=λy=>by rw[y,hT14] at e1;cases e1;exact n _ rfl
  have n1:¬ D1 b:=λy=>by
   obtain⟨o',e'⟩:=al1 b y;rw[s13 _ _ e'] at e0;cases e0
  have n2:¬ D2 b:=λy=>by
   obtain⟨o',e'⟩:=al2 b y;rw[e'] at e0;cases e0
  exact VO.of (off14 b o e1) nT (s1821 _ _ (fr18 _ _ (s17 _ _ (s16 _ _ (s15 _ _ e1))) n1 n2 nT))
 have ts21:TsAt LF.vs H21 _ _:=tpx.mono (Aq s1821);have lg3:MD st ((So mxs.length none).filterMap (mzs[·]?)++(So mxs.length (some 1)).filterMap (mzs[·]?)):=by
  have pp:=pz.trans pmo;exact⟨(pp.map _).nodup_iff.mpr lg.nd,by rw[pp.length_eq];exact lg.l40,λz hz=>lg.ok z (pp.mem_iff.mp hz),lg.st0,lg.st1⟩
 refine⟨Fp cvs2,R3,D3,p3,_,_,st,hd/4096,by rw[er3];rfl,RE3,by rw[eb3];exact Zi ask14 kt3,tw21.lam,bk2,VO.of np3D np3T h21,ts21,lg3,λp9 R6 D6 c6 u3 S3 n3 H22 fr22 gr22 er6 eb6 RF3 lam22 pu3 wu3 hp9=>?_⟩;have eu3:=Oz lg.nd (pu3.trans (pz.trans pmo)) pu1 wu3 wu1;subst eu3;refine Fq eN [oR a,oR nl,oN u,oN st,oR cv,oR ll,oR du,oN hd,oR sm,oR mo,oR b1,oR rl,oR p,oR q9,oR p9,none,none,none,none] rfl λN eN=>?_;have hdu11:H11 du=oL dxs:=s11 _ _ (s10 _ _ (s9 _ _ (s8 _ _ hdu)));have al3:∀ x,D3 x->x≠TT/\∃ o,H17 x=some o/\Mu o:=λx y=>RC3.al x y;have n3:∀ x,D3 x->¬ D1 x/\¬ D2 x:=λx y=>⟨λz=>ap13 x z y,λz=>ap23 x z y⟩;have ap43:∀ x,D4 x\/D5 x->¬ D3 x:=λx y z=>by
  rcases gr18 x y with g|g
  .exact g.elim (n3 x z).1 (n3 x z).2
  .obtain⟨_,o,e,_⟩:=al3 x z
   rw[e] at g;cases g
 obtain⟨tp21,hT21⟩:=Ct tw21.lam;have RG1:=tw21.r1.apart fr22 (λx y=>ap43 x (.inl y)) RE3.al ⟨_,hT21⟩;have RG2:=tw21.r2.apart fr22 (λx y=>ap43 x (.inr y)) RE3.al ⟨_,hT21⟩;have k22:∀ b o,H11 b=some o->(∀ ps,o≠.tbl ps)->H22 b=some o:=λb o e n=>fr22 _ _ (s1821 _ _ (k18 b o e n)) (off1 b o e).2.2 (tne b o e n);have hdu22:=k22 _ _ hdu11 (λ_ y=>by cases y);have hrl22:=fr22 _ _ (s1821 _ _ hrl18) nrl3 nrlT;have new3:∀ x,(∀ o,H17 x=some o->D1 x\/D2 x\/x=TT)->¬ D3 x:=λx h y=>by
  obtain⟨nT,o,e,_⟩:=al3 x y;rcases h o e with z|z|z
  .exact (n3 x y).1 z
  .exact (n3 x y).2 z
  .exact nT z
 obtain⟨_,npT,hp18⟩:=VO.at hp;obtain⟨_,nqT,hq18⟩:=VO.at hq;have hp22:=fr22 _ _ (s1821 _ _ hp18) (new3 p npp) npT;have hq22:=fr22 _ _ (s1821 _ _ hq18) (new3 q9 nqq) nqT;obtain⟨_,_,hp9'⟩:=VO.at hp9;have td22:=(tdu.mono (Aq (s8.trans (s9.trans (s10.trans s11))))).mono λb ws e=>k22 _ _ e (λ_ y=>by cases y);have ld:=pu1.length_eq;refine vE rfl ⟨du,rfl,⟨_,Dl.of hdu22⟩,λnn nnn=>Ul (fv:=LF.vs) (g:=λz:LF=>V.int z.n) hdu22 nnn td22 (by lia) (λt z H9 Q9 _ _ ht q9=>vE rfl (vI rfl rfl (Jy.of ht) rfl q9)) ?_⟩;refine Fq eN [oR a,oR nl,oN u,oN st,oR cv,oR ll,oR du,oN hd,oR sm,oR mo,oR b1,oR rl,oR p,oR q9,oR p9,oR nn,none,none,none] rfl λN eN=>?_;have s23:=Af nnn (.lst (u3.map λz:LF=>V.int z.n));have h23:upd H22 nn (.lst (u3.map λz:LF=>V.int z.n)) nn=oL (Ig u3):=Aa;generalize upd H22 nn (.lst (u3.map λz:LF=>V.int z.n))=H23 at s23 h23;have dn:deps ((Ig u3).map L2.D.at)=0:=My _;have nok:∀ {A B:Prop},B->(if (!eqDs ((Ig u3).map L2.D.at) ((Ig u3).map L2.D.at))=true then A else B):=λy=>by rw[MU];exact y
 refine vE rfl (vE rfl ⟨false,_,_,Na (s23 _ _ hp22),Na h23,by rw[dn];decide,vE rfl (nok ?_)⟩);refine vE rfl (vE rfl ⟨false,_,_,Na (s23 _ _ hq22),Na h23,by rw[dn];decide,vE rfl (nok ?_)⟩);refine vE rfl (vE rfl ⟨false,_,_,Na (s23 _ _ hp9'),Na h23,by rw[dn];decide,vE rfl (nok ?_)⟩);have each:∀ (i:Nat) x,[V.ref r1,.ref r2,.ref r3][i]?=some x->∃ bs,∃ R:Rl,∃ D c S n,x=V.ref R.r/\WE bs D H22 R c [] u3 S u3 n:=λi x hx=>by
  match i,hx with
  |0,hx=>cases hx;exact⟨_,R4,_,_,_,_,by rw[er4,er1],RG1⟩
  |1,hx=>cases hx;exact⟨_,R5,_,_,_,_,by rw[er5,er2],RG2⟩
  |2,hx=>cases hx;exact⟨_,R6,_,_,_,_,by rw[er6,er3],RF3⟩
  |n+3,hx=>cases hx
 refine Nt eN λN eN=>?_;refine vE rfl ⟨rl,rfl,⟨_,Dl.of (s23 _ _ hrl22)⟩,?_⟩;refine Cp (K:=K) (a:=rl) (xs:=[V.ref r1,.ref r2,.ref r3]) (λi σ H24=>(∃ o,σ=[oR a,oR nl,oN u,oN st,oR cv,oR ll,oR du,oN hd,oR sm,oR mo,oR b1,oR rl,oR p,oR q9,oR p9,oR nn,o,none,none])/\De H22 H24) ⟨⟨none,rfl⟩,s23⟩ (λi σ H24 _ hh=>Dl.of (hh.2 _ _ hrl22)) ?_ ?_
 .rintro i x σ H24 hi ⟨⟨o,rfl⟩,s24⟩
  obtain⟨bs,R,D9,c9,S9,n9,rfl,RX⟩:=each i x hi;have RY:=RX.same s24;obtain⟨dx,hr9⟩:=RY.hr;refine Ga [oR a,oR nl,oN u,oN st,oR cv,oR ll,oR du,oN hd,oR sm,oR mo,oR b1,oR rl,oR p,oR q9,oR p9,oR nn,oR R.r,none,none] rfl ?_;refine vE rfl ⟨R.r,dx,_,rfl,hr9,PR _ _,bs,R,D9,c9,[],u3,S9,u3,n9,rfl,RY,by lia,λa9 xs9 H25 s25 na9 ha9 ts9=>?_⟩;have s225:=s24.trans s25;have dd:=Wc (u3.map LF.vs) true;refine vE rfl ⟨false,_,_,AT ha9 ts9,AT (s225 _ _ hdu22) (td22.mono (Aq s225)),by lia,vE rfl ?_⟩;have nok:∀ {A B:Prop},B->(if (!eqDs ((u3.map LF.vs).map (Nz true)) ((u3.map LF.vs).map (Nz true)))=true then A else B):=λy=>by rw[PM];exact y
  exact nok ⟨⟨_,rfl⟩,s225⟩
 rintro σ H24 ⟨⟨o,rfl⟩,s24⟩;obtain⟨kv1,_,ru1⟩:=RG1.ct;obtain⟨kv2,_,ru2⟩:=RG2.ct;obtain⟨kv3,_,ru3⟩:=RF3.ct;have eS2:=VX.uniq rfl ru1 ru2;have eS3:=VX.uniq ((Zw eun).trans (Zw eun2).symm) ru1 ru3;subst eS2 eS3;have len1:=ru1.len;refine Nt eN λN eN=>?_;have hrl24:=s24 _ _ hrl22;refine vE rfl ⟨du,rfl,⟨_,Dl.of (s24 _ _ hdu22)⟩,?_⟩;refine Ea (K:=K) (a:=du) (xs:=dxs) (λi σ H25=>(∃ o16 o17 o18,σ=[oR a,oR nl,oN u,oN st,oR cv,oR ll,oR du,oN hd,oR sm,oR mo,oR b1,oR rl,oR p,oR q9,oR p9,oR nn,o16,o17,o18])/\De H22 H25) ⟨⟨_,_,_,rfl⟩,s24⟩ (λi σ H25 _ hh=>Dl.of (hh.2 _ _ hdu22)) ?_ ?_
 .rintro i x σ H25 hi ⟨⟨o16,o17,o18,rfl⟩,s25⟩ N9 nx9
  obtain⟨t9,z,hz,rfl,ht9⟩:=td22.get hi;have ht25:=s25 _ _ ht9;have mz:=pu1.mem_iff.mp (zAC hz);have gz:=(lg.ok z mz).1;have iz:i<u3.length:=(zAl.mp hz).1;have hS:S1[i]?=some (S1[i]'(by lia)):=zAe (by lia);generalize S1[i]'(by lia)=SS at hS;obtain⟨k9,so⟩:=ru1.at hz hS;have ndA:((Cq z (Fp cvs)).map (·.nm)).Nodup:=List.Nodup.sublist (List.filter_sublist.map _) bk1.nd;have fo:=Wn so ndA (by have:=gz.2.2.2.2.2.2;lia);have RH1:=RG1.same s25;obtain⟨dx1,hq1⟩:=RH1.hr;rw[er4,er1] at hq1;refine Ga [oR a,oR nl,oN u,oN st,oR cv,oR ll,oR du,oN hd,oR sm,oR mo,oR b1,oR rl,oR p,oR q9,oR p9,oR nn,o16,oR t9,o18] rfl ?_;refine vE rfl (vI rfl rfl (Dl.of (s25 _ _ hrl22)) rfl ⟨r1,dx1,_,rfl,hq1,(AG _ _),(vE rfl (vI rfl rfl (Jy.of ht25) rfl ⟨Fp cvs,R4,_,_,_,u3,S1,u3,_,i,z,SS,by rw[er4,er1];rfl,RH1,hz,hS,gz,λa9 ys9 H26 s26 na9 ha9 st9=>?_⟩))⟩);refine Ga [oR a,oR nl,oN u,oN st,oR cv,oR ll,oR du,oN hd,oR sm,oR mo,oR b1,oR rl,oR p,oR q9,oR p9,oR nn,o16,oR t9,oR a9] rfl ?_;refine vE rfl (vE rfl (vI rfl rfl (Jy.of (s26 _ _ ht25)) rfl ⟨a9,ys9,SS,z.ct,rfl,ha9,st9,fo,(λH27 s27=>vE rfl (Cy ?_))⟩));have s227:=s25.trans (s26.trans s27);have RH2:=RG2.same s227;obtain⟨dx2,hq2⟩:=RH2.hr;rw[er5,er2] at hq2;have dd:=E7 SS;have nok:∀ {A B:Prop},B->(if (!eqDs (SS.map dS) (SS.map dS))=true then A else B):=λy=>by rw[Yk];exact y
  refine vE rfl (vI rfl rfl (Dl.of (s227 _ _ hrl22)) rfl ⟨r2,dx2,_,rfl,hq2,(AG _ _),(vE rfl (vI rfl rfl (Jy.of (s227 _ _ ht9)) rfl ⟨Fp cvs,R5,_,_,_,u3,S1,u3,_,i,z,SS,by rw[er5,er2];rfl,RH2,hz,hS,gz,λa10 ys10 H28 s28 na10 ha10 st10=>?_⟩))⟩);refine vE rfl ⟨false,_,_,Uj ha10 st10,Uj (s28 _ _ (s27 _ _ ha9)) (st9.mono (Aq (s27.trans s28))),by lia,vE rfl (nok ?_)⟩;have s228:=s227.trans s28;have RH3:=RF3.same s228;obtain⟨dx3,hq3⟩:=RH3.hr;rw[er6,er3] at hq3;refine vE rfl (vI rfl rfl (Dl.of (s228 _ _ hrl22)) rfl ⟨r3,dx3,_,rfl,hq3,(AG _ _),(vE rfl (vI rfl rfl (Jy.of (s228 _ _ ht9)) rfl ⟨Fp cvs2,R6,_,_,_,u3,S1,u3,_,i,z,SS,by rw[er6,er3];rfl,RH3,hz,hS,gz,λa11 ys11 H29 s29 na11 ha11 st11=>?_⟩))⟩);refine vE rfl ⟨false,_,_,Uj ha11 st11,Uj (s29 _ _ (s28 _ _ (s27 _ _ ha9))) (st9.mono (Aq (s27.trans (s28.trans s29)))),by lia,vE rfl (nok ?_)⟩;exact nx9 _ _ ⟨⟨_,_,_,rfl⟩,s228.trans s29⟩
 rintro σ H25 ⟨⟨o16,o17,o18,rfl⟩,s25⟩;subst eN;exact q _
end
end CRL
namespace CRL
open PySem L2
def all_mk {l:PySem.W.OpenLaw} {w:World} {K:zAa} {h:Heap} {mg:Str->Option Value} {q:Addr} (X:K.In h) (G:h.Ns zCH mg) (j:mg "law"=some (.ref q)) (k:Pk K) :
  ∃ fd:zCG,(∀ (s:Shared) (v:Value),BindsTo s fd ⟨[v],[]⟩ [("_law_script",v)])/\∀ base:Heap,K.In base->base.Ns zCH mg->BI mg base->Lp l.prog w K mg base Ec 11 q fd ["_law_script"] (Og K TT):=by
 obtain⟨_,d⟩:=k.sf;have e:=j.symm.trans (PySem.W.mg_of X G d.ns);cases e;obtain⟨_,_,_,_,_,_,_,_,_,z,c5⟩:=d.ex;exact⟨_,λs v=>.of_eq rfl,λbase kb _ g=>HX ⟨k,⟨PySem.W.mg_of X G,PySem.W.mg_none_of X G⟩,kb,g⟩ (Uu z c5 d.kp)⟩
def walk {l:PySem.W.OpenLaw} {q:Program} {g:List Str} {XP:(Str->Option Value)->Heap->Prop} {j:World->Heap->Prop} {d:DefRec} {K:Params->zAa} {c:Addr} (hn:l.most=some 63) (M:d.params.defaults=[])
  (hY:∀ (w:World) (h:Heap),j w h->(K w.params).In h) (L:∀ (w:World) (h:Heap),j w h->h.get? TT=some (PySem.W.tabObj #[])) (B:∀ w:World,(K w.params).lookup TT=none) (S:∀ w:World,PySem.W.codeHdIn (K w.params) c TT=true)
  (F:∀ (w:World) (mg:Str->Option Value) (U:Addr) (h:Heap),(K w.params).In h->h.Ns zCH mg->mg d.name=some (.ref U) ->
   ∃ fd:zCG,(∀ (s:Shared) (u:Value),BindsTo s fd ⟨[u],[]⟩ [("_law_script",u)])/\∀ base:Heap,(K w.params).In base->base.Ns zCH mg->BI mg base->Lp l.prog w (K w.params) mg base Ec 11 U fd ["_law_script"] (Og (K w.params) TT)) :
  PySem.W.WalkO q g XP j l.row.toRowW d [] (λf vs=>PySem.call f vs):=
 L2.walk_ofT (n:=63) (k:=11) (x:="_law_script") (CX:=λ_=>Ec) (sp:=λw=>Og (K w.params) TT) hn (by decide) M ⟨rfl,by decide,by decide⟩ hY L B S F (λ_ _ a ns hl Z Y=>⟨a,ns,rfl,Y,hl,Z.1,λ_=>rfl⟩) λ_ _ _ _ _ z=>z
end CRL
open PySem PySem.W PyProof.Rows
set_option tactic.hygienic true in
set_option maxRecDepth 100000 in
set_option maxHeartbeats 0 in
theorem PySem.Challenge.cw_coverroll_k53_whole_any_order_holds : PySem.Challenge.rw_coverroll_k53_whole_any_order.Holds := by
 refine Zhd ?_
 k_fill
 refine CRL.walk (l:=PySem.Challenge.rw_coverroll_k53_whole_any_order) (c:=95) rfl rfl (λw h Y=>PySem.W.km_in_of Y) (λw h Y=>PySem.W.km_tabs_of Y 93 (by simp)) (λw=>by kernel_rfl) (λw=>by kernel_rfl) ?F
 case F=>
  intro w mg fa h KX G hmg;exact CRL.all_mk KX G hmg (by
   constructor <;> first
    |(show _=_;k_is)
    |(show _=_;kit_is)
    |(constructor <;> k_is)
    |(constructor;apply L2.DfIn.of <;> k_is)
    |(constructor;constructor;(show _=_;k_is);apply L2.MtIn.of <;> k_is)
    |(apply L2.NT4.of <;> k_is)
    |(apply L2.MtD.of <;> k_is)
    |(apply L2.MtC.of <;> first|k_is|kernel_rfl)
    | (apply L2.BsE.of <;> first | k_is | (apply L2.MtIn.of <;> k_is)))
