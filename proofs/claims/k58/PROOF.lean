import PyProof.Rows.All
import KE.KDictOf
import KE.KFromBytes
import KE.KIntText
import KE.KLam
import KE.KNestM
import KE.KPairRows
import KE.KRevIter
import KE.KRevSl
import KE.KSortTup
import KE.KTryMore
import KE.RegKIsAll
import Wide.FinOn
import Lean
import PySem.Challenge.RW_coverroll_k58_whole_a_loss_in_pieces
set_option Elab.async false
set_option linter.all false
set_option compiler.extract_closed false
set_option maxRecDepth 100000
set_option maxHeartbeats 4000000
namespace PySem.W.Fast
def tw1110229715711951901:=0
def tw7607840829328444542:=0
def tw13425539521096267679:=0
def tw18052399480826487790:=0
def tw9080747879513722139:=0
def tw10500922239591442371:=0
def tw7389897778420232282:=0
def tw1011409565468644695:=0
def tw7605120973882094080:=0
def tw15450736416319941544:=0
def tw12784503271092183280:=0
def tw18038640877705228778:=0
def tw8394770320258787486:=0
def tw13352547651720544979:=0
def tw18410273408456847273:=0
def tw16893253417154613300:=0
def tw323703341132276532:=0
def tw5612423516500696843:=0
def tw908564191761032184:=0
def tw8720794421818094694:=0
def tw583227100644123429:=0
def tw5373333237893449151:=0
def tw16778735718107572664:=0
def tw7125522141915758176:=0
def tw3039530764133643196:=0
def tw4782573109646394280:=0
def tw5155512154380614066:=0
def tw11685225287105237317:=0
def tw15436333043466954509:=0
def tw4328721723690341959:=0
def tw1253959325900565705:=0
def tw17564548836282164952:=0
def tw14982859794998224333:=0
def tw5326917870977701821:=0
def tw12083663476367502355:=0
def tw4282464550391483762:=0
def tw9852663093426402275:=0
def tw9443142507090116473:=0
def tw424664108986553339:=0
def tw4972231971422848834:=0
def tw5963505536132127677:=0
def tw14018988438451676526:=0
def tw1955736342088775126:=0
def tw6164162000744266837:=0
def tw16011124396738271616:=0
def tw1512679586208202267:=0
def tw7829059996389462223:=0
def tw12203700260895728507:=0
def tw13409972992873042067:=0
def tw5391765789339640818:=0
def tw6567457704241270634:=0
def tw6083613934741652601:=0
def tw10091302918049979313:=0
def tw5666884858486800093:=0
def tw5479078888410102146:=0
def tw16951835875482729409:=0
def tw9489096096137578776:=0
def tw10475529453001189568:=0
def tw10646809980405491253:=0
def tw499684982812731586:=0
def tw7049989980961152263:=0
def tw14364099531810254847:=0
def tw9119475517609711757:=0
def tw13292252899602133937:=0
def tw1422772777929884335:=0
def tw1289396397418737740:=0
def tw16091700278439641328:=0
def tw5833861944196632226:=0
def tw9258005697141611200:=0
def tw14059632769576047810:=0
def tw2192840259226316331:=0
def tw2317543710902767192:=0
def tw17477497269093466161:=0
def tw5668656671049405380:=0
def tw1670487213761406309:=0
def tw17573957514286909892:=0
def tw11179929996478247017:=0
def tw11049097625530733851:=0
def tw6563620312453713023:=0
def tw7926678316137805997:=0
def tw17920187586301188108:=0
def tw339326578033528384:=0
def tw6003132952468488711:=0
def tw8897677562004897693:=0
def tw5906424465834675853:=0
def tw2724277797975527464:=0
def tw7846719345922741240:=0
def tw16334214670595713759:=0
def tw15961195969104483768:=0
def tw11879810229937518976:=0
def tw4786668084822393152:=0
def tw5401991492582856491:=0
def tw17648437352257774248:=0
def tw3866756244048103776:=0
def tw12126037239891872670:=0
def tw11039493769464959548:=0
def tw12722378053246259150:=0
def tw8477355759647904487:=0
def tw10420715087564583647:=0
def tw739938259779889492:=0
def tw9871619319375901259:=0
def tw2538224420378658085:=0
def tw221598120655739471:=0
def tw4377185564125227438:=0
def tw13438703566474148843:=0
def tw6377526283948174053:=0
def tw13273948903878238065:=0
def tw6552676713145908199:=0
def tw17185618186616711863:=0
def tw8683719362240024633:=0
def tw18110037826177472931:=0
def tw16579514485948153094:=0
def tw6257222438724774868:=0
def tw2521214550217656202:=0
def tw2894738631058296140:=0
def tw13561760090786818471:=0
def tw8930803505590695601:=0
def tw3115113580988780857:=0
def tw4820875186642841294:=0
def tw3311404074805714035:=0
def tw16291160087755803693:=0
def tw4652937414697590690:=0
def tw5453575662544380029:=0
def tw16091753146329419946:=0
def tw172465279627469086:=0
def tw16960384383413566122:=0
def tw16486716010695809529:=0
def tw10463796860526389497:=0
def tw954798737026269442:=0
def tw17620953024694853083:=0
def tw418959871277135092:=0
def tw12615528811357689329:=0
def tw12047534555458574863:=0
def tw12380098339025552998:=0
def tw10056994957671955850:=0
def tw13145402393715164016:=0
def tw10473218517455407484:=0
def tw6756886210381567401:=0
def tw5044722134637142153:=0
def tw11355708644011950229:=0
def tw13046418769328530671:=0
def tw7236022515893068588:=0
def tw6477104163499291578:=0
def tw14971710911021790208:=0
def tw14467675513876145137:=0
def tw6291610207460502312:=0
def tw7281069851489638262:=0
def tw11891589860478805155:=0
def tw1046882091970257470:=0
def tw7997913023776555876:=0
def tw3960027931792635045:=0
def tw14872571069377646076:=0
def tw15182579265580590379:=0
def tw11844007328608977726:=0
def tw13232392144045591681:=0
def tw2791489330745782998:=0
def tw16690309581270310610:=0
def tw9516772905151249769:=0
def tw3386532296307432990:=0
def tw16005004880381020969:=0
def tw13237121417849651635:=0
def tw17155322964212436639:=0
def tw14601114201235930454:=0
def tw18398137346580348089:=0
def tw716088292713363442:=0
def tw7156101258476839333:=0
def tw11005781992141056632:=0
def tw17519930715853531153:=0
def tw7954184353103945185:=0
def tw10540727608797716925:=0
def tw6006407164251304330:=0
def tw192444028306859919:=0
def tw14306928251754917073:=0
def tw621756006265176292:=0
def tw2623541908751040075:=0
def tw6526097272131919288:=0
def tw14273373820693200601:=0
def tw58952035730034395:=0
def tw16645824443820289715:=0
def tw6555192591448194429:=0
def tw11286539137058674218:=0
def tw8182578957910095332:=0
def tw9030404694204863440:=0
def tw14847875286938415020:=0
def tw18120322483139640784:=0
def tw1102238615601987514:=0
def tw15032996228941700847:=0
def tw17129760656486887810:=0
def tw16127633065809066193:=0
def tw1036644365927923924:=0
def tw5605748220179417542:=0
def tw17245154251883230432:=0
def tw15575128385397211348:=0
def tw8094539699161225385:=0
def tw15466688023982823189:=0
def tw4043721522430087264:=0
def tw14092426192794410714:=0
def tw1637372163898132965:=0
def tw5712963179531774953:=0
def tw11690323816522581049:=0
def tw1174613688301939889:=0
def tw11905458141705006878:=0
def tw9118144869834662096:=0
def tw10210773388569255183:=0
def tw2941662088780194008:=0
def tw12032891864238639668:=0
def tw12298743000437498734:=0
def tw4972119006509027255:=0
def tw17202958312640131545:=0
def tw8982920455889449548:=0
def tw18130941170333665568:=0
def tw2972943621220283488:=0
def tw13624484109778744054:=0
def tw10879815896789650947:=0
def tw4689948360515724001:=0
def tw8740355763244494044:=0
def tw7923373146793250460:=0
def tw5276505940790998381:=0
def tw7606577823320479011:=0
def tw17960087009617285198:=0
def tw6722213971498945468:=0
def tw2272219606010078263:=0
def tw4586954038332712844:=0
def tw18027412891837084721:=0
def tw7685183817917028602:=0
def tw14073584436252400813:=0
def tw10187148492726576683:=0
def tw16541096339724872699:=0
def tw6050425888830202364:=0
def tw663519724123049436:=0
def tw17761426840083431626:=0
def tw2830227249277326528:=0
def tw16944778298943225495:=0
def tw11898942582339220267:=0
def tw14527827988580698117:=0
def tw12869223934428972718:=0
def tw845943898359349821:=0
def tw9270304943420517185:=0
def tw4931227839211522586:=0
def tw8846190916809162105:=0
def tw3952572958924149172:=0
def tw11133307990282927060:=0
def tw1892089141663191040:=0
def tw5224355828841539479:=0
def tw17218619746053523010:=0
def tw13649450999386777211:=0
def tw1405516233924126987:=0
def tw13486233370414005653:=0
def tw17895093092318918318:=0
def tw2883161010149237596:=0
def tw3967257337018724261:=0
def tw2931777771630284297:=0
def tw9101579066363949308:=0
def tw9982402058594011828:=0
def tw7732700994033569826:=0
def tw4394606025650775456:=0
def tw6302983219421231284:=0
def tw13201628042983194470:=0
def tw3121030984838830965:=0
def tw3452249868089261720:=0
def tw10086431876713111693:=0
def tw8509028834496931535:=0
def tw1978786213264293887:=0
def tw5071123641552218347:=0
def tw1774728445126265510:=0
def tw7101240653017085741:=0
def tw5908558313837506538:=0
def tw11059154111096759430:=0
def tw15922832720706168892:=0
def tw17451663313682536330:=0
def tw17253805311087152075:=0
def tw14225616556521291334:=0
def tw14761647948222432026:=0
def tw7236135156953511894:=0
def tw15738656331467749482:=0
def tw1427333708631511531:=0
def tw5885604764343006496:=0
def tw13786249412893238772:=0
def tw5605642414104832613:=0
def tw5265440385169348854:=0
def tw16507346353766419908:=0
def tw6673644497605250123:=0
def tw3848428173640460725:=0
def tw7961238413470913924:=0
def tw1536670915872208933:=0
def tw14723959402011904499:=0
def tw17224918197122097923:=0
def tw7387679234684447065:=0
def tw15460426963113565986:=0
def tw9960001039444608755:=0
def tw15199629410845056916:=0
def tw14199928937712544282:=0
def tw8728398981637145812:=0
def tw18419506248791054799:=0
def tw7999445416610841108:=0
def tw17509036556313335116:=0
def tw15291831590780212181:=0
def tw3264589352787361241:=0
def tw1096408017811208160:=0
def tw4532785022880813705:=0
def tw1667916302487835789:=0
def tw7344760456682712437:=0
def tw14892169176718196398:=0
def tw11321506132657434682:=0
def tw10757576229336110667:=0
def tw8891550311461321815:=0
def tw2415419795348378021:=0
def tw15824497166356650968:=0
def tw16339162991828268179:=0
def tw14113587549311511149:=0
def tw13298940771964418292:=0
def tw5144339394478018266:=0
def tw2061993909059958776:=0
def tw8901747926024923178:=0
def tw12170767295125243450:=0
def tw4313145191719978490:=0
def tw774924271225585615:=0
def tw6390675184029620852:=0
def tw13078824660630125960:=0
def tw8508416130840266038:=0
def tw4762481507490605852:=0
def tw15871382454566715940:=0
def tw8039409447904224704:=0
def tw12440507997238119218:=0
def tw9556475962853062855:=0
def tw14088814081087966400:=0
def tw17389733340520351635:=0
def tw11417387426043110976:=0
def tw16938548113726208122:=0
def tw9712894434956820533:=0
def tw2955262340687626500:=0
def tw13121271622915400725:=0
def tw9626100400403564648:=0
def tw6277719451652421320:=0
def tw18254489923398484489:=0
def tw16422953681888207292:=0
def tw9608209461273424926:=0
def tw16389030046817275196:=0
def tw15289314485750417485:=0
def tw17208673653590744783:=0
def tw17719639558516271834:=0
def tw711287746481523500:=0
def tw6012740434044557242:=0
def tw14426316862566223222:=0
def tw7959520236912699749:=0
def tw4446039404320200987:=0
def tw6525882361727267334:=0
def tw3992473099028131690:=0
def tw1987407959592307435:=0
def tw14476194528863991464:=0
def tw16497288863742803721:=0
def tw16129432239093408814:=0
def tw820998249887139796:=0
def tw198050329920173978:=0
def tw10478977356578460864:=0
def tw8384477551834796106:=0
def tw2703438355022561619:=0
def tw15971737174869404711:=0
def tw12494464808171515860:=0
def tw969987834450375770:=0
def tw230583474754056860:=0
def tw15371658957973246701:=0
def tw16793468463222971946:=0
def tw5366421712786468654:=0
def tw1380931182871321036:=0
def tw8873155150442431927:=0
def tw11957914209369511367:=0
def tw16123346729006796874:=0
def tw15927787442464371276:=0
def tw17197963055752794626:=0
def tw13220134125715312926:=0
def tw10921973554013450324:=0
def tw12615164132833783754:=0
def tw17992362699573425567:=0
def tw5985990355570554057:=0
def tw4949751917476881494:=0
def tw13805474604698283413:=0
def tw12033544124843840308:=0
def tw5448456701053104950:=0
def tw7309058893848787604:=0
def tw6218395078256702473:=0
def tw17179006430948665083:=0
def tw8704530113062524480:=0
def tw4762227575141459467:=0
def tw16261696745975105569:=0
def tw14912601484486631373:=0
def tw15381095588290117162:=0
def tw13484702345396384566:=0
def tw16851883546883598094:=0
def tw706610265176445956:=0
def tw1518562712231065975:=0
def tw13592514102830651304:=0
def tw9755734542312656550:=0
def tw7710338499209023064:=0
def tw16568849873871348461:=0
def tw14344443549228236918:=0
def tw12901403390593518634:=0
def tw16888887923560555308:=0
def tw12589011568005971691:=0
def tw1212010748466386238:=0
def tw12049005166079686381:=0
def tw30792229012918566:=0
def tw2689350892875998292:=0
def tw16161048482843453610:=0
def tw1423652650940061059:=0
def tw6180835948386608862:=0
def tw3138245122786950605:=0
def tw1287589724729057725:=0
def tw3199315099144793661:=0
def tw6886494819286452827:=0
def tw874539814372239401:=0
def tw9183200919620180355:=0
def tw12405245422479135665:=0
def tw4274819122507362760:=0
def tw8653647380186745002:=0
def tw5708036331671584601:=0
def tw6151859377838897828:=0
def tw10749526937860729864:=0
def tw4757223555011738901:=0
def tw420209382286371496:=0
def tw13596812744294260906:=0
def tw2784275450335973486:=0
def tw15798189259175055386:=0
def tw10808421804679532271:=0
def tw4473971237951887032:=0
def tw409079623020668053:=0
def tw16418604708062958537:=0
def tw17647363890249921108:=0
def tw1039465903233937269:=0
def tw3191895457868414774:=0
def tw2406297788643679569:=0
def tw11513531258414869023:=0
def tw12033581325189542577:=0
def tw5428271505581911842:=0
def tw9934339077767620155:=0
def tw2271243894413483997:=0
def tw2130023378501405183:=0
def tw11931110886353366686:=0
def tw12641447306306811987:=0
def tw9088339126920866283:=0
def tw11578906379909958617:=0
def tw5952293938774647697:=0
def tw8758060637166854136:=0
def tw6017874668993715550:=0
def tw2472616908608079259:=0
def tw17102782870317816933:=0
def tw15562750477449582258:=0
def tw14397672016435214989:=0
def tw1032931533954937598:=0
def tw10195430044542396478:=0
def tw9288531583373520170:=0
def tw13077875868778648403:=0
def tw5944693781641039624:=0
def tw2413370138327990507:=0
def tw2170496661895327667:=0
def tw9795553522386413284:=0
def tw8785081227647883273:=0
def tw6184817973012695191:=0
def tw13983022565446044713:=0
def tw12685504084601272887:=0
def tw8533037264791768924:=0
def tw523745754880708786:=0
def tw13030293036925258072:=0
def tw4233332205111659345:=0
def tw15833647848872288460:=0
def tw15578514964484152228:=0
def tw1533570113636491495:=0
def tw1300348085558509265:=0
def tw4886309576396342198:=0
def tw3487762899552537535:=0
def tw14481335219630199221:=0
def tw12678601708639900520:=0
def tw9686596588270206168:=0
def tw7557971675578098897:=0
def tw4899433588847518360:=0
def tw4652081660681234896:=0
def tw5098314871713060597:=0
def tw11876392759321008006:=0
def tw2908396153251007737:=0
def tw2893279510360141994:=0
def tw15083254879170478255:=0
def tw13220477632723388054:=0
def tw3708145779815293425:=0
def tw13317134042723671892:=0
def tw10569501225276599318:=0
def tw17944923499492560365:=0
def tw11663326380973460535:=0
def tw7587730446103985258:=0
def tw202599135071078550:=0
def tw14567457742545940116:=0
def tw7131647558838798933:=0
def tw2061884946228206008:=0
def tw7431143684568113957:=0
def tw3674289196195664750:=0
def tw14116653562426478452:=0
def tw18210870004473324402:=0
def tw15850786190681750778:=0
def tw8968729910204253830:=0
def tw6402073018392565981:=0
def tw8806432596412928273:=0
def tw8477883701041000802:=0
def tw13688522748152628153:=0
def tw10559205297363139754:=0
def tw9386487963649836242:=0
def tw2377936210203211317:=0
def tw17430577398275437081:=0
def tw17127988469225855645:=0
def tw13643665621362621217:=0
def tw5484934207127162664:=0
def tw16775596312184378785:=0
def tw1385595607720166021:=0
def tw2801723763189123066:=0
def tw14925546307505705894:=0
def tw14306341556161849987:=0
def tw7014739545311373877:=0
def tw5118820863789587072:=0
def tw17852930864704217989:=0
def tw15016611636849165640:=0
def tw3754405373884733565:=0
def tw16823073945567318444:=0
def tw1467220055998531297:=0
def tw15538360103598824283:=0
def tw5793939332321652184:=0
def tw3580339282703912874:=0
def tw10999617644551949388:=0
def tw551463375719056331:=0
def tw9521938991093439072:=0
def tw5137540010153300157:=0
def tw4006461217897010815:=0
def tw1866233812686480150:=0
def tw16055164004971885870:=0
def tw10026843677304944261:=0
def tw8929340173166709231:=0
def tw6590489449339534825:=0
def tw17669049977331195899:=0
def tw1743788837397061501:=0
def tw1427592796327839522:=0
def tw12800478003660083084:=0
def tw8873739468056996875:=0
def tw8840673807728184690:=0
def tw8701651819748895126:=0
def tw8182190353964576956:=0
def tw5998714749303970901:=0
def tw5575953432517880546:=0
def tw5434664294811113573:=0
def tw5312065323226577959:=0
def tw4945568620288909394:=0
def tw4682627057518364903:=0
def tw4560430637206242537:=0
def tw3561864094849973865:=0
def tw3373142451329015390:=0
def tw313475913157592400:=0
def tw2854840794272807548:=0
def tw2626263634976974692:=0
def tw232412826014100969:=0
def tw18216310334703823298:=0
def tw1778864173325316416:=0
def tw16921061100146202489:=0
def tw16754808869342913781:=0
def tw16616990242678835483:=0
def tw16406120415890028466:=0
def tw16254581951619210838:=0
def tw16080658453694020348:=0
def tw15194212369033710178:=0
def tw1472684824243120699:=0
def tw14651261452915590804:=0
def tw13342876278882009701:=0
def tw12592326754384517773:=0
def tw1249362198791433083:=0
def tw12409284865365303301:=0
def tw12406779192654664901:=0
def tw11702681625526335114:=0
def tw10380320787654022787:=0
def tw2651445816218830136:=0
def tw4495895513201687701:=0
def tw13123481892344552031:=0
def tw11710553734493654481:=0
def tw16626572978744253908:=0
def tw1476605402171462986:=0
def tw14182984290897887179:=0
def tw13054874344051993:=0
def tw7839947250488336456:=0
def tw7446535621942344186:=0
def tw4228178677374733113:=0
def tw3337971356907629625:=0
def tw17979047636191022044:=0
def tw9295827031271724011:=0
def tw1109625539725165055:=0
def tw8437131453483098073:=0
def tw18403133017877728215:=0
def tw8569980754478811209:=0
def tw718194988983880947:=0
def tw6084687448033406619:=0
def tw1853804940152141540:=0
def tw8047832650322449356:=0
def tw8042476966848826320:=0
def tw6220415424308720111:=0
def tw6810386028995535768:=0
def tw3155700392002532978:=0
def tw18018099898411590953:=0
def tw16004826692703178498:=0
def tw10038623840868888863:=0
def tw9285814922931331429:=0
def tw7772600608152035410:=0
def tw7540679772499243562:=0
def tw7461449019546145074:=0
def tw6905811094896342806:=0
def tw6093663074908727971:=0
def tw5669784607207280340:=0
def tw561190894605845367:=0
def tw2232582515145682585:=0
def tw2142495659265550539:=0
def tw18332406000995089944:=0
def tw17803922897218282489:=0
def tw17237162244298410009:=0
def tw17124822709831469498:=0
def tw16729914094726322146:=0
def tw15630634216980016778:=0
def tw15279750373373339520:=0
def tw14890852521231486495:=0
def tw14148636697391582131:=0
def tw13852753050402564728:=0
def tw13716038181446129491:=0
def tw13554955331970803074:=0
def tw12469739667987882799:=0
def tw11423851994747476869:=0
def tw10310375924763465482:=0
def tw9961720983479216643:=0
def tw9923127175370235437:=0
def tw9766843198633801540:=0
def tw9420399075487488197:=0
def tw3243863285329408265:=0
def tw267976523301583139:=0
def tw18411093960598803940:=0
def tw17823912426729957795:=0
def tw17204777827835289696:=0
def tw17174996922065793362:=0
def tw16514352684886167779:=0
def tw1577541133385233953:=0
def tw12095204816912541718:=0
def tw1947029397736595632:=0
def tw9800467499881591046:=0
def tw9765274210334055714:=0
def tw8133606034770013301:=0
def tw5735800587358335555:=0
def tw3128204158792433586:=0
def tw16674808993107332745:=0
def tw14906700893972333301:=0
def tw14601315735208025377:=0
def tw2390862262166089553:=0
def tw3728334537844044271:=0
def tw12875965062481287710:=0
def tw1896700473032389866:=0
def tw8760194430102146683:=0
def tw7117253039406334458:=0
def tw9441404255438538408:=0
def tw4841088984644341772:=0
def tw3255182500782959289:=0
def tw9726176613639273467:=0
def tw587267936833987755:=0
def tw4160504822789162991:=0
def tw3458682300715536004:=0
def tw11857625976966096498:=0
def tw10414153158079167373:=0
def tw9206265927363273886:=0
def tw9351891264634634488:=0
def tw12420210812107767938:=0
def tw18346575189330824050:=0
def tw8731508942037269602:=0
def tw148245870515992716:=0
def tw15705875782236869238:=0
def tw9724071986036671972:=0
def tw12944493966609251732:=0
def tw10874754982811804745:=0
def tw6918647052057908556:=0
def tw4164944048057521710:=0
def tw17761883033325903673:=0
def tw6076476623892170282:=0
def tw5720745941635525374:=0
def tw7905620492658170793:=0
def tw3902514322528408789:=0
def tw8109985848221312909:=0
def tw630280607518352733:=0
def tw6191165858005991813:=0
def tw4687843561749013296:=0
def tw6603910627529562256:=0
def tw4042276919569690543:=0
def tw3188887128937083540:=0
def tw15659230340509491545:=0
def tw13595919798567823184:=0
def tw12809618657311997843:=0
def tw8662129233991896842:=0
def tw693773892586767159:=0
def tw6493886093874696349:=0
def tw5603121982035351413:=0
def tw5077159459157220247:=0
def tw3490149006603342721:=0
def tw2699471581893218349:=0
def tw2145634962726554530:=0
def tw1929979411356926900:=0
def tw17436799061212148949:=0
def tw17235749509452703621:=0
def tw17228432525537343520:=0
def tw16815971694608308178:=0
def tw15688631713501513661:=0
def tw14283187523284536885:=0
def tw13741468318557149363:=0
def tw12125816372937802206:=0
def tw1115041819305273106:=0
def tw10819000271054971607:=0
def tw2744257959444572968:=0
def tw5459750357925865351:=0
def tw11064842801467730537:=0
def tw868121856399026203:=0
def tw6232348259304568844:=0
def tw4514237576421989499:=0
def tw4086751232416346854:=0
def tw16659834080333050741:=0
def tw14787044230890045721:=0
def tw1057658030595399223:=0
def tw6669668307651739628:=0
def tw17295585546756009542:=0
def tw999429097974766654:=0
def tw733745940922075973:=0
def tw11661371964923506278:=0
def tw8282554153039347349:=0
def tw17682085404298524433:=0
def tw3274667006445897618:=0
def tw900793304286525928:=0
def tw8288613329324426426:=0
def tw16440090698659383357:=0
def tw15186150559373419764:=0
def tw8796892511351090607:=0
def tw8670942967461621225:=0
def tw8634453997920073214:=0
def tw859255495449765099:=0
def tw7470911611274960218:=0
def tw655373917429158916:=0
def tw373353883243862503:=0
def tw2183968660600189195:=0
def tw18375278764364775799:=0
def tw17636693528666207166:=0
def tw17071630022864470711:=0
def tw16789208742011717039:=0
def tw12467104453273097295:=0
def tw12408906917909377971:=0
def tw3736102599958529238:=0
def tw15035024812064201343:=0
def tw7510413118027378082:=0
def tw8837499450210504693:=0
def tw667302855782183067:=0
def tw6478701318166565411:=0
def tw3105664581466982985:=0
def tw2567637355605636393:=0
def tw10743919904607015814:=0
end PySem.W.Fast
set_option maxHeartbeats 0 in
open_top Zhd for PySem.Challenge.rw_coverroll_k58_whole_a_loss_in_pieces
set_option tactic.hygienic false
local macro_rules|`(tactic|ac_nf)=>`(tactic|decide +kernel)
open PySem.W renaming Frag -> zAa, nsIn -> zAL, findIn -> zAM, keepIn -> zAP, fnOf -> zAU, emptyDict -> zAV, instObj -> zBf, codeIn -> zBi, kitOne -> zBm, kia_one -> zBn, isFn -> zBM, callWith_K -> zBV, specialIn -> zCe, methodCall_KW -> zCk, plainGet -> zCp, makesIn -> zCw, hasDictIn -> zCy, cellsFrom_some -> zCA
open List renaming mem_cons_of_mem -> zAb, length_map -> zAc, mem_cons_self -> zAd, getElem?_eq_getElem -> zAe, length_cons -> zAf, mem_singleton -> zAh, size_toArray -> zAi, mem_cons -> zAj, getElem?_eq_some_iff -> zAk, length_append -> zAm, length_take -> zAn, map_cons -> zAp, map_append -> zAq, getD_eq_getElem?_getD -> zAr, mem_append -> zAu, mem_map -> zAv, getElem?_map -> zAx, mem_of_getElem? -> zAz, getElem?_append_right -> zAA, take_length -> zAB, mem_append_right -> zAC, getElem_of_mem -> zAG, pairwise_iff_getElem -> zAH, pairwise_cons -> zAJ, getElem?_append_left -> zAK, length_singleton -> zAN, length_filter_le -> zAO, mem_filter -> zAR, range -> zAS, nodup_cons -> zAT, nodup_iff_pairwise_ne -> zAW, sum_cons -> zAX, append_nil -> zAY, append_assoc -> zAZ, length_drop -> zBa, length_range -> zBb, take_zero -> zBe, not_mem_nil -> zBg, filter_cons_of_pos -> zBh, getElem_mem -> zBj, getElem_map -> zBk, filter_cons_of_neg -> zBo, mem_append_left -> zBp, drop_eq_getElem_cons -> zBt, map_nil -> zBv, map_map -> zBw, mem_of_mem_take -> zBx, take_add_one -> zBz, mem_range -> zBD, filter_nil -> zBF, forall_mem_cons -> zBG, pairwise_map -> zBH, getElem?_cons_succ -> zBI, lookup_cons -> zBJ, drop_length -> zBK, zipWith_cons_cons -> zBL, filter_append -> zBN, length_replicate -> zBO, pairwise_append -> zBQ, length_erase_of_mem -> zBT, find?_cons -> zBX, length_nil -> zBZ, take_of_length_le -> zCb, length_pos_of_mem -> zCd, take_sublist -> zCf, getElem?_eq_none -> zCn, getElem?_toArray -> zCo, mem_erase_of_ne -> zCq, all_cons -> zCr, lookup -> zCs, filterMap_cons -> zCt, filter_sublist -> zCu, take_succ_cons -> zCv, drop_zero -> zCx, nodup_append -> zCz, any_cons -> zCB, cons_append -> zCC, mem_flatten -> zCE
open PySem.Heap renaming get?_push_of_some -> zAg, lt_size -> zAs, get?_push_size -> zAF, SameBut -> zBr, size_push -> zBR, get?_update_other -> zCa, get?_update_self -> zCl
open Nat renaming le_refl -> zAl, zero_le -> zAw, ne_of_lt -> zAy, le_trans -> zAD, lt_of_lt_of_le -> zAI, lt_irrefl -> zBq, lt_trichotomy -> zBy, not_lt_zero -> zBA, ne_of_gt -> zBB, le_succ -> zBE, lt_succ_self -> zBS, succ_le_succ -> zBU, lt_of_le_of_lt -> zBW, lt_succ_of_lt -> zCg, le_of_lt -> zCi
open Bool renaming and_eq_true -> zAo, false_ne_true -> zAt, false_eq_true -> zBd, not_eq_true' -> zBl, eq_false_iff -> zBs, false_and -> zCj, and_false -> zCm
open Array renaming length_toList -> zAE, getElem?_eq_getElem -> zBc, getElem?_toList -> zBu, perm_iff_toList_perm -> zBC, getD -> zBP, getElem?_eq_none -> zCc, size_append -> zCh, toList_inj -> zCD
open Option renaming map_eq_some_iff -> zAQ, map_some -> zBY
open PySem renaming wpAny_bind -> zCF, wpAny_pure -> zCG, sizeLine_eq -> zCH, bootBuiltins -> zCI, mainGlobals -> zCJ
section
local macro_rules|`(tactic|lk)=>`(tactic|decide)
local macro_rules|`(⇑$a)=>`(($a).heap.objs.size)
local macro_rules|`(tactic|let $c:letConfig $d:letDecl)=>`(tactic|have $c:letConfig $d:letDecl)
open Option renaming some -> ZC, none -> ZD, map -> dR, isSome_map -> gX, getD_none -> nM
open PySem renaming Value -> ZE, Addr -> ZF, Shared -> ZG, Str -> ZM, Program -> ZO, wpAny -> ZP, model -> ZS, starEach -> ZU, World -> ZX, Heap -> aB, Around -> aE, eval -> aM, wpAny_Call_Name_kw -> aN, rawInt -> aO, mem_of_lookup -> aP, compareOp -> aT, wpAny_holding -> aW, wpAny_call_entry -> aX, Expr -> bA, wpAny_newObj_type -> bB, backTo -> bC, wpAny_mono -> bJ, Stmt -> bM, SetTable -> bN, wpAny_truthy_bool -> bP, wpAny_setState_of -> bW, cLine -> bX, sysModules -> bY, wpAny_callSpecial?_slot -> cD, wpAny_setField_rec -> cI, NameKind -> cM, Obj -> cP, keywordEach -> cS, scanBound -> cU, Builtin -> cW, wpAny_setEntries_of -> cY, Paired -> cZ, binaryOp -> dA, attributeBase -> dB, codeAny_builtin -> dC, codeAny -> dD, tupleKind_room_in1 -> dE, wpAny_getItem_str_slice -> dH, codeAny_mono -> dM, assignEach -> dP, behindInMarks -> dQ, sliceBounds -> dW, wpAny_passesOwn -> dY, holding -> eB, pickOrder -> eE, getMethod -> eF, typeIs_str -> eI, pyNext -> eK, call_meets -> eO, backToKw -> eQ, FuncData -> eR, wpAny_newList -> fA, wpAny_attempt -> fC, wpAny_eqBool_int -> fX, Scope -> fY, standAt -> gD, post_val_or_str -> gJ, letOwnedTupleGo -> gK, builtinLookup_eq_fast -> gP, wpAny_fieldsOf -> gZ, isSubtype_type -> hB, intItems -> hE, bindArgs -> hG, tupleKind -> hX, swapsWith -> hZ, getItem -> iA, wpAny_standAt -> iP, plainId_quiet -> iQ, wpAny_call -> iS, builtinsNs -> iT, assign -> iU, wpAny_typeOf -> iZ, valueAt -> jA, relayAll -> jB, foldedSetIterable -> jF, callerA -> jG, callWith -> jH, GenState -> jM, wpAny_isInstance -> jX, wpAny_askSetting -> jY, IsPart -> kE, Env -> kF, subscripted -> kG, numAt -> kH, Fin -> kL, wpAny_execs_nil -> kQ, typeLookup_type -> kR, Within -> kX, spliced -> lB, setNext -> lD, Keyword -> lH, BindsTo -> lK, wpAny_rule -> lL, wpAny_newTuple -> lM, wpAny_newFunctionEnv_cells -> lN, typeLookup -> lO, slotArgs -> lR, closureFor -> lT, atKey -> lV, wpAny_comprehension_free -> mP, Sem -> mS, call -> mT, cellsFrom -> nG, bindL -> nH, bindC -> nI, typeOf -> nP, seqIndex_neg -> nU, pyIter -> nV, isTrue -> nX, argsOk -> nZ, Result -> oB, wpAny_isTrue_Compare1 -> oK
open Bool renaming true -> ZI, false -> ZK, eq_iff_iff -> fM, and_eq_false_iff -> fV, false_or -> gU, true_and -> kN, or_false -> kO
open PySem.F renaming plainAttrs_list -> ZT, type_list_append -> ZZ, slot_list_append -> aA, type_list_extend -> bE, slot_list_extend -> bG, slot_dict_get -> eV, args_str_split_2 -> iN, entry_str_split -> iX, args_tuple_add_2 -> jK, slot_str_split -> jN, entry_tuple_add -> jR, args_dict_get_3 -> jS, slot_tuple_add -> kA, plainAttrs_str -> kB, entry_dict_get -> kC, args_list_extend_2 -> oH, entry_list_extend -> oY
open PySem.PassesOwn renaming never -> ZV
open PySem.Obj renaming mapSeq -> ZW, putSet -> hV
open Int renaming le_refl -> aD, eq_ofNat_of_zero_le -> aQ, add_zero -> aZ, zero_add -> fL, mul_nonneg -> gG, mul_le_mul -> gH, le_of_eq -> mE, toNat_natCast -> oV, lt_trichotomy -> oW
open PyProof.Rows renaming seqObj -> aF, callWith_type1 -> aU, IntsAre -> cC, listUpdate_at -> cN, callWith_builtin1 -> cX, envOfC -> dO, slot_tuple_getitem -> gA, listItems_at -> gE, AllBare -> gI, seqEpoch_at -> g0, get?_update_seq -> kT, entry_list_sort -> kU, slot_list_sort -> lQ, IsTup -> mC, subscriptTail -> mQ, subscriptTail_builtinR -> nQ, plain_sorted -> nW, entry_sorted -> nY
open PySem.SetTable renaming below -> aG, grown -> cH, has -> jP
open Option.some renaming inj -> aH
open PySem.Value renaming ref -> aI, type -> aY, none -> bD, int -> dJ, str -> iE, bool -> jI, float -> lW, isInt_shape -> nJ
open PySem.Str renaming ofString -> aK, join -> bO, empty -> gM
open Ne renaming symm -> aR
open False renaming elim -> aV
open PySem.Calls renaming spliced_cons -> bH, spliced_nil -> bR, callWith_builtin -> eX, Name_function_global -> jO, call_function_entry -> jV, evalArgs_plain -> mF
open List renaming map -> bI, length -> bS, sum_append -> fG, range_succ -> fH, of_mem_zip -> fI, nil_append -> fK, take_append_drop -> fO, singleton_append -> fP, eq_nil_or_concat -> fQ, concat_eq_append -> fR, mem_of_mem_drop -> gC, toList_toArray -> gN, mem_map_of_mem -> gO, zip_cons_cons -> gY, ext_getElem? -> iC, eq_nil_of_length_eq_zero -> iW, nodup_nil -> jT, getElem?_replicate -> kZ, zipWith -> lF, getElem?_set_self -> lG, getElem?_zipWith -> l5, length_eraseIdx -> mK, getElem_toArray -> mL, getElem?_set_ne -> mM, length_zipWith -> mX, getElem?_range -> mY, getD_cons_succ -> mZ, flatten_append -> nA, drop_succ_cons -> nB, flatten_cons -> oE, flatMap_cons -> oF, drop_sublist -> oG, filter_cons -> oO, ext_getElem -> oQ
open PyProof.Rows.KeyOrd renaming kle_refl -> bK, kle_of_not_klt -> cF, kle_of_klt -> dZ, kle_trans -> eH, kle_antisymm -> mB
open PySem.NameKind renaming free -> bQ, cell -> iY
open PySem.SeqAt renaming EqAt -> bU, RcNeAt -> eT, RcAt -> mR
open True renaming intro -> bV
open PySem.Builtin.List renaming listExtendWith -> bZ, listTooLong -> cK, listLengthHint -> gT, listSameRef -> iD, listUpdate -> iO
open PyProof.Rows.F renaming plain_set_update_loop -> cE, entry_set_update_loop -> eG
open PySem.Builtin.Slice renaming slicePlaces -> cG, sliceAdjust -> dN, sliceApplied -> gS
open PySem.Builtin.Tuple renaming tupleExact -> cJ
open PySem.Around renaming under_plainId -> cL, under -> kP, in1_units -> nO
open List.Nodup renaming sublist -> cQ
open ForInStep renaming yield -> cR
open List.Perm renaming refl -> cV, swap -> iM
open Array.Perm renaming refl -> dI
open PySem.Paired renaming length -> dL
open List.Sublist renaming map -> dU, append -> jL, refl -> kD
open PySem.Builtin.Str renaming occurrences -> dX, strKind -> jW, glued -> kM
open PySem.SetTable.probe renaming go -> eY
open PySem.SetTable.below renaming go -> eZ
open PySem.W renaming lookIn -> fE, plainGet_of -> fZ, plainOver -> gQ, methodObj -> gR, makes_of -> hH, codeHdIn -> hJ, takerIn -> iG, readsIn -> iH, findCls -> iI, OpenLaw -> iJ, kla_obj -> jD, kas_rev -> jE, Looks -> jJ, looks_findIn -> kY, callWith_K0 -> lE, make_core -> mH, kitx_list -> mI, kitx_dict -> mJ, handedIn -> mU, InitBack -> mV, takesIn -> nK
open Nat renaming lt_or_ge -> fF, eq_or_lt_of_le -> hW, sub_self -> iK, le_succ_of_le -> iL, zero_add -> lX, lt_trans -> lY, le_of_eq -> lZ, eq_zero_or_pos -> oC
open Array renaming getElem_toList -> gB, forIn_toList -> nE, toList_push -> nN
open PySem.Shared renaming TypeIs -> gF
open PySem.Txt renaming slice -> gL, slice_le -> iF, split -> iV
open PySem.SeqAt.RcNeAt renaming lists_lengths -> gV, lists -> jQ
open Sum.inl renaming inj -> iB
open PySem.Data renaming cell -> iR, fields -> mO
open PySem.pickOrder renaming go -> jC
open List.Pairwise renaming nil -> jU
open PySem.StrLaws renaming glued_eq_join -> kI, sliceText -> mG
open PySem.SeqAt.EqAt renaming str_int -> kJ, int_str -> kK
open PySem.Code renaming isFrame -> lI
open PySem.Heap renaming ExtBut -> mN, get?_update_ne -> nD, size_update -> oX
open StateT renaming run_pure -> oA
def ZH:=@if_neg
def ZJ:=@if_pos
def ZL:=@decide_eq_true_eq
def ZN:=@decide_eq_true
def ZQ:=@decide_eq_false
def ZR:=@absurd
def ZY:=@of_decide_eq_true
def aC:=@congrArg
def bL:=@of_decide_eq_false
def cO:=@if_false
def dG:=@or_false
def eM:=@if_true
def jZ:=@bne_self_eq_false
def kW:=@beq_self_eq_true
def oM:=@decide_eq_false_iff_not
namespace L2
open PySem PySem.Spec PyProof.Rows
abbrev Ev:=Sum Int ZM
def Tk:Ev->ZE->Bool
 |.inl k,v=>Value.isInt k v
 |.inr x,v=>Value.isStrOf x v
def VI (w:ZX):Ev->Int
 |.inl k=>hashInt k
 |.inr x=>hashStr w x
theorem Cw:∀ {k} {v},Tk k v=ZI->(∃ i t,k=Sum.inl i/\v=dJ i t)\/(∃ x t,k=Sum.inr x/\v=iE x t)
 |.inl i,v,h=>by
  obtain⟨t,e⟩:=nJ (k:=i) (v:=v) h;exact .inl ⟨i,t,rfl,e⟩
 |.inr x,v,h=>by
  obtain⟨t,e⟩:=Value.isStrOf_shape (x:=x) (v:=v) h;exact .inr ⟨x,t,rfl,e⟩
def U3 (i:Int) (t:Tok):Tk (.inl i) (.int i t)=ZI:=by simp [Tk,Value.isInt]
def U2 (x:ZM) (t:Tok):Tk (.inr x) (.str x t)=ZI:=by simp [Tk,Value.isStrOf]
def LK (a b:Int):decide ((Sum.inl a:Ev)=Sum.inl b)=(a==b):=by
 by_cases e:a=b
 .subst e;simp
 .have h:¬ (Sum.inl a:Ev)=Sum.inl b:=λq=>e (iB q)
  rw[ZQ h];exact (beq_eq_false_iff_ne.mpr e).symm
def NN (a b:ZM):decide ((Sum.inr a:Ev)=Sum.inr b)=decide (a=b):=by
 by_cases e:a=b
 .subst e;simp
 .have h:¬ (Sum.inr a:Ev)=Sum.inr b:=λq=>e (Sum.inr.inj q)
  rw[ZQ h,ZQ e]
def NE (a:Int) (b:ZM):decide ((Sum.inl a:Ev)=Sum.inr b)=ZK:=ZQ (λq=>nomatch q)
def MQ (a:ZM) (b:Int):decide ((Sum.inr a:Ev)=Sum.inl b)=ZK:=ZQ (λq=>nomatch q)
def Db (prog:ZO) (w:ZX):PySem.KeyKind prog w Ev where
 is:=Tk
 hash:=VI w
 inj:=λv a b ha hb=>by
  rcases Cw ha with ⟨i,t,rfl,rfl⟩|⟨x,t,rfl,rfl⟩
  .rcases Cw hb with ⟨j,u,rfl,e⟩|⟨y,u,rfl,e⟩
   .injection e with e1 _;rw[e1]
   .exact nomatch e
  .rcases Cw hb with ⟨j,u,rfl,e⟩|⟨y,u,rfl,e⟩
   .exact nomatch e
   .injection e with e1 _;rw[e1]
 byValue:=λk v h=>by
  rcases Cw h with ⟨i,t,rfl,rfl⟩|⟨x,t,rfl,rfl⟩ <;> rfl
 pyHash:=λhv h=>by
  rcases Cw hv with ⟨i,t,rfl,rfl⟩|⟨x,t,rfl,rfl⟩
  .exact wpAny_pyHash_int h
  .exact wpAny_pyHash_str h
 eqBool:=λhu hv h=>by
  rcases Cw hu with ⟨i,t,rfl,rfl⟩|⟨x,t,rfl,rfl⟩
  .rcases Cw hv with ⟨j,u,rfl,rfl⟩|⟨y,u,rfl,rfl⟩
   .rw[LK] at h;exact fX h
   .rw[NE] at h;exact kK i t y u _ _ _ _ h
  .rcases Cw hv with ⟨j,u,rfl,rfl⟩|⟨y,u,rfl,rfl⟩
   .rw[MQ] at h;exact kJ x t j u _ _ _ _ h
   .rw[NN] at h;exact wpAny_eqBool_str h
 «strs» := λk x t v h=>by
  rcases Cw h with ⟨i,u,rfl,e⟩|⟨y,u,rfl,e⟩
  .exact nomatch e
  .injection e with e1 _
   subst e1;cases v <;> rfl
def Za (prog:ZO) (w:ZX) (i:Int) (t:Tok):(Db prog w).is (.inl i) (.int i t)=ZI:=U3 i t
def Zv (prog:ZO) (w:ZX) (x:ZM) (t:Tok):(Db prog w).is (.inr x) (.str x t)=ZI:=U2 x t
inductive V where
 |non|bl (b:Bool)|int (i:Int)|str (x:ZM)|byt (b:Array UInt8)|flt (b:UInt64)|ref (a:ZF)|ty (n:String)
 deriving DecidableEq
def Kl:V->ZE->Prop
 |.non,u=>u=bD
 |.bl b,u=>u=jI b
 |.int i,u=>∃ t,u=dJ i t
 |.str x,u=>∃ t,u=iE x t
 |.byt b,u=>∃ t,u=Value.bytes b t
 |.flt b,u=>∃ t,u=lW b t
 |.ref a,u=>u=aI a
 |.ty n,u=>u=aY n
abbrev Fy:List V->List ZE->Prop:=cZ Kl
def Fy.length {xs:List V} {us:List ZE} (r:Fy xs us):xs.length=us.length:=dL r
theorem Fy.get:∀ {xs} {us} {i:Nat} {x},Fy xs us->xs[i]?=ZC x->∃ u,us[i]?=ZC u/\Kl x u
 |_,_,_,_,.nil,e=>by simp at e
 |_,_,0,_,.cons r _,e=>by simp at e;subst e;exact⟨_,rfl,r⟩
 |_,_,i+1,x,.cons _ t,e=>by
  obtain⟨u,h1,g⟩:=Fy.get (i:=i) (x:=x) t (by simpa using e);exact⟨u,by simpa using h1,g⟩
theorem Fy.set {x:V} {u:ZE} (r:Kl x u):∀ {xs} {us} (i:Nat),Fy xs us->Fy (xs.set i x) (us.set i u)
 |_,_,_,.nil=>.nil
 |_,_,0,.cons _ t=>.cons r t
 |_,_,i+1,.cons q t=>.cons q (Fy.set r i t)
theorem Fy.append:∀ {xs ys} {us g},Fy xs us->Fy ys g->Fy (xs++ys) (us++g)
 |_,_,_,_,.nil,s=>s
 |_,_,_,_,.cons r t,s=>.cons r (Fy.append t s)
theorem Fy.take:∀ {xs} {us} (n:Nat),Fy xs us->Fy (xs.take n) (us.take n)
 |_,_,0,_=>.nil
 |_,_,_+1,.nil=>.nil
 |_,_,n+1,.cons r t=>.cons r (Fy.take n t)
theorem Fy.drop:∀ {xs} {us} (n:Nat),Fy xs us->Fy (xs.drop n) (us.drop n)
 |_,_,0,r=>r
 |_,_,_+1,.nil=>.nil
 |_,_,n+1,.cons _ t=>Fy.drop n t
def XV:Option V->Option ZE->Prop
 |some v,ZC u=>Kl v u
 |none,ZD=>True
 |_,_=>False
def KV {κ:Type}:List (κ×V)->List (κ×ZE)->Prop:=cZ λ(p:κ×V) (q:κ×ZE)=>p.1=q.1/\Kl p.2 q.2
def kV:Ev->V
 |.inl i=>.int i
 |.inr x=>.str x
inductive HO where
 |lst (xs:List V)
 |tup (xs:List V)
 |dK (kvs:List (Ev×V))|dT (kvs:List (List Ev×V))
 |set (S:Int->Bool) (n:Nat)
 |ins (C dx:ZF) (fs:List (ZM×V))
 |own (x:ZF)
 |xd (fs:List (ZM×V))
 |met (f x:ZF)
 |rng (lo hi:Int)
 |frz (o:cP) (u:HO)
 |tbl (ps:Array ZE)
 |ext (φ:aB->Prop)
abbrev Hp:=ZF->Option HO
def upd (H:Hp) (a:ZF) (o:HO):Hp:=λb=>if b=a then ZC o else H b
def Aa {a:ZF} {o:HO}:upd H a o a=ZC o:=by unfold upd;rw[ZJ rfl]
def Ag {a b:ZF} {o:HO} (h:b≠a):upd H a o b=H b:=by unfold upd;rw[ZH h]
def Vx {a:ZF} {o u:HO}:upd (upd H a o) a u=upd H a u:=by
 funext b;unfold upd;split <;> rfl
def At {H:Hp} {a b:ZF} {o u:HO} (h:H a=ZC o) (h':H b=ZC u) (d:o≠u):a≠b:=by
 intro e;subst e;rw[h] at h';exact d (aH h')
def Ad {H:Hp} {a b:ZF} {o:HO} (h:H a=ZC o) (h':H b=ZD):a≠b:=by
 intro e;subst e;rw[h] at h';cases h'
section
variable (P:ZO) (w:ZX)
def XF (H:Hp) (h:aB) (a:ZF):HO->Prop
 |.lst xs=>xs.length<=sizeLine/\∃ (its:List ZE) (n:Nat),Fy xs its/\h.get? a=ZC { cls:=.type "list",data:=.seq its.toArray n }
 |.tup xs=>xs.length<=sizeLine/\∃ its:List ZE,Fy xs its/\mC h a its.toArray
 |.dK kvs=>kvs.length<=sizeLine/\(a==bY)=ZK/\∃ vs,KV kvs vs/\h.DictOf (Db P w) a vs
 |.dT kvs=>kvs.length<=sizeLine/\(a==bY)=ZK/\∃ xs:List (List Ev×ZF×ZE),
   cZ (λ(p:List Ev×V) (q:List Ev×ZF×ZE)=>p.1=q.1/\H q.2.1=ZC (.tup (p.1.map kV))/\Kl p.2 q.2.2) kvs xs /\
   ∃ o es ep,h.get? a=ZC o/\o.ExactDict/\o.data=.dict es ep/\es.toList=xs.map (entryOfKey (hX (Db P w)))/\(xs.map (·.1)).Nodup
 |.set S n=>h.SetOf (intKind P w) a S n
 |.ins C dx fs=>H dx=ZC (.own a)/\fs.length<=1000/\dx≠a/\h.get? a=ZC (zBf C dx) /\
   ∃ mA,h.Ns1 dx mA/\(∀ f,XV (fs.lookup f) (mA f))/\kX mA (fs.map (·.1))
 |.own _=>∃ o,h.get? a=ZC o
 |.xd fs=>∃ mA,h.Ns1 a mA/\∀ f,XV (fs.lookup f) (mA f)
 |.rng lo hi=>∃ t u v,h.get? a=ZC { cls:=.type "range",data:=.fields #[.int lo t,.int hi u,.int 1 v] }
 |.frz o u=>h.get? a=ZC o/\XF H h a u
 |.tbl ps=>h.get? a=ZC { cls:=.none,data:=.fields ps }
 |.met f x=>h.get? a=ZC (gR (.ref f) (.ref x))
 |.ext φ=>φ h/\(∃ o,h.get? a=ZC o)/\∀ h1 h2:aB,φ h1->(∀ o,h1.get? a=ZC o->h2.get? a=ZC o)->φ h2
def XZ (H:Hp) (h:aB):Prop:=∀ a o,H a=ZC o->XF P w H h a o
end
def XF.lt (x:XF P w H h a o):a<h.objs.size:=by
 cases o with
 |lst xs=>obtain⟨_,_,_,_,e⟩:=x;exact zAs e
 |tup xs=>obtain⟨_,_,_,p⟩:=x;exact p.lt
 |dK g=>obtain⟨_,_,_,_,o,_,_,e,_⟩:=x;exact zAs e
 |dT g=>obtain⟨_,_,_,_,o,_,_,e,_⟩:=x;exact zAs e
 |set S n=>obtain⟨o,_,_,_,e,_⟩:=x;exact zAs e
 |ins C dx fs=>obtain⟨_,_,_,e,_⟩:=x;exact zAs e
 |own y=>obtain⟨_,e⟩:=x;exact zAs e
 |xd fs=>obtain⟨_,⟨_,_,_,e,_⟩,_⟩:=x;exact zAs e
 |rng lo hi=>obtain⟨_,_,_,e⟩:=x;exact zAs e
 |frz j u=>obtain⟨e,_⟩:=x;exact zAs e
 |tbl ps=>exact zAs (show h.get? a=ZC _ from x)
 |met f y=>exact zAs (show h.get? a=ZC _ from x)
 |ext φ=>obtain⟨_,⟨_,e⟩,_⟩:=x;exact zAs e
theorem Paired.mapP {α β:Type} {F G:α->β->Prop}:∀ {l₁:List α} {g},cZ F l₁ g->(∀ a b,F a b->G a b)->cZ G l₁ g
 |_,_,.nil,_=>.nil
 |_,_,.cons r t,f=>.cons (f _ _ r) (Paired.mapP t f)
def XF.stay (x:XF P w H h a o) (k:∀ b u,(b=a\/H b=ZC (.own a))->h.get? b=ZC u->h'.get? b=ZC u)
  (U:∀ b,H b=ZC (.own a)->H' b=ZC (.own a)) (L:∀ b xs,H b=ZC (.tup xs)->H' b=ZC (.tup xs)):XF P w H' h' a o:=by
 induction o with
 |lst xs=>obtain⟨z,j,n,r,e⟩:=x;exact⟨z,j,n,r,k _ _ (.inl rfl) e⟩
 |tup xs=>obtain⟨z,j,r,g,e,c⟩:=x;exact⟨z,j,r,g,k _ _ (.inl rfl) e,c⟩
 |dK B=>obtain⟨z,y,vs,r,g,es,ep,e,c⟩:=x;exact⟨z,y,vs,r,g,es,ep,k _ _ (.inl rfl) e,c⟩
 |dT B=>
  obtain⟨z,y,xs,r,g,es,ep,e,c⟩:=x;exact⟨z,y,xs,Paired.mapP r λp q z=>⟨z.1,L _ _ z.2.1,z.2.2⟩,g,es,ep,k _ _ (.inl rfl) e,c⟩
 |set S n=>obtain⟨g,es,ep,t,e,c⟩:=x;exact⟨g,es,ep,t,k _ _ (.inl rfl) e,c⟩
 |ins C dx fs=>
  obtain⟨d,z,ne,e,mA,⟨F,es,ep,M,c⟩,r⟩:=x;exact⟨U _ d,z,ne,k _ _ (.inl rfl) e,mA,⟨F,es,ep,k _ _ (.inr d) M,c⟩,r⟩
 |own y=>obtain⟨g,e⟩:=x;exact⟨g,k _ _ (.inl rfl) e⟩
 |xd fs=>obtain⟨mA,⟨F,es,ep,e,c⟩,r⟩:=x;exact⟨mA,⟨F,es,ep,k _ _ (.inl rfl) e,c⟩,r⟩
 |rng lo hi=>obtain⟨t,u,v,e⟩:=x;exact⟨t,u,v,k _ _ (.inl rfl) e⟩
 |frz g u ih=>obtain⟨e,q⟩:=x;exact⟨k _ _ (.inl rfl) e,ih q⟩
 |tbl ps=>
  let e:h.get? a=ZC { cls:=.none,data:=.fields ps }:=x;show h'.get? a=ZC { cls:=.none,data:=.fields ps };exact k a _ (.inl rfl) e
 |met f y=>
  let e:h.get? a=ZC (gR (.ref f) (.ref y)):=x;show h'.get? a=ZC (gR (.ref f) (.ref y));exact k a _ (.inl rfl) e
 |ext φ=>obtain⟨p,⟨o,e⟩,st⟩:=x;exact⟨st _ _ p λo q=>k _ _ (.inl rfl) q,⟨o,k _ _ (.inl rfl) e⟩,st⟩
def XZ.lt (x:XZ P w H h) (e:H a=ZC o):a<h.objs.size:=(x a o e).lt
def XZ.fresh (x:XZ P w H h) (e:h.objs.size<=a):H a=ZD:=by
 cases q:H a with
 |none=>rfl
 |some u=>exact ZR (zAI (x.lt q) e) (zBq _)
def XZ.kept (x:XZ P w H h) (k:∀ b u,h.get? b=ZC u->h'.get? b=ZC u):XZ P w H h':=λa o e=>
 (x a o e).stay (λb u _ q=>k b u q) (λ_ q=>q) λ_ _ q=>q
def XZ.laid (x:XZ P w H h) (k:∀ b u,h.get? b=ZC u->h'.get? b=ZC u) (B:h.objs.size<=a) (g:XF P w (upd H a o) h' a o):XZ P w (upd H a o) h':=λb u e=>by
 let z:=x.fresh B;by_cases j:b=a
 .subst j;rw[Aa] at e;cases e;exact g
 .rw[Ag j] at e
  exact (x b u e).stay (λc v _ q=>k c v q) (λc q=>by rw[Ag (Ad q z)];exact q) λc xs q=>by rw[Ag (Ad q z)];exact q
def Rd (H:Hp) (a:ZF) (u:HO):Prop:=H a=ZC u\/∃ o,H a=ZC (.frz o u)
def Rd.ok {P:ZO} {w:ZX} {h:aB} {a:ZF} {u:HO} (r:Rd H a u) (x:XZ P w H h):XF P w H h a u:=by
 rcases r with r|⟨o,r⟩
 .exact x a u r
 .obtain⟨_,q⟩:=x a _ r
  exact q
def PY:Option HO->Prop
 |some (.lst _)=>True
 |some (.dK _)=>True
 |some (.dT _)=>True
 |some (.set _ _)=>True
 |some (.ins _ _ _)=>True
 |some (.ext _)=>True
 |_=>False
def XZ.write (ok:XZ P w H h) (F:PY (H x)) (Z:e=x\/H e=ZC (.own x)) (k:∀ b u,b≠e->h.get? b=ZC u->h'.get? b=ZC u) (S:∃ u,h'.get? e=ZC u)
  (U:XF P w (upd H x o') h' x o'):XZ P w (upd H x o') h':=λb u q=>by
 let j:∀ c y,H c=ZC (.own y)->c≠x:=λc y r z=>by subst z;rw[r] at F;exact F
 let B:∀ c xs,H c=ZC (.tup xs)->c≠x:=λc xs r z=>by subst z;rw[r] at F;exact F
 by_cases M:b=x
 .subst M;rw[Aa] at q;cases q;exact U
 .rw[Ag M] at q
  by_cases g:b=e
  .have Y:H b=ZC (.own x):=by
    rcases Z with z|z
    .exact ZR (g.trans z) M
    .rw[g];exact z
   rw[q] at Y;cases Y;obtain⟨v,hv⟩:=S;exact⟨v,by rw[g];exact hv⟩
  .refine (ok b u q).stay (λc v L r=>k c v ?_ r) (λc r=>by rw[Ag (j c b r)];exact r) λc xs r=>by rw[Ag (B c xs r)];exact r
   rcases L with rfl|L
   .exact g
   .rintro rfl
    rcases Z with z|z
    .exact j c b L z
    .rw[L] at z;cases z;exact M rfl
structure Un (fs ex:List ZF) (H H':Hp) (h h':aB):Prop where
 keep:∀ b o,h.get? b=ZC o->H b=ZD->b∉fs->b∉ex->h'.get? b=ZC o
 slot:∀ b o,h.get? b=ZC o->H b=ZD->b∈fs->b∉ex->∃ sl,h'.get? b=ZC { o with slots:=sl }
 free:∀ b o,h.get? b=ZC o->H b=ZD->b∉ex->H' b=ZD
 there:∀ b o,h.get? b=ZC o->b∉ex->∃ o',h'.get? b=ZC o'
 tups:∀ b xs,H b=ZC (.tup xs)->H' b=ZC (.tup xs)
 frzs:∀ b o u,H b=ZC (.frz o u)->H' b=ZC (.frz o u)
 tbls:∀ b ps,H b=ZC (.tbl ps)->∃ more,H' b=ZC (.tbl (ps++more))
def Un.any (u:Un fs ex H H1 h h1) {b:ZF} (q:h.get? b=ZC ob) (n:H b=ZD) (j:b∉ex):∃ z,h1.get? b=ZC { ob with slots:=z }:=by
 by_cases g:b∈fs
 .exact u.slot b ob q n g j
 .exact⟨ob.slots,u.keep b ob q n g j⟩
def Un.kept (k:∀ b u,h.get? b=ZC u->h'.get? b=ZC u):Un fs ex H H h h':=
 ⟨λb g q _ _ _=>k b g q,λb g q _ _ _=>⟨g.slots,k b g q⟩,λ_ _ _ n _=>n,λb g q _=>⟨g,k b g q⟩,λ_ _ q=>q,λ_ _ _ q=>q,λ_ ps q=>⟨#[],by rw[q];simp⟩⟩
def Un.refl:Un fs ex H H h h:=Un.kept λ_ _ q=>q
def Un.laid (k:∀ b u,h.get? b=ZC u->h'.get? b=ZC u) (j:h.objs.size<=a) (g:H a=ZD):Un fs ex H (upd H a o) h h' where
 keep:=λb u q _ _ _=>k b u q
 slot:=λb u q _ _ _=>⟨u.slots,k b u q⟩
 free:=λb u q n _=>by rw[Ag (zAy (zAI (zAs q) j))];exact n
 there:=λb u q _=>⟨u,k b u q⟩
 tups:=λb xs q=>by rw[Ag (Ad q g)];exact q
 frzs:=λb u xs q=>by rw[Ag (Ad q g)];exact q
 tbls:=λb ps q=>⟨#[],by rw[Ag (Ad q g),q];simp⟩
def Un.write (j:PY (H x)) (U:e=x\/H e=ZC (.own x)) (k:∀ b u,b≠e->h.get? b=ZC u->h'.get? b=ZC u) (F:∃ u,h'.get? e=ZC u):Un fs ex H (upd H x o) h h':=by
 let M:∀ b,H b=ZD->b≠x:=λb n z=>by subst z;rw[n] at j;exact j
 let L:∀ b,H b=ZD->b≠e:=λb n z=>by
  subst z;rcases U with r|r
  .exact M b n r
  .rw[n] at r;cases r
 let B:∀ b u,H b=ZC u->¬ PY (ZC u)->b≠x:=λb u q S z=>by subst z;rw[q] at j;exact S j
 refine⟨λb u q n _ _=>k b u (L b n) q,λb u q n _ _=>⟨u.slots,k b u (L b n) q⟩,λb u q n _=>by rw[Ag (M b n)];exact n,λb u q _=>?_,
  λb xs q=>by rw[Ag (B b _ q λz=>z)];exact q,λb u xs q=>by rw[Ag (B b _ q λz=>z)];exact q,λb ps q=>⟨#[],by rw[Ag (B b _ q λz=>z),q];simp⟩⟩
 by_cases g:b=e
 .subst g;exact F
 .exact⟨u,k b u g q⟩
def SU (h:aB) (H:Hp):List ZF:=(zAS h.objs.size).filter λa=>(H a).isSome
def Sz (h:aB) (H:Hp):aB:=PySem.W.hideAll h (SU h H)
def U8 (h:aB) (H:Hp):(Sz h H).objs.size=h.objs.size:=PySem.W.hideAll_size _ _
def DI {h:aB} {b:ZF} {o:cP} (e:h.get? b=ZC o) (n:H b=ZD):(Sz h H).get? b=ZC o:=
 PySem.W.hideAll_get _ e λg=>by
  let q:(H b).isSome=ZI:=(zAR.mp g).2;rw[n] at q;simp at q
def FE {h:aB} {b:ZF} {o:cP} (e:(Sz h H).get? b=ZC o):h.get? b=ZC o/\H b=ZD:=by
 let g:h.get? b=ZC o:=PySem.W.of_hideAll (SU h H) e;refine⟨g,?_⟩;cases q:H b with
 |none=>rfl
 |some x=>
  let j:b∈SU h H:=zAR.mpr ⟨zBD.mpr (zAs g),by simp [q]⟩;let z:(Sz h H).get? b=ZD:=PySem.W.hideAll_none (SU h H) j;rw[z] at e;cases e
structure Mod (K:zAa) (mg:ZM->Option ZE) (base:aB):Prop where
 kin:K.In base
 glob:base.Ns zCJ mg
 blt:∃ mb,base.Ns iT mb/\∀ x:ZM,x ≠ "__name__"->mb x=zCI x
 nolimit:base.NoLimit
structure Cx where
 prog:ZO
 w:ZX
 K:zAa
 mg:ZM->Option ZE
 base:aB
 A:aE
 N:List ZM
 s₀:ZG
 H₀:Hp
 env:kF
 outer:List kF
 stack:List kF
 ex:List ZF
 fn:ZM->Bool
 calm:Bool
 pn:List (ZF×cP)
 xe:ZE->ZG->Prop
def Q8 (l:List kF):List ZF:=l.filterMap (·.frame)
abbrev Cx.fs (X:Cx):List ZF:=Q8 X.outer
def TN (sc:fY) (x:ZM):Prop:=sc.names.lookup x=ZC .local\/sc.names.lookup x=ZC .cell\/sc.names.lookup x=ZC .free
def LZ (sc:fY) (x:ZM):Prop:=sc.names.lookup x=ZC .local\/sc.names.lookup x=ZC .cell
def TB (env:kF) (h:aB) (m:ZM->Option ZE) (x:ZM) (u:ZE):Prop:=
 (env.kindOf x=ZC .local/\m x=ZC u)\/((env.kindOf x=ZC .cell\/env.kindOf x=ZC .free)/\∃ c,env.cells.lookup x=ZC c/\h.IsCell c (ZC u))
structure Cx.Ok (X:Cx):Prop where
 mod:Mod X.K X.mg X.base
 kind:X.env.scope.kind=.function
 glob:X.env.globals=zCJ
 blt:X.env.builtins=iT
 above:X.s₀.heap.objs.size<=X.env.locals
 inj:∀ x y c,X.env.cells.lookup x=ZC c->X.env.cells.lookup y=ZC c->x=y
 has:∀ x,(X.env.kindOf x=ZC .cell\/X.env.kindOf x=ZC .free)->∃ c,X.env.cells.lookup x=ZC c
 cab:∀ x c,X.fn x=ZI->X.env.cells.lookup x=ZC c->X.s₀.heap.objs.size<=c
 hd:X.calm=ZI->X.A.handled=ZD
 frames:X.A.frames=ZC X.stack
 stk:X.stack=X.outer\/(X.stack=X.env::X.outer/\X.env.frame=ZC X.env.locals)
 exf:∀ b∈X.ex,b≠X.env.locals/\∀ x c,X.env.cells.lookup x=ZC c->c≠b
 bs:∀ b o,X.base.get? b=ZC o->X.s₀.heap.get? b=ZC o/\X.H₀ b=ZD
 bsz:X.base.objs.size<=X.s₀.heap.objs.size
 noex:∀ b o,X.base.get? b=ZC o->b∉X.ex
 exfs:∀ b∈X.ex,b∉X.fs
 funs:X.s₀.heap.FunFrames X.base X.outer
 frf:∀ b∈X.fs,X.H₀ b=ZD
structure Ed (X:Cx) (pins:List (ZF×cP)) (σ:List (Option V)) (H:Hp) (s:ZG):Prop where
 ok:X.Ok
 os:s.os=X.s₀.os
 bare:gI s.gens
 base:Un X.fs X.ex X.H₀ H X.s₀.heap s.heap
 loc:∃ m,s.heap.Ns X.env.locals m/\∀ (i:Nat) (x:ZM) (v:V),X.N[i]?=ZC x->σ[i]?=ZC (ZC v)->TN X.env.scope x->∃ u,Kl v u/\TB X.env s.heap m x u
 cell:∀ x c,X.env.cells.lookup x=ZC c->∃ v,s.heap.IsCell c v
 free:H X.env.locals=ZD
 freeC:∀ x c,X.env.cells.lookup x=ZC c->H c=ZD
 pin:∀ p∈X.pn++pins,s.heap.get? p.1=ZC p.2/\H p.1=ZD/\p.1≠X.env.locals/\p.1∉X.fs/\∀ v,p.2.data≠.cell v
 hok:XZ X.prog X.w H s.heap
 len:σ.length=X.N.length
section
variable {X:Cx} {pins:List (ZF×cP)} {σ:List (Option V)} {H H':Hp} {s:ZG} {h':aB}
def Cx.Ok.nofr (ok:X.Ok) {b:ZF} {o:cP} (e:X.base.get? b=ZC o):b∉X.fs:=λg=>by
 let:=(ok.funs.mem g).1;rw[e] at this;cases this
def Ed.bs (I:Ed X pins σ H s):∀ b o,X.base.get? b=ZC o->s.heap.get? b=ZC o/\H b=ZD:=λb o e=>
 ⟨I.base.keep b o (I.ok.bs b o e).1 (I.ok.bs b o e).2 (I.ok.nofr e) (I.ok.noex b o e),I.base.free b o (I.ok.bs b o e).1 (I.ok.bs b o e).2 (I.ok.noex b o e)⟩
def Ed.bk (I:Ed X pins σ H s):∀ b o,X.base.get? b=ZC o->s.heap.get? b=ZC o:=λb o e=>(I.bs b o e).1
def Ed.mod (I:Ed X pins σ H s):Mod X.K X.mg X.base:=I.ok.mod
def Ed.kIn (I:Ed X pins σ H s):X.K.In s.heap:=I.ok.mod.kin.keeps I.bk
def Ed.lt (I:Ed X pins σ H s):X.env.locals<⇑s:=let ⟨_,hn,_⟩:=I.loc;hn.lt
def Ed.sz (I:Ed X pins σ H s):X.s₀.heap.objs.size<=⇑s:=zAD I.ok.above (zCi I.lt)
def Ed.nofs (I:Ed X pins σ H s) {a:ZF} (h:⇑s<=a):a∉X.fs:=λg=>by
 obtain⟨_,o,j,_⟩:=I.ok.funs.mem g;exact ZR (zAI (zAs j) (zAD I.sz h)) (zBq _)
def Ed.cne (I:Ed X pins σ H s):∀ x c,X.env.cells.lookup x=ZC c->c≠X.env.locals:=λx c e z=>by
 obtain⟨v,o,B,q⟩:=I.cell x c e;obtain⟨m,⟨o',es,ep,g,j,_⟩,_⟩:=I.loc;rw[z,g] at B;cases B;rw[j] at q;cases q
def Ed.funs (I:Ed X pins σ H s):s.heap.FunFrames X.base X.outer:=by
 let all:∀ (l:List kF),(∀ b∈Q8 l,b∈X.fs)->X.s₀.heap.FunFrames X.base l->s.heap.FunFrames X.base l:=by
  intro l
  induction l with
  |nil=>intro _ _;trivial
  |cons F r ih=>
   intro B hl;obtain⟨S,⟨L,o,g,Y,U,M⟩,hr⟩:=hl;let q:L∈X.fs:=B L (by unfold Q8;rw[zCt,g];exact zAd);obtain⟨Z,e⟩:=I.base.slot L o U (I.ok.frf L q) q λz=>I.ok.exfs L z q;exact⟨S,⟨L,_,g,Y,e,M⟩,ih (λb j=>B b (by unfold Q8;rw[zCt,g];exact zAb _ j)) hr⟩
 exact all X.outer (λ_ j=>j) I.ok.funs
def Ed.stack (I:Ed X pins σ H s):s.heap.FunFrames X.base X.stack:=by
 rcases I.ok.stk with e|⟨e,j⟩
 .rw[e];exact I.funs
 .rw[e]
  obtain⟨m,g,_⟩:=I.loc;refine .cons (by rw[I.ok.kind];decide) j g ?_ I.funs;exact Heap.get?_none_of_le (zAD I.ok.bsz I.ok.above)
def Ed.stkSub (I:Ed X pins σ H s):∀ b∈Q8 X.stack,b∈X.env.locals::X.fs:=λb g=>by
 rcases I.ok.stk with e|⟨e,j⟩
 .rw[e] at g;exact zAb _ g
 .rw[e] at g
  unfold Q8 at g;rw[zCt,j] at g;exact g
def Ed.stkFree (I:Ed X pins σ H s):∀ b∈Q8 X.stack,H b=ZD:=λb g=>by
 rcases zAj.mp (I.stkSub b g) with e|g
 .rw[e];exact I.free
 .obtain⟨_,o,j,_⟩:=I.ok.funs.mem g
  exact I.base.free b o j (I.ok.frf b g) λz=>I.ok.exfs b z g
def Ed.step {g':Array jM} {t':Nat} {d':Drawn} {ch:List ZF} (I:Ed X pins σ H s)
  (F:∀ b∈ch,(b∈X.ex\/X.s₀.heap.objs.size<=b)/\b≠X.env.locals/\(∀ x c,X.env.cells.lookup x=ZC c->c≠b)/\∀ p∈X.pn++pins,p.1≠b)
  (keep:∀ b o,b≠X.env.locals->b∉X.fs->b∉ch->s.heap.get? b=ZC o->H b=ZD->h'.get? b=ZC o)
  (slot:∀ b o,b≠X.env.locals->b∈X.fs->b∉ch->s.heap.get? b=ZC o->H b=ZD->∃ sl,h'.get? b=ZC { o with slots:=sl }) (free:∀ b o,b∉ch->s.heap.get? b=ZC o->H b=ZD->H' b=ZD)
  (there:∀ b o,b∉ch->s.heap.get? b=ZC o->∃ o',h'.get? b=ZC o')
  (tups:∀ b xs,H b=ZC (.tup xs)->H' b=ZC (.tup xs)) (frzs:∀ b o u,H b=ZC (.frz o u)->H' b=ZC (.frz o u)) (tbls:∀ b ps,H b=ZC (.tbl ps)->∃ more,H' b=ZC (.tbl (ps++more)))
  (ns:∀ m,s.heap.Ns X.env.locals m->h'.Ns X.env.locals m) (hok:XZ X.prog X.w H' h') (hg:gI g') :
  Ed X pins σ H' { s with heap:=h',gens:=g',drawn:=d',toks:=t' }:=by
 let Z:∀ b o,X.s₀.heap.get? b=ZC o->b≠X.env.locals:=λb o e=>zAy (zAI (zAs e) I.ok.above);let M:∀ b o,X.s₀.heap.get? b=ZC o->b∉X.ex->b∉ch:=λb o e g S=>by
  rcases (F b S).1 with z|z
  .exact g z
  .exact ZR (zAI (zAs e) z) (zBq _)
 let B:∀ x c,X.env.cells.lookup x=ZC c->∀ v,s.heap.IsCell c v->h'.IsCell c v:=λx c e v ⟨o,U,hd⟩=>by
  let j:c∉ch:=λz=>(F c z).2.2.1 x c e rfl;by_cases hc:c∈X.fs
  .obtain⟨sl,q⟩:=slot c o (I.cne x c e) hc j U (I.freeC x c e)
   exact⟨_,q,hd⟩
  .exact⟨o,keep c o (I.cne x c e) hc j U (I.freeC x c e),hd⟩
 refine⟨I.ok,I.os,hg,⟨λb o e n S g=>?_,λb o e n S g=>?_,λb o e n g=>?_,λb o e g=>?_,λb xs e=>tups b xs (I.base.tups b xs e),λb o xs e=>frzs b o xs (I.base.frzs b o xs e),λb ps e=>?_⟩,?_,λx c e=>?_,?_,λx c e=>?_,λp hp=>?_,hok,I.len⟩
 .exact keep b o (Z b o e) S (M b o e g) (I.base.keep b o e n S g) (I.base.free b o e n g)
 .obtain⟨sl,L⟩:=I.base.slot b o e n S g
  obtain⟨aa,Y⟩:=slot b _ (Z b o e) S (M b o e g) L (I.base.free b o e n g);exact⟨aa,Y⟩
 .obtain⟨o',L⟩:=I.base.there b o e g
  exact free b o' (M b o e g) L (I.base.free b o e n g)
 .obtain⟨o',L⟩:=I.base.there b o e g
  exact there b o' (M b o e g) L
 .obtain⟨m1,L⟩:=I.base.tbls b ps e
  obtain⟨m2,Y⟩:=tbls b _ L;exact⟨m1++m2,by rw[Y,Array.append_assoc]⟩
 .obtain⟨m,hn,hl⟩:=I.loc
  refine⟨m,ns m hn,λi x v L Y e3=>?_⟩;obtain⟨u,r,l⟩:=hl i x v L Y e3;refine⟨u,r,?_⟩;rcases l with l|⟨k,c,e,z⟩
  .exact .inl l
  .exact .inr ⟨k,c,e,B x c e _ z⟩
 .obtain⟨v,z⟩:=I.cell x c e
  exact⟨v,B x c e v z⟩
 .obtain⟨m,⟨o,_,_,U,_⟩,_⟩:=I.loc
  exact free _ o (λz=>(F _ z).2.1 rfl) U I.free
 .obtain⟨v,o,U,hd⟩:=I.cell x c e
  exact free c o (λz=>(F c z).2.2.1 x c e rfl) U (I.freeC x c e)
 .obtain⟨e,n,ne,nf,d⟩:=I.pin p hp
  let j:p.1∉ch:=λz=>(F p.1 z).2.2.2 p hp rfl;exact⟨keep p.1 p.2 ne nf j e n,free p.1 p.2 j e n,ne,nf,d⟩
def Ed.un {t':Nat} (I:Ed X pins σ H s) (u:Un X.fs [] H H' s.heap h') (F:XZ X.prog X.w H' h'):Ed X pins σ H' { s with heap:=h',toks:=t' }:=by
 obtain⟨m,⟨o,es,ep,L,r⟩,_⟩:=id I.loc;obtain⟨Y,S⟩:=u.any L I.free (by simp);exact I.step (g':=s.gens) (d':=s.drawn) (ch:=[]) (λ_ z=>nomatch z) (λb o _ B _ e n=>u.keep b o e n B (by simp)) (λb o _ B _ e n=>u.slot b o e n B (by simp)) (λb o _ e n=>u.free b o e n (by simp)) (λb o _ e=>u.there b o e (by simp)) u.tups u.frzs u.tbls (λZ M=>by
  obtain⟨o',q,j,g,U⟩:=M;rw[L] at g;cases g;exact⟨_,q,j,S,U⟩) F I.bare
def Ed.call {g':Array jM} {t':Nat} {d':Drawn} {ch:List ZF} (I:Ed X pins σ H s) (u:Un (Q8 X.stack) ch H H' s.heap h') (L:XZ X.prog X.w H' h') (Y:gI g')
  (j:∀ b∈ch,(b∈X.ex\/X.s₀.heap.objs.size<=b)/\b≠X.env.locals/\(∀ x c,X.env.cells.lookup x=ZC c->c≠b)/\∀ p∈X.pn++pins,p.1≠b) :
  Ed X pins σ H' { s with heap:=h',gens:=g',drawn:=d',toks:=t' }:=by
 obtain⟨m,⟨o,es,ep,S,r⟩,_⟩:=id I.loc;obtain⟨sl,M⟩:=u.any S I.free λz=>(j _ z).2.1 rfl;exact I.step (ch:=ch) j (λb o M Z g e n=>u.keep b o e n (λz=>(zAj.mp (I.stkSub b z)).elim M Z) g) (λb o _ _ g e n=>u.any e n g) (λb o g e n=>u.free b o e n g) (λb o g e=>u.there b o e g) u.tups u.frzs u.tbls (λm' U=>by
  obtain⟨o',F,B,q,r'⟩:=U;rw[S] at q;cases q;exact⟨_,F,B,M,r'⟩) L Y
def Ed.turned {t':Nat} {it:ZF} (I:Ed X pins σ H s) (k:∀ b o,b≠it->s.heap.get? b=ZC o->h'.get? b=ZC o) (Y:H it=ZD) (B:it≠X.env.locals)
  (h1:it∈X.ex\/X.s₀.heap.objs.size<=it) (U:∀ x c,X.env.cells.lookup x=ZC c->c≠it) (S:∀ p∈X.pn++pins,p.1≠it):Ed X pins σ H { s with heap:=h',toks:=t' }:=by
 let j:∀ b u,H b=ZC u->b≠it:=λb u e z=>by rw[z,Y] at e;cases e
 refine I.step (g':=s.gens) (d':=s.drawn) (ch:=[it]) (λb L=>?_) (λb o _ _ g e _=>k b o (λz=>g (by simp [z])) e) (λb o _ _ g e _=>⟨o.slots,k b o (λz=>g (by simp [z])) e⟩) (λ_ _ _ _ n=>n)
  (λb o g e=>⟨o,k b o (λz=>g (by simp [z])) e⟩) (λ_ _ e=>e) (λ_ _ _ e=>e) (λb ps e=>⟨#[],by rw[e];simp⟩) (λm F=>?_) (λb u e=>?_) I.bare
 .have e:b=it:=by simpa using L
  subst e;exact⟨h1,B,U,S⟩
 .obtain⟨o,es,ep,M,r⟩:=F
  exact⟨o,es,ep,k _ o (aR B) M,r⟩
 .refine (I.hok b u e).stay (λc v g q=>k c v ?_ q) (λ_ q=>q) λ_ _ q=>q
  rcases g with z|z
  .rw[z];exact j b u e
  .exact j c _ z
def Ed.tok (I:Ed X pins σ H s) (t:Nat):Ed X pins σ H { s with toks:=t }:=I.un (h':=s.heap) (t':=t) Un.refl I.hok
def Ed.kept {t':Nat} (I:Ed X pins σ H s) (k:∀ b u,s.heap.get? b=ZC u->h'.get? b=ZC u):Ed X pins σ H { s with heap:=h',toks:=t' }:=I.un (Un.kept k) (I.hok.kept k)
def Ed.laid {a:ZF} {o:HO} {t':Nat} (I:Ed X pins σ H s) (k:∀ b u,s.heap.get? b=ZC u->h'.get? b=ZC u) (g:⇑s<=a) (j:XF X.prog X.w (upd H a o) h' a o) :
  Ed X pins σ (upd H a o) { s with heap:=h',toks:=t' }:=I.un (Un.laid k g (I.hok.fresh g)) (I.hok.laid k g j)
def Ed.write {x e:ZF} {o:HO} {t':Nat} (I:Ed X pins σ H s) (q:PY (H x)) (z:e=x\/H e=ZC (.own x)) (k:∀ b u,b≠e->s.heap.get? b=ZC u->h'.get? b=ZC u) (g:∃ u,h'.get? e=ZC u)
  (j:XF X.prog X.w (upd H x o) h' x o):Ed X pins σ (upd H x o) { s with heap:=h',toks:=t' }:=I.un (Un.write q z k g) (I.hok.write q z k g j)
def Ed.pins_of (I:Ed X pins σ H s) (h:∀ p∈g,s.heap.get? p.1=ZC p.2/\H p.1=ZD/\p.1≠X.env.locals/\p.1∉X.fs/\∀ v,p.2.data≠.cell v):Ed X g σ H s:=
 ⟨I.ok,I.os,I.bare,I.base,I.loc,I.cell,I.free,I.freeC,λp j=>(zAu.mp j).elim (λz=>I.pin p (zBp _ z)) (h p),I.hok,I.len⟩
def Yy {N:List ZM} (q:N.Nodup) {i j:Nat} {x:ZM} (a:N[i]?=ZC x) (b:N[j]?=ZC x):i=j:=by
 obtain⟨h1,z⟩:=zAk.mp a;obtain⟨B,g⟩:=zAk.mp b;exact (List.getElem_inj q).mp (z.trans g.symm)
def To {M:Model} {A:aE} {E:ZE->ZG->Prop} {i:Nat} {x:ZM} {v:V} {u:ZE} {Q:Unit->ZG->Prop} (I:Ed X pins σ H s) (hN:X.N.Nodup) (hi:X.N[i]?=ZC x) (S:LZ X.env.scope x) (r:Kl v u)
  (h:∀ s',Ed X pins (σ.set i (ZC v)) H s'->(∃ a,zBr a s.heap s'.heap/\(a=X.env.locals\/X.env.cells.lookup x=ZC a))->Q () s') (hf:X.fn x=ZI\/X.env.scope.names.lookup x=ZC .local:=by first|exact .inl rfl|exact .inr rfl|assumption):ZP M A (storeName X.env x u) Q E s:=by
 obtain⟨m,hn,hl⟩:=id I.loc;let ae:(X.env.scope.kind == .class||(X.env.scope.kind == .module&&X.env.locals != X.env.globals))=ZK:=by rw[I.ok.kind];rfl
 let af:i<σ.length:=by rw[I.len];exact (zAk.mp hi).1
 let cne:=I.cne;let B:∀ {a:ZF} {h':aB},(∃ o,s.heap.get? a=ZC o/\H a=ZD)->zBr a s.heap h'->XZ X.prog X.w H h':=λ{a h'} ha g b ob e=>by
  obtain⟨_,_,U⟩:=ha;refine (I.hok b ob e).stay (λc w' L q=>(g.2 c ?_).trans q) (λ_ q=>q) λ_ _ q=>q;rintro rfl;rcases L with rfl|L
  .rw[U] at e;cases e
  .rw[U] at L;cases L
 rcases S with Z|Z
 .refine wpAny_storeName_local Z hn (λh' ah g=>?_) ae
  obtain⟨oL,_,_,ai,_⟩:=id hn;refine h _ ⟨I.ok,I.os,I.bare,⟨λb o e n hb S=>?_,λb o e n hb S=>?_,I.base.free,λb o e S=>?_,I.base.tups,I.base.frzs,I.base.tbls⟩,⟨_,ah,λj y v' F Y e3=>?_⟩,λy c e=>?_,I.free,I.freeC,λp hp=>?_,B ⟨oL,ai,I.free⟩ g,by simpa using I.len⟩ ⟨_,g,.inl rfl⟩
  .exact (g.2 b (zAy (zAI (zAs e) I.ok.above))).trans (I.base.keep b o e n hb S)
  .obtain⟨sl,F⟩:=I.base.slot b o e n hb S
   exact⟨sl,(g.2 b (zAy (zAI (zAs e) I.ok.above))).trans F⟩
  .obtain⟨o',F⟩:=I.base.there b o e S
   exact⟨o',(g.2 b (zAy (zAI (zAs e) I.ok.above))).trans F⟩
  .by_cases hj:j=i
   .subst hj
    rw[hi] at F;cases F;rw[lG af] at Y;cases Y;exact⟨u,r,.inl ⟨Z,by simp⟩⟩
   .rw[mM (aR hj)] at Y
    obtain⟨u',r',q⟩:=hl j y v' F Y e3;refine⟨u',r',?_⟩;rcases q with ⟨k,e⟩|⟨k,c,e,z⟩
    .refine .inl ⟨k,?_⟩
     let:y≠x:=λe=>hj (Yy hN F (e▸hi));simp [this,e]
    .exact .inr ⟨k,c,e,z.sameBut g (cne y c e)⟩
  .obtain⟨w',z⟩:=I.cell y c e
   exact⟨w',z.sameBut g (cne y c e)⟩
  .obtain⟨e,n,ne,nf,d⟩:=I.pin p hp
   exact⟨(g.2 p.1 ne).trans e,n,ne,nf,d⟩
 .have aa:X.fn x=ZI:=by
   rcases hf with z|z
   .exact z
   .rw[z] at Z;cases Z
  obtain⟨c,L⟩:=I.ok.has x (.inl Z);obtain⟨w',z⟩:=I.cell x c L;refine wpAny_storeName_cell I.ok.kind Z L z (λh' ac g=>?_);obtain⟨oc,ag,ad⟩:=id z;refine h { s with heap:=h' } ⟨I.ok,I.os,I.bare,⟨λb o e n hb S=>?_,λb o e n hb S=>?_,I.base.free,λb o e S=>?_,I.base.tups,I.base.frzs,I.base.tbls⟩,⟨m,hn.sameBut g (aR (cne x c L)),λj y v' F Y e3=>?_⟩,λy c' e=>?_,I.free,I.freeC,λp hp=>?_,B ⟨oc,ag,I.freeC x c L⟩ g,by simpa using I.len⟩ ⟨c,g,.inr L⟩
  .exact (g.2 b (zAy (zAI (zAs e) (I.ok.cab x c aa L)))).trans (I.base.keep b o e n hb S)
  .obtain⟨sl,F⟩:=I.base.slot b o e n hb S
   exact⟨sl,(g.2 b (zAy (zAI (zAs e) (I.ok.cab x c aa L)))).trans F⟩
  .obtain⟨o',F⟩:=I.base.there b o e S
   exact⟨o',(g.2 b (zAy (zAI (zAs e) (I.ok.cab x c aa L)))).trans F⟩
  .by_cases hj:j=i
   .subst hj
    rw[hi] at F;cases F;rw[lG af] at Y;cases Y;exact⟨u,r,.inr ⟨.inl Z,c,L,ac⟩⟩
   .rw[mM (aR hj)] at Y
    obtain⟨u',r',q⟩:=hl j y v' F Y e3;refine⟨u',r',?_⟩;rcases q with q|⟨k,c',e,z'⟩
    .exact .inl q
    .refine .inr ⟨k,c',e,z'.sameBut g ?_⟩
     rintro rfl;exact hj (Yy hN F (I.ok.inj _ _ _ e L▸hi))
  .by_cases ab:c'=c
   .subst ab;exact⟨_,ac⟩
   .obtain⟨w2,z2⟩:=I.cell y c' e
    exact⟨w2,z2.sameBut g ab⟩
  .obtain⟨e,n,ne,nf,d⟩:=I.pin p hp
   refine⟨(g.2 p.1 ?_).trans e,n,ne,nf,d⟩;intro q;rw[q,ag] at e;let q':oc=p.2:=aH e;exact d w' (by rw[<- q'];exact ad)
def A9 {M:Model} {A:aE} {E:ZE->ZG->Prop} {i:Nat} {x:ZM} {v:V} {u:ZE} {Q:Unit->ZG->Prop} (I:Ed X pins σ H s) (z:X.N.Nodup) (hi:X.N[i]?=ZC x) (j:LZ X.env.scope x) (r:Kl v u)
  (h:∀ s',Ed X pins (σ.set i (ZC v)) H s'->Q () s') (q:X.fn x=ZI\/X.env.scope.names.lookup x=ZC .local:=by first|exact .inl rfl|exact .inr rfl|assumption):ZP M A (storeName X.env x u) Q E s:=
 To I z hi j r (λs' g _=>h s' g) q
def Ed.call' {s':ZG} {ch:List ZF} (I:Ed X pins σ H s) (z:s'.os=s.os) (u:Un (Q8 X.stack) ch H H' s.heap s'.heap) (j:XZ X.prog X.w H' s'.heap) (q:gI s'.gens)
  (g:∀ b∈ch,(b∈X.ex\/X.s₀.heap.objs.size<=b)/\b≠X.env.locals/\(∀ x c,X.env.cells.lookup x=ZC c->c≠b)/\∀ p∈X.pn++pins,p.1≠b):Ed X pins σ H' s':=by
 obtain⟨h',g',d',t',o'⟩:=s';let e:o'=s.os:=z;subst e;exact I.call (g':=g') (t':=t') (d':=d') u j q g
end
abbrev XK:=ZE->Option ZF->Hp->Prop
abbrev St:=List (Option V)
abbrev VK:=V->Hp->Prop
abbrev TE:=St->Hp->VK->Prop
abbrev TT:=St->Hp->(Bool->Hp->Prop)->Prop
abbrev TA:=St->Hp->(List V->Hp->Prop)->Prop
structure Lm where
 nx:St->Hp->Prop
 rt:VK
 bk:St->Hp->Prop:=λ_ _=>False
 ct:St->Hp->Prop:=λ_ _=>False
abbrev TS:=Lm->St->Hp->Prop
def EP (X:Cx) (pins:List (ZF×cP)) (σ:St) (Q:VK) (u:ZE) (s':ZG):Prop:=∃ v H',Ed X pins σ H' s'/\Kl v u/\Q v H'
def TP (X:Cx) (pins:List (ZF×cP)) (σ:St) (Q:Bool->Hp->Prop) (b:Bool) (s':ZG):Prop:=∃ H',Ed X pins σ H' s'/\Q b H'
def AP (X:Cx) (pins:List (ZF×cP)) (σ:St) (Q:List V->Hp->Prop) (us:List ZE) (s':ZG):Prop:=∃ vs H',Ed X pins σ H' s'/\Fy vs us/\Q vs H'
def SP (X:Cx) (pins:List (ZF×cP)) (D:Lm) (f:Flow) (s':ZG):Prop:=
 match f with
 |.next=>∃ σ' H',Ed X pins σ' H' s'/\D.nx σ' H'
 |.brk=>∃ σ' H',Ed X pins σ' H' s'/\D.bk σ' H'
 |.cont=>∃ σ' H',Ed X pins σ' H' s'/\D.ct σ' H'
 |.ret u=>∃ v σ' H',Ed X pins σ' H' s'/\Kl v u/\D.rt v H'
def PE (X:Cx) (e:bA) (t:TE):Prop:=
 ∀ (pins:List (ZF×cP)) (s:ZG) (σ:St) (H:Hp) (Q:VK),Ed X pins σ H s->t σ H Q->ZP (ZS X.prog X.w) X.A (aM e X.env) (EP X pins σ Q) X.xe s
def PT (X:Cx) (e:bA) (t:TT):Prop:=
 ∀ (pins:List (ZF×cP)) (s:ZG) (σ:St) (H:Hp) (Q:Bool->Hp->Prop),Ed X pins σ H s->t σ H Q->ZP (ZS X.prog X.w) X.A (nX e X.env (aM e X.env)) (TP X pins σ Q) X.xe s
def PW (X:Cx) (e:bA) (t:TT):Prop:=
 ∀ (whole:mS ZE) (pins:List (ZF×cP)) (s:ZG) (σ:St) (H:Hp) (Q:Bool->Hp->Prop),Ed X pins σ H s->t σ H Q->ZP (ZS X.prog X.w) X.A (nX e X.env whole) (TP X pins σ Q) X.xe s
def PW.pt {X:Cx} {e:bA} {t:TT} (h:PW X e t):PT X e t:=h _
def PA (X:Cx) (es:List bA) (t:TA):Prop:=
 ∀ (pos:Pos) (pins:List (ZF×cP)) (s:ZG) (σ:St) (H:Hp) (Q:List V->Hp->Prop),Ed X pins σ H s->t σ H Q->ZP (ZS X.prog X.w) X.A (lB (bC pos (ZU es X.env))) (AP X pins σ Q) X.xe s
def PS (X:Cx) (st:bM) (t:TS):Prop:=
 ∀ (pins:List (ZF×cP)) (s:ZG) (σ:St) (H:Hp) (D:Lm),Ed X pins σ H s->t D σ H->ZP (ZS X.prog X.w) X.A (exec st X.env) (SP X pins D) X.xe s
def PSs (X:Cx) (st:List bM) (t:TS):Prop:=
 ∀ (pins:List (ZF×cP)) (s:ZG) (σ:St) (H:Hp) (D:Lm),Ed X pins σ H s->t D σ H->ZP (ZS X.prog X.w) X.A (execs st X.env) (SP X pins D) X.xe s
def Cb {α:Type} {t} {Q g:α->ZG->Prop} {M} {A} {E:ZE->ZG->Prop} {s} (h:ZP M A t Q E s) (j:∀ a s,Q a s->g a s):ZP M A t g E s:=bJ h j λ_ _ x=>x
def WZ {a b} {ta tb} (S:PE X a ta) (U:PE X b tb) {pins} {s} {σ} {H} {R:V->V->Hp->Prop} (I:Ed X pins σ H s) (h:ta σ H λx H1=>tb σ H1 λy g=>R x y g)
  {α:Type} {Q:α->ZG->Prop} {f:ZE->ZE->mS α}
  (L:∀ v u j x y g,Ed X pins σ g j->Kl x v->Kl y u->R x y g->ZP (ZS X.prog X.w) X.A (f v u) Q X.xe j) :
  ZP (ZS X.prog X.w) X.A (aM a X.env) (λv s₁=>ZP (ZS X.prog X.w) X.A (aM b X.env) (λu z=>ZP (ZS X.prog X.w) X.A (f v u) Q X.xe z) X.xe s₁) X.xe s:=by
 refine Cb (S pins s σ H _ I h) λv Y ⟨x,H1,M,Z,q⟩=>?_;refine Cb (U pins Y σ H1 _ M q) λu j ⟨y,g,B,F,q2⟩=>?_;exact L v u j x y g B Z F q2
def KU (i:Nat):TE:=λσ H Q=>∃ v,σ[i]?=ZC (ZC v)/\Q v H
def tC (v:V):TE:=λ_ H Q=>Q v H
def LR {i:Nat} {x:ZM} (S:X.N[i]?=ZC x) (F:TN X.env.scope x) (z:(x==("__debug__" : ZM))=ZK:=by lk) (hcd:(x==("__classdict__" : ZM))=ZK:=by lk):PE X (.Name x pos) (KU i):=by
 intro pins s σ H Q I h;obtain⟨v,e,h⟩:=h;obtain⟨m,M,hl⟩:=I.loc;obtain⟨u,r,l⟩:=hl i x v S e F;let j:EP X pins σ Q u s:=⟨v,H,I,r,h⟩;rcases l with ⟨q,L⟩|⟨q,c,B,g⟩
 .exact wpAny_Name (wpAny_loadName_local I.ok.kind q M L j) z
 .rcases q with q|q
  .exact wpAny_Name (wpAny_loadName_cell I.ok.kind q B g j) z
  .exact wpAny_Name (wpAny_loadName_free I.ok.kind q B g j hcd) z
def Af {i j pos}:PE X (.Constant (.int i) j pos) (tC (.int i)):=λ_ _ _ H _ I h=>wpAny_Constant_int ⟨.int i,H,I.tok _,⟨_,rfl⟩,h⟩
def Em {b j pos}:PE X (.Constant (.bool b) j pos) (tC (.bl b)):=λ_ _ _ H _ I h=>Constant_bool ⟨.bl b,H,I,rfl,h⟩
def Fb {j pos}:PE X (.Constant .none j pos) (tC .non):=λ_ _ _ H _ I h=>Constant_none ⟨.non,H,I,rfl,h⟩
def Be {x j pos}:PE X (.Constant (.str x) j pos) (tC (.str x)):=λ_ _ _ H _ I h=>Calls.Constant_str ⟨.str x,H,I.tok _,⟨_,rfl⟩,h⟩
def Gl (X:Cx) (x:ZM):Prop:=X.env.kindOf x=ZC .globalImplicit
def Ih {E:ZE->ZG->Prop} {s:ZG} {x:ZM} {u:ZE} {Q:ZE->ZG->Prop} (I:Ed X pins σ H s) (g:Gl X x) (q:X.mg x=ZC u) (h:Q u s)
  (j:(x==("__debug__" : ZM))=ZK:=by lk):ZP (ZS X.prog X.w) X.A (aM (.Name x pos) X.env) Q E s:=
 jO I.ok.kind g (Calls.loadGlobal_global (by rw[I.ok.glob];exact I.mod.glob.keeps I.bk) q h) j
def Fz {E:ZE->ZG->Prop} {s:ZG} {x:ZM} {u:ZE} {Q:ZE->ZG->Prop} (I:Ed X pins σ H s) (q:Gl X x) (j:X.mg x=ZD) (g:zCI x=ZC u) (h:Q u s)
  (B:x ≠ "__name__":=by lk) (hd:(x==("__debug__" : ZM))=ZK:=by lk):ZP (ZS X.prog X.w) X.A (aM (.Name x pos) X.env) Q E s:=by
 obtain⟨F,h1,z⟩:=I.mod.blt;exact jO I.ok.kind q (Calls.loadGlobal_builtin (by rw[I.ok.glob];exact I.mod.glob.keeps I.bk) j (by rw[I.ok.blt];exact h1.keeps I.bk) ((z x B).trans g) h) hd
def Vr {x:ZM} {v:V} {u:ZE} (g:Gl X x) (q:X.mg x=ZC u) (r:Kl v u) (j:(x==("__debug__" : ZM))=ZK:=by lk):PE X (.Name x pos) (tC v):=
 λ_ _ _ H _ I h=>Ih I g q ⟨v,H,I,r,h⟩ j
def FI {x:ZM} {v:V} {u:ZE} (g:Gl X x) (z:X.mg x=ZD) (q:zCI x=ZC u) (r:Kl v u) (j:x ≠ "__name__":=by lk) (hd:(x==("__debug__" : ZM))=ZK:=by lk):PE X (.Name x pos) (tC v):=
 λ_ _ _ H _ I h=>Fz I g z q ⟨v,H,I,r,h⟩ j hd
def PC (X:Cx) (op:CmpOp) (a b:bA) (t:TE):Prop:=
 ∀ (pins:List (ZF×cP)) (s:ZG) (σ:St) (H:Hp) (Q:VK),Ed X pins σ H s->t σ H Q ->
  ZP (ZS X.prog X.w) X.A (aM a X.env) (λv s₁=>ZP (ZS X.prog X.w) X.A (aM b X.env) (λu s₂=>ZP (ZS X.prog X.w) X.A (aT op v u) (EP X pins σ Q) X.xe s₂) X.xe s₁) X.xe s
def tB (t:TE):TT:=λσ H Q=>t σ H λx H1=>∃ c,x=.bl c/\Q c H1
def NI {t:TE} (h:PC X op a b t) (h1:dQ op b=ZK:=by first|exact nobehind _ (by lk) (by lk)|rfl):PE X (.Compare a [op] [b] pos) t:=λpins s σ H Q I g=>wpAny_Compare1 (h pins s σ H Q I g) h1
def MK {g} {t} (h:PC X g a b t) (h1:dQ g b=ZK:=by first|exact nobehind _ (by lk) (by lk)|rfl):PT X (.Compare a [g] [b] pos) (tB t):=by
 intro pins s σ H Q I z;refine oK (Cb (h pins s σ H _ I z) λv S h1=>Cb h1 λu U L=>Cb L λc M ⟨x,H1,B,F,j⟩=>?_) h1;obtain⟨d,rfl,q⟩:=j;cases F;exact bP ⟨H1,B,q⟩
def Bv {e} {t} (h:PE X e t) (L:∀ g,nX e X.env g=(do let v <- g;gD e.pos;eB [v] (truthy v)):=by intro _;rfl):PT X e (tB t):=by
 intro pins s σ H Q I z;refine isTrue_plain (Cb (h pins s σ H _ I z) λv M ⟨x,H1,B,F,j⟩=>?_) (L _);obtain⟨d,rfl,q⟩:=j;cases F;exact bP ⟨H1,B,q⟩
def TH (t u:TT):TT:=λσ H Q=>t σ H λc H1=>if c=ZI then u σ H1 Q else Q ZK H1
def WU (t u:TT):TT:=λσ H Q=>t σ H λc H1=>if c=ZI then Q ZI H1 else u σ H1 Q
def UZ (t:TT):TT:=λσ H Q=>t σ H λc H1=>Q (!c) H1
def Ju (g:PT X a tA):PW X (.BoolOp .And [a] pos) tA:=by
 intro q pins s σ H Q I h;refine isTrue_and (Cb (g pins s σ H Q I h) λc j e=>?_);cases c with
 |true=>exact isTrue_and_nil e
 |false=>exact e
def Gv (g:PT X a tA):PW X (.BoolOp .Or [a] pos) tA:=by
 intro q pins s σ H Q I h;refine isTrue_or (Cb (g pins s σ H Q I h) λc j e=>?_);cases c with
 |false=>exact isTrue_or_nil e
 |true=>exact e
def Ng (q:PT X a tA) (z:PW X (.BoolOp .And (b::rest) pos) tB'):PW X (.BoolOp .And (a::b::rest) pos) (TH tA tB'):=by
 intro F pins s σ H Q I h;refine isTrue_and (Cb (q pins s σ H _ I h) λc B ⟨H1,j,g⟩=>?_);cases c with
 |true=>exact z F pins B σ H1 Q j g
 |false=>exact⟨H1,j,g⟩
def Kf (q:PT X a tA) (z:PW X (.BoolOp .Or (b::rest) pos) tB'):PW X (.BoolOp .Or (a::b::rest) pos) (WU tA tB'):=by
 intro F pins s σ H Q I h;refine isTrue_or (Cb (q pins s σ H _ I h) λc B ⟨H1,j,g⟩=>?_);cases c with
 |true=>exact⟨H1,j,g⟩
 |false=>exact z F pins B σ H1 Q j g
def Cg (g:PT X a tA):PT X (.UnaryOp .Not a pos) (UZ tA):=by
 intro pins s σ H Q I h;exact isTrue_not (g pins s σ H (λc H1=>Q (!c) H1) I h)
def RH (ta tb:TE):TE:=λσ H Q=>ta σ H λx H1=>∃ c,x=.bl c/\if c=ZI then tb σ H1 Q else Q (.bl ZK) H1
def TZ (ta tb:TE):TE:=λσ H Q=>ta σ H λx H1=>∃ c,x=.bl c/\if c=ZI then Q (.bl ZI) H1 else tb σ H1 Q
def OE (ta:TE):TE:=λσ H Q=>ta σ H λx H1=>∃ c,x=.bl c/\Q (.bl (!c)) H1
def Nd {j} {t:TE} (h:PE X a t):PE X (.BoolOp j [a] pos) t:=λpins s σ H Q I g=>BoolOp_one (h pins s σ H Q I g)
def Rc (q:PE X a ta) (z:PE X (.BoolOp .And (b::rest) pos) tb):PE X (.BoolOp .And (a::b::rest) pos) (RH ta tb):=by
 intro pins s σ H Q I h;refine BoolOp_and (Cb (q pins s σ H _ I h) λv B ⟨x,H1,j,F,g⟩=>?_);obtain⟨c,rfl,g⟩:=g;cases F;refine bP ?_;cases c with
 |true=>exact z pins B σ H1 Q j g
 |false=>exact⟨.bl ZK,H1,j,rfl,g⟩
def OL (q:PE X a ta) (z:PE X (.BoolOp .Or (b::rest) pos) tb):PE X (.BoolOp .Or (a::b::rest) pos) (TZ ta tb):=by
 intro pins s σ H Q I h;refine BoolOp_or (Cb (q pins s σ H _ I h) λv B ⟨x,H1,j,F,g⟩=>?_);obtain⟨c,rfl,g⟩:=g;cases F;refine bP ?_;cases c with
 |false=>exact z pins B σ H1 Q j g
 |true=>exact⟨.bl ZI,H1,j,rfl,g⟩
def AZ (q:PE X a ta):PE X (.UnaryOp .Not a pos) (OE ta):=by
 intro pins s σ H Q I h;refine UnaryOp_ (Cb (q pins s σ H _ I h) λv B ⟨x,H1,j,z,g⟩=>?_);obtain⟨c,rfl,g⟩:=g;cases z;exact not_of (bP ⟨.bl (!c),H1,j,rfl,g⟩)
def WH (t:TT) (ta tb:TE):TE:=λσ H Q=>t σ H λc H1=>if c=ZI then ta σ H1 Q else tb σ H1 Q
def Hj {c} (B:PT X c tA) (z:PE X a ta) (F:PE X b tb):PE X (.IfExp c a b pos) (WH tA ta tb):=by
 intro pins s σ H Q I h;refine wpAny_IfExp (Cb (B pins s σ H _ I h) λd q ⟨H1,j,g⟩=>?_);cases d with
 |true=>exact z pins q σ H1 Q j g
 |false=>exact F pins q σ H1 Q j g
def Dp (K:zAa) (H:Hp) (a:ZF) (xs:List V):Prop:=
 Rd H a (.lst xs) \/
  ∃ (o:cP) (its:Array ZE) (n:Nat),K.lookup a=ZC o/\o.cls=.type "list"/\o.dict=ZD/\o.data=.seq its n/\its.size<=sizeLine/\Fy xs its.toList
def Hx (K:zAa) (H:Hp) (a:ZF) (xs:List V):Prop:=
 Rd H a (.tup xs) \/
  ∃ (o:cP) (its:Array ZE) (n:Nat),K.lookup a=ZC o/\o.cls=.type "tuple"/\o.data=.seq its n/\its.size<=sizeLine/\Fy xs its.toList
def UH:ZE->Option V
 |.none=>ZC .non
 |.bool b=>ZC (.bl b)
 |.int i _=>ZC (.int i)
 |.str x _=>ZC (.str x)
 |.bytes b _=>ZC (.byt b)
 |.float b _=>ZC (.flt b)
 |.ref a=>ZC (.ref a)
 |.type n=>ZC (.ty n)
 |_=>ZD
def Kl.abs {x:V} {u:ZE} (r:Kl x u):UH u=ZC x:=by
 cases x with
 |non=>cases r;rfl
 |bl _=>cases r;rfl
 |int _=>obtain⟨t,rfl⟩:=r;rfl
 |str _=>obtain⟨t,rfl⟩:=r;rfl
 |byt _=>obtain⟨t,rfl⟩:=r;rfl
 |flt _=>obtain⟨t,rfl⟩:=r;rfl
 |ref _=>cases r;rfl
 |ty _=>cases r;rfl
def Kl.inj {x y:V} {u:ZE} (r:Kl x u) (q:Kl y u):x=y:=aH (r.abs.symm.trans q.abs)
theorem Fy.inj:∀ {xs ys} {us},Fy xs us->Fy ys us->xs=ys
 |_,_,_,.nil,.nil=>rfl
 |_,_,_,.cons r t,.cons g j=>by rw[r.inj g,Fy.inj t j]
def Dp.of {K} (h:H a=ZC (.lst xs)):Dp K H a xs:=.inl (.inl h)
def Hx.of {K} (h:H a=ZC (.tup xs)):Hx K H a xs:=.inl (.inl h)
def Ed.list (I:Ed X pins σ H s) (h:Dp X.K H a xs):∃ g:List ZE,Fy xs g/\PlainL s.heap a g.toArray/\xs.length<=sizeLine:=by
 rcases h with h|⟨o,g,n,F,B,j,q,L,r⟩
 .obtain⟨z,g,n,r,e⟩:=h.ok I.hok
  exact⟨g,r,⟨_,n,e,rfl,rfl,rfl⟩,z⟩
 .refine⟨g.toList,r,⟨o,n,I.kIn a o F,B,j,by simpa using q⟩,?_⟩
  let e:=r.length;simp only [zAE] at e
  lia
def Ed.tuple (I:Ed X pins σ H s) (h:Hx X.K H a xs):∃ g:List ZE,Fy xs g/\mC s.heap a g.toArray/\xs.length<=sizeLine:=by
 rcases h with h|⟨o,g,n,B,q,j,F,r⟩
 .obtain⟨z,g,r,p⟩:=h.ok I.hok
  exact⟨g,r,p,z⟩
 .refine⟨g.toList,r,⟨o,I.kIn a o B,q,n,by simpa using j⟩,?_⟩
  let e:=r.length;simp only [zAE] at e
  lia
def Ed.list_inj (I:Ed X pins σ H s) (h:Dp X.K H a xs) (h':Dp X.K H a ys):xs=ys:=by
 obtain⟨g,r,⟨o,n,e,_,_,d⟩,_⟩:=I.list h;obtain⟨its',B,⟨o',F,q,_,_,j⟩,_⟩:=I.list h';rw[e] at q;cases q;rw[d] at j;injection j with z _;let:g=its':=by simpa using aC Array.toList z
 subst this;exact r.inj B
def Ed.tuple_inj (I:Ed X pins σ H s) (h:Hx X.K H a xs) (h':Hx X.K H a ys):xs=ys:=by
 obtain⟨g,r,⟨o,e,_,n,d⟩,_⟩:=I.tuple h;obtain⟨its',B,⟨o',q,_,F,j⟩,_⟩:=I.tuple h';rw[e] at q;cases q;rw[d] at j;injection j with z _;let:g=its':=by simpa using aC Array.toList z
 subst this;exact r.inj B
abbrev Cx.wish (X:Cx) (E:ZE->ZG->Prop):Cx:={ X with xe:=E }
abbrev Cx.nox (X:Cx):Cx:=X.wish λ_ _=>False
def Cx.Ok.wish {X:Cx} (ok:X.Ok) (E:ZE->ZG->Prop):(X.wish E).Ok:=
 ⟨ok.mod,ok.kind,ok.glob,ok.blt,ok.above,ok.inj,ok.has,ok.cab,ok.hd,ok.frames,ok.stk,ok.exf,ok.bs,ok.bsz,ok.noex,ok.exfs,ok.funs,ok.frf⟩
def Cx.Ok.unwish {X:Cx} {E:ZE->ZG->Prop} (ok:(X.wish E).Ok):X.Ok:=
 ⟨ok.mod,ok.kind,ok.glob,ok.blt,ok.above,ok.inj,ok.has,ok.cab,ok.hd,ok.frames,ok.stk,ok.exf,ok.bs,ok.bsz,ok.noex,ok.exfs,ok.funs,ok.frf⟩
def Ed.wish (I:Ed X pins σ H s) (E:ZE->ZG->Prop):Ed (X.wish E) pins σ H s:=⟨I.ok.wish E,I.os,I.bare,I.base,I.loc,I.cell,I.free,I.freeC,I.pin,I.hok,I.len⟩
def Ed.unwish (I:Ed (X.wish E) pins σ H s):Ed X pins σ H s:=⟨I.ok.unwish,I.os,I.bare,I.base,I.loc,I.cell,I.free,I.freeC,I.pin,I.hok,I.len⟩
def SP.unwish {D:Lm} {f:Flow} {s':ZG} (h:SP (X.wish E) pins D f s'):SP X pins D f s':=by
 cases f with
 |next=>obtain⟨g,H',I,q⟩:=h;exact⟨g,H',I.unwish,q⟩
 |brk=>obtain⟨g,H',I,q⟩:=h;exact⟨g,H',I.unwish,q⟩
 |cont=>obtain⟨g,H',I,q⟩:=h;exact⟨g,H',I.unwish,q⟩
 |ret u=>obtain⟨v,g,H',I,r,q⟩:=h;exact⟨v,g,H',I.unwish,r,q⟩
def PSs.nox {st} {t} (h:PSs X.nox st t):PSs X st t:=λpins s σ H D I g=>
 bJ (h pins s σ H D (I.wish _) g) (λ_ _ q=>q.unwish) λ_ _ z=>aV z
section
variable {X:Cx} {st:bM} {rest:List bM} {t u:TS} {e:bA} {te:TE} {pos:Pos}
def OO:TS:=λD σ H=>D.nx σ H
def BZ (t u:TS):TS:=λD σ H=>t { D with nx:=u D } σ H
def Am:PSs X [] OO:=λ_ _ σ H _ I h=>kQ ⟨σ,H,I,h⟩
def Ab (h1:PS X st t) (B:PSs X rest u):PSs X (st::rest) (BZ t u):=by
 intro pins s σ H D I h;refine wpAny_execs_cons (Cb (h1 pins s σ H { D with nx:=u D } I h) λf j q=>?_);cases f with
 |next=>
  obtain⟨z,H',g,q⟩:=q;exact B pins j z H' D g q
 |ret v=>exact q
 |brk=>exact q
 |cont=>exact q
def Ae (h1:PS X st t):PSs X [st] t:=by
 intro pins s σ H D I h;refine wpAny_execs_cons (Cb (h1 pins s σ H D I h) λf g q=>?_);cases f with
 |next=>exact kQ q
 |ret v=>exact q
 |brk=>exact q
 |cont=>exact q
def Ed.quiet {s:ZG} (I:Ed X pins σ H s):interactive X.env=ZK:=by simp [interactive,I.ok.kind]
def QJ (te:TE):TS:=λD σ H=>te σ H λ_ H1=>D.nx σ H1
def Bg (z:PE X e te) (j:hZ e ZD pos.line X.env=pure ZK:=by rfl):PS X (.Expr e pos) (QJ te):=by
 intro pins s σ H D I h;exact wpAny_Expr_any (Cb (z pins s σ H _ I h) λv B ⟨x,H1,q,F,g⟩=>⟨σ,H1,q,g⟩) I.quiet j
def VF (te:TE):TS:=λD σ H=>te σ H D.rt
def Aj (z:PE X e te):PS X (.Return (ZC e) pos) (VF te):=by
 intro pins s σ H D I h;exact wpAny_Return_some (Cb (z pins s σ H _ I h) λv B ⟨x,H1,j,q,g⟩=>⟨x,σ,H1,j,q,g⟩)
def UU (c:TT) (t u:TS):TS:=λD σ H=>c σ H λb H1=>if b=ZI then t D σ H1 else u D σ H1
def Ax {c} {a b} {tc} (B:PT X c tc) (z:PSs X a t) (F:PSs X b u):PS X (.If c a b pos) (UU tc t u):=by
 intro pins s σ H D I h;refine wpAny_If (Cb (B pins s σ H _ I h) λd q ⟨H1,j,g⟩=>?_);cases d with
 |true=>exact z pins q σ H1 D j g
 |false=>exact F pins q σ H1 D j g
def LA:TS:=λ_ _ _=>False
def Bu:PS X st LA:=λ_ _ _ _ _ _ h=>h.elim
end
abbrev TG:=V->St->Hp->(St->Hp->Prop)->Prop
abbrev NV:=List V->St->Hp->(St->Hp->Prop)->Prop
def PG (X:Cx) (target:bA) (t:TG):Prop:=
 ∀ (pins:List (ZF×cP)) (s:ZG) (σ:St) (H:Hp) (v:V) (u:ZE) (Q:St->Hp->Prop),Ed X pins σ H s->Kl v u->t v σ H Q ->
  ZP (ZS X.prog X.w) X.A (iU target X.env u) (λ_ s'=>∃ σ' H',Ed X pins σ' H' s'/\Q σ' H') X.xe s
def RP (X:Cx) (ts:List bA) (t:NV):Prop:=
 ∀ (pins:List (ZF×cP)) (s:ZG) (σ:St) (H:Hp) (vs:List V) (us:List ZE) (Q:St->Hp->Prop),Ed X pins σ H s->Fy vs us->t vs σ H Q ->
  ZP (ZS X.prog X.w) X.A (assignInOrder ((dP ts X.env).map (·.2)) us) (λ_ s'=>∃ σ' H',Ed X pins σ' H' s'/\Q σ' H') X.xe s
abbrev SG:=V->V->V->Hp->(Hp->Prop)->Prop
def SB (X:Cx) (t:SG):Prop:=
 ∀ (pins:List (ZF×cP)) (s:ZG) (σ:St) (H:Hp) (o i v:V) (ov iv u:ZE) (Q:Hp->Prop),Ed X pins σ H s->Kl o ov->Kl i iv->Kl v u->t o i v H Q ->
  ZP (ZS X.prog X.w) X.A (setItem ov iv u) (λ_ s'=>∃ H',Ed X pins σ H' s'/\Q H') X.xe s
def Cp (i:Nat):TG:=λv σ H Q=>Q (σ.set i (ZC v)) H
def Wj {i:Nat} {x:ZM} (z:X.N.Nodup) (hi:X.N[i]?=ZC x) (j:LZ X.env.scope x) (q:X.fn x=ZI\/X.env.scope.names.lookup x=ZC .local:=by first|exact .inl rfl|exact .inr rfl|assumption):PG X (.Name x pos) (Cp i):=by
 intro pins s σ H v u Q I r h;exact wpAny_assign_Name (A9 I z hi j r (λs' g=>⟨_,H,g,h⟩) q)
def K1:NV:=λvs σ H Q=>vs=[]/\Q σ H
def Ge (t:TG) (u:NV):NV:=λvs σ H Q=>∃ v r,vs=v::r/\t v σ H λσ' H'=>u r σ' H' Q
def Ct:RP X [] K1:=by
 intro pins s σ H vs g Q I r h;obtain⟨e,h⟩:=h;subst e;cases r;exact assignInOrder_nil ⟨σ,H,I,h⟩
def Ao {e} {es} {t} {u} (h1:PG X e t) (L:RP X es u)
  (q:(dP (e::es) X.env).map (·.2)=iU e X.env::(dP es X.env).map (·.2):=by rfl):RP X (e::es) (Ge t u):=by
 intro pins s σ H vs U Q I r h;obtain⟨v,S,M,h⟩:=h;subst M;cases r with
 |cons r F=>
  rw[q];refine assignInOrder_cons (Cb (h1 pins s σ H _ _ _ I r h) λ_ B ⟨j,H1,z,g⟩=>?_);exact L pins B j H1 _ _ Q z F g
def Yv (K:zAa) (n:Nat) (t:NV):TG:=λv σ H Q=>∃ a xs,v=.ref a/\Hx K H a xs/\xs.length=n/\t xs σ H Q
def LI {es:List bA} {k:Nat} {t:NV} {n:Nat} (F:X.calm=ZI) (h:RP X es t)
  (M:(dP es X.env).length=n:=by rfl) (hst:(dP es X.env).findIdx? (·.1)=ZD:=by rfl):PG X (.Tuple es k pos) (Yv X.K n t):=by
 intro pins s σ H v u Q I r g;obtain⟨a,xs,S,hq,hl,g⟩:=g;subst S;cases r;obtain⟨z,j,q,U⟩:=I.tuple hq;refine assign_Tuple_tuple (I.ok.hd F) q (by simp [M,<- hl,j.length]) hst λh' L=>?_;let B:Ed X pins σ H { s with heap:=h' }:=I.kept (t':=s.toks) λb o e=>L b o (zAy (zAs e)) e;exact h pins _ σ H xs _ Q B (by simpa using j) g
def TW (to ti:TE) (t:SG):TG:=λv σ H Q=>to σ H λo H1=>ti σ H1 λi H2=>t o i v H2 λH3=>Q σ H3
def DB {o i} {to q} {t} (ho:PE X o to) (hi:PE X i q) (Y:SB X t)
  (ha:∀ v,iU (.Subscript o i pos) X.env v=(do
   let g <- eB [v] (aM o X.env)
   let j <- eB [v,g] (aM i X.env)
   gD pos
   eB [v,g,j] (setItem g j v)
   release [v,g,j] []):=by intro _;rfl):PG X (.Subscript o i pos) (TW to q t):=by
 intro pins s σ H v u Q I r h;rw[ha];refine zCF (aW (Cb (ho pins s σ H _ I h) λg s1 ⟨x,H1,I1,B,q1⟩=>?_));refine zCF (aW (Cb (hi pins s1 σ H1 _ I1 q1) λj L ⟨y,S,M,U,F⟩=>?_));refine zCF (iP (zCF (aW (Cb (Y pins L σ S x y v g j u _ M B U r F) λ_ s3 ⟨z,Z,q3⟩=>?_))));exact wpAny_release ⟨σ,z,Z,q3⟩
def Z3 (te:TE) (g:TG):TS:=λD σ H=>te σ H λx H1=>g x σ H1 D.nx
def D0 {tg e} {te} {g} (S:PE X e te) (z:PG X tg g) (B:swapsWithSole [tg] e pos.line X.env=pure ZK:=by rfl) (hw:swappedStores [tg] e X.env=pure ZD:=by rfl)
  (h1:(dP [tg] X.env).map (·.2)=[iU tg X.env]:=by rfl):PS X (.Assign [tg] e pos) (Z3 te g):=by
 intro pins s σ H D I h;refine wpAny_Assign_stores (Cb (S pins s σ H _ I h) λv L ⟨x,H1,F,M,j⟩=>?_) B hw;rw[h1];exact Cb (z pins L σ H1 x v _ F M j) λ_ U q=>q
def Nf {i:Nat} {x} {e} {te} {pos'} (M:X.N.Nodup) (hi:X.N[i]?=ZC x) (B:LZ X.env.scope x) (L:PE X e te) (q:hZ e (ZC (.Name x pos')) pos.line X.env=pure ZK:=by rfl) (hf:X.fn x=ZI\/X.env.scope.names.lookup x=ZC .local:=by first|exact .inl rfl|exact .inr rfl|assumption) :
  PS X (.Assign [.Name x pos'] e pos) (Z3 te (Cp i)):=by
 intro pins s σ H D I h;refine wpAny_Assign_Name (Cb (L pins s σ H _ I h) λv S ⟨y,H1,z,F,g⟩=>?_) q;exact A9 z M hi B F (λU j=>⟨_,H1,j,g⟩) hf
structure It where
 go:Nat->Hp->Prop
 yld:Nat->Hp->V->Hp->Prop
 stop:Nat->Hp->Prop
def Iq (X:Cx) (pins:List (ZF×cP)) (H:Hp) (b:ZF):Prop:=
 H b=ZD/\b≠X.env.locals/\b∉X.fs/\(b∈X.ex\/X.s₀.heap.objs.size<=b)/\(∀ x c,X.env.cells.lookup x=ZC c->c≠b)/\∀ p∈X.pn++pins,p.1≠b
def Ed.fpOk {X:Cx} {H H':Hp} {s:ZG} {b:ZF} (I:Ed X pins σ H s) (g:⇑s<=b) (j:H' b=ZD):Iq X pins H' b:=by
 refine⟨j,zBB (zAI I.lt g),I.nofs g,.inr (zAD I.sz g),λx c e z=>?_,λp B z=>?_⟩
 .obtain⟨v,q⟩:=I.cell x c e
  exact ZR (zAI q.lt (by rw[z];exact g)) (zBq _)
 .exact ZR (zAI (zAs (I.pin p B).1) (by rw[z];exact g)) (zBq _)
structure Xh (P:ZO) (w:ZX) (K:zAa) (tg:bA) (J:It) (fp:List ZF) (it:ZF) (tn:Nat->aB->Prop):Prop where
 mem:it∈fp
 obj:∀ i h,tn i h->∀ b∈fp,∃ o,h.get? b=ZC o/\∀ v,o.data≠.cell v
 keep:∀ i h h',tn i h->(∀ b∈fp,∀ o,h.get? b=ZC o->h'.get? b=ZC o)->tn i h'
 item:∀ (X:Cx),X.prog=P->X.w=w->X.K=K->X.calm=ZI->∀ (i:Nat) (pins:List (ZF×cP)) (s:ZG) (σ:St) (H:Hp) (E:ZE->ZG->Prop),Ed X pins σ H s->(∀ b∈fp,Iq X pins H b)->tn i s.heap->J.go i H ->
  ZP (ZS P w) X.A (eK (.ref it)) (λr s1=>∃ u,r=ZC u /\
   ZP (ZS P w) X.A (gK tg (.ref it) u) (λ_ s2=>∃ x H',Ed X pins σ H' s2/\Kl x u/\J.yld i H x H'/\tn (i+1) s2.heap/\∀ b∈fp,H' b=ZD) E s1) E s
 done:∀ (X:Cx),X.prog=P->X.w=w->X.K=K->X.calm=ZI->∀ (i:Nat) (pins:List (ZF×cP)) (s:ZG) (σ:St) (H:Hp) (E:ZE->ZG->Prop),Ed X pins σ H s->(∀ b∈fp,Iq X pins H b)->tn i s.heap->J.stop i H ->
  ZP (ZS P w) X.A (eK (.ref it)) (λr s1=>r=ZD/\Ed X pins σ H s1) E s
 self:∀ (A:aE) (i:Nat) (s:ZG) (Q:ZE->ZG->Prop) (E:ZE->ZG->Prop),tn i s.heap->Q (.ref it) s->ZP (ZS P w) A (nV (.ref it)) Q E s
abbrev TI:=St->Hp->(It->Hp->Prop)->Prop
def WB (X:Cx) (pins:List (ZF×cP)) (σ:St) (tg:bA) (R:It->Hp->Prop) (itv:ZE) (s2:ZG):Prop:=
 ∃ (it:ZF) (fp:List ZF) (tn:Nat->aB->Prop) (J:It) (H':Hp),itv=.ref it/\Ed X pins σ H' s2/\Xh X.prog X.w X.K tg J fp it tn/\tn 0 s2.heap/\(∀ b∈fp,Iq X pins H' b)/\R J H'
def PI (X:Cx) (tg iter:bA) (wi:TI):Prop:=
 ∀ (pins:List (ZF×cP)) (s:ZG) (σ:St) (H:Hp) (R:It->Hp->Prop),Ed X pins σ H s->wi σ H R ->
  ZP (ZS X.prog X.w) X.A (aM iter X.env) (λv s1=>ZP (ZS X.prog X.w) X.A (nV v) (WB X pins σ tg R) X.xe s1) X.xe s
def N2 {M} {A} {E:ZE->ZG->Prop} {s} {tg} {it} {u} {o} {n} {vs} {Q:Unit->ZG->Prop} (ho:s.heap.get? it=ZC o) (hc:o.cls=.type n) (hd:o.data=.fields vs)
  (hn:["enumerate","zip","dict_itemiterator","dict_reverseitemiterator","odict_iterator","itertools.zip_longest","itertools.pairwise"].contains n=ZK) (hQ:Q () s):ZP M A (gK tg (.ref it) u) Q E s:=by
 unfold gK;cases tg <;> first
  |exact zCG hQ
  | (cases u <;> first
    |exact zCG hQ
    | (refine zCF (wpAny_load ho ?_)
       rw[hc,hd];show ZP M A (if (["enumerate","zip","dict_itemiterator","dict_reverseitemiterator","odict_iterator","itertools.zip_longest","itertools.pairwise"].contains n&&vs[0]?==ZC (aO _))=ZI then _ else _) Q E s;rw[ZH (by intro h;rw[hn,zCj] at h;cases h)];exact zCG hQ))
def Y5 (K:zAa) (a:ZF):It:=
 ⟨λi H=>∃ xs x,Dp K H a xs/\xs[i]?=ZC x,λi H x H'=>H'=H/\∀ xs,Dp K H a xs->xs[i]?=ZC x,λi H=>∃ xs,Dp K H a xs/\xs.length<=i⟩
def EW (lo:Int) (n:Nat):It:=⟨λi _=>i<n,λi H x H'=>H'=H/\x=.int (lo+i),λi _=>n<=i⟩
def W5 {P} {w} {K} {tg} (a it:ZF):Xh P w K tg (Y5 K a) [it] it (λi h=>h.IsListIter it a i) where
 mem:=by simp
 obj:=λi h st b g=>by
  let e:b=it:=by simpa using g
  subst e;obtain⟨o,e,c,d⟩:=st;exact⟨o,e,λv z=>by rw[d] at z;cases z⟩
 keep:=λi h h' st k=>st.at λo e=>k it (by simp) o e
 item:=by
  intro X S U hK hc i pins s σ H E I q st F;subst S U hK;obtain⟨xs,x,hq,hx⟩:=F;obtain⟨Z,M,p,hz⟩:=I.list hq;obtain⟨u,hu,ru⟩:=M.get hx;obtain⟨f0,f1,f2,L,Y,B⟩:=q it (by simp);refine wpAny_pyNext_list_item st p.isList (x:=u) (by simpa using hu) λh' j sb=>?_;let I1:Ed X pins σ H { s with heap:=h' }:=I.turned (t':=s.toks) (λb o g e=>(sb.2 b g).trans e) f0 f1 L Y B;obtain⟨o,e,c,d⟩:=id j;exact⟨u,rfl,N2 (s:={ s with heap:=h' }) e c d (by lk) ⟨x,H,I1,ru,⟨rfl,λys hy=>by rw[I.list_inj hy hq];exact hx⟩,j,λb g=>(q b g).1⟩⟩
 done:=by
  intro X S U hK hc i pins s σ H E I q st F;subst S U hK;obtain⟨xs,hq,hx⟩:=F;obtain⟨Z,M,p,hz⟩:=I.list hq;obtain⟨f0,f1,f2,L,Y,B⟩:=q it (by simp);let hl:=M.length;exact wpAny_pyNext_list_end (I.ok.hd hc) st p.isList (by simp;lia) λh' eb=>⟨rfl,I.turned (t':=s.toks) (λb o g e=>eb b o g e) f0 f1 L Y B⟩
 self:=λ_ _ _ _ _ st h=>wpAny_pyIter_listiter st h
def E6 {P} {w} {K} {tg} (it:ZF) (lo:Int) (n:Nat):Xh P w K tg (EW lo n) [it] it (λi h=>IsRangeIter h it (lo+(i:Nat)*1) ((n:Int)-(i:Nat)) 1) where
 mem:=by simp
 obj:=λi h st b g=>by
  let e:b=it:=by simpa using g
  subst e;exact⟨_,st,λv z=>by
   let z':mO _=iR v:=z;cases z'⟩
 keep:=λi h h' st k=>k it (by simp) _ st
 item:=by
  intro X F M U Y i pins s σ H E I q st L;subst F M U;obtain⟨f0,f1,f2,Z,S,B⟩:=q it (by simp);let W:=Walks.range (prog:=X.prog) (w:=X.w) (I.ok.hd Y) it lo 1 n;refine W.item i s _ _ L st λv h' tk hv j kk=>?_;obtain⟨t,rfl⟩:=hv;let I1:Ed X pins σ H { s with heap:=h',toks:=tk }:=I.turned (λb o g e=>kk b o (by simpa using g) e) f0 f1 Z S B;refine⟨_,rfl,N2 (s:={ s with heap:=h',toks:=tk }) (n:="range_iterator") j rfl rfl (by lk) ⟨.int (lo+i),H,I1,⟨t,?_⟩,⟨rfl,rfl⟩,j,λb g=>(q b g).1⟩⟩;rw[Int.mul_one]
 done:=by
  intro X F M U Y i pins s σ H E I q st L;subst F M U;obtain⟨f0,f1,f2,Z,S,B⟩:=q it (by simp);exact wpAny_pyNext_range_end (I.ok.hd Y) st (by let:n<=i:=L;lia) λh' eb=>⟨rfl,I.turned (t':=s.toks) (λb o g e=>eb b o g e) f0 f1 Z S B⟩
 self:=λ_ _ _ _ _ st h=>wpAny_pyIter_rangeiter st h
def EQ (K:zAa) (tl:TE):TI:=λσ H R=>tl σ H λx H1=>∃ a,x=.ref a/\(∃ xs,Dp K H1 a xs)/\R (Y5 K a) H1
def HZ {l} {tl} (hl:PE X l tl):PI X tg l (EQ X.K tl):=by
 intro pins s σ H R I h;refine Cb (hl pins s σ H _ I h) λv j ⟨x,H1,g,L,z⟩=>?_;obtain⟨a,e,⟨xs,hq⟩,q⟩:=z;subst e;cases L;obtain⟨B,M,p,S⟩:=g.list hq;refine wpAny_pyIter_list p.isList ?_;refine⟨⇑j,[⇑j],_,_,H1,rfl,g.kept (t':=j.toks) λb o e=>zAg _ e,W5 a _,⟨_,zAF _ rfl,rfl,rfl⟩,λb F=>?_,q⟩;let e:b=⇑j:=by simpa using F
 subst e;exact g.fpOk (zAl _) (g.hok.fresh (zAl _))
def EC {s:ZG} {R:It->Hp->Prop} {E:ZE->ZG->Prop} {lo hi:Int} {t u v:Tok} {tk:Nat} (I:Ed X pins σ H s) (h1 : -(2^62)<=lo) (L:lo<2^62) (F : -(2^62)<=hi) (j:hi<2^62)
  (q:R (EW lo (hi-lo).toNat) H):ZP (ZS X.prog X.w) X.A (nV (.ref ⇑s)) (WB X pins σ tg R) E { s with heap:=s.heap.push { cls:=.type "range",data:=.fields #[.int lo t,.int hi u,.int 1 v] },toks:=tk }:=by
 refine wpAny_pyIter_range (IsRange.new ..) (small_one h1 L F j) ?_;let g:Ed X pins σ H { s with heap:=s.heap.push { cls:=.type "range",data:=.fields #[.int lo t,.int hi u,.int 1 v] },toks:=tk }:=I.kept λb o e=>zAg _ e;refine⟨(s.heap.push { cls:=.type "range",data:=.fields #[.int lo t,.int hi u,.int 1 v] }).objs.size,[(s.heap.push { cls:=.type "range",data:=.fields #[.int lo t,.int hi u,.int 1 v] }).objs.size],_,_,H,rfl,
  g.kept (t':=tk) λb o e=>zAg _ e,E6 _ lo (hi-lo).toNat,?_,λb z=>?_,q⟩
 .have M:lo+((0:Nat):Int)*1=lo:=by simp
  let B:(((hi-lo).toNat:Nat):Int)-((0:Nat):Int)=Builtin.Range.rangeSize lo hi 1:=by rw[rangeSize_one];split <;> lia
  show IsRangeIter _ _ (lo+((0:Nat):Int)*1) ((((hi-lo).toNat:Nat):Int)-((0:Nat):Int)) 1;rw[M,B];exact zAF _ rfl
 .have e:b=(s.heap.push { cls:=.type "range",data:=.fields #[.int lo t,.int hi u,.int 1 v] }).objs.size:=by simpa using z
  subst e;exact g.fpOk (zAl _) (g.hok.fresh (zAl _))
def RY (ta:TA):TI:=λσ H R=>ta σ H λvs H1=>∃ j:Int,vs=[.int j]/\-(2^62)<=j/\j<2^62/\R (EW 0 j.toNat) H1
def Ei {a:bA} {p pos:Pos} (B:Gl X "range") (z:X.mg "range"=ZD) (M:PA X [a] ta) (F:ZU [a] X.env=[(ZK,aM a X.env)]:=by rfl):PI X tg (.Call (.Name "range" p) [a] [] pos) (RY ta):=by
 intro pins s σ H R I h;refine Call_ (Fz I B z boot_range (aU (Cb (M pos pins s σ H _ I h) λZ s1 ⟨vs,H1,L,U,g⟩=>?_) F rfl));obtain⟨j,e,g,Y,q⟩:=g;subst e;cases U with
 |cons r S=>
  cases S
  obtain⟨t,rfl⟩:=r;exact call_range_1 (EC L (by lia) (by lia) g Y (by simpa using q))
def UV (wi:TI) (g:TG) (tb:TS):TS:=λD σ H=>wi σ H λJ H1=>∃ W:Nat->Nat->St->Hp->Prop,(∃ m,W 0 m σ H1)/\∀ i m σ H,W i m σ H ->
 (J.stop i H/\D.nx σ H)\/(J.go i H/\∃ N:St->Hp->Prop,(∀ σ' H',N σ' H'->∃ m',m'<m/\W (i+1) m' σ' H')/\∀ x H',J.yld i H x H'->g x σ H' λσ2 H2=>tb { D with nx:=N,ct:=N,bk:=D.nx } σ2 H2)
def Ru (fp:List ZF) (h:aB):List (ZF×cP):=fp.filterMap λb=>(h.get? b).map λo=>(b,o)
def Hw {h:aB} {b:ZF} {o:cP} (g:b∈fp) (e:h.get? b=ZC o):(b,o)∈Ru fp h:=List.mem_filterMap.mpr ⟨b,g,by rw[e];rfl⟩
def W9 {h:aB} {p:ZF×cP} (j:p∈Ru fp h):p.1∈fp/\h.get? p.1=ZC p.2:=by
 obtain⟨b,g,e⟩:=List.mem_filterMap.mp j;cases q:h.get? b with
 |none=>rw[q] at e;cases e
 |some o=>
  rw[q] at e;let z:(b,o)=p:=aH e;subst z;exact⟨g,q⟩
def Ed.pinned {s:ZG} (I:Ed X pins σ H s) (B:∀ b∈fp,Iq X pins H b) (F:∀ b∈fp,∃ o,s.heap.get? b=ZC o/\∀ v,o.data≠.cell v):Ed X (pins++Ru fp s.heap) σ H s:=
 I.pins_of λp q=>(zAu.mp q).elim (λz=>I.pin p (zAC _ z)) λz=>by
  obtain⟨g,e⟩:=W9 z;obtain⟨f0,f1,L,_⟩:=B p.1 g;obtain⟨o,j,d⟩:=F p.1 g;rw[e] at j;cases j;exact⟨e,f0,f1,L,d⟩
def Ed.unpinned {pins pl:List (ZF×cP)} {s:ZG} (I:Ed X (pins++pl) σ H s):Ed X pins σ H s:=I.pins_of λp g=>I.pin p (zAC _ (zBp _ g))
def Bq {g:TG} (hp:PassesOwn (ZS X.prog X.w) X.A X.env X.xe) (hc:X.calm=ZI) (hi:PI X tg iter wi) (hg:PG X tg g) (B:PSs X body tb)
  (hs:∀ x,jF iter X.env x=pure x:=by intro _;rfl):PS X (.For tg iter body [] pos) (UV wi g tb):=by
 intro pins s σ H D I h;refine wpAny_For (Cb (hi pins s σ H _ I h) λv s1 h1=>Cb h1 λaf s2 h2=>?_) hs;obtain⟨it,fp,tn,J,H2,e,I2,T,ad,f2,W,⟨m0,w0⟩,Y⟩:=h2;subst e;let j:∀ {H':Hp},(∀ b∈fp,H' b=ZD)->∀ b∈fp,Iq X pins H' b:=λhn b B=>⟨hn b B,(f2 b B).2⟩;refine codeAny_forLoop_any (λn s'=>∃ i Z H',Ed X pins Z H' s'/\tn i s'.heap/\(∀ b∈fp,H' b=ZD)/\W i n Z H') ?_ m0 ⟨0,σ,H2,I2,ad,λb B=>(f2 b B).1,w0⟩;rintro n s3 ⟨i,σ3,H3,I3,ab,aa,w3⟩;rcases Y i n σ3 H3 w3 with ⟨U,qn⟩|⟨go,N,hN,step⟩
 .refine dY hp (Cb (T.done X rfl rfl rfl hc i pins s3 σ3 H3 X.xe I3 (j aa) ab U) λr s4 ⟨hr,I4⟩=>?_)
  subst hr;exact kQ ⟨σ3,H3,I4,qn⟩
 .refine dY hp (Cb (T.item X rfl rfl rfl hc i pins s3 σ3 H3 X.xe I3 (j aa) ab go) λr s4 ⟨u,hr,h4⟩=>?_)
  subst hr;refine dY hp (Cb h4 λ_ s5 ⟨x,H5,I5,r5,y5,S,ae⟩=>?_);let ac:=I5.pinned (j ae) (T.obj _ _ S);refine dY hp (Cb (hg _ s5 σ3 H5 x u _ ac r5 (step x H5 y5)) λ_ s6 ⟨σ6,H6,I6,q6⟩=>?_);refine dY hp (Cb (B _ s6 σ6 H6 _ I6 q6) λf s7 M=>?_);let L:∀ {q:St} {z:Hp},Ed X (pins++Ru fp s5.heap) q z s7->N q z->∃ m,m<n/\∃ i Z H',Ed X pins Z H' s7/\tn i s7.heap/\(∀ b∈fp,H' b=ZD)/\W i m Z H':=λ{q z} F n7=>by
   obtain⟨m',hm,w7⟩:=hN q z n7;refine⟨m',hm,i+1,q,z,F.unpinned,T.keep _ _ _ S λb B o e=>(F.pin (b,o) (zAC _ (zAC _ (Hw B e)))).1,λb B=>?_,w7⟩;obtain⟨o,e,d⟩:=T.obj _ _ S b B;exact (F.pin (b,o) (zAC _ (zAC _ (Hw B e)))).2.1
  cases f with
  |next=>obtain⟨q,z,F,n7⟩:=M;exact L F n7
  |cont=>obtain⟨q,z,F,n7⟩:=M;exact L F n7
  |brk=>obtain⟨q,z,F,M⟩:=M;exact⟨q,z,F.unpinned,M⟩
  |ret v=>obtain⟨x7,q,z,F,r7,M⟩:=M;exact⟨x7,q,z,F.unpinned,r7,M⟩
def Hs {K:zAa} {a:ZF} {xs:List V} {g:TG} {tb:TS} {D:Lm} {σ:St} {H:Hp} (j:Nat->St->Hp->Prop) (Y:j 0 σ H) (hl:∀ i σ H,i<=xs.length->j i σ H->Dp K H a xs)
  (S:∀ i x σ H,xs[i]?=ZC x->j i σ H->g x σ H λL B=>tb { D with nx:=j (i+1),ct:=j (i+1),bk:=D.nx } L B) (hd:∀ σ H,j xs.length σ H->D.nx σ H) :
  ∃ W:Nat->Nat->St->Hp->Prop,(∃ m,W 0 m σ H)/\∀ i m σ H,W i m σ H ->
   ((Y5 K a).stop i H/\D.nx σ H)\/((Y5 K a).go i H/\∃ N:St->Hp->Prop,(∀ F H',N F H'->∃ M,M<m/\W (i+1) M F H')/\∀ x H',(Y5 K a).yld i H x H'->g x σ H' λL B=>tb { D with nx:=N,ct:=N,bk:=D.nx } L B):=by
 refine⟨λi m σ H=>m=xs.length-i/\i<=xs.length/\j i σ H,⟨xs.length,by simp,zAw _,Y⟩,?_⟩;rintro i m σ H ⟨rfl,hi,p⟩;let q:=hl i σ H hi p;by_cases z:i<xs.length
 .refine .inr ⟨⟨xs,xs[i],q,by simp [z]⟩,j (i+1),λF H' U=>⟨xs.length-(i+1),by lia,rfl,z,U⟩,λx H' y=>?_⟩
  obtain⟨e,y⟩:=y;subst e;exact S i x σ _ (y xs q) p
 .have e:i=xs.length:=by lia
  subst e;exact .inl ⟨⟨xs,q,zAl _⟩,hd σ H p⟩
def Ua {lo:Int} {n:Nat} {g:TG} {tb:TS} {D:Lm} {σ:St} {H:Hp} (q:Nat->St->Hp->Prop) (U:q 0 σ H)
  (M:∀ i σ H,i<n->q i σ H->g (.int (lo+i)) σ H λF z=>tb { D with nx:=q (i+1),ct:=q (i+1),bk:=D.nx } F z) (hd:∀ σ H,q n σ H->D.nx σ H) :
  ∃ W:Nat->Nat->St->Hp->Prop,(∃ m,W 0 m σ H)/\∀ i m σ H,W i m σ H ->
   ((EW lo n).stop i H/\D.nx σ H)\/((EW lo n).go i H/\∃ N:St->Hp->Prop,(∀ B H',N B H'->∃ L,L<m/\W (i+1) L B H')/\∀ x H',(EW lo n).yld i H x H'->g x σ H' λF z=>tb { D with nx:=N,ct:=N,bk:=D.nx } F z):=by
 refine⟨λi m σ H=>m=n-i/\i<=n/\q i σ H,⟨n,by simp,zAw _,U⟩,?_⟩;rintro i m σ H ⟨rfl,hi,p⟩;by_cases j:i<n
 .refine .inr ⟨j,q (i+1),λB H' S=>⟨n-(i+1),by lia,rfl,j,S⟩,λx H' y=>?_⟩
  obtain⟨e,y⟩:=y;subst e y;exact M i σ _ j p
 .have e:i=n:=by lia
  subst e;exact .inl ⟨zAl _,hd σ H p⟩
abbrev R2:=V->V->Hp->VK->Prop
def Kb (X:Cx) (f:ZE->ZE->mS ZE) (r:R2):Prop:=
 ∀ (pins:List (ZF×cP)) (s:ZG) (σ:St) (H:Hp) (x y:V) (v u:ZE) (Q:VK),Ed X pins σ H s->Kl x v->Kl y u->r x y H Q ->
  ZP (ZS X.prog X.w) X.A (f v u) (EP X pins σ Q) X.xe s
def UL (X:Cx) (f:ZE->mS ZE) (r:V->Hp->VK->Prop):Prop:=
 ∀ (pins:List (ZF×cP)) (s:ZG) (σ:St) (H:Hp) (x:V) (v:ZE) (Q:VK),Ed X pins σ H s->Kl x v->r x H Q ->
  ZP (ZS X.prog X.w) X.A (f v) (EP X pins σ Q) X.xe s
def Fq (X:Cx) (f:ZE) (r:List V->Hp->VK->Prop):Prop:=
 ∀ (pins:List (ZF×cP)) (s:ZG) (σ:St) (H:Hp) (xs:List V) (us:List ZE) (Q:VK),Ed X pins σ H s->Fy xs us->r xs H Q ->
  ZP (ZS X.prog X.w) X.A (call f us) (EP X pins σ Q) X.xe s
def UA (X:Cx) (r:V->Hp->(Bool->Hp->Prop)->Prop):Prop:=
 ∀ (pins:List (ZF×cP)) (s:ZG) (σ:St) (H:Hp) (x:V) (v:ZE) (Q:Bool->Hp->Prop),Ed X pins σ H s->Kl x v->r x H Q ->
  ZP (ZS X.prog X.w) X.A (truthy v) (TP X pins σ Q) X.xe s
def OB (r:R2) (ta tb:TE):TE:=λσ H Q=>ta σ H λx H1=>tb σ H1 λy H2=>r x y H2 Q
def WC (r:V->Hp->VK->Prop) (ta:TE):TE:=λσ H Q=>ta σ H λx H1=>r x H1 Q
def rI (C:Int->Int->Prop) (g:Int->Int->V):R2:=λx y H Q=>∃ i j,x=.int i/\y=.int j/\C i j/\Q (g i j) H
def IE (g:Int->Int->V):R2:=λx y H Q=>∃ i j,x=.int i/\y=.int j/\Q (g i j) H
def rU (g:Int->V):V->Hp->VK->Prop:=λx H Q=>∃ i,x=.int i/\Q (g i) H
def MM (S:PE X a ta) (U:PE X b tb) {s:ZG} {R:V->V->Hp->Prop} (I:Ed X pins σ H s)
  (h:ta σ H λx H1=>tb σ H1 λy g=>R x y g) {Q:ZE->ZG->Prop} {f:ZE->ZE->mS ZE}
  (L:∀ v u j x y g,Ed X pins σ g j->Kl x v->Kl y u->R x y g->ZP (ZS X.prog X.w) X.A (f v u) Q X.xe j) :
  ZP (ZS X.prog X.w) X.A (aM a X.env) (λv s₁=>ZP (ZS X.prog X.w) X.A (aM b X.env) (λu z=>ZP (ZS X.prog X.w) X.A (f v u) Q X.xe z) X.xe s₁) X.xe s:=by
 refine Cb (S pins s σ H _ I h) λv Y ⟨x,H1,M,Z,q⟩=>?_;refine Cb (U pins Y σ H1 _ M q) λu j ⟨y,g,B,F,q2⟩=>?_;exact L v u j x y g B Z F q2
def Ai {r:R2} (M:Kb X (dA op) r) (B:PE X a ta) (F:PE X b tb):PE X (.BinOp a op b pos) (OB r ta tb):=by
 intro pins s σ H Q I h;exact wpAny_BinOp (MM B F I h λv u S x y j g L z q=>M pins S σ j x y v u Q g L z q)
def Oo {r:V->Hp->VK->Prop} (B:UL X (unaryOp op) r) (q:PE X a ta):PE X (.UnaryOp op a pos) (WC r ta):=by
 intro pins s σ H Q I h;exact UnaryOp_ (Cb (q pins s σ H _ I h) λv z ⟨x,H1,j,F,g⟩=>B pins z σ H1 x v Q j F g)
def SR {f:ZE->ZE->mS ZE} {C:Int->Int->Prop} {g:Int->Int->Int}
  (z:∀ (i j:Int) (t u:Tok) (s:ZG) (Q:ZE->ZG->Prop) (E:ZE->ZG->Prop),C i j->Q (.int (g i j) s.toks) { s with toks:=s.toks+1 }->ZP (ZS X.prog X.w) X.A (f (.int i t) (.int j u)) Q E s) :
  Kb X f (rI C λi j=>.int (g i j)):=by
 intro pins s σ H x y v u Q I M F h;obtain⟨i,j,rfl,rfl,L,q⟩:=h;obtain⟨t,rfl⟩:=M;obtain⟨B,rfl⟩:=F;exact z i j t B s _ _ L ⟨.int (g i j),H,I.tok _,⟨_,rfl⟩,q⟩
def PM {f:ZE->ZE->mS ZE} {g:Int->Int->Int}
  (z:∀ (i j:Int) (t u:Tok) (s:ZG) (Q:ZE->ZG->Prop) (E:ZE->ZG->Prop),Q (.int (g i j) s.toks) { s with toks:=s.toks+1 }->ZP (ZS X.prog X.w) X.A (f (.int i t) (.int j u)) Q E s) :
  Kb X f (IE λi j=>.int (g i j)):=by
 intro pins s σ H x y v u Q I B F h;obtain⟨i,j,rfl,rfl,q⟩:=h;obtain⟨t,rfl⟩:=B;obtain⟨L,rfl⟩:=F;exact z i j t L s _ _ ⟨.int (g i j),H,I.tok _,⟨_,rfl⟩,q⟩
def GN {f:ZE->ZE->mS ZE} {g:Int->Int->Bool}
  (z:∀ (i j:Int) (t u:Tok) (s:ZG) (Q:ZE->ZG->Prop) (E:ZE->ZG->Prop),Q (.bool (g i j)) s->ZP (ZS X.prog X.w) X.A (f (.int i t) (.int j u)) Q E s) :
  Kb X f (IE λi j=>.bl (g i j)):=by
 intro pins s σ H x y v u Q I B F h;obtain⟨i,j,rfl,rfl,q⟩:=h;obtain⟨t,rfl⟩:=B;obtain⟨L,rfl⟩:=F;exact z i j t L s _ _ ⟨.bl (g i j),H,I,rfl,q⟩
def VN (i j:Int):Prop:=0<j/\j<1073741824
def UI (i j:Int):Prop:=0<=j/\j<=1000000/\i.natAbs<2^64
def ZB (i j:Int):Prop:=(-(2^64)<i/\i<2^64)\/(-(2^64)<j/\j<2^64)
def ZB.ok {i j:Int} (h:ZB i j):IntMulOk i j:=by
 rcases h with ⟨h1,g⟩|⟨h1,g⟩
 .exact .of_left (intBits_le_64 h1 g)
 .exact .of_right (intBits_le_64 h1 g)
def Bf:Kb X (dA .Add) (IE λi j=>.int (i+j)):=PM λ_ _ _ _ _ _ _ q=>add_int q
def Kt:Kb X (dA .Sub) (IE λi j=>.int (i-j)):=PM λ_ _ _ _ _ _ _ q=>sub_int q
def Eb:Kb X (dA .Mult) (rI ZB λi j=>.int (i*j)):=SR λ_ _ _ _ _ _ _ g q=>mul_int q g.ok
def Bz:Kb X (dA .FloorDiv) (rI VN λi j=>.int (i/j)):=SR λi j _ _ _ _ _ g q=>by
 let h1:(0:Int)<j:=g.1;let z:j<1073741824:=g.2;exact floordiv_int (by lia) (by rw[Int.fdiv_eq_ediv_of_nonneg i (by lia)];exact q) (.inl (PyProof.noPylong_small (by lia)))
def Bd:Kb X (dA .Mod) (rI (λ_ j=>0<j) λi j=>.int (i%j)):=SR λi j _ _ _ _ _ g q=>by
 let h1:(0:Int)<j:=g;exact mod_int' (by lia) (by rw[Int.fmod_eq_emod_of_nonneg i (by lia)];exact q)
def Wf:Kb X (dA .Pow) (rI UI λi j=>.int (i^j.toNat)):=SR λ_ _ _ _ _ _ _ g q=>pow_int_small g.1 g.2.1 g.2.2 q
def WJ {f:ZE->mS ZE} {g:Int->Int}
  (j:∀ (i:Int) (t:Tok) (s:ZG) (Q:ZE->ZG->Prop) (E:ZE->ZG->Prop),Q (.int (g i) s.toks) { s with toks:=s.toks+1 }->ZP (ZS X.prog X.w) X.A (f (.int i t)) Q E s) :
  UL X f (rU λi=>.int (g i)):=by
 intro pins s σ H x v Q I z h;obtain⟨i,rfl,q⟩:=h;obtain⟨t,rfl⟩:=z;exact j i t s _ _ ⟨.int (g i),H,I.tok _,⟨_,rfl⟩,q⟩
def Ji:UL X (unaryOp .USub) (rU λi=>.int (-i)):=WJ λ_ _ _ _ _ q=>neg_int q
def VA:V->V->Bool
 |.non,.non=>ZI|.non,.int _=>ZI|.int _,.non=>ZI|.non,.bl _=>ZI|.bl _,.non=>ZI|.non,.str _=>ZI|.str _,.non=>ZI
 |.int _,.int _=>ZI|.bl _,.bl _=>ZI|.str _,.str _=>ZI|.byt _,.byt _=>ZI
 |.int _,.str _=>ZI|.str _,.int _=>ZI|.bl _,.str _=>ZI|.str _,.bl _=>ZI
 |_,_=>ZK
def WK:R2:=λx y H Q=>VA x y=ZI/\Q (.bl (decide (x=y))) H
def GM {i j:Int}:decide (V.int i=V.int j)=(i==j):=by
 rw[fM];simp
def MY {i j:Bool}:decide (V.bl i=V.bl j)=(i==j):=by
 rw[fM];simp
def HS {i j:ZM}:decide (V.str i=V.str j)=(i==j):=by
 rw[fM];simp
def GC {i j:Array UInt8}:decide (V.byt i=V.byt j)=(i.toList==j.toList):=by
 rw[fM];cases i;cases j;simp
def Dh {s:ZG} {Q:VK} {k k':Bool} (I:Ed X pins σ H s) (q:Q (.bl k) H) (e:k=k'):EP X pins σ Q (.bool k') s:=by
 subst e;exact⟨.bl k,H,I,rfl,q⟩
def Cc:Kb X (aT .Eq) WK:=by
 intro pins s σ H x y v u Q I F g h;obtain⟨B,q⟩:=h;cases x with
 |non=>
  cases F
  cases y with
  |non=>cases g;exact PySem.EqNone.eq_none_none (Dh I q (by simp))
  |bl j=>cases g;exact PySem.EqNone.eq_none_bool (Dh I q (by simp))
  |int j=>obtain⟨z,rfl⟩:=g;exact PySem.EqNone.eq_none_int (Dh I q (by simp))
  |str j=>obtain⟨z,rfl⟩:=g;exact PySem.EqNone.eq_none_str (Dh I q (by simp))
  |_=>exact ZR (show ZK=ZI from B) zAt
 |bl i=>
  cases F
  cases y with
  |non=>cases g;exact PySem.EqNone.eq_bool_none (Dh I q (by simp))
  |bl j=>cases g;exact eq_bool (Dh I q MY)
  |str j=>obtain⟨z,rfl⟩:=g;exact PySem.EqMixed.eq_bool_str (Dh I q (by simp))
  |_=>exact ZR (show ZK=ZI from B) zAt
 |int i=>
  obtain⟨t,rfl⟩:=F;cases y with
  |non=>cases g;exact PySem.EqNone.eq_int_none (Dh I q (by simp))
  |int j=>obtain⟨z,rfl⟩:=g;exact eq_int (Dh I q GM)
  |str j=>obtain⟨z,rfl⟩:=g;exact PySem.EqMixed.eq_int_str (Dh I q (by simp))
  |_=>exact ZR (show ZK=ZI from B) zAt
 |str i=>
  obtain⟨t,rfl⟩:=F;cases y with
  |non=>cases g;exact PySem.EqNone.eq_str_none (Dh I q (by simp))
  |bl j=>cases g;exact PySem.EqMixed.eq_str_bool (Dh I q (by simp))
  |int j=>obtain⟨z,rfl⟩:=g;exact PySem.EqMixed.eq_str_int (Dh I q (by simp))
  |str j=>obtain⟨z,rfl⟩:=g;exact eq_str (Dh I q HS)
  |_=>exact ZR (show ZK=ZI from B) zAt
 |byt i=>
  obtain⟨t,rfl⟩:=F;cases y with
  |byt j=>obtain⟨z,rfl⟩:=g;exact PySem.W.eq_bytes (Dh I q GC)
  |_=>exact ZR (show ZK=ZI from B) zAt
 |_=>cases y <;> exact ZR (show ZK=ZI from B) zAt
def Hd:Kb X (aT .Lt) (IE λi j=>.bl (decide (i<j))):=GN λ_ _ _ _ _ _ _ q=>lt_int q
def Hr:Kb X (aT .LtE) (IE λi j=>.bl (decide (i<=j))):=GN λ_ _ _ _ _ _ _ q=>le_int q
def Oa:Kb X (aT .Gt) (IE λi j=>.bl (decide (j<i))):=GN λ_ _ _ _ _ _ _ q=>gt_int q
def PD:Kb X (aT .GtE) (IE λi j=>.bl (decide (j<=i))):=GN λ_ _ _ _ _ _ _ q=>ge_int q
def Nj:Kb X (aT .Is) (λx y H Q=>y=.non/\Q (.bl (decide (x=.non))) H):=by
 intro pins s σ H x y v u Q I g j h;obtain⟨rfl,q⟩:=h;cases j;refine is_none_gen (Dh I q ?_);cases x <;> first
  |(cases g;rfl)
  |(obtain⟨t,rfl⟩:=g;rfl)
def Wv:Kb X (aT .IsNot) (λx y H Q=>y=.non/\Q (.bl (!decide (x=.non))) H):=by
 intro pins s σ H x y v u Q I g j h;obtain⟨rfl,q⟩:=h;cases j;refine isnot_none_gen (Dh I q ?_);cases x <;> first
  |(cases g;rfl)
  |(obtain⟨t,rfl⟩:=g;rfl)
def Ap (b:bA) (h:op≠.In:=by lk) (h2:op≠.NotIn:=by lk):dQ op b=ZK:=by
 let j:(op==CmpOp.In)=ZK:=by cases op <;> first|rfl|exact ZR rfl h
 let g:(op==CmpOp.NotIn)=ZK:=by cases op <;> first|rfl|exact ZR rfl h2
 cases b <;> simp [dQ,j,g]
def Ft {r:R2} (S:Kb X (aT op) r) (F:PE X a ta) (L:PE X b tb) (j:dQ op b=ZK):PE X (.Compare a [op] [b] pos) (OB r ta tb):=by
 intro pins s σ H Q I h;exact wpAny_Compare1 (MM F L I h λv u U x y z g M B q=>S pins U σ z x y v u Q g M B q) j
def SL (t:TE):TT:=λσ H Q=>t σ H λx H'=>∃ k,x=.bl k/\Q k H'
def Al {r:R2} (ho:Kb X (aT op) r) (U:PE X a ta) (Y:PE X b tb) (B:dQ op b=ZK):PT X (.Compare a [op] [b] pos) (SL (OB r ta tb)):=by
 intro pins s σ H Q I h;refine oK (Cb (U pins s σ H _ I h) λv Z ⟨x,H1,S,r1,g⟩=>Cb (Y pins Z σ H1 _ S g) λu s2 ⟨y,L,j,M,q2⟩=>
  Cb (ho pins s2 σ L x y v u _ j r1 M q2) λc s3 ⟨z,q,I3,r3,k,e,F⟩=>?_) B
 subst e;cases r3;exact bP ⟨q,I3,F⟩
def LC (r r':R2) (ta tb tc:TE):TE:=λσ H Q=>ta σ H λx H1=>tb σ H1 λy H2=>r x y H2 λz H3=>∃ k,z=.bl k /\
 (if k=ZI then tc σ H3 λw' H4=>r' y w' H4 Q else Q (.bl ZK) H3)
def Jo {r L:R2} (ho:Kb X (aT op) r) (g:Kb X (aT op') L) (ha:PE X a ta) (hb:PE X b tb) (hc:PE X c tc)
  (M:lastMarks [op,op'] [b,c]=ZK:=by with_unfolding_all rfl):PE X (.Compare a [op,op'] [b,c] pos) (LC r L ta tb tc):=by
 intro pins s σ H Q I h;refine Compare_chain (Cb (ha pins s σ H _ I h) λv s1 ⟨x,H1,I1,U,q1⟩=>chain_link (Cb (hb pins s1 σ H1 _ I1 q1) λu s2 ⟨y,H2,I2,q,Z⟩=>
  Cb (ho pins s2 σ H2 x y v u _ I2 U q Z) λd s3 ⟨z,j,B,r3,k,e,F⟩=>?_)) M
 subst e;cases r3;refine bP ?_;cases k with
 |false=>exact ite_ff ⟨.bl ZK,j,B,rfl,F⟩
 |true=>exact ite_tt (chain_last (Cb (hc pins s3 σ j _ B F) λY S ⟨z',H4,I4,r4,q4⟩=>g pins S σ H4 y z' u Y Q I4 q r4 q4))
def QO (K:zAa) (x:V) (H:Hp) (k:Bool):Prop:=
 match x with
 |.non=>k=ZK
 |.bl b=>k=b
 |.int i=>k=(i != 0)
 |.str y=>y.length<=sizeLine/\k=((y.length:Int) != 0)
 |.byt y=>y.size<=sizeLine/\k=((y.size:Int) != 0)
 |.ref p=>(∃ xs,Dp K H p xs/\k = !xs.isEmpty)\/(∃ xs,Hx K H p xs/\k = !xs.isEmpty)\/∃ kvs,H p=ZC (.dK kvs)/\k = !kvs.isEmpty
 |_=>False
def G4 {κ:Type} {kvs:List (κ×V)} {vs:List (κ×ZE)} (r:KV kvs vs):(!vs.isEmpty) = !kvs.isEmpty:=by
 cases r <;> rfl
def Pu {xs:List V} {its:List ZE} (r:Fy xs its):(!its.toArray.isEmpty) = !xs.isEmpty:=by
 cases r <;> simp
def Ld:(sizeLine:Nat)<2^63:=by rw[zCH];decide
def NU:UA X (λx H Q=>∃ k,QO X.K x H k/\Q k H):=by
 intro pins s σ H x v Q I rx h;obtain⟨k,e,q⟩:=h;let hl:=Ld;let hs:sizeLine=16777216:=zCH;cases x with
 |non=>
  cases rx
  let e':k=ZK:=e;subst e';exact truthy_none ⟨H,I,q⟩
 |bl b=>
  cases rx
  let e':k=b:=e;subst e';exact bP ⟨H,I,q⟩
 |int i=>
  obtain⟨t,rfl⟩:=rx;let e':k=(i != 0):=e;subst e';exact PySem.P.truthy_int ⟨H,I,q⟩
 |str y=>
  obtain⟨t,rfl⟩:=rx;obtain⟨hy,e'⟩:y.length<=sizeLine/\k=((y.length:Int) != 0):=e;subst e';exact PySem.P.truthy_str (by lia) ⟨H,I.tok _,q⟩
 |byt y=>
  obtain⟨t,rfl⟩:=rx;obtain⟨hy,e'⟩:y.size<=sizeLine/\k=((y.size:Int) != 0):=e;subst e';exact PySem.W.truthy_bytes (by lia) ⟨H,I.tok _,q⟩
 |ref p=>
  cases rx
  let e':(∃ xs,Dp X.K H p xs/\k = !xs.isEmpty)\/(∃ xs,Hx X.K H p xs/\k = !xs.isEmpty)\/∃ kvs,H p=ZC (.dK kvs)/\k = !kvs.isEmpty:=e;rcases e' with ⟨xs,hx,e'⟩|⟨xs,hx,e'⟩|⟨kvs,hx,e'⟩
  .subst e'
   obtain⟨its,r,pl,hz⟩:=I.list hx;let hlen:=r.length;exact wpAny_truthy_list pl.isList (by simp only [zAi];lia) ⟨H,I.tok _,by rw[Pu r];exact q⟩
  .subst e'
   obtain⟨its,r,pl,hz⟩:=I.tuple hx;let hlen:=r.length;exact truthy_tuple pl (by simp only [zAi];lia) ⟨H,I.tok _,by rw[Pu r];exact q⟩
  .subst e'
   obtain⟨hz,hS,vs,r,m⟩:kvs.length<=sizeLine/\(p==bY)=ZK/\∃ vs,KV kvs vs/\s.heap.DictOf (Db X.prog X.w) p vs:=I.hok p _ hx;let hlen:kvs.length=vs.length:=dL r;exact wpAny_truthy_dict hS m (by lia) ⟨H,I.tok _,by rw[G4 r];exact q⟩
 |_=>exact (show False from e).elim
def Ie:Kb X (dA .Add) (λx y H Q=>∃ i j,x=.str i/\y=.str j/\i.length+j.length<=sizeLine/\Q (.str (i++j)) H):=by
 intro pins s σ H x y v u Q I B z h;obtain⟨i,j,rfl,rfl,F,q⟩:=h;obtain⟨t,rfl⟩:=B;obtain⟨g,rfl⟩:=z;exact add_str (λg L=>⟨.str (i++j),H,I.tok _,⟨_,rfl⟩,q⟩) F
def Ki {x:V} {us:List ZE} (r:Fy [x] us):∃ u,us=[u]/\Kl x u:=by
 cases r with
 |cons j g=>cases g;exact⟨_,rfl,j⟩
def BF {x y:V} {us:List ZE} (r:Fy [x,y] us):∃ u w',us=[u,w']/\Kl x u/\Kl y w':=by
 cases r with
 |cons z j=>
  cases j with
  |cons q g=>cases g;exact⟨_,_,rfl,z,q⟩
def Hn (z:X.calm=ZI):Fq X (.builtin "max") (λxs H Q=>∃ i j,xs=[.int i,.int j]/\Q (.int (if j>i then j else i)) H):=by
 intro pins s σ H xs L Q I r h;obtain⟨i,j,rfl,q⟩:=h;obtain⟨u,M,rfl,⟨t,rfl⟩,⟨F,rfl⟩⟩:=BF r;refine max_two_ints (I.ok.hd z) λh' B k=>⟨_,H,I.kept k,?_,q⟩;by_cases g:j>i
 .rw[ZJ g,ZJ g];exact⟨_,rfl⟩
 .rw[ZH g,ZH g];exact⟨_,rfl⟩
def Jy (z:X.calm=ZI):Fq X (.builtin "min") (λxs H Q=>∃ i j,xs=[.int i,.int j]/\Q (.int (if j<i then j else i)) H):=by
 intro pins s σ H xs L Q I r h;obtain⟨i,j,rfl,q⟩:=h;obtain⟨u,M,rfl,⟨t,rfl⟩,⟨F,rfl⟩⟩:=BF r;refine min_two_ints (I.ok.hd z) λh' B k=>⟨_,H,I.kept k,?_,q⟩;by_cases g:j<i
 .rw[ZJ g,ZJ g];exact⟨_,rfl⟩
 .rw[ZH g,ZH g];exact⟨_,rfl⟩
def W4:Fq X (.type "int") (λxs H Q=>(∃ i,xs=[.int i]/\Q (.int i) H)\/∃ k,xs=[.bl k]/\Q (.int (if k then 1 else 0)) H):=by
 intro pins s σ H xs j Q I r h;rcases h with ⟨i,rfl,q⟩|⟨k,rfl,q⟩
 .obtain⟨u,rfl,t,rfl⟩:=Ki r
  exact call_int_int ⟨.int i,H,I,⟨_,rfl⟩,q⟩
 .obtain⟨u,rfl,g⟩:=Ki r
  cases g
  exact call_int_bool ⟨.int (if k then 1 else 0),H,I.tok _,⟨_,rfl⟩,q⟩
structure YW (h:aB) (x dx C:ZF) (mA:ZM->Option ZE):Prop where
 obj:h.get? x=ZC (zBf C dx)
 ns:h.Ns1 dx mA
 ne:dx≠x
set_option tactic.hygienic true in
def V0 {h:aB} {dx:ZF} {mA:ZM->Option ZE} (n:h.Ns1 dx mA):∃ j,h.get? dx=ZC j/\∀ name,fE name j=ZC (mA name):=by
 obtain⟨o,es,ep,M,F,L,_,B⟩:=n;refine⟨o,M,λname=>?_⟩;let e:=B name;unfold nsFind findBy at e;rw[<- Array.find?_toList] at e;unfold fE;rw[F]
 dsimp only
 split
 .rename_i y q
  rw[q] at e;exact aC ZC e
 .rename_i q
  rw[q] at e;let a:es.toList.any (·.refKey)=ZK:=by
   rw[List.any_eq_false];intro y U;obtain⟨z,t,g⟩:=L y (Array.mem_toList_iff.mp U);simp [DictEntry.refKey,g]
  let S:¬ es.toList.any (·.refKey)=ZI:=by rw[a];exact zAt
  rw[ZH S];exact aC ZC e
def YW.look {h} {x dx C} {mA:ZM->Option ZE} (I:YW h x dx C mA):∃ g,PySem.W.InstAt h x (zBf C dx) C (ZC g)/\∀ name,fE name g=ZC (mA name):=
 let ⟨g,ho,hl⟩:=V0 I.ns
 ⟨g,⟨I.obj,rfl,rfl,ho⟩,hl⟩
section
variable {prog:ZO} {w:ZX} {A:aE} {E:ZE->ZG->Prop} {s:ZG} {K:zAa} {x dx C f:ZF} {mA:ZM->Option ZE} {name:ZM} {v:ZE}
def HI {g:Bool} {Q:ZE->ZG->Prop} (X:K.In s.heap) (I:YW s.heap x dx C mA) (B:zCp K C name=ZI) (z:zCy K C=ZI)
  (F:zAM K (.ref C) name=ZC ZD) (q:mA name=ZC v) (j:mU v=ZI) (h:Q v { s with toks:=s.toks+1 }) :
  ZP (ZS prog w) A (getAttr (.ref x) name g) Q E s:=by
 obtain⟨L,J,hl⟩:=I.look;exact PySem.W.get_value X J (fZ B).1 (PySem.W.findObj_own z F rfl (by rw[hl,q])) j h
def AW {pl:mS Bool} {Q:ZE×List ZE->ZG->Prop} (X:K.In s.heap) (I:YW s.heap x dx C mA) (g:zCp K C name=ZI)
  (z:zAM K (.ref C) name=ZC (ZC (.ref f))) (q:zBM K (.ref f)=ZI) (j:mA name=ZD) (h:Q (.ref f,[.ref x]) s) :
  ZP (ZS prog w) A (eF (.ref x) name pl) Q E s:=by
 obtain⟨B,J,hl⟩:=I.look;exact PySem.W.method_fn X J (fZ g).1 (fZ g).2 z (beq_iff_eq.mp q) (by show (fE name B).map (·.isSome)=ZC ZK;rw[hl,j];rfl) h
def FR {ns:List ZM} {Q:Unit->ZG->Prop} (X:K.In s.heap) (I:YW s.heap x dx C mA)
  (S:zAM K (.ref C) "__setattr__"=ZC (ZC (.builtin "object.__setattr__"))) (U:gQ K C=ZI) (L:iG K C name=ZC ZD) (M:zCy K C=ZI)
  (Y:kX mA ns) (hsz:ns.length<=sizeLine)
  (h:∀ h',YW h' x dx C (λy=>if y=name then ZC v else mA y)->zBr dx s.heap h'->Q () { s with heap:=h',toks:=s.toks+2 }) :
  ZP (ZS prog w) A (setAttr (.ref x) name v) Q E s:=by
 obtain⟨od,J,hl⟩:=I.look;refine PySem.W.set_plain X J S (PySem.W.osa_open (s:={ s with toks:=s.toks+1 }) (r:=ZD) X J U L λb=>?_);obtain⟨cd,hc,z⟩:=PySem.W.any_some M;let hx:s.heap.get? x=ZC ⟨.ref C,ZC dx,.plain,#[]⟩:=I.obj;refine zCF (zCG (zCF (zCF (wpAny_loadPart hx (zCF (PySem.W.Looks.here (s:={ s with toks:=s.toks+1 }) (PySem.W.looks_clsIn X hc) ?_))))));rw[z];refine zCG (a:=ZC dx) (zCF (zCG (zCF ?_)));refine wpAny_nsSet1 (s:={ s with toks:=s.toks+1 }) I.ns λh' j g=>?_;obtain⟨oD,Z,aa,B,q,F⟩:=j.count (PySem.Within.cons name v Y);refine zCF (wpAny_lookBehind B (by rw[q];exact pastItsLine_dict (zAD F (by rw[zAf];lia))) ?_);exact zCG (h _ ⟨(g.2 _ (aR I.ne)).trans I.obj,j,I.ne⟩ g)
def DL {R:oB->ZG->Prop} {vs:List ZE} (X:K.In s.heap) (q:zCw K C=ZI)
  (hi:zAM K (.ref C) "__init__"=ZC (ZC (.ref f))) (z:PySem.W.typeIn K (.ref f)=ZC (.type "function"))
  (h:dD (ZS prog w) (A.under (.builtin "type.__call__" ⟨.ref C::vs,kw⟩)) (.call (.ref f) ⟨.ref (⇑s+1)::vs,kw⟩) (mV (⇑s+1) R)
   { s with heap:=(s.heap.push zAV).push (zBf C ⇑s) }) :
  dD (ZS prog w) A (.call (.ref C) ⟨vs,kw⟩) R s:=by
 obtain⟨B,g,d,t,F⟩:=s;exact mH (hH X q) (kY X hi) (λj=>PySem.W.bind_fn X j z) (.inl rfl) h
def X2 {R:oB->ZG->Prop} (X:K.In s.heap) (q:zCw K C=ZI)
  (hi:zAM K (.ref C) "__init__"=ZC (ZC (.builtin "object.__init__")))
  (z:∀ j,jJ (ZS prog w) s.heap (bindSpecial (.builtin "object.__init__") j) (.builtin "object.__init__",[j]))
  (h:dD (ZS prog w) (A.under (.builtin "type.__call__" ⟨[.ref C],[]⟩)) (.call (.builtin "object.__init__") ⟨[.ref (⇑s+1)],[]⟩) (mV (⇑s+1) R)
   { s with heap:=(s.heap.push zAV).push (zBf C ⇑s) }) :
  dD (ZS prog w) A (.call (.ref C) ⟨[],[]⟩) R s:=by
 obtain⟨B,g,d,t,F⟩:=s;exact mH (hH X q) (kY X hi) z (.inr ⟨rfl,rfl⟩) h
end
def Ar (f:ZM) (v:V):List (ZM×V)->List (ZM×V)
 |[]=>[(f,v)]
 |(g,x)::r=>if g=f then (g,v)::r else (g,x)::Ar f v r
theorem Ak (f g:ZM) (v:V):∀ fs:List (ZM×V),(Ar f v fs).lookup g=if g=f then ZC v else fs.lookup g
 |[]=>by
  show zCs g [(f,v)]=_;by_cases h:g=f
  .have j:(g==f)=ZI:=beq_iff_eq.mpr h
   simp only [zCs,j,ZJ h]
  .have j:(g==f)=ZK:=beq_eq_false_iff_ne.mpr h
   simp only [zCs,j,ZH h]
 |(k,x)::r=>by
  let ih:=Ak f g v r;rw[show Ar f v ((k,x)::r)=(if k=f then (k,v)::r else (k,x)::Ar f v r) from rfl];by_cases q:k=f
  .rw[ZJ q]
   by_cases h:g=k
   .have j:(g==k)=ZI:=beq_iff_eq.mpr h
    simp only [zCs,j,ZJ (h.trans q)]
   .have j:(g==k)=ZK:=beq_eq_false_iff_ne.mpr h
    simp only [zCs,j,ZH (λe:g=f=>h (e.trans q.symm))]
  .rw[ZH q]
   by_cases h:g=k
   .have j:(g==k)=ZI:=beq_iff_eq.mpr h
    simp only [zCs,j,ZH (λe:g=f=>q (h.symm.trans e))]
   .have j:(g==k)=ZK:=beq_eq_false_iff_ne.mpr h
    simp only [zCs,j];exact ih
theorem My (f:ZM) (v:V):∀ fs:List (ZM×V),f∈(Ar f v fs).map (·.1)/\∀ g,g∈fs.map (·.1)->g∈(Ar f v fs).map (·.1)
 |[]=>⟨by simp [Ar],λg h=>by simp at h⟩
 |(k,x)::r=>by
  obtain⟨z,q⟩:=My f v r;rw[show Ar f v ((k,x)::r)=(if k=f then (k,v)::r else (k,x)::Ar f v r) from rfl];by_cases j:k=f
  .rw[ZJ j]
   subst j;exact⟨by simp,λg h=>by simpa using h⟩
  .rw[ZH j]
   refine⟨?_,λg h=>?_⟩
   .rw[zAp]
    exact zAb _ z
   .rw[zAp] at h ⊢
    rcases zAj.mp h with e|e
    .exact zAj.mpr (.inl e)
    .exact zAb _ (q g e)
theorem Ox (f:ZM) (v:V):∀ fs:List (ZM×V),(Ar f v fs).length<=fs.length+1
 |[]=>by simp [Ar]
 |(k,x)::r=>by
  let ih:=Ox f v r;rw[show Ar f v ((k,x)::r)=(if k=f then (k,v)::r else (k,x)::Ar f v r) from rfl];by_cases g:k=f
  .rw[ZJ g,zAf,zAf];lia
  .rw[ZH g,zAf,zAf];lia
def XV.some_of {v:V} {o:Option ZE} (r:XV (ZC v) o):∃ u,o=ZC u/\Kl v u:=by
 cases o with
 |none=>exact (show False from r).elim
 |some u=>exact⟨u,rfl,r⟩
def XV.none_of {o:Option ZE} (r:XV ZD o):o=ZD:=by
 cases o with
 |none=>rfl
 |some u=>exact (show False from r).elim
def R6 {v:V} {u:ZE} (r:Kl v u):mU u=ZI:=by
 cases v with
 |non=>cases (show u=bD from r);rfl
 |bl b=>cases (show u=jI b from r);rfl
 |int i=>obtain⟨t,e⟩:=(show ∃ t,u=dJ i t from r);cases e;rfl
 |str x=>obtain⟨t,e⟩:=(show ∃ t,u=iE x t from r);cases e;rfl
 |byt b=>obtain⟨t,e⟩:=(show ∃ t,u=Value.bytes b t from r);cases e;rfl
 |flt b=>obtain⟨t,e⟩:=(show ∃ t,u=lW b t from r);cases e;rfl
 |ref a=>cases (show u=aI a from r);rfl
 |ty n=>cases (show u=aY n from r);rfl
def Pj (g:XZ P w H h) (e:H a=ZC (.ins C dx fs)):∃ mA,YW h a dx C mA/\(∀ f,XV (fs.lookup f) (mA f))/\kX mA (fs.map (·.1))/\fs.length<=1000/\H dx=ZC (.own a):=by
 obtain⟨d,z,ne,j,mA,n,r,q⟩:=(show XF P w H h a (.ins C dx fs) from g a _ e);exact⟨mA,⟨j,n,ne⟩,r,q,z,d⟩
structure YU (K:zAa) (C:ZF):Prop where
 pg:zCp K C gM=ZI
 hd:zCy K C=ZI
 po:gQ K C=ZI
 sa:zAM K (.ref C) "__setattr__"=ZC (ZC (.builtin "object.__setattr__"))
def YU.get {K} {C} (c:YU K C) (f:ZM):zCp K C f=ZI:=c.pg
def Gw (K:zAa) (C:ZF) (f:ZM):Prop:=zAM K (.ref C) f=ZC ZD
def Gw.taker {K} {C} {f} (n:Gw K C f):iG K C f=ZC ZD:=by
 unfold iG;rw[show zAM K (.ref C) f=ZC ZD from n];rfl
structure HE (K:zAa) (C:ZF) (m:ZM) (f:ZF):Prop where
 at_:zAM K (.ref C) m=ZC (ZC (.ref f))
 fn:zBM K (.ref f)=ZI
 kp:zAP K (.ref f)=ZI
def B8 {b:Bool} {Q:ZE->ZG->Prop} (I:Ed X pins σ H s) (e:H a=ZC (.ins C dx fs)) (c:YU X.K C) (n:Gw X.K C f) (l:fs.lookup f=ZC v)
  (h:∀ u s',Ed X pins σ H s'->Kl v u->Q u s'):ZP (ZS X.prog X.w) A (getAttr (.ref a) f b) Q E s:=by
 obtain⟨mA,O,r,_,_,_⟩:=Pj I.hok e;obtain⟨u,j,g⟩:=XV.some_of (v:=v) (o:=mA f) (by rw[<- l];exact r f);exact HI I.kIn O (c.get f) c.hd n j (R6 g) (h u _ (I.tok _) g)
def Kp {m:ZM} {g:ZF} {pl:mS Bool} {Q:ZE×List ZE->ZG->Prop} (I:Ed X pins σ H s) (e:H a=ZC (.ins C dx fs)) (c:YU X.K C) (k:HE X.K C m g) (l:fs.lookup m=ZD)
  (h:Q (.ref g,[.ref a]) s):ZP (ZS X.prog X.w) A (eF (.ref a) m pl) Q E s:=by
 obtain⟨mA,O,r,_,_,_⟩:=Pj I.hok e;let j:mA m=ZD:=XV.none_of (by rw[<- l];exact r m);exact AW I.kIn O (c.get m) k.at_ k.fn j h
def D6 {y:V} {u:ZE} {Q:Unit->ZG->Prop} (I:Ed X pins σ H s) (e:H a=ZC (.ins C dx fs)) (c:YU X.K C) (n:Gw X.K C f) (hl:fs.length<1000) (S:Kl y u)
  (h:∀ s',Ed X pins σ (upd H a (.ins C dx (Ar f y fs))) s'->Q () s'):ZP (ZS X.prog X.w) A (setAttr (.ref a) f u) Q E s:=by
 obtain⟨mA,O,r,F,_,B⟩:=Pj I.hok e;let Y:(fs.map (·.1)).length<=sizeLine:=by rw[zAc,zCH];lia
 refine FR I.kIn O c.sa c.po n.taker c.hd F Y λh' j Z=>h _ ?_;let M:∃ o,h'.get? dx=ZC o:=let ⟨o,_,_,e',_⟩:=j.ns;⟨o,e'⟩
 refine I.write (x:=a) (e:=dx) (by rw[e];exact bV) (.inr B) (λb q U z=>(Z.2 b U).trans z) M ?_;refine⟨by rw[Ag O.ne];exact B,?_,O.ne,j.obj,_,j.ns,λg=>?_,λg L=>?_⟩
 .have:=Ox f y fs;lia
 .show XV ((Ar f y fs).lookup g) (if g=f then ZC u else mA g)
  rw[Ak];by_cases q:g=f
  .rw[ZJ q,ZJ q];exact S
  .rw[ZH q,ZH q];exact r g
 .by_cases q:g=f
  .rw[q];exact (My f y fs).1
  .refine (My f y fs).2 g (F g λz=>L ?_)
   show (if g=f then ZC u else mA g)=ZD;rw[ZH q];exact z
def Ed.made (I:Ed X pins σ H s):Ed X pins σ (upd (upd H ⇑s (.own (⇑s+1))) (⇑s+1) (.ins C ⇑s []))
  { s with heap:=(s.heap.push zAV).push (zBf C ⇑s) }:=by
 let g:(s.heap.push zAV).get? ⇑s=ZC zAV:=zAF s.heap rfl;let B:((s.heap.push zAV).push (zBf C ⇑s)).get? (⇑s+1)=ZC (zBf C ⇑s):=by
  let:=zAF (s.heap.push zAV) (o:=zBf C ⇑s) rfl
  rwa [zBR] at this
 let j:(s.heap.push zAV).Ns ⇑s (λ_=>ZD):=⟨zAV,#[],_,g,rfl,(λe F=>ZR F (by simp)),λ_=>rfl⟩;let z:=I.laid (a:=⇑s) (o:=.own (⇑s+1)) (h':=s.heap.push zAV) (t':=s.toks) (λb u q=>zAg _ q) (zAl _) ⟨_,g⟩;refine z.laid (a:=⇑s+1) (o:=.ins C ⇑s []) (t':=s.toks) (λb u q=>zAg _ q) (lZ (zBR _ _)) ?_;let ne:⇑s≠⇑s+1:=zAy (zBS _);refine⟨by rw[Ag ne,Aa],zAw _,ne,B,λ_=>ZD,(Heap.Ns1.of_empty j).at λo q=>zAg _ q,λ_=>bV,λy L=>ZR rfl L⟩
def IA {prog:ZO} {w:ZX} {env:kF} {e:bA} {f:ZM} {s:ZG} {Q:ZE->ZG->Prop} (g:dB e f env (aM e env)=aM e env)
  (h:ZP (ZS prog w) A (aM e env) (λo j=>ZP (ZS prog w) A (getAttr o f ZI) Q E j) E s):ZP (ZS prog w) A (aM (.Attribute e f pos) env) Q E s:=
 Attribute_any_ h (by rw[arm_eval_Attribute,g])
def PK (K:zAa) (ta:TE) (f:ZM):TE:=λσ H Q=>ta σ H λx H1=>∃ a C dx fs v,x=.ref a/\H1 a=ZC (.ins C dx fs)/\YU K C/\Gw K C f/\fs.lookup f=ZC v/\Q v H1
def VB (K:zAa) (ta tv:TE) (f:ZM):TS:=λD σ H=>tv σ H λy H1=>ta σ H1 λx H2=>∃ a C dx fs,x=.ref a/\H2 a=ZC (.ins C dx fs)/\YU K C/\Gw K C f/\fs.length<1000 /\
 D.nx σ (upd H2 a (.ins C dx (Ar f y fs)))
def Bc (M:PE X e ta) (L:dB e f X.env (aM e X.env)=aM e X.env):PE X (.Attribute e f pos) (PK X.K ta f):=by
 intro pins s σ H Q I h;refine IA L (Cb (M pins s σ H _ I h) λu U ⟨x,H1,z,B,a,C,dx,fs,v,ex,j,c,n,l,q⟩=>?_);subst ex;obtain rfl:u=aI a:=B;exact B8 z j c n l λS Y g F=>⟨v,H1,g,F,q⟩
def Bj (M:PE X o ta) (j:PE X value tv) (B:hZ value (ZC (.Attribute o f pos')) pos.line X.env=pure ZK):PS X (.Assign [.Attribute o f pos'] value pos) (VB X.K ta tv f):=by
 intro pins s σ H D I h;refine plainObj_wpAny_Assign_Attribute (Cb (j pins s σ H _ I h) λu Y ⟨y,H1,L,F,q⟩=>Cb (M pins Y σ H1 _ L q) λU s2 ⟨x,H2,g,S,a,C,dx,fs,ex,z,c,n,l,q2⟩=>?_) B;subst ex;obtain rfl:U=aI a:=S;exact D6 g z c n l F λs3 Z=>⟨σ,_,Z,q2⟩
def IH {pl:mS Bool} {m:ZM} {s:ZG} {Q:ZE->ZG->Prop} (M:PE X e te) (I:Ed X pins σ H s)
  (h:te σ H λx H1=>∃ a C dx fs g,x=.ref a/\H1 a=ZC (.ins C dx fs)/\YU X.K C/\HE X.K C m g/\fs.lookup m=ZD /\
   ∀ j,Ed X pins σ H1 j->ZP (ZS X.prog X.w) X.A (jH pos (.ref g) [.ref a] (bC pos (ZU args X.env)) (eQ pos (cS [] X.env))) Q X.xe j)
  (F:aM (.Call (.Attribute e m apos) args [] pos) X.env=(do
   let ov <- aM e X.env
   gD apos.atName
   let (f,first) <- eB [ov] (eF ov m pl)
   jH pos f first (bC pos (ZU args X.env)) (eQ pos (cS [] X.env)))) :
  ZP (ZS X.prog X.w) X.A (aM (.Call (.Attribute e m apos) args [] pos) X.env) Q X.xe s:=by
 refine zCk (pl:=pl) (Cb (M pins s σ H _ I h) λu j ⟨x,H1,z,L,a,C,dx,fs,g,ex,B,c,k,l,q⟩=>?_) F;subst ex;obtain rfl:u=aI a:=L;exact Kp z B c k l (q j z)
inductive Ho (K:zAa) (H:Hp):V->ZE->Prop where
 |non:Ho K H .non (.type "NoneType")
 |bl (x:Bool):Ho K H (.bl x) (.type "bool")
 |int (i:Int):Ho K H (.int i) (.type "int")
 |str (x:ZM):Ho K H (.str x) (.type "str")
 |flt (x:UInt64):Ho K H (.flt x) (.type "float")
 |lst {a:ZF} {xs:List V} (e:H a=ZC (.lst xs)):Ho K H (.ref a) (.type "list")
 |frz {a:ZF} {o:cP} {xs:List V} (e:H a=ZC (.frz o (.lst xs))):Ho K H (.ref a) (.type "list")
 |tup {a:ZF} {xs:List V} (e:H a=ZC (.tup xs)):Ho K H (.ref a) (.type "tuple")
 |dK {a:ZF} {kvs:List (Ev×V)} (e:H a=ZC (.dK kvs)):Ho K H (.ref a) (.type "dict")
 |dT {a:ZF} {kvs:List (List Ev×V)} (e:H a=ZC (.dT kvs)):Ho K H (.ref a) (.type "dict")
 |ins {a C dx:ZF} {fs:List (ZM×V)} (e:H a=ZC (.ins C dx fs)) (cl:YU K C) (ha:zAM K (.ref C) "__class__"=ZC (ZC (.builtin "object.__class__")))
   (hn:zCe K (.builtin "object.__class__") "__get__"=ZC (ZC (.builtin "getset_descriptor.__get__"))) (htk:nK K (.builtin "object.__class__")=ZC ZI)
   (hm:PySem.W.mroIn K C (.type "object")=ZC ZI):Ho K H (.ref a) (.ref C)
def X6 {x} {u t} (I:Ed X pins σ H s) (rx:Kl x u) (ty:Ho X.K H x t) (e:zBm X.K t c=ZC b) (h:∀ tk,Q (.bool b) { s with toks:=tk }) :
  ZP (ZS X.prog X.w) A (call (.builtin "isinstance") [u,c]) Q E s:=by
 cases ty with
 |non=>cases (show u=bD from rx);exact zBn PySem.W.kitx_none I.kIn bV e (λz=>nomatch z) h
 |bl y=>cases (show u=jI y from rx);exact zBn PySem.W.kitx_bool I.kIn bV e (λz=>nomatch z) h
 |int i=>obtain⟨t,q⟩:=(show ∃ t,u=dJ i t from rx);cases q;exact zBn PySem.W.kitx_int I.kIn bV e (λz=>nomatch z) h
 |str y=>obtain⟨t,q⟩:=(show ∃ t,u=iE y t from rx);cases q;exact zBn PySem.W.kitx_str I.kIn bV e (λz=>nomatch z) h
 |flt y=>obtain⟨t,q⟩:=(show ∃ t,u=lW y t from rx);cases q;exact zBn PySem.W.kitx_float I.kIn bV e (λz=>nomatch z) h
 |@lst a xs ea=>
  cases (show u=aI a from rx)
  obtain⟨_,_,n,_,h1⟩:=(show XF X.prog X.w H s.heap a (.lst xs) from I.hok a _ ea);exact zBn mI I.kIn ⟨_,h1,rfl⟩ e (λz=>nomatch z) h
 |@frz a ob xs ea=>
  cases (show u=aI a from rx)
  obtain⟨_,_,_,n,_,h1⟩:=(show XF X.prog X.w H s.heap a (.frz ob (.lst xs)) from I.hok a _ ea);exact zBn mI I.kIn ⟨_,h1,rfl⟩ e (λz=>nomatch z) h
 |@tup a xs ea=>
  cases (show u=aI a from rx)
  obtain⟨_,_,_,p⟩:=(show XF X.prog X.w H s.heap a (.tup xs) from I.hok a _ ea);obtain⟨o,h1,h2,_⟩:=p;exact zBn PySem.W.kitx_tuple I.kIn ⟨o,h1,h2⟩ e (λz=>nomatch z) h
 |@dK a kvs ea=>
  cases (show u=aI a from rx)
  obtain⟨_,_,vs,_,p⟩:=(show XF X.prog X.w H s.heap a (.dK kvs) from I.hok a _ ea);obtain⟨o,es,ep,h1,h2,_⟩:=p;exact zBn mJ I.kIn ⟨o,h1,h2.1⟩ e (λz=>nomatch z) h
 |@dT a kvs ea=>
  cases (show u=aI a from rx)
  obtain⟨_,_,xs,_,o,es,ep,h1,h2,_⟩:=(show XF X.prog X.w H s.heap a (.dT kvs) from I.hok a _ ea);exact zBn mJ I.kIn ⟨o,h1,h2.1⟩ e (λz=>nomatch z) h
 |@ins a C dx fs ea cl ha hn htk hm=>
  cases (show u=aI a from rx)
  obtain⟨mA,O,_⟩:=Pj I.hok ea;obtain⟨od,J,_⟩:=O.look;exact zBn (PySem.W.kitx_own (cl.get _) cl.hd ha hn htk hm) I.kIn J e (λz=>nomatch z) h
structure XE (k:Nat) (A:aE):Prop where
 hd:A.handled=ZD
 dp:A.depth+3*k+5<recursionLimit
 un:A.units+16*k+200<bX
def XE.mono {j k:Nat} {A:aE} (r:XE k A) (h:j<=k):XE j A:=⟨r.hd,by let:=r.dp;lia,by let:=r.un;lia⟩
def XE.deeper {k:Nat} {A:aE} (r:XE (k+1) A) (env:kF):XE k (A.deeper env):=
 ⟨r.hd,by let:=r.dp;show A.depth+1+3*k+5<_;lia,by let:=r.un;show A.units+3+16*k+200<_;lia⟩
def XE.in1 {k:Nat} {A:aE} (r:XE (k+1) A):XE k A.in1:=
 ⟨r.hd,by let:=r.dp;show A.depth+3*k+5<_;lia,by let:=r.un;show A.units+1+16*k+200<_;lia⟩
def G9 {A:aE} {C:ZF} {us:List ZE} {g:List (ZM×ZE)}:(A.under (.builtin "type.__call__" ⟨.ref C::us,g⟩)).depth=A.depth+1:=by
 first|rfl|simp [kP,Code.weight,Code.isCreation,Code.isGuard,Code.isCaller,Code.frames,lI,guardIds]
def F4 {A:aE} {C:ZF} {us:List ZE} {g:List (ZM×ZE)}:(A.under (.builtin "type.__call__" ⟨.ref C::us,g⟩)).units=A.units+1:=by
 first|rfl|simp [kP,Code.cUnits,Code.frames,lI]
def XE.make {k:Nat} {A} (r:XE (k+1) A) (C:ZF) (us:List ZE) (g:List (ZM×ZE)):XE k (A.under (.builtin "type.__call__" ⟨.ref C::us,g⟩)):=
 ⟨r.hd,by let:=r.dp;rw[G9];lia,by let:=r.un;rw[F4];lia⟩
def XE.depth {k:Nat} {A:aE} (r:XE k A):A.depth<recursionLimit:=by let:=r.dp;lia
def XE.units {k:Nat} {A:aE} (r:XE k A):A.units+64<bX:=by let:=r.un;lia
def XE.units0 {k:Nat} {A:aE} (r:XE k A):A.units<bX:=by let:=r.un;lia
def BJ:TA:=λ_ H Q=>Q [] H
def L6 (ta:TE) (tr:TA):TA:=λσ H Q=>ta σ H λx H1=>tr σ H1 λxs H2=>Q (x::xs) H2
def Cs:PA X [] BJ:=λ_ _ _ _ H Q I h=>bR ⟨[],H,I,.nil,h⟩
def Ah (L:PE X e te) (hr:PA X es t) (B:ZU (e::es) X.env=(ZK,aM e X.env)::ZU es X.env:=by rfl):PA X (e::es) (L6 te t):=by
 intro pos pins s σ H Q I h;rw[B];show ZP _ _ (lB ((ZK,aM e X.env)::bC pos (ZU es X.env))) _ _ s;refine bH (Cb (L pins s σ H _ I h) λu M ⟨x,H1,F,S,g⟩=>?_);exact Cb (hr pos pins M σ H1 _ F g) λY Z ⟨xs,q,j,z,U⟩=>⟨x::xs,q,j,.cons S z,U⟩
def UM (t:TA):TE:=λσ H Q=>t σ H λxs H1=>xs.length<=sizeLine/\∀ p,H1 p=ZD->Q (.ref p) (upd H1 p (.tup xs))
def TY (t:TA):TE:=λσ H Q=>t σ H λxs H1=>xs.length<=sizeLine/\∀ p,H1 p=ZD->Q (.ref p) (upd H1 p (.lst xs))
def Az {L} (h:PA X es t):PE X (.Tuple es L pos) (UM t):=by
 intro pins s σ H Q I hq;refine wpAny_Tuple_spliced (Cb (h pos pins s σ H _ I hq) λF g ⟨xs,H1,j,r,z,q⟩=>⟨by rw[<- r.length];exact z,?_⟩);let B:H1 ⇑g=ZD:=j.hok.fresh (zAl _);refine⟨.ref ⇑g,upd H1 ⇑g (.tup xs),j.laid (t':=g.toks) (λb u e=>zAg _ e) (zAl _) ?_,rfl,q _ B⟩;exact⟨z,F,r,⟨_,zAF _ rfl,rfl,_,rfl⟩⟩
def Bh (h:PA X es t):PE X (.List es pos) (TY t):=by
 intro pins s σ H Q I hq;refine wpAny_List_spliced (Cb (h pos pins s σ H _ I hq) λB g ⟨xs,H1,j,r,z,q⟩=>⟨by rw[<- r.length];exact z,?_⟩);let F:H1 ⇑g=ZD:=j.hok.fresh (zAl _);refine⟨.ref ⇑g,upd H1 ⇑g (.lst xs),j.laid (t':=g.toks) (λb u e=>zAg _ e) (zAl _) ?_,rfl,q _ F⟩;exact⟨z,B,0,r,zAF _ rfl⟩
abbrev Sp:=List V->Hp->VK->XK->Prop
abbrev EV:=List kF->Hp->ZG->XK->ZE->ZG->Prop
structure YS (P:ZO) (w:ZX) (K:zAa) (mg:ZM->Option ZE) (base:aB) (A:aE) (outer:List kF) (s:ZG) (H:Hp):Prop where
 frames:A.frames=ZC outer
 mod:Mod K mg base
 bs:∀ b o,base.get? b=ZC o->s.heap.get? b=ZC o/\H b=ZD
 bsz:base.objs.size<=⇑s
 funs:s.heap.FunFrames base outer
 frf:∀ b∈Q8 outer,H b=ZD
 hok:XZ P w H s.heap
 bare:gI s.gens
def CE (outer:List kF) (P:ZO) (w:ZX) (H:Hp) (s:ZG) (Q:VK) (u:ZE) (s':ZG):Prop:=
 ∃ v H',s'.os=s.os/\gI s'.gens/\Un (Q8 outer) [] H H' s.heap s'.heap/\XZ P w H' s'.heap/\Kl v u/\Q v H'
def CR (CX:EV) (outer:List kF) (P:ZO) (w:ZX) (H:Hp) (s:ZG) (Q:VK) (E:XK) (r:oB) (s':ZG):Prop:=
 match r with
 |.ok (.ret u)=>CE outer P w H s Q u s'
 |.ok _=>False
 |.error e=>CX outer H s E e s'
structure XB (P:ZO) (w:ZX) (K:zAa) (mg:ZM->Option ZE) (base:aB) (CX:EV) (k:Nat) (f:ZF) (fd:eR) (ps:List ZM) (sp:Sp):Prop where
 len:∀ vs H Q E,sp vs H Q E->vs.length=ps.length
 run:∀ (A:aE) (outer:List kF) (s:ZG) (H:Hp) (args:Args) (us:List ZE) (vs:List V) (Q:VK) (E:XK),XE k A->YS P w K mg base A outer s H->lK s fd args (ps.zip us)->Fy vs us->sp vs H Q E ->
  dD (ZS P w) A (.call (.ref f) args) (CR CX outer P w H s Q E) s
def XB.mono {P} {w} {K} {mg:ZM->Option ZE} {base} {CX} {j k:Nat} {f} {fd} {ps} {sp} (F:XB P w K mg base CX j f fd ps sp) (h:j<=k) :
  XB P w K mg base CX k f fd ps sp:=⟨F.len,λA outer s H g q vs Q E hr=>F.run A outer s H g q vs Q E (hr.mono h)⟩
def YS.make {P} {w} {K} {mg:ZM->Option ZE} {base} {A} {outer} {s} {H} (e:YS P w K mg base A outer s H) (C:ZF) (us:List ZE) (g:List (ZM×ZE)) :
  YS P w K mg base (A.under (.builtin "type.__call__" ⟨.ref C::us,g⟩)) outer s H:=⟨by first|exact e.frames|(simpa [kP,Code.envs,lI,pushEnvs] using e.frames),e.mod,e.bs,e.bsz,e.funs,e.frf,e.hok,e.bare⟩
def Ed.env0 (I:Ed X pins σ H s):YS X.prog X.w X.K X.mg X.base X.A X.stack s H:=
 ⟨I.ok.frames,I.ok.mod,I.bs,zAD I.ok.bsz I.sz,I.stack,I.stkFree,I.hok,I.bare⟩
def Ed.after {Q:VK} {u:ZE} (I:Ed X pins σ H s) (h:CE X.stack X.prog X.w H s Q u s'):EP X pins σ Q u s':=by
 obtain⟨v,H',M,j,un,F,r,q⟩:=h;obtain⟨L,g,d,t,B⟩:=s';obtain rfl:B=s.os:=M;exact⟨v,H',I.call (h':=L) (g':=g) (d':=d) (t':=t) (ch:=[]) un F j (λb z=>ZR z (by simp)),r,q⟩
def M8 (sp:Sp) (dvs:List V) (E:XK) (t:TA):TE:=λσ H Q=>t σ H λvs H1=>sp (vs++dvs) H1 Q E
def JB (C:ZF) (m:ZM) (sp:Sp) (dvs:List V) (E:XK) (ta:TE) (t:TA):TE:=λσ H Q=>ta σ H λx H1=>∃ a dx fs,x=.ref a/\H1 a=ZC (.ins C dx fs)/\fs.lookup m=ZD /\
 t σ H1 λvs H2=>sp (x::(vs++dvs)) H2 Q E
def O8 (C:ZF) (sp:Sp) (dvs:List V) (E:XK) (t:TA):TE:=λσ H Q=>t σ H λvs H1=>∀ x dx,H1 x=ZD->H1 dx=ZD->dx≠x ->
 sp (.ref x::(vs++dvs)) (upd (upd H1 dx (.own x)) x (.ins C dx [])) (λv H2=>v=.non/\Q (.ref x) H2) E
def XM (K:zAa) (fd:eR) (ps:List ZM) (ds:List ZE):Prop:=
 ∀ (s:ZG) (us:List ZE),K.In s.heap->(us++ds).length=ps.length->lK s fd ⟨us,[]⟩ (ps.zip (us++ds))
def XM.all {K} {fd} {ps} (h:∀ g:List ZE,g.length=ps.length->hG fd ⟨g,[]⟩=pure (ps.zip g)):XM K fd ps []:=λs g _ hl=>by
 rw[zAY] at hl ⊢;exact .of_eq (h g hl)
def Ky (CX:EV) (X:Cx) (E:XK):Prop:=∀ (pins:List (ZF×cP)) (σ:St) (H:Hp) (s:ZG) (e:ZE) (s':ZG),Ed X pins σ H s->CX X.stack H s E e s'->X.xe e s'
def Wk {s:ZG} {Q:VK} {us:List ZE} {vs:List V} (F:XB X.prog X.w X.K X.mg X.base CX k f fd ps sp) (hr:XE k X.A) (z:XM X.K fd ps ds) (q:Fy dvs ds) (B:Ky CX X E)
  (I:Ed X pins σ H s) (r:Fy vs us) (h:sp (vs++dvs) H Q E):ZP (ZS X.prog X.w) X.A (call (.ref f) us) (EP X pins σ Q) X.xe s:=by
 let g:Fy (vs++dvs) (us++ds):=r.append q;let hl:(us++ds).length=ps.length:=by rw[<- g.length];exact F.len _ _ _ _ h
 refine iS (dM (F.run X.A X.stack s H ⟨us,[]⟩ (us++ds) (vs++dvs) Q E hr I.env0 (z s us I.kIn hl) g h) λr s' hq=>?_);cases r with
 |error e=>exact B pins σ H s e s' I hq
 |ok j=>
  cases j with
  |ret u=>exact I.after hq
  |next=>exact aV hq
  |brk=>exact aV hq
  |cont=>exact aV hq
def FO (F:XB X.prog X.w X.K X.mg X.base CX k f fd ps sp) (hr:XE k X.A) (B:Gl X x) (z:X.mg x=ZC (.ref f)) (U:zAP X.K (.ref f)=ZI) (S:XM X.K fd ps ds) (L:Fy dvs ds) (Y:Ky CX X E)
  (M:PA X (e::es) t) (g:(x==("__debug__" : ZM))=ZK:=by lk) (he:ZU (e::es) X.env=(ZK,aM e X.env)::ZU es X.env:=by rfl) (hpl:(bC pos (ZU es X.env)).any (·.1)=ZK:=by rfl) :
  PE X (.Call (.Name x p) (e::es) [] pos) (M8 sp dvs E t):=by
 intro pins s σ H Q I h;refine aN (Ih I B z ?_ g);refine zBV (h₀:=X.base) I.ok.mod.kin U (Cb (M pos pins s σ H _ I h) λZ s1 ⟨vs,H1,j,r,q⟩=>⟨j.kIn,?_⟩) he hpl;exact Wk F hr S L Y j r q
def FM {pl:mS Bool} (he:PE X o ta) (c:YU X.K C) (z:HE X.K C m f) (F:XB X.prog X.w X.K X.mg X.base CX k f fd ps sp) (hr:XE k X.A) (Y:XM X.K fd ps ds) (M:Fy dvs ds) (hx:Ky CX X E) (S:PA X (e::es) t)
  (g:ZU (e::es) X.env=(ZK,aM e X.env)::ZU es X.env:=by rfl) (hpl:(bC pos (ZU es X.env)).any (·.1)=ZK:=by rfl)
  (ht:aM (.Call (.Attribute o m apos) (e::es) [] pos) X.env=(do
   let ov <- aM o X.env
   gD apos.atName
   let (f,first) <- eB [ov] (eF ov m pl)
   jH pos f first (bC pos (ZU (e::es) X.env)) (eQ pos (cS [] X.env))):=by rfl) :
  PE X (.Call (.Attribute o m apos) (e::es) [] pos) (JB C m sp dvs E ta t):=by
 intro pins s σ H Q I h;refine zCk (pl:=pl) (Cb (he pins s σ H _ I h) λu Z ⟨x,H1,B,U,a,dx,fs,ex,L,l,q⟩=>?_) ht;subst ex;obtain rfl:u=aI a:=U;refine Kp B L c z l ?_;refine zBV (first:=[.ref a]) (h₀:=X.base) I.ok.mod.kin z.kp (Cb (S pos pins Z σ H1 _ B q) λus s2 ⟨vs,H2,j,r,q2⟩=>⟨j.kIn,?_⟩) g hpl;exact Wk (us:=.ref a::us) (vs:=.ref a::vs) F hr Y M hx j (.cons rfl r) q2
structure Mk (K:zAa) (C f:ZF):Prop where
 makes:zCw K C=ZI
 init:zAM K (.ref C) "__init__"=ZC (ZC (.ref f))
 fn:zBM K (.ref f)=ZI
 kp:zAP K (.ref C)=ZI
def Xz {s:ZG} {Q:VK} {us:List ZE} {vs:List V} (M:Mk X.K C f) (F:XB X.prog X.w X.K X.mg X.base CX k f fd ps sp) (hr:XE (k+1) X.A) (Z:XM X.K fd ps ds) (Y:Fy dvs ds)
  (hx:Ky CX X E) (I:Ed X pins σ H s) (r:Fy vs us)
  (h:∀ x dx,H x=ZD->H dx=ZD->dx≠x->sp (.ref x::(vs++dvs)) (upd (upd H dx (.own x)) x (.ins C dx [])) (λv U=>v=.non/\Q (.ref x) U) E) :
  ZP (ZS X.prog X.w) X.A (call (.ref C) us) (EP X pins σ Q) X.xe s:=by
 let hq:=h (⇑s+1) ⇑s (I.hok.fresh (zBE _)) (I.hok.fresh (zAl _)) (zAy (zBS _));let j:=Ed.made (C:=C) I;let q:Fy (V.ref (⇑s+1)::(vs++dvs)) (aI (⇑s+1)::(us++ds)):=.cons rfl (r.append Y);let hl:(aI (⇑s+1)::us++ds).length=ps.length:=by
  let e:=q.length;rw[F.len _ _ _ _ hq] at e;exact e.symm
 refine iS (DL (f:=f) I.kIn M.makes M.init (beq_iff_eq.mp M.fn) (dM (F.run _ X.stack _ _ ⟨aI (⇑s+1)::us,[]⟩ (aI (⇑s+1)::(us++ds)) _ _ E (hr.make C us [])
  (j.env0.make C us []) (Z _ (aI (⇑s+1)::us) j.kIn hl) q hq) λr s' g=>?_))
 cases r with
 |error e=>exact hx pins σ _ _ e s' j g
 |ok B=>
  cases B with
  |ret u=>
   obtain⟨v,H',I3,z,L,S⟩:=j.after g;subst L;exact⟨z,⟨V.ref (⇑s+1),H',I3,rfl,S⟩⟩
  |next=>exact aV g
  |brk=>exact aV g
  |cont=>exact aV g
def GG (M:Mk X.K C f) (F:XB X.prog X.w X.K X.mg X.base CX k f fd ps sp) (hr:XE (k+1) X.A) (B:Gl X x) (z:X.mg x=ZC (.ref C)) (U:XM X.K fd ps ds) (L:Fy dvs ds) (Y:Ky CX X E)
  (S:PA X (e::es) t) (g:(x==("__debug__" : ZM))=ZK:=by lk) (he:ZU (e::es) X.env=(ZK,aM e X.env)::ZU es X.env:=by rfl) (hpl:(bC pos (ZU es X.env)).any (·.1)=ZK:=by rfl) :
  PE X (.Call (.Name x p) (e::es) [] pos) (O8 C sp dvs E t):=by
 intro pins s σ H Q I h;refine aN (Ih I B z ?_ g);refine zBV (h₀:=X.base) I.ok.mod.kin M.kp (Cb (S pos pins s σ H _ I h) λZ s1 ⟨vs,H1,j,r,q⟩=>⟨j.kIn,?_⟩) he hpl;exact Xz M F hr U L Y j r q
def DE (M:Mk X.K C f) (F:XB X.prog X.w X.K X.mg X.base CX k f fd ps sp) (hr:XE (k+1) X.A) (q:Gl X x) (j:X.mg x=ZC (.ref C)) (B:XM X.K fd ps ds) (z:Fy dvs ds) (L:Ky CX X E)
  (g:(x==("__debug__" : ZM))=ZK:=by lk):PE X (.Call (.Name x p) [] [] pos) (O8 C sp dvs E BJ):=by
 intro pins s σ H Q I h;refine aN (Ih I q j ?_ g);exact lE I.kIn M.kp (Xz (us:=[]) M F hr B z L I .nil h)
structure By (N P:List ZM) (sc:fY):Prop where
 kind:sc.kind=.function
 co:sc.isCoroutine=ZK
 gen:sc.isGenerator=ZK
 nd:N.Nodup
 pre:N.take P.length=P
 par:∀ x∈P,sc.names.lookup x=ZC .local\/sc.names.lookup x=ZC .cell
 nofree:∀ y∈sc.names,y.2≠.free
theorem Ug {g:ZM->Option cM} {x:ZM}:∀ {binds} {m:ZM->Option ZE},(∀ v,(x,v)∉binds)->nH g binds m x=m x
 |[],_,_=>rfl
 |(n,v)::r,m,h=>by
  unfold nH;rw[Ug λw j=>h w (zAb _ j)]
  split
  .have:x≠n:=by rintro rfl;exact h v zAd
   simp [this]
  .rfl
theorem Uj {g:ZM->Option cM} {x:ZM}:∀ {binds} {m:ZM->Option ZE},(∀ v,(x,v)∉binds)->nI g binds m x=m x
 |[],_,_=>rfl
 |(n,v)::r,m,h=>by
  unfold nI;rw[Uj λw j=>h w (zAb _ j)]
  split
  .rfl
  .have:x≠n:=by rintro rfl;exact h v zAd
   simp [this]
theorem Ur {g:ZM->Option cM} {x:ZM} {v:ZE}:∀ {P:List ZM} {vs:List ZE} {i:Nat} {m:ZM->Option ZE},P.Nodup->P[i]?=ZC x->vs[i]?=ZC v->g x=ZC .local ->
  nH g (P.zip vs) m x=ZC v
 |[],_,_,_,_,h,_,_=>by simp at h
 |_::_,[],_,_,_,_,h,_=>by simp at h
 |p::P,w::vs,0,m,q,h1,j,z=>by
  simp at h1 j;subst h1;subst j;show nH g ((p,w)::P.zip vs) m p=_;unfold nH;rw[Ug λv B=>(zAT.mp q).1 (fI B).1,ZJ z];simp
 |p::P,w::vs,i+1,m,q,h1,j,z=>by
  show nH g ((p,w)::P.zip vs) m x=_;unfold nH;exact Ur (i:=i) (zAT.mp q).2 (by simpa using h1) (by simpa using j) z
theorem Ux {g:ZM->Option cM} {x:ZM} {v:ZE}:∀ {P:List ZM} {vs:List ZE} {i:Nat} {m:ZM->Option ZE},P.Nodup->P[i]?=ZC x->vs[i]?=ZC v->g x≠ZC .local ->
  nI g (P.zip vs) m x=ZC v
 |[],_,_,_,_,h,_,_=>by simp at h
 |_::_,[],_,_,_,_,h,_=>by simp at h
 |p::P,w::vs,0,m,q,h1,j,z=>by
  simp at h1 j;subst h1;subst j;show nI g ((p,w)::P.zip vs) m p=_;unfold nI;rw[Uj λv B=>(zAT.mp q).1 (fI B).1,ZH z];simp
 |p::P,w::vs,i+1,m,q,h1,j,z=>by
  show nI g ((p,w)::P.zip vs) m x=_;unfold nI;exact Ux (i:=i) (zAT.mp q).2 (by simpa using h1) (by simpa using j) z
def Fi (N:List ZM) (vs:List V):St:=vs.map ZC++List.replicate (N.length-vs.length) ZD
def Kq (CX:EV) (P:ZO) (w:ZX) (K:zAa) (mg:ZM->Option ZE) (base:aB) (N:List ZM) (qual:ZM) (scope:fY) (f:ZF) (cd:ZE) (A:aE) (outer:List kF) (s:ZG) (H:Hp) (E:XK):Cx where
 prog:=P
 w:=w
 K:=K
 mg:=mg
 base:=base
 A:=A.deeper (dO qual scope ⇑s f cd)
 N:=N
 s₀:=s
 H₀:=H
 env:=dO qual scope ⇑s f cd
 outer:=outer
 stack:=dO qual scope ⇑s f cd::outer
 ex:=[]
 calm:=ZI
 fn:=λ_=>ZI
 pn:=[]
 xe:=λe s'=>ZP (ZS P w) (A.deeper (dO qual scope ⇑s f cd)) (leaving (dO qual scope ⇑s f cd) e) (λ_ s''=>CX outer H s E e s'') (λe' s''=>CX outer H s E e' s'') s'
def Xp {sc:fY} {n:Nat} {x:ZM} (h:sc.names.lookup x=ZC .cell):∃ c,(nG n sc.names []).lookup x=ZC c:=by
 let q:=zCA sc.names n [] (.inl h);exact Option.isSome_iff_exists.mp q
def Tn {CX:EV} {P:ZO} {w:ZX} {K:zAa} {mg:ZM->Option ZE} {base:aB} {N ps:List ZM} {qual:ZM} {scope:fY} {f:ZF} {cd:ZE} {A:aE} {outer:List kF} {s s1:ZG} {H:Hp} {E:XK} {us:List ZE} {vs:List V}
  (S:By N ps scope) (hd:A.handled=ZD) (e0:YS P w K mg base A outer s H) (hl:vs.length=ps.length) (r:Fy vs us)
  (x:InCallC s ⇑s (nH (dO qual scope ⇑s f cd).kindOf (ps.zip us) λ_=>ZD) (nG (⇑s+1) scope.names []) (nI (dO qual scope ⇑s f cd).kindOf (ps.zip us) λ_=>ZD) s1) :
  Ed (Kq CX P w K mg base N qual scope f cd A outer s H E) [] (Fi N vs) H s1:=by
 let hpl:ps.length<=N.length:=by let:=aC bS S.pre;rw[zAn] at this;lia
 obtain⟨h1,tk,rfl,hk⟩:=x.done;let noA:∀ b:ZF,b∉(Kq CX P w K mg base N qual scope f cd A outer s H E).ex:=λb z=>ZR (show b∈([]:List ZF) from z) (by simp);refine⟨⟨e0.mod,S.kind,rfl,rfl,zAl _,λy z c h1 h2=>?_,λy hy=>?_,λy c _ h=>?_,λ_=>hd,Around.frames_deeper e0.frames,.inr ⟨rfl,rfl⟩,λb z=>ZR z (noA b),e0.bs,e0.bsz,λb _ _=>noA b,λb z=>ZR z (noA b),e0.funs,e0.frf⟩,
  rfl,e0.bare,Un.kept hk,⟨_,x.toInCall.ns,λi y v h1 h2 h3=>?_⟩,λy c h=>⟨_,x.cell y c h⟩,e0.hok.fresh (zAl _),λy c h=>?_,λp hp=>ZR (show p∈([]:List (ZF×cP)) from hp) (by simp),e0.hok.kept hk,?_⟩
 .exact name_of_addr x.apart (aP h1) (aP h2)
 .have hy:scope.names.lookup y=ZC .cell\/scope.names.lookup y=ZC .free:=hy
  rcases hy with hy|hy
  .exact Xp hy
  .exact ZR rfl (S.nofree _ (aP hy))
 .exact zCi (x.above y c (aP h))
 .have hi:i<vs.length:=by
   unfold Fi at h2;by_cases hi:i<vs.length
   .exact hi
   .rw[zAA (by simpa using hi)] at h2
    rw[kZ] at h2
    split at h2 <;> cases h2
  let ha:vs[i]?=ZC v:=by
   unfold Fi at h2;rw[zAK (by simpa using hi),zAx] at h2;cases e:vs[i]? with
   |none=>rw[e] at h2;cases h2
   |some a=>rw[e] at h2;cases h2;rfl
  obtain⟨u,hu,rv⟩:=r.get ha;let hp:ps[i]?=ZC y:=by
   rw[<- S.pre,List.getElem?_take_of_lt (by lia)];exact h1
  let ndP:ps.Nodup:=by rw[<- S.pre];exact S.nd.sublist (zCf _ _)
  refine⟨u,rv,?_⟩;rcases S.par y (zAz hp) with k|k
  .exact .inl ⟨k,Ur ndP hp hu k⟩
  .obtain⟨c,e⟩:=Xp (n:=⇑s+1) k
   refine .inr ⟨.inl k,c,e,?_⟩;let q:=x.cell y c e;rw[Ux ndP hp hu (by show scope.names.lookup y≠_;rw[k];decide)] at q;exact q
 .exact e0.hok.fresh (zCi (x.above y c (aP h)))
 .unfold Fi
  show _=N.length;rw[zAm,zAc,zBO]
  lia
def BS {CX} {P} {w} {K} {mg:ZM->Option ZE} {base} {k:Nat} {f} {name qual} {j} {z} {g} {dV kV U pm cdv ct oc} {an od}
  {ac} {N ps} {sp} (lk:K.lookup f=ZC ⟨oc,od,.func (zAU name qual j z g dV kV U pm an cdv ct),ac⟩) (aa:zBi K cdv qual=ZI) (S:By N ps g)
  (len:∀ vs H Q E,sp vs H Q E->vs.length=ps.length)
  (B:∀ (A:aE) (outer:List kF) (s:ZG) (H:Hp) (vs:List V) (Q:VK) (E:XK),XE k (A.deeper (dO qual g ⇑s f cdv))->sp vs H Q E ->
   ∃ t,PSs (Kq CX P w K mg base N qual g f cdv A outer s H E) z t/\t { nx:=λ_ H'=>Q .non H',rt:=Q } (Fi N vs) H) :
  XB P w K mg base CX (k+1) f (zAU name qual j z g dV kV U pm an cdv ct) ps sp:=by
 refine⟨len,λA outer s H ad us vs Q E hr Z hb r Y=>?_⟩;let hl:=len _ _ _ _ Y;let KX:K.In s.heap:=Z.mod.kin.keeps λb o e=>(Z.bs b o e).1;let ab:s.heap.NoLimit:=Z.mod.nolimit.keeps λb o e=>(Z.bs b o e).1;let F:∀ y∈ps.zip us,g.names.lookup y.1=ZC .local\/(g.names.lookup y.1=ZC .cell/\((nG (⇑s+1) g.names []).lookup y.1).isSome=ZI):=λ⟨n,v⟩ hy=>by
  rcases S.par n (fI hy).1 with q|q
  .exact .inl q
  .exact .inr ⟨q,zCA _ _ _ (.inl q)⟩
 refine codeAny_call_function hr.depth (KX _ _ lk) rfl S.co S.gen rfl (PySem.W.codeRec_of KX aa) (hb _ _ _ _ ?_);refine lN S.kind F λae he s1 x=>?_;subst he;refine⟨ab.keeps x.toInCall.keep,codeAny_func ?_⟩;obtain⟨t,ht,hq⟩:=B A outer s H vs Q E (hr.deeper _) Y;let I:Ed (Kq CX P w K mg base N qual g f cdv A outer s H E) [] (Fi N vs) H s1:=Tn S hr.hd Z hl r x;refine bJ (ht [] s1 (Fi N vs) H _ I hq) (λfl s' L=>?_) λe s' L=>L;let M:∀ {σ':St} {H':Hp} {v:V} {u:ZE},Ed (Kq CX P w K mg base N qual g f cdv A outer s H E) [] σ' H' s'->Kl v u->Q v H'->CE outer P w H s Q u s':=
  λ{σ' H' v u} J rv q=>⟨v,H',J.os,J.bare,J.base,J.hok,rv,q⟩
 cases fl with
 |ret u=>
  obtain⟨v,σ',H',J,rv,q⟩:=L;exact M J rv q
 |next=>
  obtain⟨σ',H',J,q⟩:=L;exact M (v:=V.non) (u:=bD) J rfl q
 |brk=>
  obtain⟨_,_,_,q⟩:=L;exact aV q
 |cont=>
  obtain⟨_,_,_,q⟩:=L;exact aV q
section
variable {X:Cx} {x:ZM} {p pos:Pos} {e:bA} {es:List bA} {t:TA} {id T:String} {r:List V->Hp->VK->Prop}
def UW (r:List V->Hp->VK->Prop) (t:TA):TE:=λσ H Q=>t σ H λvs H1=>r vs H1 Q
def Ec (L:Fq X (.builtin id) r) (z:Gl X x) (q:X.mg x=ZD) (j:zCI x=ZC (.builtin id)) (F:PA X (e::es) t) (Y:x ≠ "__name__":=by lk) (hdb:(x==("__debug__" : ZM))=ZK:=by lk)
  (he:ZU (e::es) X.env=(ZK,aM e X.env)::ZU es X.env:=by rfl) (hpl:(bC pos (ZU es X.env)).any (·.1)=ZK:=by rfl):PE X (.Call (.Name x p) (e::es) [] pos) (UW r t):=by
 intro pins s σ H Q I h;refine aN (Fz I z q j ?_ Y hdb);exact cX (Cb (F pos pins s σ H _ I h) λM S ⟨vs,H1,B,U,g⟩=>L pins S σ H1 vs M Q B U g) he hpl
def Dt (L:Fq X (.type T) r) (z:Gl X x) (q:X.mg x=ZD) (j:zCI x=ZC (.type T)) (F:PA X (e::es) t) (Y:x ≠ "__name__":=by lk) (hdb:(x==("__debug__" : ZM))=ZK:=by lk)
  (he:ZU (e::es) X.env=(ZK,aM e X.env)::ZU es X.env:=by rfl) (hpl:(bC pos (ZU es X.env)).any (·.1)=ZK:=by rfl):PE X (.Call (.Name x p) (e::es) [] pos) (UW r t):=by
 intro pins s σ H Q I h;refine aN (Fz I z q j ?_ Y hdb);exact aU (Cb (F pos pins s σ H _ I h) λM S ⟨vs,H1,B,U,g⟩=>L pins S σ H1 vs M Q B U g) he hpl
end
end L2
namespace HT
open PySem PyProof.Rows
def lexLt:List Int->List Int->Bool
 |[],[]=>ZK
 |[],_::_=>ZI
 |_::_,[]=>ZK
 |x::xs,y::ys=>if x=y then lexLt xs ys else decide (x<y)
def lexLt_cons (x y:Int) (xs ys:List Int):lexLt (x::xs) (y::ys)=if x=y then lexLt xs ys else decide (x<y):=rfl
def cat_tup {t b:ZF} {vs g:List ZE} {Q:ZE->ZG->Prop} (ht:mC s.heap t vs.toArray) (hb:mC s.heap b g.toArray) (U:vs≠[])
  (h1:g=[]->Q (.ref t) s) (h2:g≠[]->Q (.ref ⇑s) { s with heap:=s.heap.push { cls:=.type "tuple",data:=.seq (vs++g).toArray } })
  (hsz:vs.length+g.length<=sizeLine):ZP (ZS prog w) A (dA .Add (.ref t) (.ref b)) Q E s:=by
 obtain⟨⟨cls,Z,data,Y⟩,M,hc,n,hd⟩:=id ht;obtain⟨⟨aa,B,S,q⟩,j,F,n2,z⟩:=id hb;simp only at hc hd F z;subst hc hd F z;let e:vs.toArray++g.toArray=(vs++g).toArray:=by simp
 by_cases L:g=[]
 .exact concat_meets ⟨_,M,rfl⟩ ⟨_,j,rfl⟩ noFill_tuple_add seq_tuple_add kA jR (jK _ _)
   (tuple_addW1 t b vs.toArray g.toArray n n2 Z B Y q (by simpa using U) (by simp [L])) ⟨M,j,h1 L⟩
 .refine concat_meets ⟨_,M,rfl⟩ ⟨_,j,rfl⟩ noFill_tuple_add seq_tuple_add kA jR (jK _ _)
   (tuple_addW2 t b vs.toArray g.toArray n n2 Z B Y q (by simpa using U) (by simpa using L) (by rw[zAi,zAi];exact hsz)) ⟨M,j,?_⟩
  rw[e];exact h2 L
def sIx (n d:Nat):Option Int->Nat
 |none=>d
 |some v=>if v<0 then (v+(n:Int)).toNat else min v.toNat n
def sIx_none (n d:Nat):sIx n d ZD=d:=rfl
def sIx_nat (n d k:Nat):sIx n d (ZC (k:Int))=min k n:=by
 show (if (k:Int)<0 then ((k:Int)+(n:Int)).toNat else min (k:Int).toNat n)=min k n;rw[ZH (by lia),oV]
def NH (n d:Nat) (j:d<=n) (o:Option Int):sIx n d o<=n:=by
 cases o with
 |none=>exact j
 |some v=>
  show (if v<0 then (v+(n:Int)).toNat else min v.toNat n)<=n;by_cases g:v<0
  .rw[ZJ g];lia
  .rw[ZH g];exact Nat.min_le_right _ _
def P9 (v:Int) (n d:Nat):(if v<0 then max (v+(n:Int)) 0 else min v (n:Int))=((sIx n d (ZC v):Nat):Int):=by
 show (if v<0 then max (v+(n:Int)) 0 else min v (n:Int))=(((if v<0 then (v+(n:Int)).toNat else min v.toNat n):Nat):Int);by_cases g:v<0
 .simp only [ZJ g];lia
 .simp only [ZH g];lia
def F3 (lo hi:Option Int) (n:Nat):dN lo hi 1 (n:Int)=(((sIx n 0 lo:Nat):Int),((sIx n n hi:Nat):Int)):=by
 let h1:¬ ((1:Int)<0):=by lia
 unfold dN;simp only [h1,cO];refine Prod.ext ?_ ?_
 .cases lo with
  |none=>rfl
  |some v=>exact P9 v n 0
 .cases hi with
  |none=>rfl
  |some v=>exact P9 v n n
def F5 (i j:Nat):cG (i:Int) (j:Int) 1=j-i:=by
 unfold cG;let h1:(1:Int)>0:=by lia
 simp only [h1,eM,Int.ediv_one]
 split <;> lia
def Qx {v:ZE} {o:Option Int} {Q:Option Int->ZG->Prop} (p:kE v o) (h:Q o s):ZP (ZS prog w) A (Builtin.Slice.slicePartIndex v) Q E s:=by
 cases p with
 |none=>exact slicePart_none h
 |int i t=>exact slicePart_int h
def Ni {lo hi:Option Int} {n:Nat} {Q:Int×Int×Nat->ZG->Prop} (q:s.heap.IsSliceOf sl vl vu .none) (pl:kE vl lo) (z:kE vu hi)
  (h:Q (((sIx n 0 lo:Nat):Int),1,sIx n n hi-sIx n 0 lo) s):ZP (ZS prog w) A (gS (.ref sl) (pure (n:Int))) Q E s:=by
 obtain⟨F,j,B,g⟩:=id q;unfold gS Builtin.Slice.sliceFields;refine zCF (zCF (wpAny_field j g (x:=vl) rfl (zCF (wpAny_field j g (x:=vu) rfl (zCF (wpAny_field j g (x:=.none) rfl (zCG ?_)))))));refine zCF (slicePart_none ?_);show ZP _ _ (if ((1:Int)==0)=ZI then _ else _) _ _ s;rw[ZH (by lk)];refine zCF (Qx pl (zCF (Qx z (zCF (zCG ?_)))));show ZP _ _ (match dN lo hi 1 (n:Int) with|(lo,hi)=>pure (lo,(1:Int),cG lo hi 1)) _ _ s;rw[F3 lo hi n];show ZP _ _ (pure (((sIx n 0 lo:Nat):Int),(1:Int),cG ((sIx n 0 lo:Nat):Int) ((sIx n n hi:Nat):Int) 1)) _ _ s;rw[F5];exact zCG h
def DU (xs:Array ZE) (i k:Nat):((zAS k).filterMap λ(m:Nat)=>xs[((i:Int)+(m:Int)*1).toNat]?).toArray=((xs.toList.drop i).take k).toArray:=by
 let e:(λ(m:Nat)=>xs[((i:Int)+(m:Int)*1).toNat]?)=λm=>xs[i+m]?:=by
  funext m
  let:((i:Int)+(m:Int)*1).toNat=i+m:=by lia
  rw[this]
 rw[e];let:=pick_run xs i k;rw[List.filterMap_map] at this;let g:((λx=>xs[x]?) ∘ λx=>i+x)=λm=>xs[i+m]?:=rfl;rw[g] at this;rw[this]
def getItem_tuple_cut {t sl} {items} {vl vu} {lo hi:Option Int} {Q:ZE->ZG->Prop} (ht:mC s.heap t items) (hs:s.heap.IsSliceOf sl vl vu .none) (pl:kE vl lo) (pu:kE vu hi)
  (hw:¬ (sIx items.size 0 lo=0/\sIx items.size items.size hi=items.size))
  (h:Q (.ref ⇑s) { s with heap:=s.heap.push { cls:=.type "tuple",data:=.seq ((items.toList.drop (sIx items.size 0 lo)).take (sIx items.size items.size hi-sIx items.size 0 lo)).toArray } })
  (hsz:items.size<=sizeLine):ZP (ZS prog w) A (iA (.ref t) (.ref sl)) Q E s:=by
 let htake:sizeOk (.seq ((items.toList.drop (sIx items.size 0 lo)).take (sIx items.size items.size hi-sIx items.size 0 lo)).toArray):=by
  show ((items.toList.drop (sIx items.size 0 lo)).take (sIx items.size items.size hi-sIx items.size 0 lo)).toArray.size<=sizeLine;rw[zAi,zAn,zBa,zAE]
  lia
 let hj:sIx items.size items.size hi<=items.size:=NH _ _ (zAl _) hi;obtain⟨os,hos,hcs,hds⟩:=id hs;let hTs:s.TypeIs (.ref sl) "slice":=⟨os,hos,hcs⟩;unfold iA
 try with_reducible refine aW ?_
 first|refine zCF (zCG ?_)|skip
 refine zCF (wpAny_sequenceKey ht.typeIs (by lk) ?_);refine zCF (cD (name:=aK "__getitem__") ht.typeIs gA
  (aX gA ht.typeIs entry_tuple_getitem ?_ (args_tuple_getitem _ _)))
 show ZP _ _ (Builtin.Tuple.tupleItemsOf (.ref t) >>= _) _ _ s;refine zCF (tupleItemsOf_ ht ?_);refine zCF (iZ hTs ?_);rw[ZJ (by lk)];refine zCF (Ni hs pl pu ?_);let hno:¬ ((((sIx items.size 0 lo:Nat):Int)==0&&(1:Int)==1&&(sIx items.size items.size hi-sIx items.size 0 lo)==items.size)=ZI):=by
  intro q;rw[zAo,zAo] at q;let q1:((sIx items.size 0 lo:Nat):Int)=0:=eq_of_beq q.1.1;let q2:sIx items.size items.size hi-sIx items.size 0 lo=items.size:=eq_of_beq q.2;exact hw ⟨by lia,by lia⟩
 show ZP _ _ (if (((sIx items.size 0 lo:Nat):Int)==0&&(1:Int)==1&&(sIx items.size items.size hi-sIx items.size 0 lo)==items.size)=ZI then _ else _) _ _ s;rw[ZH hno,DU]
 first
  |exact zCF (m:=cJ _) (bB (zCG ⟨_,rfl,zCG h⟩) htake)
  |exact zCF (m:=cJ _) (bB (zCF (zCG (zCG ⟨_,rfl,zCG h⟩))) htake)
  |exact zCF (zCF (m:=cJ _) (bB (zCG (zCG ⟨_,rfl,zCG h⟩)) htake))
  |exact zCF (zCF (m:=cJ _) (bB (zCG ⟨_,rfl,zCG h⟩) htake))
end HT
namespace L2
open PySem PySem.Spec PyProof.Rows
abbrev TO:=St->Hp->(Option Int->Hp->Prop)->Prop
def PO (X:Cx) (e:Option bA) (t:TO):Prop:=
 ∀ (pins:List (ZF×cP)) (s:ZG) (σ:St) (H:Hp) (Q:Option Int->Hp->Prop),Ed X pins σ H s->t σ H Q ->
  ZP (ZS X.prog X.w) X.A (evalPart e X.env) (λu s'=>∃ o H',Ed X pins σ H' s'/\kE u o/\Q o H') X.xe s
def O5:TO:=λ_ H Q=>Q ZD H
def JD (t:TE):TO:=λσ H Q=>t σ H λx H1=>∃ i,x=.int i/\Q (ZC i) H1
def Pt {ns:List Int}:∀ {us},Fy (ns.map V.int) us->cC us ns:=by
 induction ns with
 |nil=>intro us r;rw[zBv] at r;cases r;exact .nil
 |cons n ns ih=>
  intro us r;rw[zAp] at r;cases r with
  |cons j g=>
   obtain⟨t,e⟩:=j;subst e;exact .cons n t (ih g)
section
variable {X:Cx} {e:bA} {te:TE} {lo hi:Option bA} {tl th:TO} {pos p2:Pos}
def Fc:PO X ZD O5:=by
 intro pins s σ H Q I h;rw[evalPart_none];exact zCG ⟨ZD,H,I,.none,h⟩
def Ci (h:PE X e te):PO X (ZC e) (JD te):=by
 intro pins s σ H Q I j;rw[evalPart_some];refine Cb (h pins s σ H _ I j) λu F ⟨x,H1,z,B,g⟩=>?_;obtain⟨i,rfl,q⟩:=g;obtain⟨t,rfl⟩:=B;exact⟨ZC i,H1,z,.int i t,q⟩
def NZ (X:Cx) (r:V->Option Int->Option Int->Hp->VK->Prop):Prop:=
 ∀ (pins:List (ZF×cP)) (s:ZG) (σ:St) (H:Hp) (x:V) (v vl vu:ZE) (lo hi:Option Int) (sl:ZF) (Q:VK),Ed X pins σ H s->Kl x v->s.heap.IsSliceOf sl vl vu .none->kE vl lo->kE vu hi->r x lo hi H Q ->
  ∃ T id,lO (.type T) "__getitem__"=pure (ZC (.builtin id))/\s.TypeIs v T/\ZP (ZS X.prog X.w) X.A (iA v (.ref sl)) (EP X pins σ Q) X.xe s
def VR (r:V->Option Int->Option Int->Hp->VK->Prop) (te:TE) (tl th:TO):TE:=λσ H Q=>te σ H λx H1=>tl σ H1 λl H2=>th σ H2 λu H3=>r x l u H3 Q
def Cu {r:V->Option Int->Option Int->Hp->VK->Prop} (hr:NZ X r) (Y:PE X e te) (hl:PO X lo tl) (S:PO X hi th):PE X (.Subscript e (.Slice lo hi ZD p2) pos) (VR r te tl th):=by
 intro pins s σ H Q I h;refine Subscript_ (Cb (Y pins s σ H _ I h) λv s1 ⟨x,H1,I1,M,q1⟩=>?_);refine wpAny_Slice (Cb (hl pins s1 σ H1 _ I1 q1) λj Z ⟨l,H2,I2,F,U⟩=>Cb (S pins Z σ H2 _ I2 U) λz g ⟨u,B,I3,pu,q3⟩=>?_);rw[evalPart_none];refine zCG ?_;let I4:Ed X pins σ B { g with heap:=g.heap.push { cls:=.type "slice",data:=.fields #[j,z,.none] } }:=I3.kept (t':=g.toks) λb ob q=>zAg _ q;obtain⟨T,id,hT,ht,L⟩:=hr pins { g with heap:=g.heap.push { cls:=.type "slice",data:=.fields #[j,z,.none] } } σ B x v j z l u ⇑g Q I4 M (Heap.IsSliceOf.new ..) F pu q3;show ZP (ZS X.prog X.w) X.A (mQ e (.Slice lo hi ZD p2) v (.ref ⇑g)) (EP X pins σ Q) X.xe { g with heap:=g.heap.push { cls:=.type "slice",data:=.fields #[j,z,.none] } };exact tail_any (ops:=[.ref ⇑g,v]) ht hT L (by with_unfolding_all rfl)
def Kd (xs:List V) (lo hi:Option Int):List V:=(xs.drop (HT.sIx xs.length 0 lo)).take (HT.sIx xs.length xs.length hi-HT.sIx xs.length 0 lo)
def Ou (xs:List V) (lo hi:Option Int):(Kd xs lo hi).length<=xs.length:=by
 unfold Kd;rw[zAn,zBa]
 lia
def MA (K:zAa):V->Option Int->Option Int->Hp->VK->Prop:=λx lo hi H Q=>∃ a xs,x=.ref a/\Hx K H a xs /\
 ¬ (HT.sIx xs.length 0 lo=0/\HT.sIx xs.length xs.length hi=xs.length)/\∀ p,H p=ZD->Q (.ref p) (upd H p (.tup (Kd xs lo hi)))
def DX:NZ X (MA X.K):=by
 intro pins s σ H x v vl vu lo hi sl Q I S L F U h;obtain⟨a,xs,rfl,Y,M,q⟩:=h;cases S;obtain⟨j,r,z,B⟩:=I.tuple Y;let g:j.toArray.size=xs.length:=by rw[zAi];exact r.length.symm
 refine⟨"tuple",_,PyProof.Rows.slot_tuple_getitem.lookup,z.typeIs,?_⟩;refine HT.getItem_tuple_cut z L F U (by rw[g];exact M) ?_ (by rw[g];exact B);rw[g];refine⟨.ref ⇑s,_,I.laid (t':=s.toks) (o:=.tup (Kd xs lo hi)) (λb Z q=>zAg _ q) (zAl _) ?_,rfl,q _ (I.hok.fresh (zAl _))⟩;exact⟨zAD (Ou xs lo hi) B,_,(r.drop (HT.sIx xs.length 0 lo)).take (HT.sIx xs.length xs.length hi-HT.sIx xs.length 0 lo),IsTup.new _ _⟩
def II (K:zAa):R2:=λx y H Q=>∃ a b xs ys,x=.ref a/\y=.ref b/\Hx K H a xs/\Hx K H b ys/\xs≠[]/\xs.length+ys.length<=sizeLine /\
 (ys=[]->Q (.ref a) H)/\(ys≠[]->∀ p,H p=ZD->Q (.ref p) (upd H p (.tup (xs++ys))))
def Fy.nil_iff {xs:List V} {us:List ZE} (r:Fy xs us):us=[]↔xs=[]:=by
 cases r with
 |nil=>simp
 |cons _ _=>simp
def FT:Kb X (dA .Add) (II X.K):=by
 intro pins s σ H x y v u Q I Y S h;obtain⟨a,b,xs,ys,rfl,rfl,U,hb,hx,F,L,q2⟩:=h;cases Y;cases S;obtain⟨M,j,Z,_⟩:=I.tuple U;obtain⟨B,g,p2,_⟩:=I.tuple hb;refine HT.cat_tup Z p2 (λz=>hx (j.nil_iff.mp z)) (λz=>⟨.ref a,H,I,rfl,L (g.nil_iff.mp z)⟩) (λz=>?_) (by rw[<- j.length,<- g.length];exact F);refine⟨.ref ⇑s,_,I.laid (t':=s.toks) (o:=.tup (xs++ys)) (λb ob q=>zAg _ q) (zAl _) ?_,rfl,q2 (λw=>z (g.nil_iff.mpr w)) _ (I.hok.fresh (zAl _))⟩;exact⟨by rw[zAm];exact F,_,j.append g,IsTup.new _ _⟩
end
def BL (n:Nat) (i:Int):Option Nat:=if 0<=i then (if i<n then ZC i.toNat else ZD) else if -(n:Int)<=i then ZC (i+n).toNat else ZD
def Pa {α:Type} (xs:List α) (i:Int):Option α:=(BL xs.length i).bind λj=>xs[j]?
def K3 {n:Nat} {i:Int} {j:Nat} (h:BL n i=ZC j):seqIndex? i n=ZC j/\j<n/\-(n:Int)<=i/\i<n:=by
 unfold BL at h;by_cases g:0<=i
 .rw[ZJ g] at h
  by_cases h1:i<n
  .rw[ZJ h1] at h
   let e:i.toNat=j:=aH h;exact⟨by rw[seqIndex_of g h1,e],by lia,by lia,h1⟩
  .rw[ZH h1] at h;cases h
 .rw[ZH g] at h
  by_cases h1 : -(n:Int)<=i
  .rw[ZJ h1] at h
   let e:(i+n).toNat=j:=aH h;exact⟨by rw[nU (by lia) h1,e],by lia,h1,by lia⟩
  .rw[ZH h1] at h;cases h
def Vo {α:Type} {xs:List α} {i:Int} {v:α} (h:Pa xs i=ZC v):∃ j,seqIndex? i xs.length=ZC j/\xs[j]?=ZC v/\j<xs.length/\-(xs.length:Int)<=i/\i<xs.length:=by
 unfold Pa at h;cases e:BL xs.length i with
 |none=>rw[e] at h;cases h
 |some j=>
  rw[e] at h;obtain⟨h1,z,g,q⟩:=K3 e;exact⟨j,h1,h,z,g,q⟩
def Fw {α:Type} {xs:List α} {j:Nat} {v:α} (h:xs[j]?=ZC v):Pa xs (j:Int)=ZC v:=by
 let g:j<xs.length:=(zAk.mp h).1;let e:BL xs.length (j:Int)=ZC j:=by
  unfold BL;rw[ZJ (by lia),ZJ (by lia)];simp
 unfold Pa;rw[e];exact h
def YG {α:Type} (xs:List α) (v:α):Pa (xs++[v]) (-1)=ZC v:=by
 let hl:(xs++[v]).length=xs.length+1:=by simp
 let e:BL (xs++[v]).length (-1)=ZC xs.length:=by
  unfold BL;rw[hl,ZH (by lk),ZJ (by lia)]
  congr 1
  lia
 unfold Pa;rw[e];show (xs++[v])[xs.length]?=ZC v;simp
def Wt (b:bA):Prop:=∀ o i,kG b ZK o i=operate [o,i] (iA o i)
def NW (X:Cx) (r:R2):Prop:=
 ∀ (value slice:bA) (pins:List (ZF×cP)) (s:ZG) (σ:St) (H:Hp) (x y:V) (v u:ZE) (Q:VK),Ed X pins σ H s->Kl x v->Kl y u->r x y H Q ->
  kG slice ZK v u=operate [v,u] (iA v u)->ZP (ZS X.prog X.w) X.A (mQ value slice v u) (EP X pins σ Q) X.xe s
def TU (X:Cx) (id:String) (r:V->List V->Hp->VK->Prop):Prop:=
 ∀ (pins:List (ZF×cP)) (s:ZG) (σ:St) (H:Hp) (x:V) (xs:List V) (v:ZE) (us:List ZE) (Q:VK),Ed X pins σ H s->Kl x v->Fy xs us->r x xs H Q ->
  ZP (ZS X.prog X.w) X.A (call (.builtin id) (v::us)) (EP X pins σ Q) X.xe s
section
variable {X:Cx} {a b:bA} {ta tb:TE} {pos:Pos}
def L9 {r:R2} (hr:NW X r) (F:PE X a ta) (L:PE X b tb) (z:Wt b):PE X (.Subscript a b pos) (OB r ta tb):=by
 intro pins s σ H Q I h;exact Subscript_ (MM F L I h λv u S x y j g M B q=>hr a b pins S σ j x y v u Q g M B q (z _ _))
def LW (K:zAa):R2:=λx y H Q=>∃ p xs i v,x=.ref p/\y=.int i/\Dp K H p xs/\Pa xs i=ZC v/\Q v H
def NO (K:zAa):R2:=λx y H Q=>∃ p xs i v,x=.ref p/\y=.int i/\Hx K H p xs/\Pa xs i=ZC v/\Q v H
def UD:R2:=λx y H Q=>∃ z i c,x=.str z/\y=.int i/\z.length<=sizeLine/\Pa z.cps.toList i=ZC c/\Q (.str ⟨#[c]⟩) H
def GY:NW X (LW X.K):=by
 intro value slice pins s σ H x y v u Q I rx ry h hs;obtain⟨p,xs,i,z,rfl,rfl,hq,he,q⟩:=h;cases rx;obtain⟨t,rfl⟩:=ry;obtain⟨its,r,pl,hz⟩:=I.list hq;obtain⟨j,h1,h2,h3,h4,h5⟩:=Vo he;obtain⟨w,ew,rw'⟩:=r.get h2;let hl:=r.length;let hn:=Ld;let fin:EP X pins σ Q w s:=⟨z,H,I,rw',q⟩;by_cases h0:0<=i
 .have hj:i.toNat=j:=by
   rw[seqIndex_of h0 h5] at h1;exact aH h1
  exact item_listR pl.isList h0 (by lia) (by rw[hj];simpa using ew) fin hs
 .have hj:(i+(its.toArray.size:Int)).toNat=j:=by
   rw[nU (by lia) h4] at h1;rw[zAi,<- hl];exact aH h1
  exact nQ (x:=w) pl.isList.typeIs slot_list_getitem.lookup
   (wpAny_getItem_list_neg (Q:=λr s'=>r=w/\EP X pins σ Q r s') pl.isList (by lia) (by rw[zAi] <;> lia) (by lia) (by rw[hj];simpa using ew) ⟨rfl,fin⟩) hs
def KJ:NW X (NO X.K):=by
 intro value slice pins s σ H x y v u Q I rx ry h hs;obtain⟨p,xs,i,z,rfl,rfl,hq,he,q⟩:=h;cases rx;obtain⟨t,rfl⟩:=ry;obtain⟨its,r,pl,hz⟩:=I.tuple hq;obtain⟨j,h1,h2,h3,h4,h5⟩:=Vo he;obtain⟨w,ew,rw'⟩:=r.get h2;let hl:=r.length;let hn:=Ld;let fin:EP X pins σ Q w s:=⟨z,H,I,rw',q⟩;exact nQ (x:=w) pl.typeIs slot_tuple_getitem.lookup
  (getItem_tuple (j:=j) (Q:=λr s'=>r=w/\EP X pins σ Q r s') pl (by lia) (by lia) (by rw[zAi,<- hl];exact h1) (by simpa using ew) ⟨rfl,fin⟩) hs
def CI:NW X UD:=by
 intro value g pins s σ H x y v u Q I U L h F;obtain⟨z,i,c,rfl,rfl,hz,Z,q⟩:=h;obtain⟨t,rfl⟩:=U;obtain⟨t',rfl⟩:=L;obtain⟨j,h1,Y,h3,B,M⟩:=Vo Z;let hl:z.cps.toList.length=z.length:=by simp [Str.length]
 rw[hl] at h1 B M;let hn:=Ld;exact tail_any (eI s z t) slot_str_getitem.lookup (getItem_str (c:=c) (by
  let e1:decide (i < -(2^63:Int))=ZK:=ZQ (by lia);let S:decide (i≥2^63)=ZK:=ZQ (by lia);rw[e1,S,kO]) (by rw[h1];simpa using Y) ⟨.str ⟨#[c]⟩,H,I.tok _,⟨_,rfl⟩,q⟩) F
def E3 (its:List ZE) (n j:Nat) (u:ZE):ZW (·.setIfInBounds j u) { cls:=.type "list",data:=.seq its.toArray n }={ cls:=.type "list",data:=.seq (its.set j u).toArray n }:=by
 simp [ZW]
def Ed.lst {s:ZG} {p:ZF} {xs:List V} (I:Ed X pins σ H s) (h:H p=ZC (.lst xs)) :
  ∃ (its:List ZE) (n:Nat),Fy xs its/\s.heap.get? p=ZC { cls:=.type "list",data:=.seq its.toArray n }/\xs.length<=sizeLine:=by
 obtain⟨z,its,n,r,e⟩:=I.hok p _ h;exact⟨its,n,r,e,z⟩
def Ed.lstUpd {pins:List (ZF×cP)} {σ:St} {H:Hp} {s:ZG} {p:ZF} {xs ys:List V} {its its':List ZE} {n g:Nat} {f:cP->cP} (I:Ed X pins σ H s) (h:H p=ZC (.lst xs))
  (z:s.heap.get? p=ZC { cls:=.type "list",data:=.seq its.toArray n }) (hf:f { cls:=.type "list",data:=.seq its.toArray n }={ cls:=.type "list",data:=.seq its'.toArray g }) (r:Fy ys its') (hz:ys.length<=sizeLine) (t:Nat) :
  Ed X pins σ (upd H p (.lst ys)) { s with heap:=s.heap.update p f,toks:=t }:=by
 let e:(s.heap.update p f).get? p=ZC { cls:=.type "list",data:=.seq its'.toArray g }:=by
  rw[zCl f z (by rw[hf] <;> rfl),hf]
 refine I.write (x:=p) (e:=p) (by rw[h];trivial) (.inl rfl) (λb u j q=>(zCa _ _ (aR j)).trans q) ⟨_,e⟩ ?_;exact⟨hz,its',g,r,e⟩
def RK:V->V->V->Hp->(Hp->Prop)->Prop:=λo i v H Q=>∃ p xs k j,o=.ref p/\i=.int k/\H p=ZC (.lst xs)/\BL xs.length k=ZC j/\Q (upd H p (.lst (xs.set j v)))
def Xs:SB X RK:=by
 intro pins s σ H o i v ov iv u Q I ro ri Y h;obtain⟨p,xs,k,j,rfl,rfl,M,hj,q⟩:=h;cases ro;obtain⟨t,rfl⟩:=ri;obtain⟨g,n,r,B,Z⟩:=I.lst M;obtain⟨h1,h2,S,L⟩:=K3 hj;let hl:=r.length;let hn:=Ld;let F:Ed X pins σ (upd H p (.lst (xs.set j v))) { s with heap:=s.heap.update p (ZW (·.setIfInBounds j u)) }:=
  I.lstUpd M B (E3 g n j u) (r.set Y j) (by rw[List.length_set];exact Z) s.toks
 by_cases U:0<=k
 .have z:k.toNat=j:=by
   rw[seqIndex_of U L] at h1;exact aH h1
  exact PySem.W.ki_setAt B U (by lia) (by rw[zAi,<- hl];exact L) (by rw[z];exact⟨_,F,q⟩)
 .have z:(k+(g.toArray.size:Int)).toNat=j:=by
   rw[nU (by lia) S] at h1;rw[zAi,<- hl];exact aH h1
  exact PySem.W.ki_setBack B (by lia) (by rw[zAi,<- hl];exact S) (by lia) (by rw[z];exact⟨_,F,q⟩)
def Vj (lo hi:Option Int) (n:Nat):(dW lo hi ZD n).1=((HT.sIx n 0 lo:Nat):Int)/\(dW lo hi ZD n).2.1=((HT.sIx n n hi:Nat):Int)/\(dW lo hi ZD n).2.2=1:=by
 refine⟨?_,?_,rfl⟩
 .cases lo with
  |none=>simp [dW,HT.sIx]
  |some i=>
   simp only [dW,HT.sIx,nM,show (1:Int)>0 by lk,eM];by_cases h:i<0
   .simp only [h,eM] <;> lia
   .simp only [h,cO] <;> lia
 .cases hi with
  |none=>simp [dW,HT.sIx]
  |some i=>
   simp only [dW,HT.sIx,nM,show (1:Int)>0 by lk,eM];by_cases h:i<0
   .simp only [h,eM] <;> lia
   .simp only [h,cO] <;> lia
def Sr (its:List ZE) (lo hi:Option Int):slicePick its.toArray lo hi ZD=((its.drop (HT.sIx its.length 0 lo)).take (HT.sIx its.length its.length hi-HT.sIx its.length 0 lo)).toArray:=by
 obtain⟨h1,j,g⟩:=Vj lo hi its.toArray.size;unfold slicePick;rw[h1,j,g];simp only [sliceRange_one,pick_run,zAi] <;> rfl
def OH (K:zAa):V->Option Int->Option Int->Hp->VK->Prop:=λx lo hi H Q=>∃ a xs,x=.ref a/\Dp K H a xs/\∀ p,H p=ZD->Q (.ref p) (upd H p (.lst (Kd xs lo hi)))
def FV:NZ X (OH X.K):=by
 intro pins s σ H x v vl vu lo hi Z Q I L B z S h;obtain⟨a,xs,rfl,U,q⟩:=h;cases L;obtain⟨F,r,j,M⟩:=I.list U;let g:=r.length;refine⟨"list",_,slot_list_getitem.lookup,j.isList.typeIs,?_⟩;refine wpAny_getItem_list_slice j.isList B z S .none (by simp) ?_ (by rw[zAi] <;> lia);rw[Sr,<- g];refine⟨.ref ⇑s,_,I.laid (t':=s.toks) (o:=.lst (Kd xs lo hi)) (λb Y q=>zAg _ q) (zAl _) ?_,rfl,q _ (I.hok.fresh (zAl _))⟩;exact⟨zAD (Ou xs lo hi) M,_,0,(r.drop (HT.sIx xs.length 0 lo)).take (HT.sIx xs.length xs.length hi-HT.sIx xs.length 0 lo),zAF _ rfl⟩
def Eo:V->Bool
 |.non=>ZI
 |.bl _=>ZI
 |.int _=>ZI
 |.str _=>ZI
 |_=>ZK
def W1:V->V->Bool
 |.non,.non=>ZI
 |.bl a,.bl b=>a==b
 |.bl a,.int b=>(if a then 1 else 0)==b
 |.int a,.bl b=>a==(if b then 1 else 0)
 |.int a,.int b=>a==b
 |.str a,.str b=>a==b
 |_,_=>ZK
def CW {A:aE} {s:ZG} {y x:V} {u v:ZE} (q:Kl y u) (g:Kl x v) (B:Eo y=ZI) (z:Eo x=ZI):bU A s u v (W1 y x):=by
 cases y with
 |non=>
  cases q
  cases x with
  |non=>cases g;exact SeqAt.EqAt.same _
  |bl b=>cases g;exact SeqAt.EqAt.none_bool b
  |int b=>obtain⟨t,rfl⟩:=g;exact SeqAt.EqAt.none_int b t
  |str b=>obtain⟨t,rfl⟩:=g;exact SeqAt.EqAt.none_str b t
  |_=>exact ZR (show ZK=ZI from z) zAt
 |bl a=>
  cases q
  cases x with
  |non=>cases g;exact SeqAt.EqAt.bool_none a
  |bl b=>cases g;exact SeqAt.EqAt.bool_bool a b
  |int b=>obtain⟨t,rfl⟩:=g;exact SeqAt.EqAt.bool_int a b t
  |str b=>obtain⟨t,rfl⟩:=g;exact SeqAt.EqAt.bool_str a b t
  |_=>exact ZR (show ZK=ZI from z) zAt
 |int a=>
  obtain⟨j,rfl⟩:=q;cases x with
  |non=>cases g;exact SeqAt.EqAt.int_none a j
  |bl b=>cases g;exact SeqAt.EqAt.int_bool a j b
  |int b=>obtain⟨t,rfl⟩:=g;exact SeqAt.EqAt.int_int a j b t
  |str b=>obtain⟨t,rfl⟩:=g;exact kK a j b t
  |_=>exact ZR (show ZK=ZI from z) zAt
 |str a=>
  obtain⟨j,rfl⟩:=q;cases x with
  |non=>cases g;exact SeqAt.EqAt.str_none a j
  |bl b=>cases g;exact SeqAt.EqAt.str_bool a j b
  |int b=>obtain⟨t,rfl⟩:=g;exact kJ a j b t
  |str b=>obtain⟨t,rfl⟩:=g;exact SeqAt.EqAt.str_str a j b t
  |_=>exact ZR (show ZK=ZI from z) zAt
 |_=>exact ZR (show ZK=ZI from B) zAt
def C6 (x:V) (u:ZE):Bool:=match u with
 |.none=>W1 .non x
 |.bool b=>W1 (.bl b) x
 |.int i _=>W1 (.int i) x
 |.str z _=>W1 (.str z) x
 |_=>ZK
def CZ {x y:V} {u:ZE} (r:Kl y u) (f:Eo y=ZI):C6 x u=W1 y x:=by
 cases y with
 |non=>cases r;rfl
 |bl b=>cases r;rfl
 |int i=>obtain⟨t,rfl⟩:=r;rfl
 |str z=>obtain⟨t,rfl⟩:=r;rfl
 |_=>exact ZR (show ZK=ZI from f) zAt
theorem Ls {x:V}:∀ {xs} {us},Fy xs us->xs.all Eo=ZI->us.any (C6 x)=xs.any λy=>W1 y x
 |_,_,.nil,_=>rfl
 |y::xs,u::us,.cons r t,f=>by
  rw[zCr,zAo] at f;rw[zCB,zCB,CZ r f.1,Ls t f.2]
theorem Jh {A:aE} {s:ZG} {x:V} {v:ZE} (j:Kl x v) (q:Eo x=ZI):∀ {xs} {us},Fy xs us->xs.all Eo=ZI->∀ u∈us,bU A s u v (C6 x u)
 |_,_,.nil,_=>λu g=>by cases g
 |y::xs,u::us,.cons r t,f=>λz g=>by
  rw[zCr,zAo] at f;rcases zAj.mp g with rfl|g
  .rw[CZ r f.1];exact CW r j f.1 q
  .exact Jh j q t f.2 z g
def SW (x:V) (xs:List V):Bool:=xs.any λy=>W1 y x
def VV (K:zAa) (neg:Bool):R2:=λx y H Q=>∃ p xs,y=.ref p/\(Dp K H p xs\/Hx K H p xs)/\Eo x=ZI/\xs.all Eo=ZI/\Q (.bl (if neg then !SW x xs else SW x xs)) H
def T9:Kb X (aT .In) (VV X.K ZK):=by
 intro pins s σ H x y v u Q I F L h;obtain⟨p,xs,rfl,hq,B,fs,q⟩:=h;cases L;rcases hq with hq|hq
 .obtain⟨g,r,j,M⟩:=I.list hq
  refine SeqAt.in_listAt (C6 x) j.isList (λw z=>Jh F B r fs w (by simpa using z)) ⟨.bl _,H,I,rfl,?_⟩;rw[show g.toArray.any (C6 x)=g.any (C6 x) by simp,Ls r fs];exact q
 .obtain⟨g,r,j,M⟩:=I.tuple hq
  refine SeqAt.in_tupleAt (C6 x) j (λw z=>Jh F B r fs w (by simpa using z)) ⟨.bl _,H,I,rfl,?_⟩;rw[show g.toArray.any (C6 x)=g.any (C6 x) by simp,Ls r fs];exact q
def Wb:Kb X (aT .NotIn) (VV X.K ZI):=by
 intro pins s σ H x y v u Q I F L h;obtain⟨p,xs,rfl,hq,B,fs,q⟩:=h;cases L;rcases hq with hq|hq
 .obtain⟨g,r,j,M⟩:=I.list hq
  refine SeqAt.notIn_listAt (C6 x) j.isList (λw z=>Jh F B r fs w (by simpa using z)) ⟨.bl _,H,I,rfl,?_⟩;rw[show g.toArray.any (C6 x)=g.any (C6 x) by simp,Ls r fs];exact q
 .obtain⟨g,r,j,M⟩:=I.tuple hq
  refine SeqAt.notIn_tupleAt (C6 x) j (λw z=>Jh F B r fs w (by simpa using z)) ⟨.bl _,H,I,rfl,?_⟩;rw[show g.toArray.any (C6 x)=g.any (C6 x) by simp,Ls r fs];exact q
def Wx:Kb X (aT .NotIn) (λx y H Q=>∃ i j,x=.str i/\y=.str j/\Q (.bl (!(!(dX j i 0 j.length 1).isEmpty))) H):=by
 intro pins s σ H x y v u Q I g z h;obtain⟨i,j,rfl,rfl,q⟩:=h;obtain⟨t,rfl⟩:=g;obtain⟨B,rfl⟩:=z;exact notIn_str ⟨.bl _,H,I,rfl,q⟩
def Ws:Fq X (.builtin "len") (λxs H Q=>∃ p ys,xs=[.ref p]/\(Dp X.K H p ys\/Hx X.K H p ys)/\Q (.int ys.length) H):=by
 intro pins s σ H xs M Q I r h;obtain⟨p,ys,rfl,hq,q⟩:=h;obtain⟨u,rfl,F⟩:=Ki r;cases F;let S:=Ld;rcases hq with hq|hq
 .obtain⟨z,B,j,L⟩:=I.list hq
  let g:=B.length;exact Calls.call_len_list j.isList (by simp only [zAi] <;> lia) ⟨.int ys.length,H,I.tok _,⟨s.toks+1,by rw[zAi,g]⟩,q⟩
 .obtain⟨z,B,j,L⟩:=I.tuple hq
  let g:=B.length;exact len_tuple j (by simp only [zAi] <;> lia) ⟨.int ys.length,H,I.tok _,⟨s.toks+1,by rw[zAi,g]⟩,q⟩
def Ww:Fq X (.builtin "len") (λxs H Q=>∃ z,xs=[.str z]/\z.length<=sizeLine/\Q (.int z.length) H):=by
 intro pins s σ H xs g Q I r h;obtain⟨z,rfl,B,q⟩:=h;obtain⟨u,rfl,t,rfl⟩:=Ki r;let j:=Ld;exact len_str (by lia) ⟨.int z.length,H,I.tok _,⟨_,rfl⟩,q⟩
def Xd:Fq X (.type "list") (λxs H Q=>∃ p ys,xs=[.ref p]/\(Dp X.K H p ys\/Hx X.K H p ys)/\∀ l,H l=ZD->Q (.ref l) (upd H l (.lst ys))):=by
 intro pins s σ H xs us Q I r h;obtain⟨p,ys,rfl,hq,q⟩:=h;obtain⟨u,rfl,rx⟩:=Ki r;cases rx;let B:∀ (g:List ZE),Fy ys g->ys.length<=sizeLine->∀ (h':aB) (j:Nat),(∀ b o',s.heap.get? b=ZC o'->h'.get? b=ZC o') ->
   h'.get? ⇑s=ZC { cls:=.type "list",dict:=ZD,data:=.seq g.toArray j,slots := #[] }->EP X pins σ Q (.ref ⇑s) { s with heap:=h' }:=λg z M h' j L e=>
  ⟨.ref ⇑s,_,I.laid (t':=s.toks) L (zAl _) (show XF X.prog X.w _ h' _ (.lst ys) from ⟨M,g,j,z,e⟩),rfl,q _ (I.hok.fresh (zAl _))⟩
 rcases hq with hq|hq
 .obtain⟨g,z,S,M⟩:=I.list hq
  let F:=z.length;obtain⟨o,Z,Y,n,U⟩:=S.isList;exact call_list_seq p (.inl rfl) Z Y U (λh' j L e=>B g z M h' j L e) (by simp only [zAi] <;> lia)
 .obtain⟨g,z,S,M⟩:=I.tuple hq
  let F:=z.length;obtain⟨o,Z,Y,n,U⟩:=S;exact call_list_seq p (.inr rfl) Z Y U (λh' j L e=>B g z M h' j L e) (by simp only [zAi] <;> lia)
def VG (K:zAa) (T:String) (x:V) (H:Hp):Prop:=match x with
 |.str _=>T="str"
 |.int _=>T="int"
 |.ref p=>(T="list"/\∃ xs,Dp K H p xs)\/(T="tuple"/\∃ o,K.lookup p=ZC o/\o.cls=.type "tuple"/\o.dict=ZD) \/
   (T="dict"/\((∃ kvs,H p=ZC (.dK kvs))\/∃ kvs,H p=ZC (.dT kvs)))\/(T="set"/\∃ S n,H p=ZC (.set S n))
 |_=>False
def DF {s:ZG} {T:String} {x:V} {v:ZE} (I:Ed X pins σ H s) (r:Kl x v) (ty:VG X.K T x H) :
  s.TypeIs v T/\∀ a,v=.ref a->∃ F,s.heap.get? a=ZC F/\F.dict=ZD:=by
 cases x with
 |str z=>
  obtain⟨t,rfl⟩:=r;cases (show T="str" from ty);exact⟨eI s z t,λ_ e=>nomatch e⟩
 |int i=>
  obtain⟨t,rfl⟩:=r;cases (show T="int" from ty);exact⟨typeIs_int s i t,λ_ e=>nomatch e⟩
 |ref p=>
  cases r
  rcases ty with ⟨rfl,xs,hq⟩|⟨rfl,o,g,U,q⟩|⟨rfl,g⟩|⟨rfl,S,n,g⟩
  .obtain⟨M,_,L,_⟩:=I.list hq
   refine⟨L.isList.typeIs,λa e=>?_⟩;cases e;obtain⟨o,n,e,c,q,_⟩:=L;exact⟨o,e,q⟩
  .refine⟨⟨o,I.kIn p o g,U⟩,λa e=>?_⟩
   cases e
   exact⟨o,I.kIn _ o g,q⟩
  .have z:∃ o,s.heap.get? p=ZC o/\o.ExactDict:=by
    rcases g with ⟨j,g⟩|⟨j,g⟩
    .obtain⟨_,_,_,_,o,_,_,e,ex,_⟩:=I.hok p _ g
     exact⟨o,e,ex⟩
    .obtain⟨_,_,_,_,o,_,_,e,ex,_⟩:=I.hok p _ g
     exact⟨o,e,ex⟩
   obtain⟨o,e,ex⟩:=z;refine⟨⟨o,e,ex.1⟩,λa B=>?_⟩;cases B;exact⟨o,e,ex.2.1⟩
  .obtain⟨o,_,_,_,e,ex,_⟩:=I.hok p _ g
   refine⟨⟨o,e,ex.1⟩,λa B=>?_⟩;cases B;exact⟨o,e,ex.2.1⟩
 |_=>exact aV ty
def VC (K:zAa) (T:String) (r:V->List V->Hp->VK->Prop) (to:TE):TE:=λσ H Q=>to σ H λx H1=>VG K T x H1/\r x [] H1 Q
def VY (K:zAa) (T:String) (r:V->List V->Hp->VK->Prop) (to:TE) (t:TA):TE:=λσ H Q=>to σ H λx H1=>VG K T x H1/\t σ H1 λxs H2=>r x xs H2 Q
variable {o e:bA} {es:List bA} {to:TE} {t:TA} {name:ZM} {apos cpos:Pos} {T id:String} {r:V->List V->Hp->VK->Prop}
def KM (M:PlainAttrs T) (slot:Slot T name id) (j:nP (.builtin id)=pure (.type "method_descriptor")) (F:TU X id r) (S:PE X o to)
  (g:dB o name X.env (aM o X.env)=aM o X.env:=by rfl) (hline:(apos.endLine==cpos.line)=ZI:=by rfl):PE X (.Call (.Attribute o name apos) [] [] cpos) (VC X.K T r to):=by
 intro pins s σ H Q I h;refine wpAny_Call_method0_late g hline (Cb (S pins s σ H _ I h) λv L ⟨x,H1,q,z,ty,B⟩=>?_);obtain⟨h1,U⟩:=DF q z ty;exact⟨T,id,M,slot,j,h1,U,eX rfl (PySem.evalArgs_none (F pins L σ H1 x [] v [] Q q z .nil B))⟩
def QL (pa:PlainAttrs T) (slot:Slot T name id) (j:nP (.builtin id)=pure (.type "method_descriptor")) (M:TU X id r) (ho:PE X o to) (Y:PA X (e::es) t)
  (g:dB o name X.env (aM o X.env)=aM o X.env:=by rfl)
  (hfew:((bC cpos (ZU (e::es) X.env)).all (λx => !x.1)&&(eQ cpos (cS [] X.env)).all (λx=>x.1.isSome)
   && decide ((e::es).length+([]:List lH).length+(if ([]:List lH).isEmpty then 0 else 1)<30))=ZI:=by rfl)
  (hline:(apos.endLine==cpos.line)=ZI:=by rfl) (hs:ZU (e::es) X.env=(ZK,aM e X.env)::ZU es X.env:=by rfl) (hplain:(bC cpos (ZU es X.env)).any (·.1)=ZK:=by rfl) :
  PE X (.Call (.Attribute o name apos) (e::es) [] cpos) (VY X.K T r to t):=by
 intro pins s σ H Q I h;refine wpAny_Call_method_late g hfew hline rfl (Cb (ho pins s σ H _ I h) λv Z ⟨x,H1,q,B,ty,F⟩=>?_);obtain⟨h1,h2⟩:=DF q B ty;refine⟨T,id,pa,slot,j,h1,h2,?_⟩;let z:=Y cpos pins Z σ H1 _ q F;rw[hs] at z ⊢;refine eX (by show (ZK||(bC cpos (ZU es X.env)).any (·.1))=ZK;rw[hplain] <;> rfl) (mF ?_);exact Cb z λus s2 ⟨vs,S,L,U,q2⟩=>M pins s2 σ S x vs v us Q L B U q2
end
def NX (X:Cx) (id:String) (r:V->List V->Hp->VK->Prop):Prop:=
 ∀ (pins:List (ZF×cP)) (s:ZG) (σ:St) (H:Hp) (x:V) (xs:List V) (v:ZE) (us:List ZE) (Q:VK),Ed X pins σ H s->Kl x v->Fy xs us->r x xs H Q ->
  ZP (ZS X.prog X.w) X.A (call (.builtin id) (v::us)) (EP X pins σ Q) X.xe s
theorem Fy.one:∀ {x} {us},Fy [x] us->∃ u,us=[u]/\Kl x u
 |_,_,.cons r .nil=>⟨_,rfl,r⟩
theorem Fy.zero:∀ {us},Fy [] us->us=[]
 |_,.nil=>rfl
def Fy.dropLast {xs:List V} {us:List ZE} (h:Fy xs us):Fy xs.dropLast us.dropLast:=by
 induction h with
 |nil=>exact .nil
 |cons r t ih=>
  cases t with
  |nil=>exact .nil
  |cons q g=>exact .cons r ih
def C5 {α:Type} (l:List α):l.eraseIdx (l.length-1)=l.dropLast:=by
 induction l with
 |nil=>rfl
 |cons a r ih=>
  cases r with
  |nil=>rfl
  |cons b r=>
   let e:(a::b::r).length-1=((b::r).length-1)+1:=by
    let h1:(a::b::r).length=r.length+2:=rfl;let g:(b::r).length=r.length+1:=rfl
    lia
   rw[e,List.eraseIdx_cons_succ,ih]
   all_goals rfl
def Ed.lset {its its':List ZE} {n:Nat} {f:Array ZE->Array ZE} {t':Nat} (I:Ed X pins σ H s) (z:H l=ZC (.lst xs))
  (e:s.heap.get? l=ZC { cls:=.type "list",data:=.seq its.toArray n }) (hf:f its.toArray=its'.toArray) (hv:Fy ys its') (hz:ys.length<=sizeLine) :
  Ed X pins σ (upd H l (.lst ys)) { s with heap:=s.heap.update l (ZW f),toks:=t' }:=by
 let q:=PySem.IsL.update e f;rw[hf] at q;refine I.write (x:=l) (e:=l) (by rw[z];exact trivial) (.inl rfl) (λB u j g=>(zCa s.heap (ZW f) (aR j)).trans g) ⟨_,q⟩ ?_;exact⟨hz,its',_,hv,q⟩
def Ed.lnew {its:List ZE} {t':Nat} (I:Ed X pins σ H s) (j:Fy ys its) (g:ys.length<=sizeLine) :
  Ed X pins σ (upd H ⇑s (.lst ys)) { s with heap:=s.heap.push { cls:=.type "list",data:=.seq its.toArray },toks:=t' }:=
 I.laid (λ_ _ q=>zAg _ q) (zAl _) ⟨g,its,0,j,zAF _ rfl⟩
def Ed.fresh (I:Ed X pins σ H s):H ⇑s=ZD:=I.hok.fresh (zAl _)
def Ed.lstM (I:Ed X pins σ H s) (g:H l=ZC (.lst xs)):xs.length<=sizeLine/\∃ (its:List ZE) (n:Nat),Fy xs its/\xs.length=its.length/\s.heap.get? l=ZC { cls:=.type "list",data:=.seq its.toArray n }:=by
 obtain⟨z,its,n,r,e⟩:=I.hok l _ g;exact⟨z,its,n,r,r.length,e⟩
def Zs {n:Nat} (h:n<=sizeLine):cK n=ZK:=by
 unfold cK;exact ZQ (by lia)
def GH:V->List V->Hp->VK->Prop:=λx vs H Q=>∃ l xs y,x=.ref l/\vs=[y]/\H l=ZC (.lst xs)/\xs.length<sizeLine/\Q .non (upd H l (.lst (xs++[y])))
def Bw:NX X "list.append" GH:=by
 intro pins s σ H x vs v S Q I L B h;obtain⟨l,xs,y,rfl,rfl,j,U,q⟩:=h;cases L;obtain⟨u,rfl,M⟩:=B.one;obtain⟨z,g,n,r,hl,e⟩:=I.lstM j;refine eO F.slot_list_append ⟨_,e,rfl⟩ F.entry_list_append (F.args_list_append_2 _ _) (PySem.list_append l g.toArray n u (by rw[zAi];lia)) ⟨e,?_⟩;refine⟨.non,_,I.lset (its':=g++[u]) j e (by simp) (r.append (.cons M .nil)) ?_,rfl,q⟩;rw[zAm,zAN]
 lia
def FB:V->List V->Hp->VK->Prop:=λx vs H Q=>∃ l b xs zs,x=.ref l/\vs=[.ref b]/\H l=ZC (.lst xs)/\H b=ZC (.lst zs)/\xs.length+zs.length<=sizeLine/\Q .non (upd H l (.lst (xs++zs)))
def Hh:NX X "list.extend" FB:=by
 intro pins s σ H x vs v us Q I rx S h;obtain⟨l,b,xs,zs,rfl,rfl,M,Y,hz,q⟩:=h;cases rx;obtain⟨u,rfl,ru⟩:=S.one;cases ru;obtain⟨z,j,n,r,hl,e⟩:=I.lstM M;obtain⟨z2,g,n2,Z,U,e2⟩:=I.lstM Y;let L:j.toArray.size+g.toArray.size<=sizeLine:=by rw[zAi,zAi];lia
 let B:¬ (!j.toArray.isEmpty&&cK (j.toArray.size+g.toArray.size))=ZI:=by
  rw[Zs L,zCm];exact zAt
 refine eO F.slot_list_extend ⟨_,e,rfl⟩ oY (oH _ _)
  (AutoSeq1.list_extend_list_list_0 l j.toArray n b g.toArray n2 B (by rw[zAi];lia) (by lia)) ⟨e,e2,?_⟩
 refine⟨.non,_,I.lset (its':=j++g) M e (by simp) (r.append Z) ?_,rfl,q⟩;rw[zAm]
 lia
def TL:V->List V->Hp->VK->Prop:=λx vs H Q=>∃ l xs y,x=.ref l/\vs=[]/\H l=ZC (.lst xs)/\xs[xs.length-1]?=ZC y/\Q y (upd H l (.lst xs.dropLast))
def MG:NX X "list.pop" TL:=by
 intro pins s σ H x vs v us Q I S M h;obtain⟨l,xs,y,rfl,rfl,L,Z,q⟩:=h;cases S;let B:=M.zero;subst B;obtain⟨z,g,n,r,hl,e⟩:=I.lstM L;obtain⟨u,Y,U⟩:=r.get Z;let j:g.toArray[g.toArray.size-1]?=ZC u:=by
  show g.toArray[g.length-1]?=ZC u;rw[<- zBu,<- hl];exact Y
 refine eO F.slot_list_pop ⟨_,e,rfl⟩ F.entry_list_pop (F.args_list_pop_1 _) (MeetsSeq.list_pop_last l g.toArray n u j (by rw[zAi];lia)) ⟨e,?_⟩;refine⟨y,_,I.lset (its':=g.dropLast) L e ?_ r.dropLast ?_,U,q⟩
 .show g.toArray.eraseIdxIfInBounds (g.toArray.size-1)=g.dropLast.toArray
  rw[zAi,List.eraseIdxIfInBounds_toArray,C5]
 .rw[List.length_dropLast]
  lia
def SZ:R2:=λx y H Q=>∃ l b xs zs,x=.ref l/\y=.ref b/\H l=ZC (.lst xs)/\H b=ZC (.lst zs)/\xs.length+zs.length<=sizeLine/\∀ p,H p=ZD->Q (.ref p) (upd H p (.lst (xs++zs)))
def Kz:Kb X (dA .Add) SZ:=by
 intro pins s σ H x y v u Q I Y S h;obtain⟨l,b,xs,zs,rfl,rfl,Z,F,hz,q⟩:=h;cases Y;cases S;obtain⟨z,j,n,r,hl,e⟩:=I.lstM Z;obtain⟨z2,g,n2,M,B,U⟩:=I.lstM F;refine PySem.P.add_list e U ?_ (by rw[zAi,zAi];lia);let L:j.toArray++g.toArray=(j++g).toArray:=by simp
 rw[L];exact⟨.ref _,_,I.lnew (t':=s.toks) (r.append M) (by rw[zAm];lia),rfl,q _ I.fresh⟩
end L2
namespace Att
open PySem PySem.W PySem.Calls PyProof.Rows
def Pc {P:Params} {h:aB}:∀ (ns:List Int) (vs:List ZE),WellAll P h vs (ns.map WData.int)->cC vs ns:=by
 intro ns
 induction ns with
 |nil=>
  intro vs w;rw[zBv] at w;cases w;exact .nil
 |cons n ns ih=>
  intro vs w;rw[zAp] at w;cases w with
  |cons a b=>
   cases a
   exact .cons _ _ (ih _ b)
def U0 {l:OpenLaw} {n:Nat} (hn:l.most=ZC n) {P:Params} {h:aB} {args:List WData} {vals:List ZE}
  (j:l.row.toRowW.claim.pre args=ZI) (M:WellAll P h vals args) :
  ∃ a vs ns,vals=[aI a]/\args=[WData.list (ns.map WData.int)]/\h.get? a=ZC { cls:=.type "list",data:=.seq vs.toArray }/\cC vs ns/\ns.length<=n:=by
 let S:WShape.hasAll [] args [.list .int]=ZI:=(pre_splitW j).1;let U:l.pre.holds [] { args:=args }=ZI:=(pre_splitW j).2;obtain⟨d,r,rfl,h1,h2⟩:=hasAllW_cons S;obtain rfl:=hasAllW_nil h2;obtain⟨xs,rfl,h3⟩:=hasW_list h1;obtain⟨ns,rfl⟩:=items_int h3;let B:ns.length<=n:=by
  unfold OpenLaw.pre at U;let F:(WTm.not (.lt (.lit (.int (n:Int))) (.len (.arg 0)))).holds [] { args:=[.list (ns.map .int)] }=ZI:=by
   let F:=(holds_andW U).1;rw[hn] at F;exact F
  let L:=condW_of F (w_not (w_lt w_lit (w_len_list (w_arg rfl))));rw[zAc] at L;refine Nat.le_of_not_lt λq=>?_;let q':(n:Int)<((ns.length:Nat):Int):=by lia
  first
   |(rw[g q'] at L;exact ZR L (by lk))
   |(simp at L;lia)
 cases M with
 |cons Z Y=>
  cases Y
  cases Z with
  |list ho z=>exact⟨_,_,ns,rfl,rfl,ho,Pc ns _ z,B⟩
def T0 (l:OpenLaw) (args:List WData):l.row.toRowW.claim.post args (.bool ZI) args=ZI:=
 postW_of (r:=l.row.toRowW) (X:=(ZI==ZI))
  (show WShape.has [] (.bool ZI) .bool=ZI by first|rfl|decide|simp [WShape.has,WShape.arms,WShape.armsAll])
  (show (WTm.eq .res (.lit (.bool ZI))).value [] { args:=args,res:=ZC (.bool ZI),after:=args }=ZC (.bool (ZI==ZI)) from w_eq_bool (w_res rfl) w_lit) rfl
def attach_call {l:OpenLaw} {n:Nat} {q:ZO} {j:List ZM} {XP:(ZM->Option ZE)->aB->Prop} {YP:ZX->aB->Prop} {d:DefRec}
  (hn:l.most=ZC n) (ad:d.params.defaults=[])
  (call:∀ (w:ZX) (s₀ g:ZG) (mg Z:ZM->Option ZE) (S:ZF) (o:cP) (pm U z:ZE) (a:ZF) (vs:List ZE) (ns:List Int),
   Ground q j [] XP w s₀ mg Z g.heap->YP w g.heap ->
   g.heap.get? S=ZC o->o.data=.func (docDef d.name d.params d.body d.scope pm U z)->g.heap.CodeRec U d.name->mg d.name=ZC (.ref S) ->
   g.heap.get? a=ZC { cls:=.type "list",data:=.seq vs.toArray }->cC vs ns->ns.length<=n->g.gens = #[] ->
   dD (ZS l.prog w) jG (.call (.ref S) ⟨[.ref a],[]⟩) (λr s'=>r=.ok (.ret (.bool ZI))/\OldK g.heap s'.heap/\s'.os=g.os/\gI s'.gens) g) :
  WalkO q j XP YP l.row.toRowW d [] (λf vs=>mT f vs):=by
 intro w s₀ g mg Z G Y S o pm U z dV kV ho hd ab hD ac hg ae vals as L af ag aa ah;obtain rfl:dV=.none:=Dflts.none hD ad;obtain rfl:kV=.none:=Dflts.noKw hD;obtain⟨a,vs,ns,rfl,rfl,M,B,F⟩:=U0 hn L aa;refine enter_call (dM (call w s₀ g mg Z S o pm U z a vs ns G Y ho (fd_plain hd) ab ac M B F hg) λr s' hq=>?_);obtain⟨rfl,h2,h3,h4⟩:=hq;exact⟨.inl ⟨.bool ZI,.bool ZI,[],rfl,λ_=>rfl,.bool ZI,T0 l _,λ_=>⟨jU,λ_ hm=>(nomatch hm)⟩⟩,h2,h3,h4⟩
end Att
namespace L2
open PySem PySem.Spec PyProof.Rows
theorem Uh:∀ {vs} {ns:List Int},cC vs ns->Fy (ns.map V.int) vs
 |_,_,.nil=>.nil
 |_,_,.cons n t h=>.cons ⟨t,rfl⟩ (Uh h)
def Au (s:bM) (j:Nat):bM:=match s with
 |.ClassDef _ _ _ body _ _ _ _ _ _ _=>body.getD j (.Pass ⟨0,0,0,0⟩)
 |_=>.Pass ⟨0,0,0,0⟩
def Ck (s:bM):Arguments:=match s with
 |.FunctionDef _ a _ _ _ _ _ _ _ _=>a
 |_=>{ posonlyargs:=[],args:=[],vararg:=ZD,kwonlyargs:=[],kw_defaults:=[],kwarg:=ZD,defaults:=[] }
def Bp (s:bM):List bM:=match s with
 |.FunctionDef _ _ b _ _ _ _ _ _ _=>b
 |_=>[]
def Aq (s:bM):fY:=match s with
 |.FunctionDef _ _ _ _ _ _ sc _ _ _=>sc
 |_=>{ kind:=.function,names:=[],isGenerator:=ZK,isCoroutine:=ZK }
abbrev Ew:EV:=λ_ _ _ _ _ _=>False
abbrev E0:XK:=λ_ _ _=>False
def Tt {X:Cx}:Ky Ew X E0:=λ_ _ _ _ _ _ _ h=>h.elim
structure XS (K:zAa) (x qual:ZM) (st:bM) (f:ZF) (fd:eR):Prop where
 ex:∃ (oc:ZE) (od:Option ZF) (kV doc pm:ZE) (an:Option ZF) (cdv ct:ZE) (osl:Array (Option ZE)),
  fd=zAU x qual (Ck st) (Bp st) (Aq st) .none kV doc pm an cdv ct/\K.lookup f=ZC ⟨oc,od,.func fd,osl⟩/\zBi K cdv qual=ZI
 kp:zAP K (.ref f)=ZI
section
variable {P:ZO} {w:ZX} {K:zAa} {mg:ZM->Option ZE} {base:aB}
def XS.ok {x qual} {st} {f} {fd} {N ps} {k:Nat} {sp} (F:XS K x qual st f fd) (S:By N ps (Aq st)) (len:∀ vs H Q E,sp vs H Q E->vs.length=ps.length)
  (g:∀ (cdv:ZE) (A:aE) (outer:List kF) (s:ZG) (H:Hp) (vs:List V) (Q:VK) (E:XK),XE k (A.deeper (dO qual (Aq st) ⇑s f cdv))->sp vs H Q E ->
   ∃ t,PSs (Kq Ew P w K mg base N qual (Aq st) f cdv A outer s H E).nox (Bp st) t/\t { nx:=λ_ H'=>Q .non H',rt:=Q } (Fi N vs) H):XB P w K mg base Ew (k+1) f fd ps sp:=by
 obtain⟨Y,Z,kV,B,U,an,cdv,ct,L,rfl,M,z⟩:=F.ex;refine BS M z S len λA outer s H vs Q E hr j=>?_;obtain⟨t,h,q⟩:=g cdv A outer s H vs Q E hr j;exact⟨t,h.nox,q⟩
def XS.binds {x qual} {st} {f} {fd} {ps} (F:XS K x qual st f fd)
  (h:∀ (kV g j:ZE) (q:Option ZF) (cdv z:ZE) (us:List ZE),us.length=ps.length->hG (zAU x qual (Ck st) (Bp st) (Aq st) .none kV g j q cdv z) ⟨us,[]⟩=pure (ps.zip us)):XM K fd ps []:=by
 obtain⟨S,M,kV,g,j,q,cdv,z,L,rfl,U,B⟩:=F.ex;exact .all (h kV g j q cdv z)
def Wg {x qual} {st} {f} {F} {L z} {j} {kV g q cdv B} (l:K.lookup f=ZC ⟨F,L,.func (zAU x qual (Ck st) (Bp st) (Aq st) .none kV g q z cdv B),j⟩)
  (c:zBi K cdv qual=ZI) (k:zAP K (.ref f)=ZI):XS K x qual st f (zAU x qual (Ck st) (Bp st) (Aq st) .none kV g q z cdv B):=⟨⟨F,L,kV,g,q,z,cdv,B,j,rfl,l,c⟩,k⟩
end
def Rh {A:aE} {k:Nat} (hr:XE k A):A.units+1<bX:=zBW (Nat.add_le_add_left (by decide:1<=64) _) hr.units
def S0 {n:Nat} (h:n<=1000):n<sizeLine:=zBW h (by lk)
def pv (i:Nat) {x:ZM} (g:X.N[i]?=ZC x:=by rfl) (hv:TN X.env.scope x:=by first|exact Or.inl rfl|exact Or.inr (Or.inl rfl)|exact Or.inr (Or.inr rfl)) (hd:(x==("__debug__" : ZM))=ZK:=by lk)
  (hcd:(x==("__classdict__" : ZM))=ZK:=by lk):PE X (.Name x pos) (KU i):=LR g hv hd hcd
def Du {A B:Prop} (h:B):if ZK=ZI then A else B:=by
 rw[ZH zAt];exact h
def Jb {A B:Prop} (h:A):if ZI=ZI then A else B:=by
 rw[ZJ rfl];exact h
def Rx {c A B:Prop} [Decidable c] (h1:c->A) (g:¬ c->B):if c then A else B:=by
 by_cases h:c
 .rw[ZJ h]
  exact h1 h
 .rw[ZH h]
  exact g h
def Dg (H H':Hp):Prop:=∀ b o,H b=ZC o->H' b=ZC o
def Dg.refl (H:Hp):Dg H H:=λ_ _ h=>h
def Dg.trans (a:Dg H H1) (b:Dg H1 H2):Dg H H2:=λc o h=>b c o (a c o h)
def Dg.free {H H':Hp} (e:Dg H H') {l:ZF} (h:H' l=Option.none):H l=Option.none:=by
 cases q:H l with
 |none=>rfl
 |some o=>
  rw[e l o q] at h;cases h
def Dg.seq {K} {H H'} {a} {xs} (e:Dg H H') (h:Dp K H a xs):Dp K H' a xs:=by
 rcases h with (h|⟨o,h⟩)|h
 .exact .inl (.inl (e _ _ h))
 .exact .inl (.inr ⟨o,e _ _ h⟩)
 .exact .inr h
section
variable {κ:Type} [DecidableEq κ]
def Dx (kvs:List (κ×V)) (k:κ):Option V:=(kvs.find? λkv=>decide (kv.1=k)).map (·.2)
def Dz (kvs:List (κ×V)) (k:κ) (v:V):List (κ×V):=
 if (kvs.any λkv=>decide (kv.1=k))=ZI then kvs.map (λkv=>if kv.1=k then (kv.1,v) else kv) else kvs++[(k,v)]
def Dk {p:κ×V} {r:List (κ×V)} {k:κ} (e:p.1=k):Dx (p::r) k=ZC p.2:=by simp [Dx,zBX,e]
def Dm {p:κ×V} {r:List (κ×V)} {k:κ} (e:¬ p.1=k):Dx (p::r) k=Dx r k:=by simp [Dx,zBX,e]
theorem Mg (k:κ):∀ g:List (κ×V),(g.any λj=>decide (j.1=k))=(Dx g k).isSome
 |[]=>rfl
 |p::r=>by
  rw[zCB];by_cases e:p.1=k
  .simp only [Dk e,ZN e,Bool.true_or,Option.isSome_some]
  .rw[Dm e,ZQ e,gU];exact Mg k r
theorem Yu (k j:κ) (y:V):∀ g:List (κ×V),Dx (g.map λq=>if q.1=k then (q.1,y) else q) j=(Dx g j).map λx=>if j=k then y else x
 |[]=>rfl
 |p::r=>by
  let ih:=Yu k j y r;rw[zAp];by_cases h:p.1=k
  .rw[ZJ h]
   by_cases e:p.1=j
   .rw[Dk (p:=(p.1,y)) e,Dk e,zBY,ZJ (e.symm.trans h)]
   .rw[Dm (p:=(p.1,y)) e,Dm e,ih]
  .rw[ZH h]
   by_cases e:p.1=j
   .rw[Dk (p:=p) e,Dk e,zBY,ZH (λz=>h (e.trans z))]
   .rw[Dm (p:=p) e,Dm e,ih]
theorem Uz (k j:κ) (y:V):∀ g:List (κ×V),Dx g k=ZD->Dx (g++[(k,y)]) j=if j=k then ZC y else Dx g j
 |[],_=>by
  by_cases e:k=j
  .rw[ZJ e.symm];exact Dk (p:=(k,y)) e
  .rw[ZH (λz=>e z.symm)];exact Dm (p:=(k,y)) e
 |p::r,q=>by
  rw[zCC];let B:¬ p.1=k:=λz=>by rw[Dk z] at q;cases q
  rw[Dm B] at q;let ih:=Uz k j y r q;by_cases e:p.1=j
  .rw[Dk e,Dk e,ZH (λz=>B (e.trans z))]
  .rw[Dm e,Dm e,ih]
def Iy (kvs:List (κ×V)) (k j:κ) (y:V):Dx (Dz kvs k y) j=if j=k then ZC y else Dx kvs j:=by
 unfold Dz;by_cases a:(kvs.any λz=>decide (z.1=k))=ZI
 .rw[ZJ a,Yu]
  rw[Mg] at a;by_cases e:j=k
  .obtain⟨x,g⟩:=Option.isSome_iff_exists.mp a
   rw[ZJ e,e,g,zBY,ZJ rfl]
  .rw[ZH e]
   cases Dx kvs j with
   |none=>rfl
   |some x=>rw[zBY,ZH e]
 .rw[ZH a]
  refine Uz k j y kvs ?_;rw[Mg] at a;cases q:Dx kvs k with
  |none=>rfl
  |some x=>rw[q] at a;exact (a rfl).elim
def Fk (kvs:List (κ×V)) (k:κ) (v:V):(Dz kvs k v).length<=kvs.length+1:=by
 unfold Dz
 split
 .rw[zAc];lia
 .rw[zAm,zAf,zBZ];lia
def XV.isSome_eq {o:Option V} {u:Option ZE} (r:XV o u):o.isSome=u.isSome:=by
 cases o with
 |none=>cases u with
  |none=>rfl
  |some _=>exact (show False from r).elim
 |some _=>cases u with
  |none=>exact (show False from r).elim
  |some _=>rfl
def XV.getD {o:Option V} {u:Option ZE} {d:V} {d':ZE} (r:XV o u) (g:Kl d d'):Kl (o.getD d) (u.getD d'):=by
 cases o with
 |none=>cases u with
  |none=>exact g
  |some _=>exact (show False from r).elim
 |some _=>cases u with
  |none=>exact (show False from r).elim
  |some _=>exact r
def KV.val {kvs:List (κ×V)} {vs:List (κ×ZE)} (r:KV kvs vs) (k:κ):XV (Dx kvs k) (jA vs k):=by
 unfold KV at r
 induction r with
 |nil=>exact bV
 |@cons p q ps g h t ih=>
  obtain⟨h1,B⟩:=h;by_cases e:p.1=k
  .have j:q.1=k:=h1.symm.trans e
   let b:jA (q::g) k=ZC q.2:=by simp [jA,zBX,j]
   rw[Dk e,b];exact B
  .have j:¬ q.1=k:=λz=>e (h1.trans z)
   let b:jA (q::g) k=jA g k:=by simp [jA,zBX,j]
   rw[Dm e,b];exact ih
def KV.any {kvs:List (κ×V)} {vs:List (κ×ZE)} (r:KV kvs vs) (k:κ):(kvs.any λg=>decide (g.1=k))=vs.any λg=>decide (g.1=k):=by
 unfold KV at r
 induction r with
 |nil=>rfl
 |cons h t ih=>rw[zCB,zCB,ih,h.1]
def KV.repl {kvs:List (κ×V)} {vs:List (κ×ZE)} (r:KV kvs vs) (k:κ) {y:V} {u:ZE} (j:Kl y u) :
  KV (kvs.map λg=>if g.1=k then (g.1,y) else g) (vs.map λg=>if g.1=k then (g.1,u) else g):=by
 unfold KV at r ⊢
 induction r with
 |nil=>exact .nil
 |@cons p q ps F h t ih=>
  rw[zAp,zAp];refine .cons ?_ ih;obtain⟨h1,B⟩:=h;by_cases e:p.1=k
  .rw[ZJ e,ZJ (h1.symm.trans e)];exact⟨h1,j⟩
  .rw[ZH e,ZH (λz=>e (h1.trans z))];exact⟨h1,B⟩
def KV.put {kvs:List (κ×V)} {vs:List (κ×ZE)} (r:KV kvs vs) (k:κ) {y:V} {u:ZE} (g:Kl y u):KV (Dz kvs k y) (stored vs k u):=by
 unfold Dz stored;rw[r.any k];by_cases e:(vs.any λj=>decide (j.1=k))=ZI
 .rw[ZJ e,ZJ e];exact r.repl k g
 .rw[ZH e,ZH e];exact Paired.snoc r ⟨rfl,g⟩
def KV.length {kvs:List (κ×V)} {vs:List (κ×ZE)} (r:KV kvs vs):kvs.length=vs.length:=dL r
end
def Uu {P:ZO} {w:ZX} {k:Ev} {u:ZE} (r:Kl (kV k) u):(Db P w).is k u=ZI:=by
 cases k with
 |inl i=>obtain⟨t,e⟩:=(show ∃ t,u=dJ i t from r);subst e;exact Za P w i t
 |inr x=>obtain⟨t,e⟩:=(show ∃ t,u=iE x t from r);subst e;exact Zv P w x t
theorem Tj {P:ZO} {w:ZX}:∀ {ks} {us},Fy (ks.map kV) us->ItemsAre (Db P w) ks us
 |[],_,r=>by rw[zBv] at r;cases r;exact .nil
 |k::ks,_,r=>by
  rw[zAp] at r;cases r with
  |cons h t=>exact .cons (Uu h) (Tj t)
abbrev KT (H:Hp):List (List Ev×V)->List (List Ev×ZF×ZE)->Prop:=cZ λp q=>p.1=q.1/\H q.2.1=ZC (.tup (p.1.map kV))/\Kl p.2 q.2.2
def KT.val {H:Hp} {kvs:List (List Ev×V)} {xs:List (List Ev×ZF×ZE)} (r:KT H kvs xs) (k:List Ev):XV (Dx kvs k) ((lV xs k).map (·.2)):=by
 induction r with
 |nil=>exact bV
 |@cons p q ps g h t ih=>
  obtain⟨h1,_,B⟩:=h;by_cases e:p.1=k
  .have j:q.1=k:=h1.symm.trans e
   let b:lV (q::g) k=ZC q.2:=by simp [lV,zBX,j]
   rw[Dk e,b];exact B
  .have j:¬ q.1=k:=λz=>e (h1.trans z)
   let b:lV (q::g) k=lV g k:=by simp [lV,zBX,j]
   rw[Dm e,b];exact ih
def KT.repl {kvs:List (List Ev×V)} {xs:List (List Ev×ZF×ZE)} (r:KT H kvs xs) (k:List Ev) {y:V} {u:ZE} (B:Kl y u) :
  KT H (kvs.map λg=>if g.1=k then (g.1,y) else g) (xs.map (putAt k u)):=by
 induction r with
 |nil=>exact .nil
 |@cons p q ps L h t ih=>
  rw[zAp,zAp];refine .cons ?_ ih;obtain⟨h1,j,F⟩:=h;unfold putAt;by_cases e:p.1=k
  .rw[ZJ e,ZJ (h1.symm.trans e)];exact⟨h1,j,B⟩
  .rw[ZH e,ZH (λz=>e (h1.trans z))];exact⟨h1,j,F⟩
def KT.put {kvs:List (List Ev×V)} {xs:List (List Ev×ZF×ZE)} (r:KT H kvs xs) (k:List Ev) {b:ZF} {y:V} {u:ZE} (j:H b=ZC (.tup (k.map kV))) (g:Kl y u) :
  KT H (Dz kvs k y) (storedH xs k b u):=by
 let e:(kvs.any λz=>decide (z.1=k))=(lV xs k).isSome:=by
  rw[Mg,(r.val k).isSome_eq,gX]
 unfold Dz storedH;rw[e];by_cases q:(lV xs k).isSome=ZI
 .rw[ZJ q,ZJ q];exact r.repl k g
 .rw[ZH q,ZH q];exact Paired.snoc r ⟨rfl,j,g⟩
def KT.keeps {H H':Hp} {kvs:List (List Ev×V)} {xs:List (List Ev×ZF×ZE)} (r:KT H kvs xs) (g:∀ b ys,H b=ZC (.tup ys)->H' b=ZC (.tup ys)):KT H' kvs xs:=
 Paired.mapP r λ_ _ z=>⟨z.1,g _ _ z.2.1,z.2.2⟩
def IV {u:HO} (ok:XZ P w H h) (e:Rd H a u):XF P w H h a u:=e.ok ok
def Qh {kvs:List (Ev×V)} (ok:XZ P w H h) (e:Rd H a (.dK kvs)):kvs.length<=sizeLine/\(a==bY)=ZK/\∃ vs,KV kvs vs/\h.DictOf (Db P w) a vs:=
 show XF P w H h a (.dK kvs) from IV ok e
def PZ {kvs:List (Ev×V)} (ok:XZ P w H h) (e:H a=ZC (.dK kvs)):kvs.length<=sizeLine/\(a==bY)=ZK/\∃ vs,KV kvs vs/\h.DictOf (Db P w) a vs:=Qh ok (.inl e)
def Nm {ks:List Ev} (ok:XZ P w H h) (e:H a=ZC (.tup (ks.map kV))):(hX (Db P w)).is h ks a:=by
 obtain⟨_,g,r,o,h1,j,n,q⟩:=(show XF P w H h a (.tup (ks.map kV)) from ok a _ e);exact⟨o,g.toArray,n,h1,j,q,by simpa using Tj r⟩
def Rv {kvs:List (List Ev×V)} (ok:XZ P w H h) (e:Rd H a (.dT kvs)):kvs.length<=sizeLine/\(a==bY)=ZK /\
  ∃ xs,KT H kvs xs/\h.DictOfH (hX (Db P w)) a xs:=by
 obtain⟨z,y,xs,r,o,es,ep,h1,L,F,j,B⟩:=(show XF P w H h a (.dT kvs) from IV ok e);refine⟨z,y,xs,r,o,es,ep,h1,L,F,j,λx g=>?_,B⟩;let all:∀ {l:List (List Ev×V)} {m:List (List Ev×ZF×ZE)},KT H l m->∀ x∈m,(hX (Db P w)).is h x.1 x.2.1:=by
  intro l m q
  induction q with
  |nil=>intro x g;exact nomatch g
  |@cons p q ps M hq t ih=>
   intro x g;rcases zAj.mp g with e|g
   .subst e
    exact Nm ok (by rw[<- hq.1];exact hq.2.1)
   .exact ih x g
 exact all r x g
def RZ {kvs:List (List Ev×V)} (ok:XZ P w H h) (e:H a=ZC (.dT kvs)):kvs.length<=sizeLine/\(a==bY)=ZK /\
  ∃ xs,KT H kvs xs/\h.DictOfH (hX (Db P w)) a xs:=Rv ok (.inl e)
def XX (H:Hp) (a:ZF) (y:V) (r:Option V):Prop:=
 (∃ kvs k,Rd H a (.dK kvs)/\y=kV k/\r=Dx kvs k)\/∃ kvs k b,Rd H a (.dT kvs)/\y=.ref b/\H b=ZC (.tup (k.map kV))/\r=Dx kvs k
def YT (H:Hp) (a:ZF) (y v:V) (H':Hp):Prop:=
 (∃ kvs k,H a=ZC (.dK kvs)/\y=kV k/\kvs.length<sizeLine/\H'=upd H a (.dK (Dz kvs k v))) \/
 ∃ kvs k b,H a=ZC (.dT kvs)/\y=.ref b/\H b=ZC (.tup (k.map kV))/\kvs.length<sizeLine/\H'=upd H a (.dT (Dz kvs k v))
def XX.k {H} {a} {kvs} {k} (e:H a=ZC (.dK kvs)):XX H a (kV k) (Dx kvs k):=.inl ⟨kvs,k,.inl e,rfl,rfl⟩
def XX.t {H} {a b} {kvs} {k} (e:H a=ZC (.dT kvs)) (g:H b=ZC (.tup (k.map kV))):XX H a (.ref b) (Dx kvs k):=.inr ⟨kvs,k,b,.inl e,rfl,g,rfl⟩
def YT.k {H} {a} {kvs} {k} {v} (e:H a=ZC (.dK kvs)) (hl:kvs.length<sizeLine):YT H a (kV k) v (upd H a (.dK (Dz kvs k v))):=.inl ⟨kvs,k,e,rfl,hl,rfl⟩
def YT.t {H} {a b} {kvs} {k} {v} (e:H a=ZC (.dT kvs)) (g:H b=ZC (.tup (k.map kV))) (hl:kvs.length<sizeLine) :
  YT H a (.ref b) v (upd H a (.dT (Dz kvs k v))):=.inr ⟨kvs,k,b,e,rfl,g,hl,rfl⟩
def Ed.big (I:Ed X pins σ H s):bY<⇑s:=by
 let h:zCJ<⇑s:=(I.mod.glob.keeps I.bk).lt;exact lY (by lk) h
def X7 {Q:ZE->ZG->Prop} (hu:A.units+1<bX) (I:Ed X pins σ H s) (g:XX H a y (ZC v)) (Y:Kl y u) (h:∀ B s',Ed X pins σ H s'->Kl v B->Q B s') :
  ZP (ZS X.prog X.w) A (iA (.ref a) u) Q E s:=by
 rcases g with ⟨L,k,e,S,l⟩|⟨L,k,b,e,S,eb,l⟩
 .subst S
  obtain⟨z,hd,vs,j,U⟩:=Qh I.hok e;obtain⟨B,M,q⟩:=XV.some_of (v:=v) (o:=jA vs k) (by rw[l];exact j.val k);exact wpAny_getItem_of (Uu Y) U.mapOf M (h B _ (I.tok _) q)
 .subst S
  cases (show u=aI b from Y)
  obtain⟨z,hd,xs,j,U⟩:=Rv I.hok e;obtain⟨B,M,q⟩:=XV.some_of (v:=v) (o:=(lV xs k).map (·.2)) (by rw[l];exact j.val k);obtain⟨p,Z,F⟩:=zAQ.mp M;refine wpAny_getItem_heap (dE hu) (Nm I.hok eb) U Z ?_;rw[F];exact h B _ (I.tok _) q
def VM {Q:ZE->ZG->Prop} (Y:A.units+1<bX) (I:Ed X pins σ H s) (g:XX H a y o) (S:Kl y u) (h:∀ s',Ed X pins σ H s'->Q (.bool o.isSome) s') :
  ZP (ZS X.prog X.w) A (aT .In u (.ref a)) Q E s:=by
 rcases g with ⟨B,k,e,L,l⟩|⟨B,k,b,e,L,U,l⟩
 .subst L
  obtain⟨z,F,vs,j,M⟩:=Qh I.hok e;refine wpAny_in_of (Uu S) F M.mapOf ?_;rw[<- (j.val k).isSome_eq,<- l];exact h _ (I.tok _)
 .subst L
  cases (show u=aI b from S)
  obtain⟨z,F,xs,j,M⟩:=Rv I.hok e;refine wpAny_in_heap (dE Y) (Nm I.hok U) F M ?_;let q:=(j.val k).isSome_eq;rw[gX] at q;rw[<- q,<- l];exact h _ (I.tok _)
def GR {Q:ZE->ZG->Prop} (Y:A.units+1<bX) (I:Ed X pins σ H s) (g:XX H a y o) (S:Kl y u) (h:∀ s',Ed X pins σ H s'->Q (.bool (!o.isSome)) s') :
  ZP (ZS X.prog X.w) A (aT .NotIn u (.ref a)) Q E s:=by
 rcases g with ⟨B,k,e,L,l⟩|⟨B,k,b,e,L,U,l⟩
 .subst L
  obtain⟨z,F,vs,j,M⟩:=Qh I.hok e;refine wpAny_notIn_of (Uu S) F M.mapOf ?_;rw[<- (j.val k).isSome_eq,<- l];exact h _ (I.tok _)
 .subst L
  cases (show u=aI b from S)
  obtain⟨z,F,xs,j,M⟩:=Rv I.hok e;refine wpAny_notIn_heap (dE Y) (Nm I.hok U) F M ?_;let q:=(j.val k).isSome_eq;rw[gX] at q;rw[<- q,<- l];exact h _ (I.tok _)
def M1 {h':aB} {t':Nat} (I:Ed X pins σ H s) (j:PY (H a)) (B:zBr a s.heap h') (L:∃ q,h'.get? a=ZC q) (g:XF X.prog X.w (upd H a ob) h' a ob) :
  Ed X pins σ (upd H a ob) { s with heap:=h',toks:=t' }:=
 I.write (x:=a) (e:=a) j (.inl rfl) (λb q F z=>(B.2 b F).trans z) L g
def JM {P:ZO} {w:ZX} {H':Hp} {h':aB} {kvs:List (Ev×V)} {vs:List (Ev×ZE)} (z:kvs.length<=sizeLine) (j:(a==bY)=ZK) (g:KV kvs vs) (q:h'.DictOf (Db P w) a vs) :
  XF P w H' h' a (.dK kvs):=⟨z,j,vs,g,q⟩
def R5 {H':Hp} {Q:Unit->ZG->Prop} (hu:A.units+1<bX) (I:Ed X pins σ H s) (g:YT H a y v H') (ry:Kl y u) (rv:Kl v r) (h:∀ s',Ed X pins σ H' s'->Q () s') :
  ZP (ZS X.prog X.w) A (setItem (.ref a) u r) Q E s:=by
 rcases g with ⟨j,k,e,Y,l,Z⟩|⟨j,k,b,e,Y,eb,l,Z⟩
 .subst Y Z
  obtain⟨z,U,vs,B,M⟩:=PZ I.hok e;let L:vs.length<=sizeLine:=by rw[<- B.length];exact z
  let hl:(Dz j k v).length<=sizeLine:=by let:=Fk j k v;lia
  refine wpAny_setItem_pairs (hsz:=L) (Uu ry) M λh' F S=>h _ ?_;let he:∃ q,h'.get? a=ZC q:=let ⟨q,_,_,hq,_⟩:=F;⟨q,hq⟩
  exact M1 I (by rw[e];exact bV) S he (JM hl U (B.put k rv) F)
 .subst Y Z
  cases (show u=aI b from ry)
  obtain⟨z,U,xs,B,M⟩:=RZ I.hok e;let L:xs.length<=sizeLine:=by rw[<- dL B];exact z
  let hl:(Dz j k v).length<=sizeLine:=by let:=Fk j k v;lia
  refine wpAny_setItem_heap (hsz:=L) (dE hu) (Nm I.hok eb) M λh' F S=>h _ ?_;obtain⟨q,es,ep,hq,h2,h3,h4,_,h5⟩:=F;refine M1 I (by rw[e];exact bV) S ⟨q,hq⟩ ⟨hl,U,_,(B.put k eb rv).keeps λc ys ec=>?_,q,es,ep,hq,h2,h3,h4,h5⟩;rw[Ag (At ec e (λz=>nomatch z))];exact ec
def OG (i:bA):Prop:=∀ ov iv,kG i ZK ov iv=operate [ov,iv] (iA ov iv)
def HR {prog} {w} {A} {E:ZE->ZG->Prop} {s} {env} {value slice} {pos} {T id} {Q:ZE->ZG->Prop}
  (hl:lO (.type T) "__getitem__"=pure (ZC (.builtin id))) (hs:OG slice)
  (h:ZP (ZS prog w) A (aM value env) (λo s₁=>ZP (ZS prog w) A (aM slice env) (λi s₂=>s₂.TypeIs o T/\ZP (ZS prog w) A (iA o i) Q E s₂) E s₁) E s) :
  ZP (ZS prog w) A (aM (.Subscript value slice pos) env) Q E s:=by
 refine Subscript_ (bJ h (λo s₁ h₁=>bJ h₁ (λi s₂ h₂=>?_) λ_ _ x=>x) λ_ _ x=>x);obtain⟨hT,h₂⟩:=h₂;unfold mQ;refine zCF ?_;rw[getitemInPython_of_ne hT.not_modules];refine zCF (wpAny_specialOf hT hl ?_);let fin:ZP (ZS prog w) A (kG slice ZK o i) (λr s₃=>ZP (ZS prog w) A (letTemporaryGo value o r >>= λ_=>pure r) Q E s₃) E s₂:=by
  rw[hs o i];exact wpAny_operating (bJ h₂ (λr s₃ h₃=>zCF (wpAny_letTemporaryGo (zCG h₃))) λ_ _ x=>x)
 first
  |exact zCG (zCF fin)
  |exact zCF (zCG (zCF fin))
  |exact zCF fin
def A0 {X:Cx} {s:ZG} {a:ZF} {y:V} {o:Option V} (I:Ed X pins σ H s) (g:XX H a y o):s.TypeIs (.ref a) "dict":=by
 rcases g with ⟨j,k,e,_,_⟩|⟨j,k,b,e,_,_,_⟩
 .obtain⟨_,_,vs,_,q⟩:=Qh I.hok e
  exact q.typeIs
 .obtain⟨_,_,xs,_,q⟩:=Rv I.hok e
  exact q.typeIs
def RL (td ty:TE):TE:=λσ H Q=>td σ H λx H1=>ty σ H1 λy H2=>∃ a v,x=.ref a/\XX H2 a y (ZC v)/\Q v H2
def UR (ty td:TE):TE:=λσ H Q=>ty σ H λy H1=>td σ H1 λx H2=>∃ a o,x=.ref a/\XX H2 a y o/\Q (.bl o.isSome) H2
def HK (ty td:TE):TE:=λσ H Q=>ty σ H λy H1=>td σ H1 λx H2=>∃ a o,x=.ref a/\XX H2 a y o/\Q (.bl (!o.isSome)) H2
def RX (td ty tv:TE):TS:=λD σ H=>tv σ H λv H1=>td σ H1 λx H2=>ty σ H2 λy H3=>∃ a H4,x=.ref a/\YT H3 a y v H4/\D.nx σ H4
def HX (hu:X.A.units+1<bX) (Y:PE X o td) (hi:PE X i ty) (F:OG i):PE X (.Subscript o i pos) (RL td ty):=by
 intro pins s σ H Q I h;refine HR PySem.F.slot_dict_getitem.lookup F (Cb (Y pins s σ H _ I h) λu U ⟨x,H1,M,S,z⟩=>Cb (hi pins U σ H1 _ M z) λiv s2 ⟨y,B,q,L,a,v,ex,g,q2⟩=>?_);subst ex;obtain rfl:u=aI a:=S;exact⟨A0 q g,X7 hu q g L λw' s3 Z j=>⟨v,B,Z,j,q2⟩⟩
def MP (Z:X.A.units+1<bX) (hi:PE X i ty) (U:PE X o td):PC X .In i o (UR ty td):=by
 intro pins s σ H Q I h;refine Cb (hi pins s σ H _ I h) λiv S ⟨y,H1,F,B,j⟩=>Cb (U pins S σ H1 _ F j) λu s2 ⟨x,z,q,L,a,M,ex,g,q2⟩=>?_;subst ex;obtain rfl:u=aI a:=L;exact VM Z q g B λs3 Y=>⟨.bl M.isSome,z,Y,rfl,q2⟩
def V8 (Z:X.A.units+1<bX) (hi:PE X i ty) (U:PE X o td):PC X .NotIn i o (HK ty td):=by
 intro pins s σ H Q I h;refine Cb (hi pins s σ H _ I h) λiv S ⟨y,H1,F,B,j⟩=>Cb (U pins S σ H1 _ F j) λu s2 ⟨x,z,q,L,a,M,ex,g,q2⟩=>?_;subst ex;obtain rfl:u=aI a:=L;exact GR Z q g B λs3 Y=>⟨.bl (!M.isSome),z,Y,rfl,q2⟩
def Vv (z:X.A.units+1<bX) (ho:PE X o td) (hi:PE X i ty) (j:PE X value tv) (U:hZ value (ZC (.Subscript o i pos')) pos.line X.env=pure ZK) :
  PS X (.Assign [.Subscript o i pos'] value pos) (RX td ty tv):=by
 intro pins s σ H D I h;refine wpAny_Assign_Subscript (Cb (j pins s σ H _ I h) λr s1 ⟨v,H1,I1,L,q1⟩=>Cb (ho pins s1 σ H1 _ I1 q1) λu F ⟨x,S,M,Y,B⟩=>Cb (hi pins F σ S _ M B) λiv s3 ⟨y,H3,I3,q,a,H4,ex,g,q3⟩=>?_) U;subst ex;obtain rfl:u=aI a:=Y;exact R5 z I3 g q L λs4 Z=>⟨σ,H4,Z,q3⟩
def AY {P:ZO} {w:ZX} (h:aB) (g:bY<h.objs.size):XF P w H (h.push { cls:=.type "dict",data:=.dict #[] }) h.objs.size (.dK []):=
 ⟨zAw _,beq_eq_false_iff_ne.mpr (aR (zAy g)),[],.nil,Heap.DictOf.new h⟩
def Z0 {P:ZO} {w:ZX} (h:aB) (g:bY<h.objs.size):XF P w H (h.push { cls:=.type "dict",data:=.dict #[] }) h.objs.size (.dT []):=
 ⟨zAw _,beq_eq_false_iff_ne.mpr (aR (zAy g)),[],.nil,_,#[],0,zAF _ rfl,⟨rfl,rfl,rfl⟩,rfl,rfl,jT⟩
def JV:TE:=λ_ H Q=>∀ p,H p=ZD->Q (.ref p) (upd H p (.dK []))
def LX:TE:=λ_ H Q=>∀ p,H p=ZD->Q (.ref p) (upd H p (.dT []))
def Yj:PE X (.Dict [] [] pos) JV:=λpins s σ H Q I h=>
 wpAny_Dict_empty ⟨.ref ⇑s,_,I.laid (a:=⇑s) (o:=.dK []) (t':=s.toks) (λ_ _ q=>zAg _ q) (zAl _) (AY s.heap I.big),rfl,h _ (I.hok.fresh (zAl _))⟩
def Y9:PE X (.Dict [] [] pos) LX:=λpins s σ H Q I h=>
 wpAny_Dict_empty ⟨.ref ⇑s,_,I.laid (a:=⇑s) (o:=.dT []) (t':=s.toks) (λ_ _ q=>zAg _ q) (zAl _) (Z0 s.heap I.big),rfl,h _ (I.hok.fresh (zAl _))⟩
structure M2 (X:Cx) (o:bA) (m:ZM) (apos:Pos) (e f:bA) (cpos:Pos):Prop where
 base:dB o m X.env (aM o X.env)=aM o X.env
 few:((bC cpos (ZU [e,f] X.env)).all (λx => !x.1)&&(eQ cpos (cS [] X.env)).all (λx=>x.1.isSome)
  && decide (([e,f]:List bA).length+([]:List lH).length+(if ([]:List lH).isEmpty then 0 else 1)<30))=ZI
 line:(apos.endLine==cpos.line)=ZI
 trees:bC cpos (ZU [e,f] X.env)=[(ZK,aM e X.env),(ZK,aM f X.env)]
def VO (H:Hp) (a:ZF):Prop:=(∃ kvs,Rd H a (.dK kvs))\/∃ kvs,Rd H a (.dT kvs)
def KP {X:Cx} {s:ZG} {a:ZF} (I:Ed X pins σ H s) (d:VO H a) :
  s.TypeIs (.ref a) "dict"/\(∀ b,aI a=.ref b->∃ g,s.heap.get? b=ZC g/\g.dict=ZD)/\(a==bY)=ZK:=by
 rcases d with ⟨z,e⟩|⟨z,e⟩
 .obtain⟨_,B,vs,_,j⟩:=Qh I.hok e
  refine⟨j.typeIs,λb q=>?_,B⟩;cases q;obtain⟨g,_,_,h1,F,_⟩:=j;exact⟨g,h1,F.2.1⟩
 .obtain⟨_,B,xs,_,j⟩:=Rv I.hok e
  refine⟨j.typeIs,λb q=>?_,B⟩;cases q;obtain⟨g,_,_,h1,F,_⟩:=j;exact⟨g,h1,F.2.1⟩
def MB {Q:ZE->ZG->Prop} (Z:A.units+1<bX) (I:Ed X pins σ H s) (g:XX H a y o) (S:Kl y u) (M:Kl d r) (h:∀ U s',Ed X pins σ H s'->Kl (o.getD d) U->Q U s') :
  ZP (ZS X.prog X.w) A (call (.builtin "dict.get") [.ref a,u,r]) Q E s:=by
 rcases g with ⟨B,k,e,L,l⟩|⟨B,k,b,e,L,Y,l⟩
 .subst L
  obtain⟨z,F,vs,j,q⟩:=Qh I.hok e;refine call_meetsIn eV q.typeIs kC (jS _ _ _) (meets_dict_get_default (Db X.prog X.w) a (Uu S) F r) ⟨_,q.mapOf,h _ _ (I.tok _) ?_⟩;rw[l];exact (j.val k).getD M
 .subst L
  cases (show u=aI b from S)
  obtain⟨z,F,xs,j,q⟩:=Rv I.hok e;refine call_meetsIn eV q.typeIs kC (jS _ _ _) (meetsH_dict_get_default (hX (Db X.prog X.w)) a b F r) ⟨dE Z,k,xs,Nm I.hok Y,q,h _ _ (I.tok _) ?_⟩;rw[l];exact (j.val k).getD M
def MN (td ty tx:TE):TE:=λσ H Q=>td σ H λx H1=>∃ a,x=.ref a/\VO H1 a/\ty σ H1 λy H2=>tx σ H2 λz H3=>∃ o,XX H3 a y o/\Q (o.getD z) H3
def AF (M:X.A.units+1<bX) (ho:PE X o td) (U:PE X e ty) (L:PE X f tx) (m:M2 X o "get" apos e f cpos):PE X (.Call (.Attribute o "get" apos) [e,f] [] cpos) (MN td ty tx):=by
 intro pins s σ H Q I h;refine wpAny_Call_method m.base m.few m.line PySem.F.plainAttrs_dict eV PySem.F.type_dict_get (Cb (ho pins s σ H _ I h) λu s1 ⟨x,H1,q,rx,a,ex,d,q1⟩=>?_);subst ex;obtain rfl:u=aI a:=rx;obtain⟨t1,Z,_⟩:=KP q d;refine⟨t1,Z,?_⟩;rw[m.trees];refine eX rfl (mF (bH (Cb (U pins s1 σ H1 _ q q1) λiv Y ⟨y,H2,I2,F,S⟩=>
  bH (Cb (L pins Y σ H2 _ I2 S) λfv s3 ⟨z,B,I3,rz,ov,g,q3⟩=>bR ?_))))
 exact MB M I3 g F rz λw' s4 I4 j=>⟨_,B,I4,j,q3⟩
def P8 (cells:List (ZM×ZF)):List (ZM×cM)->List (ZM×ZF)->List (ZM×ZF)
 |[],cs=>cs
 |(n,k)::r,cs=>P8 cells r (if k==bQ then (match cells.lookup n with|some a=>(n,a)::cs|none=>cs) else cs)
theorem Ze {env:kF}:∀ (names:List (ZM×cM)) (cs:List (ZM×ZF)),(∀ y∈names,y.2=.free->∃ c,env.cells.lookup y.1=ZC c) ->
  (forIn names cs λ(x:ZM×cM) (r:List (ZM×ZF))=>if (x.2==bQ)=ZI then (do let a <- cellOf env x.1;pure (cR ((x.1,a)::r))) else (pure (cR r):mS (ForInStep (List (ZM×ZF)))))
   = (pure (P8 env.cells names cs):mS (List (ZM×ZF)))
 |[],cs,_=>rfl
 |(n,k)::r,cs,h=>by
  let ih:=Ze (env:=env) r;rw[List.forIn_cons];unfold P8;cases q:(k==bQ) with
  |false=>
   simp only [zBd,cO];show (forIn r cs _:mS _)=_;exact ih cs λy j=>h y (zAb _ j)
  |true=>
   obtain⟨c,z⟩:=h (n,k) zAd (by simpa using q);let g:env.cells.lookup n=ZC c:=z;let e:cellOf env n=pure c:=by unfold cellOf;rw[g]
   simp only [eM,e,g];show (forIn r ((n,c)::cs) _:mS _)=_;exact ih _ λy j=>h y (zAb _ j)
def BH {env:kF} (h:∀ y∈scope.names,y.2=.free->∃ c,env.cells.lookup y.1=ZC c):lT scope env=pure (P8 env.cells scope.names []):=by
 unfold lT;let q:=Ze (env:=env) scope.names [] h;refine Eq.trans ?_ (aC (λz:mS (List (ZM×ZF))=>z >>= λg=>pure g) q);rfl
set_option tactic.hygienic true in
theorem Q2:∀ (names:List (ZM×cM)) (cs:List (ZM×ZF)),(∀ p∈cs,g.lookup p.1=ZC p.2)->∀ p∈P8 g names cs,g.lookup p.1=ZC p.2
 |[],cs,h,p,j=>h p j
 |(n,k)::r,cs,h,p,j=>by
  unfold P8 at j;refine Q2 r _ (λq hq=>?_) p j
  split at hq
  .split at hq
   .rename_i a e
    rcases zAj.mp hq with rfl|hq
    .exact e
    .exact h q hq
   .exact h q hq
  .exact h q hq
def Ig {names:List (ZM×cM)} {x:ZM} {c:ZF} (e:(P8 cells names []).lookup x=ZC c):cells.lookup x=ZC c:=
 Q2 names [] (λ_ z=>nomatch z) (x,c) (aP e)
theorem Tq:∀ (names:List (ZM×cM)) (cs:List (ZM×ZF)) (p:ZM×ZF),p∈cs->p∈P8 cells names cs
 |[],cs,p,g=>g
 |(n,k)::r,cs,p,g=>by
  unfold P8;refine Tq r _ p ?_
  split
  .split
   .exact zAb _ g
   .exact g
  .exact g
theorem Vy {x:ZM} {c:ZF} (g:cells.lookup x=ZC c):∀ (names:List (ZM×cM)) (cs:List (ZM×ZF)),(x,bQ)∈names->(x,c)∈P8 cells names cs
 |[],_,h=>nomatch h
 |(n,k)::r,cs,h=>by
  unfold P8;rcases zAj.mp h with e|h
  .cases e
   refine Tq r _ _ ?_;rw[g];simp
  .exact Vy g r _ h
theorem Eg {x:ZM} {c:ZF}:∀ {l:List (ZM×ZF)},(x,c)∈l->∃ d,l.lookup x=ZC d
 |[],h=>nomatch h
 |(y,d)::r,h=>by
  rw[zBJ];cases e:(x==y) with
  |true=>exact⟨d,rfl⟩
  |false=>
   rcases zAj.mp h with z|z
   .cases z
    simp at e
   .exact Eg z
theorem Ib {env:kF}:∀ {names:List (ZM×cM)} {x:ZM} {k:cM},
  (names.map λ(n,k)=>if (k==bQ&&env.scope.kind == .function&&env.kindOf n==ZC .cell) then (n,iY) else (n,k)).lookup x=ZC k ->
   names.lookup x=ZC k\/(k=.cell/\names.lookup x=ZC .free)
 |[],_,_,h=>by simp at h
 |(n,g)::r,x,k,h=>by
  let ih:=@Ib env r x k;rw[zAp] at h;rw[zBJ];by_cases c:(g==bQ&&env.scope.kind == .function&&env.kindOf n==ZC .cell)=ZI
  .have h':=h
   simp only [c,eM] at h';rw[zBJ] at h';cases e:(x==n) with
   |true=>
    rw[e] at h';let j:g=.free:=by
     simp only [zAo] at c
     simpa using c.1.1
    refine .inr ⟨(aH h').symm,?_⟩;rw[j]
   |false=>
    rw[e] at h';exact ih h'
  .have h':=h
   simp only [c,zBd,cO] at h';rw[zBJ] at h';cases e:(x==n) with
   |true=>
    rw[e] at h';exact .inl h'
   |false=>
    rw[e] at h';exact ih h'
theorem Li {env:kF}:∀ {names:List (ZM×cM)} {x:ZM},names.lookup x=ZC .free ->
  (names.map λ(n,k)=>if (k==bQ&&env.scope.kind == .function&&env.kindOf n==ZC .cell) then (n,iY) else (n,k)).lookup x=ZC .cell \/
  (names.map λ(n,k)=>if (k==bQ&&env.scope.kind == .function&&env.kindOf n==ZC .cell) then (n,iY) else (n,k)).lookup x=ZC .free
 |[],_,h=>by simp at h
 |(n,g)::r,x,h=>by
  let ih:=@Li env r x;rw[zAp];rw[zBJ] at h;by_cases c:(g==bQ&&env.scope.kind == .function&&env.kindOf n==ZC .cell)=ZI
  .simp only [c,eM,zBJ]
   cases e:(x==n) with
   |true=>exact .inl rfl
   |false=>
    rw[e] at h;exact ih h
  .simp only [c,zBd,cO,zBJ]
   cases e:(x==n) with
   |true=>
    rw[e] at h;exact .inr h
   |false=>
    rw[e] at h;exact ih h
def CG (sc scope:fY):Bool:=
 scope.kind == .function&&scope.names.all λy=>y.2 != .cell&&(y.2 != .local||scope.names.lookup y.1==ZC .local)&&(y.2 != .free||(sc.names.lookup y.1==ZC .cell||sc.names.lookup y.1==ZC .free))
structure Dr (sc scope:fY):Prop where
 kind:scope.kind=.function
 cell:∀ y∈scope.names,y.2≠.cell
 own:∀ y∈scope.names,y.2=.local->scope.names.lookup y.1=ZC .local
 free:∀ y∈scope.names,y.2=.free->sc.names.lookup y.1=ZC .cell\/sc.names.lookup y.1=ZC .free
def Dr.of (h:CG sc scope=ZI):Dr sc scope:=by
 unfold CG at h;rw[zAo,List.all_eq_true] at h;obtain⟨h1,z⟩:=h;let j:∀ y∈scope.names,(y.2≠.cell/\(y.2≠.local\/scope.names.lookup y.1=ZC .local))/\(y.2≠.free\/(sc.names.lookup y.1=ZC .cell\/sc.names.lookup y.1=ZC .free)):=λy g=>by
  let q:=z y g
  simpa [zAo,Bool.or_eq_true] using q
 refine⟨by simpa using h1,λy g=>(j y g).1.1,λy g e=>?_,λy g e=>?_⟩
 .exact (j y g).1.2.resolve_left λn=>n e
 .exact (j y g).2.resolve_left λn=>n e
def Qg (X:Cx) (NC:List ZM) (scope:fY) (s3:ZG) (H3:Hp) (fp:List ZF):Cx:=
 { X with N:=NC,s₀:=s3,H₀:=H3,env:=compEnvC scope (P8 X.env.cells scope.names []) ⇑s3 X.env,outer:=X.stack,ex:=fp,fn:=λ_=>ZK,pn:=[],xe:=λ_ _=>False }
def W7 (own:Nat) (ix:List Nat) (σ:St):St:=List.replicate own ZD++ix.map λj=>(σ[j]?).getD ZD
def YK (X:Cx) (scope:fY):List ZM->List Nat->Prop
 |[],[]=>True
 |x::cs,j::js=>(X.N[j]?=ZC x/\(X.env.kindOf x=ZC .cell\/X.env.kindOf x=ZC .free)/\scope.names.lookup x=ZC .free)/\YK X scope cs js
 |_,_=>False
theorem YK.len {X:Cx}:∀ {cs} {g:List Nat},YK X scope cs g->cs.length=g.length
 |[],[],_=>rfl
 |_::_,_::_,h=>by rw[zAf,zAf,YK.len h.2]
 |[],_::_,h=>h.elim
 |_::_,[],h=>h.elim
theorem YK.at {X:Cx}:∀ {cs} {g:List Nat} {i:Nat} {x},YK X scope cs g->cs[i]?=ZC x ->
  ∃ j,g[i]?=ZC j/\X.N[j]?=ZC x/\(X.env.kindOf x=ZC .cell\/X.env.kindOf x=ZC .free)/\scope.names.lookup x=ZC .free
 |[],[],_,_,_,e=>by simp at e
 |x::_,j::_,0,_,h,e=>by simp at e;subst e;exact⟨j,rfl,h.1⟩
 |_::_,_::_,i+1,_,h,e=>by
  obtain⟨j,q,r⟩:=YK.at (i:=i) h.2 (by simpa using e);exact⟨j,by simpa using q,r⟩
 |[],_::_,_,_,h,_=>h.elim
 |_::_,[],_,_,h,_=>h.elim
def IC:TT:=λ_ H Q=>Q ZI H
def QK (Y:Cx) (ifs:List bA) (t:TT):Prop:=
 ∀ (pins:List (ZF×cP)) (s:ZG) (σ:St) (H:Hp) (Q:Bool->Hp->Prop),Ed Y pins σ H s->t σ H Q ->
  ZP (ZS Y.prog Y.w) Y.A (forIn ifs ZI λc r=>if r=ZI then do let ok <- nX c Y.env (aM c Y.env);pure (cR ok) else pure (cR r)) (TP Y pins σ Q) Y.xe s
def Ca:QK Y [] IC:=λ_ _ _ H _ I h=>wpAny_tests_nil ⟨H,I,h⟩
def Gq {c:bA} {t:TT} (h:PT Y c t):QK Y [c] t:=λpins s σ H Q I q=>wpAny_tests_one (h pins s σ H Q I q)
def Ot (g:TG) (tc:TT) (te:TE) (own:Nat) (ix:List Nat) (σ:St) (J:It) (p:ZF) (H1:Hp) (QQ:Hp->Prop):Prop:=
 ∃ W:Nat->Nat->List V->St->Hp->Prop,(∃ m,W 0 m [] (W7 own ix σ) (upd H1 p (.lst [])))/\∀ i m ys σ2 H2,W i m ys σ2 H2->H2 p=ZC (.lst ys) /\
  ((J.stop i H2/\QQ H2)\/(J.go i H2/\ys.length<sizeLine/\∀ x H3,J.yld i H2 x H3->∃ N:List V->St->Hp->Prop,(∀ ys' σ' H',N ys' σ' H'->∃ m',m'<m/\W (i+1) m' ys' σ' H') /\
   g x σ2 H3 λσ4 H4=>tc σ4 H4 λb H5=>if b=ZI then te σ4 H5 λy H6=>H6 p=ZC (.lst ys)/\N (ys++[y]) σ4 (upd H6 p (.lst (ys++[y]))) else N ys σ4 H5))
def ID (wi:TI) (g:TG) (tc:TT) (te:TE) (own:Nat) (ix:List Nat):TE:=λσ H Q=>wi σ H λJ H1=>∀ p,H1 p=ZD->Ot g tc te own ix σ J p H1 (Q (.ref p))
def T6 {prog:ZO} {w:ZX} {A:aE} {R:oB->ZG->Prop} {s:ZG} {it g:ZE} {env:kF} (I:Nat->ZG->Prop)
  (q:∀ n s,I n s->ZP (ZS prog w) A (eK it) (λr L=>(r=ZD/\R (.ok .next) L)\/∃ v,r=ZC v /\
   ZP (ZS prog w) A (gK target it v) (λ_ M=>ZP (ZS prog w) A (iU target env v) (λ_ U=>
    ZP (ZS prog w) A (forIn ifs ZI λc r=>if r=ZI then do let ok <- nX c env (aM c env);pure (cR ok) else pure (cR r)) (λok F=>
     (ok=ZI/\ZP (ZS prog w) A (aM elt env) (λx S=>ZP (ZS prog w) A (call (.builtin "list.append") [g,x]) (λ_ Y=>∃ m,m<n/\I m Y) (λ_ _=>False) S) (λ_ _=>False) F) \/
     (ok=ZK/\∃ m,m<n/\I m F)) (λ_ _=>False) U) (λ_ _=>False) M) (λ_ _=>False) L) (λ_ _=>False) s)
  (n:Nat) (h:I n s):dD (ZS prog w) A (.compLoop (.ListComp elt [⟨target,iter,ifs,0⟩] scope pos) 0 it g env) R s:=by
 refine codeAny_loop rfl I (λn s hI=>?_) n h;show ZP _ A ((compTurn (.ListComp elt [⟨target,iter,ifs,0⟩] scope pos) 0 it g env).onRaise (λx=>do noteFrame x env;theTreesLotGoes x)) _ _ s;refine wpAny_noted ?_;rw[compTurn_list];let j:∀ (e:ZE) (s':ZG),False->notedBy (ZS prog w) A env (λe s'=>R (.error e) s') e s':=λ_ _ f=>f.elim;refine zCF (iP (zCF (bJ (q n s hI) (λr L z=>?_) j)));rcases z with ⟨rfl,z⟩|⟨v,rfl,z⟩
 .exact zCG z
 refine zCF (bJ z (λ_ M h₂=>?_) j);refine zCF (bJ h₂ (λ_ U Z=>?_) j);refine zCF (bJ Z (λok F B=>?_) j);rcases B with ⟨rfl,B⟩|⟨rfl,B⟩
 .refine zCF (zCF (bJ B (λx S h₅=>?_) j))
  exact zCF (bJ h₅ (λ_ Y h₆=>zCG (zCG ⟨rfl,h₆⟩)) j)
 .exact zCG ⟨rfl,B⟩
def Zu {NC own cs:List ZM} {ix:List Nat} {scope:fY} {fp:List ZF} {h4:aB} {t4:Nat} (I:Ed X pins σ H s) (S:Dr X.env.scope scope) (hN:NC=own++cs) (hc:YK X scope cs ix)
  (hf:∀ b∈fp,Iq X pins H b) (hl:∀ b∈fp,b<⇑s) (hns:h4.Ns ⇑s λ_=>ZD) (hk:∀ b o,s.heap.get? b=ZC o->h4.get? b=ZC o) :
  Ed (Qg X NC scope s H fp) [] (W7 own.length ix σ) H { s with heap:=h4,toks:=t4 }:=by
 let cs_has:∀ y∈scope.names,y.2=.free->∃ c,X.env.cells.lookup y.1=ZC c:=λy hy e=>I.ok.has y.1 (S.free y hy e);let len:=hc.len;refine⟨⟨I.ok.mod,S.kind,I.ok.glob,I.ok.blt,zAl _,λx y c e1 e2=>I.ok.inj x y c (Ig e1) (Ig e2),λx hx=>?_,λ_ _ z=>(nomatch z),I.ok.hd,I.ok.frames,.inl rfl,λb hb=>⟨zAy (hl b hb),λx c e=>(hf b hb).2.2.2.2.1 x c (Ig e)⟩,
   I.bs,zAD I.ok.bsz I.sz,λb o e hb=>?_,λb hb z=>?_,I.stack,I.stkFree⟩,rfl,I.bare,Un.kept hk,⟨_,hns,λi x v e1 e2 e3=>?_⟩,λx c e=>?_,I.hok.fresh (zAl _),λx c e=>I.freeC x c (Ig e),λp hp=>?_,I.hok.kept hk,?_⟩
 ·
  let hx':(relabel scope X.env).names.lookup x=ZC .cell\/(relabel scope X.env).names.lookup x=ZC .free:=hx;let q:scope.names.lookup x=ZC .free:=by
   rcases hx' with h|h
   .rcases Ib h with h|⟨_,h⟩
    .exact ZR rfl (S.cell _ (aP h))
    .exact h
   .rcases Ib h with h|⟨z,_⟩
    .exact h
    .cases z
  obtain⟨c,hc'⟩:=cs_has (x,.free) (aP q) rfl;exact Eg (Vy hc' scope.names [] (aP q))
 .rcases (hf b hb).2.2.2.1 with z|z
  .exact I.ok.noex b o e z
  .exact ZR (zAI (zAs e) (zAD I.ok.bsz z)) (zBq _)
 .rcases zAj.mp (I.stkSub b z) with z|z
  .exact (hf b hb).2.1 z
  .exact (hf b hb).2.2.1 z
 ·
  let e1':(own++cs)[i]?=ZC x:=hN▸e1;let hi:own.length<=i:=by
   by_cases hi:own.length<=i
   .exact hi
   .unfold W7 at e2
    rw[zAK (by rw[zBO];omega),kZ,ZJ (by omega)] at e2;cases e2
  rw[zAA hi] at e1';obtain⟨j,ej,en,kx,fx⟩:=hc.at e1';let e2':(σ[j]?).getD ZD=ZC v:=by
   unfold W7 at e2;rw[zAA (by rw[zBO];omega),zBO,zAx,ej] at e2;exact aH e2
  let e2'':σ[j]?=ZC (ZC v):=by
   cases z:σ[j]? with
   |none=>rw[z] at e2';cases e2'
   |some o=>rw[z] at e2';exact aC ZC e2'
  obtain⟨m,_,hl'⟩:=I.loc;obtain⟨u,ru,l⟩:=hl' j x v en e2'' (kx.elim (λz=>.inr (.inl z)) λz=>.inr (.inr z));refine⟨u,ru,.inr ⟨Li fx,?_⟩⟩;rcases l with ⟨k,_⟩|⟨_,c,e,z⟩
  .rcases kx with k'|k' <;> rw[k] at k' <;> cases k'
  .obtain⟨d,hd⟩:=Eg (Vy e scope.names [] (aP fx))
   let e':=Ig hd;rw[e] at e';cases e';obtain⟨o,ho,dd⟩:=z;exact⟨c,hd,o,hk c o ho,dd⟩
 .obtain⟨v,o,ho,dd⟩:=I.cell x c (Ig e)
  exact⟨v,o,hk c o ho,dd⟩
 .exact ZR (show p∈([]:List (ZF×cP)) from hp) (by simp)
 .show (W7 own.length ix σ).length=NC.length
  rw[hN];unfold W7;rw[zAm,zAm,zBO,zAc,len]
def Tw {NC:List ZM} {h':aB} (I:Ed X pins σ H s) (L:∀ b∈fp,Iq X pins H b) (J:Ed (Qg X NC scope s H fp) [] σ' H' s') (F:zBr ⇑s s'.heap h'):Ed X pins σ H' { s' with heap:=h' }:=by
 obtain⟨hh,g,d,t,os⟩:=s';let Y:os=s.os:=J.os;subst Y;let Z:H' ⇑s=ZD:=J.free;let un:Un (Q8 X.stack) fp H H' s.heap hh:=J.base;let z:∀ b o,s.heap.get? b=ZC o->b≠⇑s:=λb o e=>zAy (zAs e);let U:Un (Q8 X.stack) fp H H' s.heap h':=⟨λb o e n j B=>(F.2 b (z b o e)).trans (un.keep b o e n j B),λb o e n j B=>let ⟨sl,q⟩:=un.slot b o e n j B;⟨sl,(F.2 b (z b o e)).trans q⟩,un.free,
  λb o e B=>let ⟨o',q⟩:=un.there b o e B;⟨o',(F.2 b (z b o e)).trans q⟩,un.tups,un.frzs,un.tbls⟩
 let S:XZ X.prog X.w H' h':=λb u e=>by
  refine (J.hok b u e).stay (λc v M q=>(F.2 c ?_).trans q) (λ_ q=>q) λ_ _ q=>q;rintro rfl;rcases M with rfl|M
  .rw[Z] at e;cases e
  .rw[Z] at M;cases M
 let q:=Ed.call (s:=s) (h':=h') (g':=g) (d':=d) (t':=t) (ch:=fp) I U S J.bare λb j=>⟨(L b j).2.2.2.1,(L b j).2.1,(L b j).2.2.2.2.1,(L b j).2.2.2.2.2⟩;exact q
def Ti {X:Cx} {NC own cs:List ZM} {ix:List Nat} {g:TG} (hc:X.calm=ZI) (S:Dr X.env.scope scope) (hN:NC=own++cs) (aa:YK X scope cs ix)
  (hg:∀ q F fp,PG (Qg X NC scope q F fp) tg g) (ht:∀ q F fp,QK (Qg X NC scope q F fp) ifs tc) (he:∀ q F fp,PE (Qg X NC scope q F fp) elt te) {it:ZF} {Y:Nat->aB->Prop} (I2:Ed X pins σ H2 s2) (T:Xh X.prog X.w X.K tg J fp it Y) (ac:Y 0 s2.heap) (f2:∀ b∈fp,Iq X pins H2 b) {QQ:ZF->Hp->Prop} {E:ZE->ZG->Prop}
  {RR:ZE->ZF->oB->ZG->Prop}
  (h2:∀ p,H2 p=ZD->Ot g tc te own.length ix σ J p H2 (QQ p))
  (ar:∀ q F σ5 H5 s6,Ed X pins σ F q->(∀ b∈fp,Iq X pins F b)->Ed (Qg X NC scope q F fp) [] σ5 H5 s6->QQ ⇑s2 H5->RR (.ref ⇑s2) ⇑q (.ok .next) s6) :
  ZP (ZS X.prog X.w) X.A (newList []) (λam q=>ZP (ZS X.prog X.w) X.A (newFunctionEnv scope X.env.globals (P8 X.env.cells scope.names []) [] X.env.qual ZD .none (ZC X.env)) (λM s4=>
   dD (ZS X.prog X.w) X.A (.compStart (.ListComp elt [⟨tg,iter,ifs,0⟩] scope pos) 0 (.ref it) am { M with scope:=relabel scope X.env }) (RR am M.locals) s4) E q) E s2:=by
 let ab:∀ b∈fp,b<⇑s2:=λb j=>let ⟨_,e,_⟩:=T.obj _ _ ac b j;zAs e
 obtain⟨W,⟨m0,w0⟩,ai⟩:=h2 _ I2.fresh;refine bB ?_;let I3:Ed X pins σ (upd H2 ⇑s2 (.lst [])) { s2 with heap:=s2.heap.push { cls:=.type "list",dict:=ZD,data:=.seq ([]:List ZE).toArray } }:=I2.lnew (t':=s2.toks) .nil (zAw _);let Z:∀ b∈fp,Iq X pins (upd H2 ⇑s2 (.lst [])) b:=λb j=>⟨by rw[Ag (zAy (ab b j))];exact (f2 b j).1,(f2 b j).2⟩;let a1:Y 0 (s2.heap.push { cls:=.type "list",dict:=ZD,data:=.seq ([]:List ZE).toArray }):=T.keep _ _ _ ac λb j o e=>zAg _ e;let ag:∀ b∈fp,b<(s2.heap.push { cls:=.type "list",dict:=ZD,data:=.seq ([]:List ZE).toArray }).objs.size:=λb j=>by rw[zBR];exact zCg (ab b j)
 refine wpAny_newFunctionEnv S.cell (λ_ z=>nomatch z) (λh4 an af=>?_) S.kind
 dsimp only at an af ⊢
 let al:∀ b o,(s2.heap.push { cls:=.type "list",dict:=ZD,data:=.seq ([]:List ZE).toArray }).get? b=ZC o->h4.get? b=ZC o:=λb o e=>
  af.extBut b o (zAy (zAs e)) (zAg _ e)
 let J0:=Zu (t4:=s2.toks+([]:List (ZM×ZE)).length) I3 S hN aa Z ag an al;let ak:Y 0 h4:=T.keep _ _ _ a1 λb j o e=>al b o e;let fB:∀ {H':Hp},(∀ b∈fp,H' b=ZD)->∀ b∈fp,Iq (Qg X NC scope { s2 with heap:=s2.heap.push { cls:=.type "list",dict:=ZD,data:=.seq ([]:List ZE).toArray } } (upd H2 ⇑s2 (.lst [])) fp) [] H' b:=λhn b j=>by
  refine⟨hn b j,zAy (ag b j),λz=>?_,.inl j,λx c e=>(Z b j).2.2.2.2.1 x c (Ig e),λp hp=>ZR (show p∈([]:List (ZF×cP)) from hp) (by simp)⟩;rcases zAj.mp (I3.stkSub b z) with z|z
  .exact (Z b j).2.1 z
  .exact (Z b j).2.2.1 z
 let L:∀ s4:ZG,s4={ s2 with heap:=h4,toks:=s2.toks+([]:List (ZM×ZE)).length } ->
   dD (ZS X.prog X.w) X.A (.compLoop (.ListComp elt [⟨tg,iter,ifs,0⟩] scope pos) 0 (.ref it) (.ref ⇑s2) (compEnvC scope (P8 X.env.cells scope.names []) (s2.heap.push { cls:=.type "list",dict:=ZD,data:=.seq ([]:List ZE).toArray }).objs.size X.env))
    (RR (.ref ⇑s2) (s2.heap.push { cls:=.type "list",dict:=ZD,data:=.seq ([]:List ZE).toArray }).objs.size) s4:=by
  rintro s4 rfl;refine T6 (λn s'=>∃ i ys σ' H',Ed (Qg X NC scope { s2 with heap:=s2.heap.push { cls:=.type "list",dict:=ZD,data:=.seq ([]:List ZE).toArray } } (upd H2 ⇑s2 (.lst [])) fp) [] σ' H' s'/\Y i s'.heap/\(∀ b∈fp,H' b=ZD)/\W i n ys σ' H') ?_ m0
   ⟨0,[],_,_,J0,ak,λb j=>(Z b j).1,w0⟩
  rintro n s5 ⟨i,ys,σ5,H5,J5,ad,ao,w5⟩;obtain⟨a3,ax⟩:=ai i n ys σ5 H5 w5;rcases ax with ⟨ah,qn⟩|⟨go,hz,step⟩
  .refine Cb (T.done (Qg X NC scope _ _ fp) rfl rfl rfl hc i [] s5 σ5 H5 _ J5 (fB ao) ad ah) λr s6 ⟨hr,J6⟩=>.inl ⟨hr,?_⟩
   exact ar _ _ _ _ _ I3 Z J6 qn
  .refine Cb (T.item (Qg X NC scope _ _ fp) rfl rfl rfl hc i [] s5 σ5 H5 _ J5 (fB ao) ad go) λr s6 ⟨u,hr,h6⟩=>.inr ⟨u,hr,?_⟩
   refine Cb h6 λ_ s7 ⟨x,H7,J7,r7,y7,U,az⟩=>?_;let au:=J7.pinned (fB az) (T.obj _ _ U);obtain⟨N,aj,q7⟩:=step x H7 y7;refine Cb (hg _ _ fp _ s7 σ5 H7 x u _ au r7 q7) λ_ s8 ⟨σ8,H8,J8,q8⟩=>?_;refine Cb (ht _ _ fp _ s8 σ8 H8 _ J8 q8) λok s9 ⟨H9,J9,q9⟩=>?_;let B:∀ {σa:St} {Ha:Hp} {sa:ZG} {ya:List V} {ma:Nat},Ed (Qg X NC scope { s2 with heap:=s2.heap.push { cls:=.type "list",dict:=ZD,data:=.seq ([]:List ZE).toArray } } (upd H2 ⇑s2 (.lst [])) fp) ([]++Ru fp s7.heap) σa Ha sa->ma<n->W (i+1) ma ya σa Ha ->
     ∃ m,m<n/\∃ i ys σ' H',Ed (Qg X NC scope { s2 with heap:=s2.heap.push { cls:=.type "list",dict:=ZD,data:=.seq ([]:List ZE).toArray } } (upd H2 ⇑s2 (.lst [])) fp) [] σ' H' sa/\Y i sa.heap/\(∀ b∈fp,H' b=ZD)/\W i m ys σ' H':=λ{σa Ha sa ya ma} Ja hm wa=>by
    refine⟨ma,hm,i+1,ya,σa,Ha,Ja.unpinned,T.keep _ _ _ U λb j o e=>(Ja.pin (b,o) (zAC _ (zAC _ (Hw j e)))).1,λb j=>?_,wa⟩;obtain⟨o,e,d⟩:=T.obj _ _ U b j;exact (Ja.pin (b,o) (zAC _ (zAC _ (Hw j e)))).2.1
   cases ok with
   |false=>
    obtain⟨m',hm,w'⟩:=aj _ _ _ (show N ys σ8 H9 from q9);exact .inr ⟨rfl,B J9 hm w'⟩
   |true=>
    refine .inl ⟨rfl,Cb (he _ _ fp _ s9 σ8 H9 _ J9 q9) λyv as ⟨y,ae,ay,aw,ap,aq⟩=>?_⟩;obtain⟨m',hm,w'⟩:=aj _ _ _ aq;refine Cb (Bw _ as σ8 ae (.ref ⇑s2) [y] (.ref ⇑s2) [yv] (λ_ Hz=>Hz=upd ae ⇑s2 (.lst (ys++[y]))) ay rfl (.cons aw .nil) ⟨_,ys,y,rfl,rfl,ap,hz,rfl⟩) λ_ a2 ⟨_,a4,a0,_,av⟩=>?_;subst av;exact B a0 hm w'
 exact codeAny_compStart_list (L _ rfl) (T.self X.A 0 _ _ _ ak (L _ rfl))
def Cj {X:Cx} {NC own cs:List ZM} {ix:List Nat} {g:TG} (hc:X.calm=ZI) (S:Dr X.env.scope scope) (hN:NC=own++cs) (z:YK X scope cs ix)
  (hi:PI X tg iter wi) (hg:∀ q j fp,PG (Qg X NC scope q j fp) tg g) (ht:∀ q j fp,QK (Qg X NC scope q j fp) ifs tc) (he:∀ q j fp,PE (Qg X NC scope q j fp) elt te)
  (hs:∀ x,jF iter X.env x=pure x:=by intro _;rfl):PE X (.ListComp elt [⟨tg,iter,ifs,0⟩] scope pos) (ID wi g tc te own.length ix):=by
 intro pins s σ H Q I h;rw[eval_ListComp];let Y:∀ y∈scope.names,y.2=.free->∃ c,X.env.cells.lookup y.1=ZC c:=λy hy e=>I.ok.has y.1 (S.free y hy e);refine mP (use:=ZD) rfl hs (BH Y) S.kind S.own (Cb (hi pins s σ H _ I h) λv s1 h1=>Cb h1 λaa s2 L=>?_);obtain⟨it,fp,tn,J,H2,e,I2,T,M,f2,L⟩:=L;subst e;refine Ti hc S hN z hg ht he I2 T M f2 (QQ:=λp=>Q (.ref p)) (RR:=λF C=>compPost (ZS X.prog X.w) X.A X.xe ZD (EP X pins σ Q) F C) L λq j σ5 H5 s6 I3 f3 Z qn=>?_;obtain⟨m6,B,_⟩:=Z.loc;exact⟨m6,B,λh7 U=>⟨.ref ⇑s2,H5,Tw I3 f3 Z U,rfl,qn⟩⟩
def Ff {X:Cx} {NC own cs:List ZM} {ix:List Nat} {g:TG} {y:ZM} {j:Nat} (ag:X.N.Nodup) (hj:X.N[j]?=ZC y) (Y:X.env.scope.names.lookup y=ZC .local) (hc:X.calm=ZI) (S:Dr X.env.scope scope) (hN:NC=own++cs) (M:YK X scope cs ix)
  (hi:PI X tg iter wi) (hg:∀ B L fp,PG (Qg X NC scope B L fp) tg g) (ht:∀ B L fp,QK (Qg X NC scope B L fp) ifs tc) (he:∀ B L fp,PE (Qg X NC scope B L fp) elt te)
  (ah:hZ (.ListComp elt [⟨tg,iter,ifs,0⟩] scope pos) (ZC (.Name y py)) spos.line X.env=pure ZI:=by rfl) (hs:∀ x,jF iter X.env x=pure x:=by intro _;rfl) :
  PS X (.Assign [.Name y py] (.ListComp elt [⟨tg,iter,ifs,0⟩] scope pos) spos) (Z3 (ID wi g tc te own.length ix) (Cp j)):=by
 intro pins s σ H D I h;rw[exec_Assign_Name_used _ _ _ _ ah];refine zCF (iP (zCF ?_));show ZP _ X.A (comprehension (.ListComp elt [⟨tg,iter,ifs,0⟩] scope pos) scope X.env _ (newList []) ZK (aM iter X.env) (ZC (iU (.Name y py) X.env)) >>= λ_=>_) _ _ s;let af:∀ y∈scope.names,y.2=.free->∃ c,X.env.cells.lookup y.1=ZC c:=λy Y e=>I.ok.has y.1 (S.free y Y e);refine zCF (Cb (mP (use:=ZC (iU (.Name y py) X.env)) (Q:=λ_ s'=>SP X pins D .next s') rfl hs (BH af) S.kind S.own (Cb (hi pins s σ H _ I h) λv s1 h1=>Cb h1 λai s2 h2=>?_)) λ_ s' hq=>zCG (zCG hq));obtain⟨it,fp,tn,J,H2,e,I2,T,ad,f2,h2⟩:=h2;subst e;refine Ti hc S hN M hg ht he I2 T ad f2 (QQ:=λp H'=>D.nx (σ.set j (ZC (.ref p))) H') (RR:=λaa C=>compPost (ZS X.prog X.w) X.A X.xe (ZC (iU (.Name y py) X.env)) (λ_ s'=>SP X pins D .next s') aa C) h2 λB L σ5 H5 s6 F f3 J6 qn=>?_;obtain⟨m6,Z,_⟩:=J6.loc;let I6:=Tw F f3 J6 (zBr.refl ..);show ZP _ X.A (iU (.Name y py) X.env (.ref ⇑s2)) _ _ s6;refine wpAny_assign_Name (To (v:=.ref ⇑s2) I6 ag hj (.inl Y) rfl (λs7 I7 ⟨a,ae,U⟩=>?_) (.inr Y));let ac:⇑B≠a:=by
  rcases U with U|U
  .rw[U];exact aR (zAy F.lt)
  .obtain⟨v,q⟩:=F.cell y a U
   exact aR (zAy q.lt)
 refine⟨m6,Z.sameBut ae ac,λh8 ab=>?_⟩;let nC:H5 ⇑B=ZD:=J6.free;let I8:Ed X pins (σ.set j (ZC (.ref ⇑s2))) H5 { s7 with heap:=h8,toks:=s7.toks }:=by
  refine I7.turned (it:=⇑B) (λb o hb e=>(ab.2 b hb).trans e) nC (aR (zAy F.lt)) (.inr F.sz) (λx c e z=>?_) (λp hp z=>?_)
  .obtain⟨v,q⟩:=F.cell x c e
   exact ZR (z▸q.lt) (zBq _)
  .exact ZR (z▸zAs (F.pin p hp).1) (zBq _)
 exact⟨_,H5,I8,qn⟩
def Dl {X:Cx}:Fq X (.builtin "isinstance") (λxs H Q=>∃ x c g t b,xs=[x,c]/\(∀ u,Kl c u->u=g)/\Ho X.K H x t/\zBm X.K t g=ZC b/\Q (.bl b) H):=by
 intro pins s σ H xs M Q I r h;obtain⟨x,c,g,t,b,rfl,B,ty,e,q⟩:=h;obtain⟨u,z,rfl,F,L⟩:=BF r;cases B z L;exact X6 I F ty e λj=>⟨.bl b,H,I.tok j,rfl,q⟩
def Tg {n:String}:∀ u,Kl (.ty n) u->u=.type n:=λ_ h=>h
def MJ {a:ZF}:∀ u,Kl (.ref a) u->u=.ref a:=λ_ h=>h
def Lh {X:Cx} (M:X.calm=ZI):Fq X (.builtin "sum") (λxs H Q=>∃ p,∃ ns:List Int,xs=[.ref p]/\Dp X.K H p (ns.map V.int)/\Q (.int ns.sum) H):=by
 intro pins s σ H xs us Q I r h;obtain⟨p,ns,rfl,hq,q⟩:=h;obtain⟨u,rfl,S⟩:=Ki r;cases S;obtain⟨g,F,B,hz⟩:=I.list hq;let hi:cC g ns:=Pt F;obtain⟨ys,j⟩:=hi.allInts.items;let hl:s.heap.IsList p (hE ys):=j▸B.isList;let es:preSum (kH ys) ys.size=ns.sum:=by
  let Y:=hi.numsOf;let z:numsOf (hE ys).toList=ns:=by rw[<- j];exact Y
  rw[nums_intItems] at z;rw[preSum_eq,zCb (by simp),z]
 refine sum_intListG (I.ok.hd M) hl λh' Z L U=>?_;exact⟨.int ns.sum,H,I.kept U,⟨L,by rw[es]⟩,q⟩
def IJ:List V->List V->Bool
 |[],[]=>ZI
 |x::xs,y::ys=>W1 x y&&IJ xs ys
 |_,_=>ZK
abbrev Di (ix:List Nat) (σ:St):St:=ix.map λj=>(σ[j]?).getD ZD
def Hv {lo:Int} {n:Nat} {ix:List Nat} {QQ:Hp->Prop} {p:ZF} (g:Nat->List V->Hp->Prop) (h0:g 0 [] (upd H1 p (.lst [])))
  (hp:∀ i ys H,i<=n->g i ys H->H p=ZC (.lst ys)/\ys.length<=i) (hn:n<=sizeLine)
  (Z:∀ i ys H,i<n->g i ys H->tc (ZC (.int (lo+i))::Di ix σ) H λb M=>if b=ZI then te (ZC (.int (lo+i))::Di ix σ) M λy L=>L p=ZC (.lst ys) /\
   (ZC (.int (lo+i))::Di ix σ)=(ZC (.int (lo+i))::Di ix σ)/\g (i+1) (ys++[y]) (upd L p (.lst (ys++[y]))) else (ZC (.int (lo+i))::Di ix σ)=(ZC (.int (lo+i))::Di ix σ)/\g (i+1) ys M)
  (hd:∀ ys H,g n ys H->QQ H) :
  Ot (Cp 0) tc te 1 ix σ (EW lo n) p H1 QQ:=by
 refine⟨λi m ys U B=>m=n-i/\i<=n/\(∃ o,U=o::Di ix σ)/\g i ys B,⟨n,by simp,zAw _,⟨ZD,rfl⟩,h0⟩,?_⟩;rintro i m ys U B ⟨rfl,hi,⟨o,rfl⟩,pv⟩;obtain⟨F,Y⟩:=hp i ys B hi pv;refine⟨F,?_⟩;by_cases j:i<n
 .refine .inr ⟨j,by lia,λx H3 y=>?_⟩
  obtain⟨e,y⟩:=y;subst e y;exact⟨λz S H'=>S=(ZC (.int (lo+i))::Di ix σ)/\g (i+1) z H',λz S H' ⟨e,q⟩=>⟨n-(i+1),by lia,rfl,j,⟨_,e⟩,q⟩,Z i ys _ j pv⟩
 .have e:i=n:=by lia
  subst e;exact .inl ⟨zAl _,hd ys B pv⟩
def Bk {K} {a} {xs} {tc} {te} {σ} {ix:List Nat} {QQ:Hp->Prop} {H1} {p} (g:Nat->List V->Hp->Prop) (h0:g 0 [] (upd H1 p (.lst [])))
  (hp:∀ i ys H,i<=xs.length->g i ys H->H p=ZC (.lst ys)/\ys.length<=i/\Dp K H a xs) (hn:xs.length<=sizeLine)
  (hs:∀ i x ys H,xs[i]?=ZC x->g i ys H->tc (ZC x::Di ix σ) H λb S=>if b=ZI then te (ZC x::Di ix σ) S λy M=>M p=ZC (.lst ys) /\
   (ZC x::Di ix σ)=(ZC x::Di ix σ)/\g (i+1) (ys++[y]) (upd M p (.lst (ys++[y]))) else (ZC x::Di ix σ)=(ZC x::Di ix σ)/\g (i+1) ys S)
  (hd:∀ ys H,g xs.length ys H->QQ H) :
  Ot (Cp 0) tc te 1 ix σ (Y5 K a) p H1 QQ:=by
 refine⟨λi m ys Y F=>m=xs.length-i/\i<=xs.length/\(∃ o,Y=o::Di ix σ)/\g i ys F,⟨xs.length,by simp,zAw _,⟨ZD,rfl⟩,h0⟩,?_⟩;rintro i m ys Y F ⟨rfl,hi,⟨o,rfl⟩,pv⟩;obtain⟨L,Z,j⟩:=hp i ys F hi pv;refine⟨L,?_⟩;by_cases B:i<xs.length
 .refine .inr ⟨⟨xs,xs[i],j,by simp [B]⟩,by lia,λx H3 y=>?_⟩
  obtain⟨e,y⟩:=y;subst e;exact⟨λz U H'=>U=(ZC x::Di ix σ)/\g (i+1) z H',λz U H' ⟨e,q⟩=>⟨xs.length-(i+1),by lia,rfl,B,⟨_,e⟩,q⟩,hs i x ys _ (y xs j) pv⟩
 .have e:i=xs.length:=by lia
  subst e;exact .inl ⟨⟨xs,j,zAl _⟩,hd ys F pv⟩
structure MW (P:ZO) (w:ZX) (K:zAa) (mg:ZM->Option ZE) (base:aB) (k:Nat) (x:ZM) (ps:List ZM) (sp:Sp):Prop where
 ex:∃ f fd,XB P w K mg base Ew k f fd ps sp/\XM K fd ps []/\zAP K (.ref f)=ZI/\mg x=ZC (.ref f)
def Mm {X:Cx} {k:Nat} {x:ZM} {ps:List ZM} {sp:Sp} {e:bA} {es:List bA} {p pos:Pos} {t:TA} (C:MW X.prog X.w X.K X.mg X.base k x ps sp) (hr:XE k X.A) (q:Gl X x) (B:PA X (e::es) t)
  (g:(x==("__debug__" : ZM))=ZK:=by lk) (he:ZU (e::es) X.env=(ZK,aM e X.env)::ZU es X.env:=by rfl) (hpl:(bC pos (ZU es X.env)).any (·.1)=ZK:=by rfl) :
  PE X (.Call (.Name x p) (e::es) [] pos) (M8 sp [] E0 t):=by
 obtain⟨f,fd,F,b,z,j⟩:=C.ex;exact FO F hr q j z b .nil Tt B g he hpl
def RO (mg:ZM->Option ZE) (x:ZM) (i:Int):Prop:=∃ t,mg x=ZC (.int i t)
def PR (mg:ZM->Option ZE) (x:ZM) (z:ZM):Prop:=∃ t,mg x=ZC (.str z t)
def FL {X:Cx} {x:ZM} {i:Int} (h:RO X.mg x i) (g:Gl X x) (j:(x==("__debug__" : ZM))=ZK:=by lk):PE X (.Name x pos) (tC (.int i)):=by
 obtain⟨t,e⟩:=h;exact Vr g e ⟨t,rfl⟩ j
def O6 {X:Cx} {x:ZM} {i:ZM} (h:PR X.mg x i) (g:Gl X x) (j:(x==("__debug__" : ZM))=ZK:=by lk):PE X (.Name x pos) (tC (.str i)):=by
 obtain⟨t,e⟩:=h;exact Vr g e ⟨t,rfl⟩ j
def Th {X:Cx} {x:ZM} (T:String) (g:Gl X x) (z:X.mg x=ZD) (q:zCI x=ZC (.type T)) (j:x ≠ "__name__":=by lk) (hd:(x==("__debug__" : ZM))=ZK:=by lk):PE X (.Name x pos) (tC (.ty T)):=
 FI (v:=.ty T) g z q rfl j hd
def AJ {X} {K} (h:X.K=K):NW X (LW K):=h▸GY
def Ds {X} {K} (h:X.K=K):Fq X (.builtin "len") (λxs H Q=>∃ p ys,xs=[.ref p]/\(Dp K H p ys\/Hx K H p ys)/\Q (.int ys.length) H):=h▸Ws
def Ac {p:ZF} (h:H p=ZD) (o:HO):Dg H (upd H p o):=λb u q=>by rw[Ag (Ad q h)];exact q
def Dq {n:Nat} (h:n<=1000):n<=sizeLine:=zCi (S0 h)
def LM {ns:List Int} {i:Nat} {n:Int} (h:ns[i]?=ZC n):Pa (ns.map V.int) (i:Int)=ZC (.int n):=Fw (by rw[zAx,h];rfl)
def K7 {ns:List Int} {i:Int} (g:0<=i) (h:i<ns.length):Pa (ns.map V.int) i=ZC (.int (ns.getD i.toNat 0)):=by
 let e:((i.toNat:Nat):Int)=i:=by lia
 let q:=LM (ns:=ns) (i:=i.toNat) (n:=ns.getD i.toNat 0) (by rw[zAe (by lia),zAr,zAe (by lia)];rfl);rw[e] at q;exact q
example:zCI "int"=ZC (.type "int"):=by rfl
def FN (K:zAa) (a:ZF):It:=
 ⟨λi H=>∃ xs x,Dp K H a xs/\xs[i]?=ZC x,
   λi H x H'=>∃ t y,x=.ref t/\H t=ZD/\(∀ xs,Dp K H a xs->xs[i]?=ZC y)/\H'=upd H t (.tup [.int i,y]),
   λi H=>∃ xs,Dp K H a xs/\xs.length<=i⟩
def V1 {P} {w} {K} {ac} {k:Nat} {tp} (a e it:ZF) (ad:e≠it) :
  Xh P w K (.Tuple ac k tp) (FN K a) [e,it] e (λi h=>(∃ j,IsEnum h e it i j)/\h.IsListIter it a i) where
 mem:=by simp
 obj:=λi h st b g=>by
  obtain⟨⟨j,S⟩,o,ho,c,d⟩:=st;rcases zAj.mp g with rfl|g
  .exact⟨_,S,λv z=>by
    let z':mO _=iR v:=z;cases z'⟩
  .have eb:b=it:=by simpa using g
   subst eb;exact⟨o,ho,λv z=>by rw[d] at z;cases z⟩
 keep:=λi h h' st kk=>by
  obtain⟨⟨j,S⟩,F⟩:=st;exact⟨⟨j,kk e (by simp) _ S⟩,F.at λo x=>kk it (by simp) o x⟩
 item:=by
  intro X hP hw hK hc i pins s σ H E I hf st hg;subst hP hw hK;obtain⟨⟨j,S⟩,F⟩:=st;obtain⟨xs,x,hq,hx⟩:=hg;obtain⟨ah,rv,p,hz⟩:=I.list hq;obtain⟨u,hu,ru⟩:=rv.get hx;obtain⟨e0,e1,e2,e3,e4,e5⟩:=hf e (by simp);obtain⟨i0,i1,i2,i3,i4,i5⟩:=hf it (by simp);refine wpAny_pyNext_enum_item S F p.isList (x:=u) (by simpa using hu) ad λh1 ho ab hT aj hk=>⟨_,rfl,?_⟩;refine wpAny_letOwnedTupleGo_enum ho λh2 ag ae=>?_;let M:zBr e h1 h2:=ae;let Z:e<⇑s:=zAs S;let L:H ⇑s=ZD:=I.hok.fresh (zAl _);let up:∀ b o,b≠e->b≠it->s.heap.get? b=ZC o->h2.get? b=ZC o:=λb o h3 h4 q=>(M.2 b h3).trans (hk b o h3 h4 q);let B:∀ b,b∉[e,it]->b≠e/\b≠it:=λb g=>⟨λz=>g (by simp [z]),λz=>g (by simp [z])⟩;let U:∀ b o,H b=ZC o->b≠e/\b≠it:=λb o q=>⟨λz=>by (rw[z,e0] at q;cases q),λz=>by (rw[z,i0] at q;cases q)⟩;let aa:h2.get? ⇑s=ZC { cls:=.type "tuple",data:=.seq #[.int i s.toks,u] }:=(M.2 _ (zBB Z)).trans hT;let I1:Ed X pins σ (upd H ⇑s (.tup [.int i,x])) { s with heap:=h2,gens:=s.gens,drawn:=s.drawn,toks:=s.toks+1 }:=by
   refine I.step (ch:=[e,it]) (λb g=>?_) (λb o _ _ g q _=>up b o (B b g).1 (B b g).2 q) (λb o _ _ g q _=>⟨o.slots,up b o (B b g).1 (B b g).2 q⟩) (λb o _ q n=>by rw[Ag (zAy (zAs q))];exact n)
    (λb o g q=>⟨o,up b o (B b g).1 (B b g).2 q⟩) (λb xs q=>by rw[Ag (Ad q L)];exact q) (λb o u q=>by rw[Ag (Ad q L)];exact q) (λb ps q=>⟨#[],by rw[Ag (Ad q L),q];simp⟩)
    (λm hm=>?_) (λb o q=>?_) I.bare
   .rcases zAj.mp g with rfl|g
    .exact⟨e3,e1,e4,e5⟩
    .have eb:b=it:=by simpa using g
     subst eb;exact⟨i3,i1,i4,i5⟩
   .obtain⟨o,es,ep,ai,r⟩:=hm
    exact⟨o,es,ep,up _ o (aR e1) (aR i1) ai,r⟩
   .by_cases g:b=⇑s
    .subst g
     rw[Aa] at q;cases q;exact⟨Dq (by show 2<=1000;decide),[.int i s.toks,u],.cons ⟨_,rfl⟩ (.cons ru .nil),_,aa,rfl,_,rfl⟩
    .rw[Ag g] at q
     refine (I.hok b o q).stay (λc v Y q2=>?_) (λc q2=>by rw[Ag (Ad q2 L)];exact q2) (λc xs q2=>by rw[Ag (Ad q2 L)];exact q2);rcases Y with rfl|Y
     .exact up _ v (U _ _ q).1 (U _ _ q).2 q2
     .exact up _ v (U _ _ Y).1 (U _ _ Y).2 q2
  refine⟨.ref ⇑s,_,I1,rfl,⟨_,x,rfl,L,λys hy=>by rw[I.list_inj hy hq];exact hx,rfl⟩,⟨⟨u,?_⟩,?_⟩,λb g=>?_⟩
  .have ei:((i+1:Nat):Int)=(i:Int)+1:=by lia
   rw[ei];exact ag
  .exact ab.at λo q=>(M.2 it ad.symm).trans q
  .have af:b<⇑s:=by
    rcases zAj.mp g with rfl|g
    .exact Z
    .have eb:b=it:=by simpa using g
     subst eb;obtain⟨o,q,_⟩:=F;exact zAs q
   rw[Ag (zAy af)];exact (hf b g).1
 done:=by
  intro X hP hw hK hc i pins s σ H E I hf st hg;subst hP hw hK;obtain⟨⟨j,S⟩,F⟩:=st;obtain⟨xs,hq,hx⟩:=hg;obtain⟨ah,rv,p,hz⟩:=I.list hq;obtain⟨i0,i1,i2,i3,i4,i5⟩:=hf it (by simp);let hl:=rv.length;exact wpAny_pyNext_enum_end (I.ok.hd hc) S F p.isList (by simp;lia) λh' eb=>⟨rfl,I.turned (t':=s.toks) (λb o g q=>eb b o g q) i0 i1 i3 i4 i5⟩
 self:=λ_ _ _ _ _ st h=>by
  obtain⟨⟨j,S⟩,_⟩:=st;exact wpAny_pyIter_enum S h
def OJ (K:zAa) (ta:TA):TI:=λσ H R=>ta σ H λvs H1=>∃ a,vs=[.ref a]/\(∃ xs,Dp K H1 a xs)/\R (FN K a) H1
def Hy {X} {a} {ta} {p pos tp} {j} {k:Nat} (Y:Gl X "enumerate") (U:X.mg "enumerate"=ZD) (ha:PA X [a] ta) (hs:ZU [a] X.env=[(ZK,aM a X.env)]:=by rfl) :
  PI X (.Tuple j k tp) (.Call (.Name "enumerate" p) [a] [] pos) (OJ X.K ta):=by
 intro pins s σ H R I h;refine Call_ (Fz I Y U (show zCI "enumerate"=ZC (.type "enumerate") from rfl) (aU (Cb (ha pos pins s σ H _ I h) λus z ⟨vs,H1,g,r1,q1⟩=>?_) hs rfl));obtain⟨a,S,⟨xs,hq⟩,q⟩:=q1;subst S;obtain⟨u,rfl,rx⟩:=Ki r1;cases rx;obtain⟨ab,rv,M,hz⟩:=g.list hq;refine call_enumerate_list M.isList λh' L F aa Z=>?_;refine wpAny_pyIter_enum L ?_;let I2:Ed X pins σ H1 { z with heap:=h' }:=g.kept (t':=z.toks) Z;refine⟨_,[⇑z+1,⇑z],_,_,H1,rfl,I2,V1 a _ _ (Nat.succ_ne_self _),⟨⟨_,L⟩,F⟩,λb B=>?_,q⟩;rcases zAj.mp B with rfl|B
 .exact g.fpOk (zBE _) (g.hok.fresh (zBE _))
 .have eb:b=⇑z:=by simpa using B
  subst eb;exact g.fpOk (zAl _) (g.hok.fresh (zAl _))
def Cz {X} {K} {es} {k:Nat} {t} {n:Nat} {pos} (j:X.K=K) (q:X.calm=ZI) (h:RP X es t)
  (g:(dP es X.env).length=n:=by rfl) (hst:(dP es X.env).findIdx? (·.1)=ZD:=by rfl):PG X (.Tuple es k pos) (Yv K n t):=j▸LI q h g hst
def Uv {K K'} {a} {xs} {tc} {te} {σ} {ix:List Nat} {QQ:Hp->Prop} {H1} {p} (g:Nat->List V->Hp->Prop) (h0:g 0 [] (upd H1 p (.lst [])))
  (hp:∀ i ys H,i<=xs.length->g i ys H->H p=ZC (.lst ys)/\ys.length<=i/\Dp K H a xs) (hn:xs.length<=sizeLine)
  (hs:∀ i x ys H t,xs[i]?=ZC x->g i ys H->H t=ZD->tc (ZC (.int i)::ZC x::Di ix σ) (upd H t (.tup [.int i,x])) λb U=>if b=ZI then te (ZC (.int i)::ZC x::Di ix σ) U λy Y=>Y p=ZC (.lst ys) /\
   (ZC (.int i)::ZC x::Di ix σ)=(ZC (.int i)::ZC x::Di ix σ)/\g (i+1) (ys++[y]) (upd Y p (.lst (ys++[y]))) else (ZC (.int i)::ZC x::Di ix σ)=(ZC (.int i)::ZC x::Di ix σ)/\g (i+1) ys U)
  (hd:∀ ys H,g xs.length ys H->QQ H) :
  Ot (Yv K' 2 (Ge (Cp 0) (Ge (Cp 1) K1))) tc te 2 ix σ (FN K a) p H1 QQ:=by
 refine⟨λi m ys Z F=>m=xs.length-i/\i<=xs.length/\(∃ o o',Z=o::o'::Di ix σ)/\g i ys F,⟨xs.length,by simp,zAw _,⟨ZD,ZD,rfl⟩,h0⟩,?_⟩;rintro i m ys Z F ⟨rfl,hi,⟨o,o',rfl⟩,pv⟩;obtain⟨M,aa,j⟩:=hp i ys F hi pv;refine⟨M,?_⟩;by_cases B:i<xs.length
 .refine .inr ⟨⟨xs,xs[i],j,by simp [B]⟩,by lia,λx H3 y=>?_⟩
  obtain⟨t,z,ex,ht,hz,e3⟩:=y;subst ex e3;refine⟨λL S H'=>S=(ZC (.int i)::ZC z::Di ix σ)/\g (i+1) L H',λL S H' ⟨e,q⟩=>⟨xs.length-(i+1),by lia,rfl,B,⟨_,_,e⟩,q⟩,?_⟩;exact⟨t,_,rfl,Hx.of Aa,rfl,_,_,rfl,_,_,rfl,rfl,hs i z ys F t (hz xs j) pv ht⟩
 .have e:i=xs.length:=by lia
  subst e;exact .inl ⟨⟨xs,j,zAl _⟩,hd ys F pv⟩
structure G0 (P:ZO) (w:ZX) (K:zAa) (mg:ZM->Option ZE) (base:aB) (k:Nat) (C:ZF) (m:ZM) (ps:List ZM) (sp:Sp):Prop where
 ex:∃ f fd,XB P w K mg base Ew k f fd ps sp/\XM K fd ps []/\HE K C m f
 cl:YU K C
def Bt {X:Cx} {k:Nat} {C:ZF} {m:ZM} {ps:List ZM} {sp:Sp} {e o:bA} {es:List bA} {t:TA} {pl:mS Bool} (M:G0 X.prog X.w X.K X.mg X.base k C m ps sp) (hr:XE k X.A) (j:PE X o ta) (q:PA X (e::es) t)
  (g:ZU (e::es) X.env=(ZK,aM e X.env)::ZU es X.env:=by rfl) (hpl:(bC pos (ZU es X.env)).any (·.1)=ZK:=by rfl)
  (ht:aM (.Call (.Attribute o m apos) (e::es) [] pos) X.env=(do
   let ov <- aM o X.env
   gD apos.atName
   let (f,first) <- eB [ov] (eF ov m pl)
   jH pos f first (bC pos (ZU (e::es) X.env)) (eQ pos (cS [] X.env))):=by rfl) :
  PE X (.Call (.Attribute o m apos) (e::es) [] pos) (JB C m sp [] E0 ta t):=by
 obtain⟨f,fd,F,b,z⟩:=M.ex;exact FM j M.cl z F hr b .nil Tt q g hpl ht
structure U5 (P:ZO) (w:ZX) (K:zAa) (mg:ZM->Option ZE) (base:aB) (k:Nat) (x:ZM) (C:ZF) (ps:List ZM) (sp:Sp):Prop where
 ex:∃ f fd,Mk K C f/\XB P w K mg base Ew k f fd ps sp/\XM K fd ps []/\mg x=ZC (.ref C)
def Cy {X:Cx} {k:Nat} {x:ZM} {C:ZF} {ps:List ZM} {sp:Sp} {e:bA} {es:List bA} {p pos:Pos} {t:TA} (M:U5 X.prog X.w X.K X.mg X.base k x C ps sp) (hr:XE (k+1) X.A) (j:Gl X x) (q:PA X (e::es) t)
  (g:(x==("__debug__" : ZM))=ZK:=by lk) (he:ZU (e::es) X.env=(ZK,aM e X.env)::ZU es X.env:=by rfl) (hpl:(bC pos (ZU es X.env)).any (·.1)=ZK:=by rfl) :
  PE X (.Call (.Name x p) (e::es) [] pos) (O8 C sp [] E0 t):=by
 obtain⟨f,fd,mk,F,b,z⟩:=M.ex;exact GG mk F hr j z b .nil Tt q g he hpl
def Cr {X} {K} {o e} {es} {to} {t} {name} {apos cpos} {T id} {r:V->List V->Hp->VK->Prop} (B:X.K=K) (F:PlainAttrs T) (slot:Slot T name id) (j:nP (.builtin id)=pure (.type "method_descriptor")) (q:TU X id r) (L:PE X o to) (z:PA X (e::es) t)
  (g:dB o name X.env (aM o X.env)=aM o X.env:=by rfl)
  (hfew:((bC cpos (ZU (e::es) X.env)).all (λx => !x.1)&&(eQ cpos (cS [] X.env)).all (λx=>x.1.isSome)
   && decide ((e::es).length+([]:List lH).length+(if ([]:List lH).isEmpty then 0 else 1)<30))=ZI:=by rfl)
  (hline:(apos.endLine==cpos.line)=ZI:=by rfl) (hs:ZU (e::es) X.env=(ZK,aM e X.env)::ZU es X.env:=by rfl) (hplain:(bC cpos (ZU es X.env)).any (·.1)=ZK:=by rfl) :
  PE X (.Call (.Attribute o name apos) (e::es) [] cpos) (VY K T r to t):=B▸QL F slot j q L z g hfew hline hs hplain
def tx (l:List Nat):ZM:=⟨l.toArray⟩
def AD (l:List Nat):(tx l).cps.toList=l:=rfl
def Es (l:List Nat):(tx l).length=l.length:=by simp [tx,Str.length]
def Kj (x:ZM):tx x.cps.toList=x:=by cases x;rfl
def Wq (l m:List Nat):tx l++tx m=tx (l++m):=by
 show (⟨l.toArray++m.toArray⟩:ZM)=⟨(l++m).toArray⟩;rw[List.append_toArray]
def Da (c:Nat):List Nat->List (List Nat)
 |[]=>[[]]
 |x::l=>if x=c then []::Da c l else match Da c l with
  |[]=>[[x]]
  |p::r=>(x::p)::r
theorem Qz {c:Nat}:∀ {l:List Nat},c∉l->Da c l=[l]
 |[],_=>rfl
 |x::l,h=>by
  let h1:x≠c:=λe=>h (by rw[e];exact zAd);unfold Da;rw[ZH h1,Qz λz=>h (zAb _ z)]
theorem Uy {c:Nat}:∀ {p:List Nat} (l:List Nat),c∉p->Da c (p++c::l)=p::Da c l
 |[],l,_=>by
  show Da c (c::l)=_;rw[Da,ZJ rfl]
 |x::p,l,h=>by
  let h1:x≠c:=λe=>h (by rw[e];exact zAd);show Da c (x::(p++c::l))=_;rw[Da,ZH h1,Uy l λz=>h (zAb _ z)]
theorem Ri {c:Nat}:∀ {ps},ps≠[]->(∀ p∈ps,c∉p.cps.toList)->Da c (bO (tx [c]) ps).cps.toList=ps.map λp=>p.cps.toList
 |[],h,_=>ZR rfl h
 |[p],_,h=>Qz (h p zAd)
 |p::q::r,_,h=>by
  let ih:=Ri (ps:=q::r) (by simp) λz g=>h z (zAb _ g);let e:(bO (tx [c]) (p::q::r)).cps.toList=p.cps.toList++c::(bO (tx [c]) (q::r)).cps.toList:=by
   show (p++tx [c]++bO (tx [c]) (q::r)).cps.toList=_;show (p.cps++(tx [c]).cps++(bO (tx [c]) (q::r)).cps).toList=_;simp [tx]
  rw[e,Uy _ (h p zAd),ih];rfl
def W3 (l:List Nat) (c:Nat):iV (tx l) (tx [c])=(Da c l).map tx:=by
 let h1:=StrLaws.join_split (tx l) (tx [c]);let q:=StrLaws.split_free (tx l) c;let j:iV (tx l) (tx [c])≠[]:=λz=>by
  let:=split_pos (tx l) (tx [c]);rw[z] at this;simp at this
 let g:=Ri j q;rw[h1,AD] at g;rw[g,zBw]
 symm
 let:∀ ps:List ZM,ps.map (tx ∘ λp=>p.cps.toList)=ps:=λps=>by
  induction ps with
  |nil=>rfl
  |cons p r ih=>rw[zAp,ih];show tx p.cps.toList::r=_;rw[Kj]
 exact this _
theorem Tp:∀ (ps:List ZM) (n:Nat),Fy (ps.map V.str) (strsFrom n ps)
 |[],_=>.nil
 |p::r,n=>.cons ⟨n,rfl⟩ (Tp r (n+1))
def DZ:NX X "str.split" (λx vs H Q=>∃ z y,x=.str z/\vs=[.str y]/\(y.length==0)=ZK/\z.length+2<=sizeLine/\∀ p,H p=ZD->Q (.ref p) (upd H p (.lst ((iV z y).map V.str)))):=by
 intro pins s σ H x vs v U Q I M L h;obtain⟨z,y,rfl,rfl,B,Y,q⟩:=h;obtain⟨t,rfl⟩:=M;obtain⟨w,rfl,S⟩:=L.one;obtain⟨u,rfl⟩:=S;let g:=split_le z y;let hq:=q ⇑s I.fresh;unfold iV at hq g;cases h1:(decide (z.length<y.length)||decide (jW z<jW y)) with
 |false=>
  rw[h1] at hq g;cases j:(dX z y 0 z.length (z.length+1)).isEmpty with
  |false=>
   rw[j] at hq g;simp only [zBd,cO] at hq g;refine eO jN (eI _ _ _) iX (iN _ _) (meets_str_split_sep z y t u h1 B j (by lia) (by lia)) ?_;exact⟨.ref _,_,I.lnew (Tp _ _) (by rw[zAc];lia),rfl,hq⟩
  |true=>
   rw[j] at hq;simp only [zBd,cO,eM] at hq;refine eO jN (eI _ _ _) iX (iN _ _) (meets_str_split_not_found z y t u h1 B j) ?_;exact⟨.ref _,_,I.lnew (t':=s.toks) (ys:=[V.str z]) (.cons ⟨t,rfl⟩ .nil) (by show 1<=sizeLine;exact Dq (by lk)),rfl,hq⟩
 |true=>
  rw[h1] at hq;simp only [eM] at hq;refine eO jN (eI _ _ _) iX (iN _ _) (meets_str_split_cannot_occur z y t u h1) ?_;exact⟨.ref _,_,I.lnew (t':=s.toks) (ys:=[V.str z]) (.cons ⟨t,rfl⟩ .nil) (by show 1<=sizeLine;exact Dq (by lk)),rfl,hq⟩
def Y2:Kb X (aT .NotIn) (λx y H Q=>∃ c z,x=.str (tx [c])/\y=.str z/\Q (.bl (!decide (c∈z.cps.toList))) H):=by
 intro pins s σ H x y v u Q I g j h;obtain⟨c,z,rfl,rfl,q⟩:=h;refine Wx pins s σ H _ _ v u Q I g j ⟨tx [c],z,rfl,rfl,?_⟩;rw[show (!(dX z (tx [c]) 0 z.length 1).isEmpty)=decide (c∈z.cps.toList) from StrLaws.found_one z c];exact q
def OA (x:ZM):It:=⟨λi _=>i<x.cps.size,λi H v H'=>H'=H/\∃ c,x.cps[i]?=ZC c/\v=.str (tx [c]),λi _=>x.cps.size<=i⟩
def Y1 {P} {w} {K} {tg} (x:ZM) (t:Tok) (it:ZF):Xh P w K tg (OA x) [it] it (λi h=>h.IsStrIter it "str_ascii_iterator" x t i) where
 mem:=by simp
 obj:=λi h st b g=>by
  let e:b=it:=by simpa using g
  subst e;obtain⟨o,e,c,d⟩:=st;exact⟨o,e,λv z=>by rw[d] at z;cases z⟩
 keep:=λi h h' st k=>by
  obtain⟨o,e,c,d⟩:=st;exact⟨o,k it (by simp) o e,c,d⟩
 item:=by
  intro X F M U Z i pins s σ H E I q st L;subst F M U;obtain⟨f0,f1,f2,Y,S,B⟩:=q it (by simp);let hi:i<x.cps.size:=L;refine wpAny_pyNext_ascii_item st (c:=x.cps[i]) (by simp [hi]) λh' j sb=>?_;let I1:Ed X pins σ H { s with heap:=h',toks:=s.toks+1 }:=I.turned (λb o g e=>(sb.2 b g).trans e) f0 f1 Y S B;obtain⟨o,e,c,d⟩:=id j;exact⟨_,rfl,N2 (s:={ s with heap:=h',toks:=s.toks+1 }) e c d (by lk) ⟨.str (tx [x.cps[i]]),H,I1,⟨_,rfl⟩,⟨rfl,_,by simp [hi],rfl⟩,j,λb g=>(q b g).1⟩⟩
 done:=by
  intro X F M U Z i pins s σ H E I q st L;subst F M U;obtain⟨f0,f1,f2,Y,S,B⟩:=q it (by simp);let hi:x.cps.size<=i:=L;exact wpAny_pyNext_ascii_end (I.ok.hd Z) st (by simp;lia) λh' eb=>⟨rfl,I.turned (t':=s.toks) (λb o g e=>eb b o g e) f0 f1 Y S B⟩
 self:=λ_ _ _ _ _ st h=>wpAny_pyIter_striter_ascii st h
def R3 {P} {w} {K} {tg} (x:ZM) (t:Tok) (it:ZF):Xh P w K tg (OA x) [it] it (λi h=>h.IsStrIter it "str_iterator" x t i) where
 mem:=by simp
 obj:=λi h st b g=>by
  let e:b=it:=by simpa using g
  subst e;obtain⟨o,e,c,d⟩:=st;exact⟨o,e,λv z=>by rw[d] at z;cases z⟩
 keep:=λi h h' st k=>by
  obtain⟨o,e,c,d⟩:=st;exact⟨o,k it (by simp) o e,c,d⟩
 item:=by
  intro X F M U Z i pins s σ H E I q st L;subst F M U;obtain⟨f0,f1,f2,Y,S,B⟩:=q it (by simp);let hi:i<x.cps.size:=L;refine wpAny_pyNext_wide_item st (c:=x.cps[i]) (by simp [hi]) λh' j sb=>?_;let I1:Ed X pins σ H { s with heap:=h',toks:=s.toks+1 }:=I.turned (λb o g e=>(sb.2 b g).trans e) f0 f1 Y S B;obtain⟨o,e,c,d⟩:=id j;exact⟨_,rfl,N2 (s:={ s with heap:=h',toks:=s.toks+1 }) e c d (by lk) ⟨.str (tx [x.cps[i]]),H,I1,⟨_,rfl⟩,⟨rfl,_,by simp [hi],rfl⟩,j,λb g=>(q b g).1⟩⟩
 done:=by
  intro X F M U Z i pins s σ H E I q st L;subst F M U;obtain⟨f0,f1,f2,Y,S,B⟩:=q it (by simp);let hi:x.cps.size<=i:=L;exact wpAny_pyNext_wide_end (I.ok.hd Z) st (by simp;lia) λh' eb=>⟨rfl,I.turned (t':=s.toks) (λb o g e=>eb b o g e) f0 f1 Y S B⟩
 self:=λ_ _ _ _ _ st h=>wpAny_pyIter_striter_wide st h
def UO (tl:TE):TI:=λσ H R=>tl σ H λx H1=>∃ z,x=.str z/\R (OA z) H1
def NJ {tg l} {tl} (hl:PE X l tl):PI X tg l (UO tl):=by
 intro pins s σ H R I h;refine Cb (hl pins s σ H _ I h) λv g ⟨x,H1,j,M,F⟩=>?_;obtain⟨z,e,q⟩:=F;subst e;obtain⟨t,rfl⟩:=M;let fp:∀ b∈[⇑g],Iq X pins H1 b:=λb L=>by
  let e:b=⇑g:=by simpa using L
  subst e;exact j.fpOk (zAl _) (j.hok.fresh (zAl _))
 cases B:z.cps.all (· < 128) with
 |true=>exact wpAny_pyIter_ascii B ⟨⇑g,[⇑g],_,_,H1,rfl,j.kept (t':=g.toks) λb o e=>zAg _ e,Y1 z t _,⟨_,zAF _ rfl,rfl,rfl⟩,fp,q⟩
 |false=>exact wpAny_pyIter_wide B ⟨⇑g,[⇑g],_,_,H1,rfl,j.kept (t':=g.toks) λb o e=>zAg _ e,R3 z t _,⟨_,zAF _ rfl,rfl,rfl⟩,fp,q⟩
def GU {l:List Nat} {g:TG} {tb:TS} {D:Lm} {σ:St} {H:Hp} (j:Nat->St->Hp->Prop) (Y:j 0 σ H)
  (M:∀ i c σ H,l[i]?=ZC c->j i σ H->g (.str (tx [c])) σ H λF z=>tb { D with nx:=j (i+1),ct:=j (i+1),bk:=D.nx } F z) (hd:∀ σ H,j l.length σ H->D.nx σ H) :
  ∃ W:Nat->Nat->St->Hp->Prop,(∃ m,W 0 m σ H)/\∀ i m σ H,W i m σ H ->
   ((OA (tx l)).stop i H/\D.nx σ H)\/((OA (tx l)).go i H/\∃ N:St->Hp->Prop,(∀ B H',N B H'->∃ L,L<m/\W (i+1) L B H')/\∀ x H',(OA (tx l)).yld i H x H'->g x σ H' λF z=>tb { D with nx:=N,ct:=N,bk:=D.nx } F z):=by
 let Z:(tx l).cps.size=l.length:=by simp [tx]
 refine⟨λi m σ H=>m=l.length-i/\i<=l.length/\j i σ H,⟨l.length,by simp,zAw _,Y⟩,?_⟩;rintro i m σ H ⟨rfl,hi,p⟩;by_cases q:i<l.length
 .refine .inr ⟨by show i<(tx l).cps.size;lia,j (i+1),λB H' U=>⟨l.length-(i+1),by lia,rfl,q,U⟩,λx H' y=>?_⟩
  obtain⟨e,c,S,y⟩:=y;subst e y;exact M i c σ _ (by simpa [tx] using S) p
 .have e:i=l.length:=by lia
  subst e;exact .inl ⟨by show (tx l).cps.size<=l.length;lia,hd σ H p⟩
def UT:V->Option Int->Option Int->Hp->VK->Prop:=λx lo hi H Q=>∃ z,x=.str z/\z.length<=sizeLine/\Q (.str (gL z lo hi)) H
def C7:NZ X UT:=by
 intro pins s σ H x v vl vu lo hi sl Q I rx B Z Y h;obtain⟨z,rfl,L,q⟩:=h;obtain⟨t,rfl⟩:=rx;refine⟨"str",_,F.slot_str_getitem.lookup,eI _ _ _,?_⟩;let g:∀ M k,EP X pins σ Q (.str (gL z lo hi) M) { s with toks:=k }:=λM k=>⟨.str _,H,I.tok k,⟨M,rfl⟩,q⟩;cases Z with
 |none=>
  cases Y with
  |none=>exact dH (l:=ZD) (u:=ZD) (st:=ZD) B rfl (gJ ⟨zAD (iF z _ _) L,g⟩)
  |int j S=>exact dH (l:=ZD) (u:=ZC (j,S)) (st:=ZD) B rfl (gJ ⟨zAD (iF z _ _) L,g⟩)
 |int i U=>
  cases Y with
  |none=>exact dH (l:=ZC (i,U)) (u:=ZD) (st:=ZD) B rfl (gJ ⟨zAD (iF z _ _) L,g⟩)
  |int j S=>exact dH (l:=ZC (i,U)) (u:=ZC (j,S)) (st:=ZD) B rfl (gJ ⟨zAD (iF z _ _) L,g⟩)
def MV {X:Cx} {x:ZM} {C:ZF} (g:Gl X x) (q:X.mg x=ZC (.ref C)) (j:(x==("__debug__" : ZM))=ZK:=by lk):PE X (.Name x pos) (tC (.ref C)):=Vr (v:=.ref C) g q rfl j
def Yf {l:List Nat} {i:Int} (g:0<=i) (h1:i<=l.length):gL (tx l) ZD (ZC i)=tx (l.take i.toNat):=by
 show mG (tx l) ZD (ZC i)=_;rw[StrLaws.sliceText_to ⟨g,h1⟩];show tx ((l.drop 0).take (i-0).toNat)=_;rw[zCx,Int.sub_zero]
theorem M9:∀ {ps} {its},Fy (ps.map V.str) its->∃ l:List (ZM×Tok),its=strValues l/\l.map (·.1)=ps
 |[],its,h=>by cases h;exact⟨[],rfl,rfl⟩
 |p::r,its,h=>by
  cases h with
  |cons a b=>
   obtain⟨t,rfl⟩:=a;obtain⟨l,rfl,e⟩:=M9 b;exact⟨(p,t)::l,rfl,by rw[zAp,e]⟩
inductive D where
 |at (v:V)
 |seq (t:Bool) (ds:List D)
mutual
def Qb (K:zAa) (H:Hp):D->V->Prop
 |.at v,x=>x=v/\Eo v=ZI
 |.seq t ds,x=>∃ a xs,x=.ref a/\(t=ZI->Hx K H a xs)/\(t=ZK->Dp K H a xs)/\Reps K H ds xs
def Reps (K:zAa) (H:Hp):List D->List V->Prop
 |[],xs=>xs=[]
 |d::ds,xs=>∃ y ys,xs=y::ys/\Qb K H d y/\Reps K H ds ys
end
mutual
def Y4:D->D->Bool
 |.at v,.at u=>W1 v u
 |.seq t ds,.seq u es=>t==u&&eqDs ds es
 |_,_=>ZK
def eqDs:List D->List D->Bool
 |[],[]=>ZI
 |d::ds,e::es=>Y4 d e&&eqDs ds es
 |_,_=>ZK
end
mutual
def LD:D->Nat
 |.at _=>0
 |.seq _ ds=>deps ds+1
def deps:List D->Nat
 |[]=>0
 |d::ds=>max (LD d) (deps ds)
end
theorem Reps.len {K} {H}:∀ {ds} {xs},Reps K H ds xs->ds.length=xs.length
 |[],xs,h=>by unfold Reps at h;subst h;rfl
 |d::ds,xs,h=>by
  unfold Reps at h;obtain⟨y,ys,rfl,_,h⟩:=h;rw[zAf,zAf,Reps.len h]
def OP (ds es:List D) (j:Nat):Bool:=match ds[j]?,es[j]? with
 |some d,ZC e=>Y4 d e
 |_,_=>ZI
theorem Qw:∀ {ds es},ds.length≠es.length->eqDs ds es=ZK
 |[],[],h=>ZR rfl h
 |[],_::_,_=>by unfold eqDs;rfl
 |_::_,[],_=>by unfold eqDs;rfl
 |d::ds,e::es,h=>by
  unfold eqDs;rw[Qw (ds:=ds) (es:=es) λq=>h (by rw[zAf,zAf,q]),zCm]
theorem Px:∀ {ds es},ds.length=es.length->(zAS ds.length).all (OP ds es)=eqDs ds es
 |[],[],_=>by unfold eqDs;rfl
 |[],_::_,h=>by simp at h
 |_::_,[],h=>by simp at h
 |d::ds,e::es,h=>by
  let ih:=Px (ds:=ds) (es:=es) (by simpa using h);unfold eqDs;rw[zAf,List.range_succ_eq_map,zCr,List.all_map,<- ih];rfl
def Xr {v:V} (h:Eo v=ZI):W1 v v=ZI:=by
 cases v <;> first|exact ZR (show ZK=ZI from h) zAt|rfl|simp [W1]
def Xm {a:ZF} {xs ys:List V} (I:Ed X pins σ H s) (h1:Dp X.K H a xs) (j:Hx X.K H a ys):False:=by
 obtain⟨g,_,p,_⟩:=I.list h1;obtain⟨z,_,q,_⟩:=I.tuple j;exact SeqAt.ne_of_list_tuple p.isList q rfl
mutual
theorem A3 (I:Ed X pins σ H s):∀ (d e:D) (x:V),Qb X.K H d x->Qb X.K H e x->Y4 d e=ZI
 |.at v,.at u,x,h1,g=>by
  unfold Qb at h1 g;obtain⟨rfl,f⟩:=h1;obtain⟨rfl,_⟩:=g;unfold Y4;exact Xr f
 |.at v,.seq t ds,x,h1,g=>by
  unfold Qb at h1 g;obtain⟨rfl,f⟩:=h1;obtain⟨a,xs,rfl,_⟩:=g;exact ZR (show ZK=ZI from f) zAt
 |.seq t ds,.at u,x,h1,g=>by
  unfold Qb at h1 g;obtain⟨rfl,f⟩:=g;obtain⟨a,xs,rfl,_⟩:=h1;exact ZR (show ZK=ZI from f) zAt
 |.seq t ds,.seq u es,x,h1,g=>by
  unfold Qb at h1 g;obtain⟨a,xs,rfl,L,B,F⟩:=h1;obtain⟨b,ys,e,q,j,z⟩:=g;cases e;unfold Y4;cases t with
  |true=>
   cases u with
   |true=>
    let e:=I.tuple_inj (L rfl) (q rfl);subst e;rw[reps_same I ds es xs F z];rfl
   |false=>exact (Xm I (j rfl) (L rfl)).elim
  |false=>
   cases u with
   |true=>exact (Xm I (B rfl) (q rfl)).elim
   |false=>
    let e:=I.list_inj (B rfl) (j rfl);subst e;rw[reps_same I ds es xs F z];rfl
theorem reps_same (I:Ed X pins σ H s):∀ (ds es:List D) (xs:List V),Reps X.K H ds xs->Reps X.K H es xs->eqDs ds es=ZI
 |[],[],_,_,_=>by unfold eqDs;rfl
 |[],e::es,xs,h1,g=>by
  unfold Reps at h1 g;subst h1;obtain⟨_,_,e,_⟩:=g;cases e
 |d::ds,[],xs,h1,g=>by
  unfold Reps at h1 g;subst g;obtain⟨_,_,e,_⟩:=h1;cases e
 |d::ds,e::es,xs,h1,g=>by
  unfold Reps at h1 g;obtain⟨y,ys,rfl,h1,q⟩:=h1;obtain⟨z,zs,e,g,j⟩:=g;cases e;unfold eqDs;rw[A3 I d _ y h1 g,reps_same I ds es ys q j];rfl
end
def Q4 {A:aE} {v:V} {u:ZE} {a:ZF} {its:Array ZE} (f:Eo v=ZI) (r:Kl v u) (p:s.heap.IsList a its) (g:A.units<bX):bU A s u (.ref a) ZK:=by
 cases v with
 |non=>cases r;exact .none_list p g
 |bl b=>cases r;exact .bool_list b p g
 |int i=>obtain⟨t,rfl⟩:=r;exact .int_list i t p g
 |str i=>obtain⟨t,rfl⟩:=r;exact .str_list i t p g
 |_=>exact ZR (show ZK=ZI from f) zAt
def Z1 {A:aE} {v:V} {u:ZE} {a:ZF} {its:Array ZE} (f:Eo v=ZI) (r:Kl v u) (p:s.heap.IsTuple a its) (g:A.units<bX):bU A s u (.ref a) ZK:=by
 cases v with
 |non=>cases r;exact .none_tuple p g
 |bl b=>cases r;exact .bool_tuple b p g
 |int i=>obtain⟨t,rfl⟩:=r;exact .int_tuple i t p g
 |str i=>obtain⟨t,rfl⟩:=r;exact .str_tuple i t p g
 |_=>exact ZR (show ZK=ZI from f) zAt
def Q7 {A:aE} {v:V} {u:ZE} {a:ZF} {its:Array ZE} (f:Eo v=ZI) (r:Kl v u) (p:s.heap.IsList a its) (g:A.units<bX):bU A s (.ref a) u ZK:=by
 cases v with
 |non=>cases r;exact .list_none p g
 |bl b=>cases r;exact .list_bool b p g
 |int i=>obtain⟨t,rfl⟩:=r;exact .list_int i t p g
 |str i=>obtain⟨t,rfl⟩:=r;exact .list_str i t p g
 |_=>exact ZR (show ZK=ZI from f) zAt
def DH {A:aE} {v:V} {u:ZE} {a:ZF} {its:Array ZE} (f:Eo v=ZI) (r:Kl v u) (p:s.heap.IsTuple a its) (g:A.units<bX):bU A s (.ref a) u ZK:=by
 cases v with
 |non=>cases r;exact .tuple_none p g
 |bl b=>cases r;exact .tuple_bool b p g
 |int i=>obtain⟨t,rfl⟩:=r;exact .tuple_int i t p g
 |str i=>obtain⟨t,rfl⟩:=r;exact .tuple_str i t p g
 |_=>exact ZR (show ZK=ZI from f) zAt
def K8 {A:aE} {its g:List ZE} {e:Nat->Bool} (h:∀ j u v,its[j]?=ZC u->g[j]?=ZC v->bU A s u v (e j)):∀ j (h1:j<its.toArray.size) (q:j<g.toArray.size),bU A s its.toArray[j] g.toArray[j] (e j):=λj h1 q=>by
 rw[zAi] at h1 q;rw[mL,mL];exact h j _ _ (zAe h1) (zAe q)
def A5 {A:aE} {a b:ZF} {xs ys:List V} {ds es:List D} (I:Ed X pins σ H s) (F:A.units<bX) (h1:Dp X.K H a xs) (U:Dp X.K H b ys) (Y:Reps X.K H ds xs) (S:Reps X.K H es ys)
  (h:∀ g q,Fy xs g->Fy ys q->∀ j u v,g[j]?=ZC u->q[j]?=ZC v->bU A.in1 s u v (OP ds es j)):mR A s (.ref a) (.ref b) (eqDs ds es)/\eT A s (.ref a) (.ref b) (!eqDs ds es):=by
 obtain⟨g,L,B,z1⟩:=I.list h1;obtain⟨q,M,p2,z2⟩:=I.list U;let l1:=L.length;let Z:=M.length;let m1:=Y.len;let m2:=S.len;by_cases hl:ds.length=es.length
 .rw[<- Px hl,show ds.length=g.toArray.size by rw[zAi];lia]
  let z:g.toArray.size=q.toArray.size:=by rw[zAi,zAi];lia
  exact⟨SeqAt.RcAt.lists B.isList p2.isList z F (K8 (h g q L M)),jQ B.isList p2.isList z F (K8 (h g q L M))⟩
 .rw[Qw hl]
  let z:(g.toArray.size != q.toArray.size)=ZI:=by simp only [zAi,bne_iff_ne,ne_eq];lia
  exact⟨SeqAt.RcAt.lists_lengths B.isList p2.isList z F,gV B.isList p2.isList z F⟩
def L8 {A:aE} {a b:ZF} {xs ys:List V} {ds es:List D} (I:Ed X pins σ H s) (L:A.units<bX) (h1:Hx X.K H a xs) (S:Hx X.K H b ys) (U:Reps X.K H ds xs) (M:Reps X.K H es ys)
  (h:∀ g q,Fy xs g->Fy ys q->∀ j u v,g[j]?=ZC u->q[j]?=ZC v->bU A.in1 s u v (OP ds es j)):mR A s (.ref a) (.ref b) (eqDs ds es)/\eT A s (.ref a) (.ref b) (!eqDs ds es):=by
 obtain⟨g,z,F,z1⟩:=I.tuple h1;obtain⟨q,B,p2,z2⟩:=I.tuple S;let l1:=z.length;let Y:=B.length;let Z:=U.len;let m2:=M.len;let e:((zAS (min g.toArray.size q.toArray.size)).all (OP ds es)&&g.toArray.size==q.toArray.size)=eqDs ds es:=by
  rw[zAi,zAi];by_cases hl:ds.length=es.length
  .rw[<- Px hl,show min g.length q.length=ds.length by lia,show g.length=q.length by lia]
   simp
  .rw[Qw hl]
   let:(g.length==q.length)=ZK:=by simp;lia
   rw[this,zCm]
 rw[<- e];exact⟨SeqAt.RcAt.tuples F p2 L (K8 (h g q z B)),SeqAt.RcNeAt.tuples F p2 L (K8 (h g q z B))⟩
mutual
theorem JN (I:Ed X pins σ H s):∀ (d e:D) (A:aE) (x y:V) (u v:ZE),A.units+LD d+LD e<bX->Qb X.K H d x->Qb X.K H e y->Kl x u->Kl y v->bU A s u v (Y4 d e)
 |.at a,.at b,A,x,y,u,v,hu,h1,j,F,B=>by
  unfold Qb at h1 j;obtain⟨rfl,f⟩:=h1;obtain⟨rfl,g⟩:=j;unfold Y4;exact CW F B f g
 |.at a,.seq t es,A,x,y,u,v,hu,h1,j,F,B=>by
  unfold Qb at h1 j;obtain⟨rfl,f⟩:=h1;obtain⟨b,ys,rfl,S,U,_⟩:=j;cases B;unfold Y4;cases t with
  |true=>obtain⟨_,_,p,_⟩:=I.tuple (S rfl);exact Z1 f F p (by lia)
  |false=>obtain⟨_,_,p,_⟩:=I.list (U rfl);exact Q4 f F p.isList (by lia)
 |.seq t ds,.at b,A,x,y,u,v,hu,h1,j,F,B=>by
  unfold Qb at h1 j;obtain⟨rfl,f⟩:=j;obtain⟨a,xs,rfl,t1,Z,_⟩:=h1;cases F;unfold Y4;cases t with
  |true=>obtain⟨_,_,p,_⟩:=I.tuple (t1 rfl);exact DH f B p (by lia)
  |false=>obtain⟨_,_,p,_⟩:=I.list (Z rfl);exact Q7 f B p.isList (by lia)
 |.seq t ds,.seq t' es,A,x,y,u,v,hu,h1,j,F,B=>by
  let k1:=h1;let k2:=j;unfold Qb at h1 j;obtain⟨a,xs,rfl,t1,Z,r1⟩:=h1;obtain⟨b,ys,rfl,S,U,Y⟩:=j;cases F;cases B;unfold LD at hu;let M:A.in1.units+deps ds+deps es<bX:=by rw[nO];lia
  let z:A.units<bX:=by lia
  by_cases L:a=b
  .subst L
   rw[A3 I _ _ _ k1 k2];exact .same _
  .unfold Y4
   cases t with
   |true=>
    cases t' with
    |true=>exact .of_refs L (L8 I z (t1 rfl) (S rfl) r1 Y (reps_at I ds es A.in1 xs ys M r1 Y)).1
    |false=>
     obtain⟨_,_,p,_⟩:=I.tuple (t1 rfl);obtain⟨_,_,q,_⟩:=I.list (U rfl);exact .tuple_list p q.isList z
   |false=>
    cases t' with
    |true=>
     obtain⟨_,_,p,_⟩:=I.list (Z rfl);obtain⟨_,_,q,_⟩:=I.tuple (S rfl);exact .list_tuple p.isList q z
    |false=>exact .of_refs L (A5 I z (Z rfl) (U rfl) r1 Y (reps_at I ds es A.in1 xs ys M r1 Y)).1
theorem reps_at (I:Ed X pins σ H s):∀ (ds es:List D) (A:aE) (xs ys:List V),A.units+deps ds+deps es<bX->Reps X.K H ds xs->Reps X.K H es ys ->
  ∀ g L,Fy xs g->Fy ys L->∀ j u v,g[j]?=ZC u->L[j]?=ZC v->bU A s u v (OP ds es j)
 |[],es,A,xs,ys,Z,h1,F,g,L,M,S,j,u,v,B,q=>by
  unfold Reps at h1;subst h1;cases M;simp at B
 |d::ds,[],A,xs,ys,Z,h1,F,g,L,M,S,j,u,v,B,q=>by
  unfold Reps at F;subst F;cases S;simp at q
 |d::ds,e::es,A,xs,ys,Z,h1,F,g,L,M,S,j,u,v,B,q=>by
  unfold Reps at h1 F;obtain⟨y,U,rfl,k1,r1⟩:=h1;obtain⟨z,Y,rfl,k2,r2⟩:=F;unfold deps at Z;cases M with
  |cons ru t1=>
   cases S with
   |cons rv t2=>
    cases j with
    |zero=>
     simp only [List.getElem?_cons_zero,Option.some.injEq] at B q;subst B q;exact JN I d e A y z _ _ (by lia) k1 k2 ru rv
    |succ j=>
     simp only [zBI] at B q;exact reps_at I ds es A U Y (by lia) r1 r2 _ _ t1 t2 j u v B q
end
def KA (K:zAa) (neg:Bool):R2:=λx y H Q=>∃ t ds es,Qb K H (.seq t ds) x/\Qb K H (.seq t es) y/\deps ds+deps es<=40/\Q (.bl (if neg then !eqDs ds es else eqDs ds es)) H
def RS {X:Cx} (g:Bool) (hu:X.A.units+64<bX):Kb X (aT (if g then .NotEq else .Eq)) (KA X.K g):=by
 intro pins s σ H x y v u Q I Z Y h;obtain⟨t,ds,es,h1,M,hd,q⟩:=h;unfold Qb at h1 M;obtain⟨a,xs,rfl,t1,l1,L⟩:=h1;obtain⟨b,ys,rfl,S,U,F⟩:=M;cases Z;cases Y;let B:X.A.in1.units+deps ds+deps es<bX:=by rw[nO];lia
 let j:X.A.units<bX:=by lia
 let z:mR X.A s (.ref a) (.ref b) (eqDs ds es)/\eT X.A s (.ref a) (.ref b) (!eqDs ds es):=by
  cases t with
  |true=>exact L8 I j (t1 rfl) (S rfl) L F (reps_at I ds es X.A.in1 xs ys B L F)
  |false=>exact A5 I j (l1 rfl) (U rfl) L F (reps_at I ds es X.A.in1 xs ys B L F)
 cases g with
 |true=>exact z.2 X.prog X.w _ _ ⟨.bl (!eqDs ds es),H,I,rfl,q⟩
 |false=>exact z.1 X.prog X.w _ _ ⟨.bl (eqDs ds es),H,I,rfl,q⟩
def KR {K} (g:X.A.units+64<bX) (j:X.K=K:=by rfl):Kb X (aT .Eq) (KA K ZK):=j▸RS ZK g
def EJ {K} (g:X.A.units+64<bX) (j:X.K=K:=by rfl):Kb X (aT .NotEq) (KA K ZI):=j▸RS ZI g
def O0 {k:Nat} {A:aE} (hr:XE k A):A.units+64<bX:=hr.units
def GI {K} (h:X.K=K):NW X (NO K):=h▸KJ
structure IG (K:zAa) (B:ZF) (m:ZM) (f:ZF):Prop where
 ga:zCe K (.ref B) "__getattribute__"=ZC (ZC (.builtin "type.__getattribute__"))
 rd:iH K B (.type "type")=ZI
 fc:iI K (.ref B) (.type "type") m=ZC (.val (.ref f))
 kp:zAP K (.ref f)=ZI
def Yh {A:aE} {E:ZE->ZG->Prop} {s:ZG} {B g:ZF} {pl:mS Bool} {Q:ZE×List ZE->ZG->Prop} (I:Ed X pins σ H s) (Z:IG X.K B m g) (h:Q (.ref g,[]) { s with toks:=s.toks+1 }) :
  ZP (ZS X.prog X.w) A (eF (.ref B) m pl) Q E s:=PySem.W.method_cls I.kIn Z.ga (PySem.W.cls_value I.kIn Z.rd Z.fc rfl h)
structure NS (P:ZO) (w:ZX) (K:zAa) (mg:ZM->Option ZE) (base:aB) (k:Nat) (x m:ZM) (ps:List ZM) (sp:Sp):Prop where
 ex:∃ B f fd,XB P w K mg base Ew k f fd ps sp/\XM K fd ps []/\IG K B m f/\mg x=ZC (.ref B)
def Qf {pl:mS Bool} (C:NS X.prog X.w X.K X.mg X.base k x m ps sp) (hr:XE k X.A) (L:Gl X x) (M:PA X (e::es) t) (g:(x==("__debug__" : ZM))=ZK:=by lk)
  (hst:ZU (e::es) X.env=(ZK,aM e X.env)::ZU es X.env:=by rfl) (hpl:(bC pos (ZU es X.env)).any (·.1)=ZK:=by rfl)
  (ht:aM (.Call (.Attribute (.Name x p) m apos) (e::es) [] pos) X.env=(do
   let ov <- aM (.Name x p) X.env
   gD apos.atName
   let (f,first) <- eB [ov] (eF ov m pl)
   jH pos f first (bC pos (ZU (e::es) X.env)) (eQ pos (cS [] X.env))):=by rfl) :
  PE X (.Call (.Attribute (.Name x p) m apos) (e::es) [] pos) (M8 sp [] E0 t):=by
 intro pins s σ H Q I h;obtain⟨B,f,fd,F,b,Z,z⟩:=C.ex;refine zCk (pl:=pl) (Ih I L z ?_ g) ht;refine Yh I Z ?_;let q:=I.tok (s.toks+1);refine zBV (first:=[]) (h₀:=X.base) I.ok.mod.kin Z.kp (Cb (M pos pins _ σ H _ q h) λus Y ⟨vs,U,j,r,S⟩=>⟨j.kIn,?_⟩) hst hpl;exact Wk (us:=us) (vs:=vs) F hr b .nil Tt j r S
def NF (Fam:ZF->Prop) (m:ZM) (sp:ZF->Sp) (ta:TE) (t:TA):TE:=λσ H Q=>ta σ H λx H1=>∃ a C dx fs,x=.ref a/\H1 a=ZC (.ins C dx fs)/\Fam C/\fs.lookup m=ZD/\t σ H1 λvs H2=>sp C (.ref a::vs) H2 Q E0
structure W8 (P:ZO) (w:ZX) (K:zAa) (mg:ZM->Option ZE) (base:aB) (k:Nat) (Fam:ZF->Prop) (m:ZM) (ps:List ZM) (sp:ZF->Sp):Prop where
 ex:∀ C,Fam C->G0 P w K mg base k C m ps (sp C)
def Fh {Fam:ZF->Prop} {g:ZF->Sp} {o:bA} {pl:mS Bool} (M:W8 X.prog X.w X.K X.mg X.base k Fam m ps g) (hr:XE k X.A) (he:PE X o ta) (Y:PA X (e::es) t)
  (j:ZU (e::es) X.env=(ZK,aM e X.env)::ZU es X.env:=by rfl) (hpl:(bC pos (ZU es X.env)).any (·.1)=ZK:=by rfl)
  (ht:aM (.Call (.Attribute o m apos) (e::es) [] pos) X.env=(do
   let ov <- aM o X.env
   gD apos.atName
   let (f,first) <- eB [ov] (eF ov m pl)
   jH pos f first (bC pos (ZU (e::es) X.env)) (eQ pos (cS [] X.env))):=by rfl) :
  PE X (.Call (.Attribute o m apos) (e::es) [] pos) (NF Fam m g ta t):=by
 intro pins s σ H Q I h;refine zCk (pl:=pl) (Cb (he pins s σ H _ I h) λu s1 ⟨x,H1,L,Z,a,C,dx,fs,ex,U,S,l,q⟩=>?_) ht;subst ex;obtain rfl:u=aI a:=Z;obtain⟨f,fd,F,b,B⟩:=(M.ex C S).ex;refine Kp L U (M.ex C S).cl B l ?_;refine zBV (first:=[.ref a]) (h₀:=X.base) I.ok.mod.kin B.kp (Cb (Y pos pins s1 σ H1 _ L q) λus s2 ⟨vs,H2,z,r,q2⟩=>⟨z.kIn,?_⟩) j hpl;exact Wk (us:=.ref a::us) (vs:=.ref a::vs) F hr b .nil Tt z (.cons rfl r) (by rw[zAY];exact q2)
def PB (K:zAa) (mg:ZM->Option ZE) (x:ZM) (xs:List V):Prop:=∃ a,mg x=ZC (.ref a)/\∀ H,Hx K H a xs
def FK {X:Cx} {x:ZM} {xs:List V} (h:PB X.K X.mg x xs) (z:Gl X x) (j:(x==("__debug__" : ZM))=ZK:=by lk):PE X (.Name x pos) (λ_ H Q=>∀ a,Hx X.K H a xs->Q (.ref a) H):=by
 obtain⟨a,e,g⟩:=h;exact λ_ _ _ H _ I q=>Ih I z e ⟨.ref a,H,I,rfl,q a (g H)⟩ j
theorem L0 {z:ZM} {B:Nat}:∀ {ps},(∀ y∈ps,y.length<=B)->(bO z ps).length<=ps.length*(B+z.length)
 |[],_=>by show 0<=_;lia
 |[x],h=>by
  let:=h x zAd;show x.length<=1*(B+z.length)
  lia
 |x::y::r,h=>by
  let h1:=h x zAd;let ih:=L0 (z:=z) (B:=B) (ps:=y::r) λq hq=>h q (zAb _ hq);show (x++z++bO z (y::r)).length<=_;let g:(x++z++bO z (y::r)).length=x.length+z.length+(bO z (y::r)).length:=by
   show (x.cps++z.cps++(bO z (y::r)).cps).size=_;rw[zCh,zCh];rfl
  rw[g];let e:(x::y::r).length*(B+z.length)=(y::r).length*(B+z.length)+(B+z.length):=by rw[zAf,Nat.succ_mul]
  lia
structure VX (K:zAa) (mg:ZM->Option ZE) (x:ZM) (C:ZF):Prop where
 makes:zCw K C=ZI
 init:zAM K (.ref C) "__init__"=ZC (ZC (.builtin "object.__init__"))
 kp:zAP K (.ref C)=ZI
 at_:mg x=ZC (.ref C)
def TD (C:ZF):TE:=λ_ H Q=>∀ y dx,H y=ZD->H dx=ZD->dx≠y->Q (.ref y) (upd (upd H dx (.own y)) y (.ins C dx []))
def FS {X:Cx} {x:ZM} {C:ZF} {p pos:Pos} (M:VX X.K X.mg x C) (S:Gl X x) (z:(x==("__debug__" : ZM))=ZK:=by lk):PE X (.Call (.Name x p) [] [] pos) (TD C):=by
 intro pins s σ H Q I h;refine aN (Ih I S M.at_ ?_ z);refine lE I.kIn M.kp (iS (X2 I.kIn M.makes M.init (λj=>PySem.W.Looks.of_pure (PySem.W.oi_bind j)) ?_));let hq:=h (⇑s+1) ⇑s (I.hok.fresh (zBE _)) (I.hok.fresh (zAl _)) (zAy (zBS _));let L:=Ed.made (C:=C) I;let Y:=hH (M:=ZS X.prog X.w) I.kIn M.makes;let B:((s.heap.push zAV).push (zBf C ⇑s)).get? (⇑s+1)=ZC (zBf C ⇑s):=by
  let e:(s.heap.push zAV).objs.size=⇑s+1:=by rw[zBR]
  rw[<- e];exact zAF _ rfl
 let U:jJ (ZS X.prog X.w) ((s.heap.push zAV).push (zBf C ⇑s)) (nP (.ref (⇑s+1))) (.ref C):=(PySem.W.Looks.ld B).andThen .now;let F:jJ (ZS X.prog X.w) ((s.heap.push zAV).push (zBf C ⇑s)) (isInstance (.ref (⇑s+1)) (.type "object")) ZI:=U.andThen (Y.top.keeps λb o e=>zAg _ (zAg _ e));obtain⟨q,g,d,t,Z⟩:=s;refine codeAny_call_builtin PySem.W.oi_plain PySem.W.entry_oi (@PySem.W.check_slot (ZS X.prog X.w) _ _ _ "object.__init__" "object" "__init__" (.ref (q.objs.size+1)) [] [] _ PySem.W.oi_kind PySem.W.oi_split F (PySem.W.oi_args (.ref (q.objs.size+1))) ?_);rw[PySem.W.oi_run];exact zCG (And.intro rfl ⟨V.ref (q.objs.size+1),_,L,rfl,hq⟩)
end L2
namespace CRS
open PySem PySem.W PyProof.Rows
def run {α:Type} (lt:Nat->Nat->Bool) (V:Nat->Prop):KasT α->(α->Prop)->Prop
 |.ret a,Q=>Q a
 |.ask i j k,Q=>V i/\V j/\run lt V (k (lt i j)) Q
theorem Hi {α β:Type} {f:α->KasT β} {Q:β->Prop}:∀ t:KasT α,run lt V t (λa=>run lt V (f a) Q)->run lt V (t.bind f) Q
 |.ret a,h=>h
 |.ask i j k,⟨h1,q,g⟩=>⟨h1,q,Hi (k (lt i j)) g⟩
theorem run_wp {α:Type} {g:Nat->Nat->(Bool->ZG->Prop)->ZG->Prop} {s:ZG} (q:∀ i j (C:Bool->ZG->Prop),V i->V j->C (lt i j) s->g i j C s) {Q:α->Prop} {G:α->ZG->Prop} (hq:∀ a,Q a->G a s) :
  ∀ t:KasT α,run lt V t Q->t.kasWp g G s
 |.ret a,h=>hq a h
 |.ask i j k,⟨h1,B,z⟩=>q i j _ h1 B (run_wp q hq (k (lt i j)) z)
def Ep {α:Type} {c:Prop} {g} {t u} {Q:α->Prop} (h1:c->run lt V t Q) (j:¬ c->run lt V u Q):run lt V (@ite _ c g t u) Q:=by
 by_cases h:c
 .rw[ZJ h];exact h1 h
 .rw[ZH h];exact j h
section
variable {O:KeyOrd} {key:Nat->O.α} {N:Nat}
abbrev ltK (key:Nat->O.α):Nat->Nat->Bool:=λi j=>O.blt (key i) (key j)
def kk (key:Nat->O.α) (p:Array Nat) (i:Nat):O.α:=key (p.getD i 0)
def Pm (N:Nat) (p:Array Nat):Prop:=p.Perm (zAS N).toArray
def Up (key:Nat->O.α) (p:Array Nat) (m:Nat):Prop:=∀ i j,i<=j->j<m->O.kle (kk key p i) (kk key p j)
def Dn (key:Nat->O.α) (p:Array Nat) (m:Nat):Prop:=∀ i j,i<=j->j<m->O.kle (kk key p j) (kk key p i)
def Pm.size {p:Array Nat} (h:Pm N p):p.size=N:=by rw[h.size_eq];simp
set_option tactic.hygienic true in
def Pm.lt {p:Array Nat} (h:Pm N p) (j:0<N) (i:Nat):p.getD i 0<N:=by
 unfold zBP
 split
 .rename_i hi
  let m:p[i]∈p.toList:=by simp
  let g:=(zBC.mp h).mem_iff.mp m
  simpa using g
 .exact j
def Pm.rev {p:Array Nat} (h:Pm N p) (i j:Nat):Pm N (jE p i j):=(mirror_perm p i j _).trans h
def Pm.bub {p:Array Nat} (h:Pm N p) (i j:Nat):Pm N (bubble p i j):=(bubble_perm p i j).trans h
def Lj {p q:Array Nat} {i j:Nat} (h:p[i]?=q[j]?):p.getD i 0=q.getD j 0:=by
 let e:∀ (r:Array Nat) (k:Nat),r.getD k 0=(r[k]?).getD 0:=λr k=>by
  by_cases g:k<r.size <;> simp [zBP,g]
 rw[e,e,h]
def E7 {p:Array Nat} {i j:Nat} (g:j<=p.size) (k:Nat):kk key (jE p i j) k=if i<=k/\k<j then kk key p (i+j-1-k) else kk key p k:=by
 let e:=getElem?_mirror_all (xs:=p) (i:=i) g k;unfold kk jE;by_cases c:i<=k/\k<j
 .rw[ZJ c] at e ⊢;rw[Lj e]
 .rw[ZH c] at e ⊢;rw[Lj e]
def LO {p:Array Nat} {b d:Nat} (j:b<p.size) (q:d<=b) (k:Nat):kk key (bubble p b d) k=if k=b-d then kk key p b else if b-d<k/\k<=b then kk key p (k-1) else kk key p k:=by
 let e:=getElem?_bubble j d q k;unfold kk;by_cases c:k=b-d
 .rw[ZJ c] at e ⊢;rw[Lj e]
 .rw[ZH c] at e ⊢
  by_cases g:b-d<k/\k<=b
  .rw[ZJ g] at e ⊢;rw[Lj e]
  .rw[ZH g] at e ⊢;rw[Lj e]
def Vl {p:Array Nat} {i j:Nat} (g:j<=p.size) (h:∀ k,i<=k->k<j->kk key p k=kk key p (j-1)) (k:Nat):kk key (jE p i j) k=kk key p k:=by
 rw[E7 g];by_cases c:i<=k/\k<j
 .rw[ZJ c,h _ (by lia) (by lia),h k c.1 c.2]
 .rw[ZH c]
def Up.more {p:Array Nat} {n:Nat} (h:Up key p n) (e:O.kle (kk key p (n-1)) (kk key p n)):Up key p (n+1):=λi j g q=>by
 rcases fF j n with z|z
 .exact h i j g z
 .obtain rfl:j=n:=by lia
  rcases hW g with y|y
  .rw[y];exact bK _
  .exact eH (h i (j-1) (by lia) (by lia)) e
def Dn.more {p:Array Nat} {n:Nat} (h:Dn key p n) (e:O.kle (kk key p n) (kk key p (n-1))):Dn key p (n+1):=λi j g q=>by
 rcases fF j n with z|z
 .exact h i j g z
 .obtain rfl:j=n:=by lia
  rcases hW g with y|y
  .rw[y];exact bK _
  .exact eH e (h i (j-1) (by lia) (by lia))
def Dn.of {p q:Array Nat} {n:Nat} (h:Dn key p n) (e:∀ k,kk key q k=kk key p k):Dn key q n:=λi j a b=>by rw[e,e];exact h i j a b
theorem Wo {p:Array Nat} (g:Pm N p) (j:0<N) {Q:Nat->Prop}:∀ (f n:Nat),Up key p n->(∀ m,n<=m->m<=n+f->Up key p m->(m=n+f\/O.klt (kk key p m) (kk key p (m-1)))->Q m)->run (ltK key) (λi=>i<N) (kas_asc p f n) Q
 |0,n,h,q=>q n (zAl _) (zAl _) h (.inl rfl)
 |f+1,n,h,q=>by
  refine⟨g.lt j _,g.lt j _,?_⟩;refine Ep (λc=>?_) (λc=>?_)
  .exact q n (zAl _) (by lia) h (.inr c)
  .exact Wo g j f (n+1) (h.more (cF c)) λm a b u v=>q m (by lia) (by lia) u (v.imp (λz=>by lia) id)
def Tl (key:Nat->O.α) (p:Array Nat) (n q:Nat):Prop:=q+1<=n/\∀ i,n-(q+1)<=i->i<n->kk key p i=kk key p (n-1)
def Tl.one {p:Array Nat} {n:Nat}:Tl key p (n+1) 0:=⟨by lia,λi a b=>by rw[show i=n+1-1 by lia]⟩
theorem Lu (F:0<N) {Q:Array Nat×Nat×Nat->Prop}:∀ (f:Nat) (p:Array Nat) (n q:Nat),Pm N p->n+f<=N->Dn key p n->Tl key p n q->(∀ j m B,Pm N j->n<=m->m<=n+f->Dn key j m->Tl key j m B->Q (j,m,B))->run (ltK key) (λi=>i<N) (kas_desc f p n q) Q
 |0,p,n,q,g,_,d,t,k=>k p n q g (zAl _) (zAl _) d t
 |f+1,p,n,q,g,S,d,t,k=>by
  let sz:=g.size;refine⟨g.lt F _,g.lt F _,?_⟩;refine Ep (λc=>?_) (λc=>?_)
  .have L:=d.more (dZ c)
   refine Ep (λ_=>?_) (λ_=>?_)
   .have like:∀ k,kk key (jE p (n-(q+1)) n) k=kk key p k:=Vl (by lia) t.2
    exact Lu F f _ (n+1) 0 (g.rev _ _) (by lia) (L.of like) .one λj m B a b e=>k j m B a (by lia) (by lia)
   .exact Lu F f _ (n+1) 0 g (by lia) L .one λj m B a b e=>k j m B a (by lia) (by lia)
  .refine⟨g.lt F _,g.lt F _,?_⟩
   refine Ep (λM=>?_) (λM=>?_)
   .exact k p n q g (zAl _) (by lia) d t
   .have e:kk key p n=kk key p (n-1):=mB (cF M) (cF c)
    refine Lu F f p (n+1) (q+1) g (by lia) (d.more (by rw[e];exact bK _)) ⟨by let:=t.1;lia,λi a b=>?_⟩ λj m B a b e=>k j m B a (by lia) (by lia);rw[show n+1-1=n by lia];rcases fF i n with z|z
    .rw[e];exact t.2 i (by lia) z
    .rw[show i=n by lia]
def Xl {p:Array Nat} {n m:Nat} (B:0<N) (g:Pm N p) (F:m<=N) (L:n<=m) (d:Dn key p n) {Q:Nat×Array Nat->Prop} (q:∀ r z,Pm N z->n<=r->r<=m->Up key z r->Q (r,z)):run (ltK key) (λi=>i<N) (kas_tail3 n m p) Q:=by
 let sz:=g.size;refine Hi _ (Wo (g.rev 0 n) B (m-n) n (λi j a b=>?_) λr a b u _=>q r _ (g.rev 0 n) a (by lia) u);rw[E7 (by lia),E7 (by lia),ZJ ⟨by lia,by lia⟩,ZJ ⟨by lia,by lia⟩];exact d _ _ (by lia) (by lia)
def Yb {p:Array Nat} {n m:Nat} (B:0<N) (M:Pm N p) (L:m<=N) (S:n+1<=m) (d:Dn key p (n+1)) {Q:Nat×Array Nat->Prop} (q:∀ r j,Pm N j->n<=r->r<=m->Up key j r->Q (r,j)):run (ltK key) (λi=>i<N) (kas_descPart n m p) Q:=by
 refine Hi _ (Lu B (m-(n+1)) p (n+1) 0 M (by lia) d .one λj r c g a b F t=>?_);let sz:=g.size;refine Ep (λ_=>?_) (λ_=>?_)
 .have like:∀ k,kk key (jE j (r-(c+1)) r) k=kk key j k:=Vl (by lia) t.2
  exact Xl B (g.rev _ _) L (by lia) (F.of like) λx y z u v=>q x y z (by lia) v
 .exact Xl B g L (by lia) F λx y z u v=>q x y z (by lia) v
def R4 {p:Array Nat} {m:Nat} (M:0<N) (F:Pm N p) (U:m<=N) (h1:1<=m) {Q:Nat×Array Nat->Prop} (q:∀ r S,Pm N S->1<=r->r<=m->Up key S r->Q (r,S)):run (ltK key) (λi=>i<N) (kas_count m p) Q:=by
 let sz:=F.size;refine Hi _ (Wo F M (m-1) 1 (λi j a b=>?_) λn a b u v=>?_)
 .rw[show i=j by lia];exact bK _
 refine Ep (λc=>?_) (λc=>?_)
 .exact q n p F a (by lia) u
 let Z:n≠m:=λe=>c (by rw[e];exact kW _);let L:O.klt (kk key p n) (kk key p (n-1)):=v.resolve_left (by lia);refine Ep (λg=>?_) (λg=>?_)
 .refine⟨F.lt M _,F.lt M _,?_⟩
  refine Ep (λr=>?_) (λr=>?_)
  .exact q n p F a (by lia) u
  let B:∀ k,0<=k->k<n->kk key p k=kk key p (n-1):=λk _ Y=>
   mB (u k (n-1) (by lia) (by lia)) (eH (cF r) (u 0 k (by lia) Y))
  let like:∀ k,kk key (jE p 0 n) k=kk key p k:=Vl (by lia) B;refine Yb M (F.rev 0 n) U (by lia) (Dn.of (p:=p) (Dn.more (λi j x y=>?_) (dZ L)) like) λx y z w=>q x y z (by lia);rw[B i (by lia) (by lia),B j (by lia) y];exact bK _
 .refine Yb M F U (by lia) (Dn.more (λi j x y=>?_) (dZ L)) λx y z w=>q x y z (by lia)
  rw[show i=j by lia];exact bK _
theorem Mv {p:Array Nat} {k:Nat} (B:0<N) (j:Pm N p) (u:Up key p k) {Q:Nat->Prop} (q:∀ l,l<=k->(∀ i,i<l->O.kle (kk key p i) (kk key p k))->(∀ i,l<=i->i<k->O.klt (kk key p k) (kk key p i))->Q l) :
  ∀ (f l r:Nat),l<=r->r<=k->r-l<=f->(∀ i,i<l->O.kle (kk key p i) (kk key p k))->(∀ i,r<=i->i<k->O.klt (kk key p k) (kk key p i))->run (ltK key) (λi=>i<N) (kas_place p k f l r) Q
 |0,l,r,a,b,c,x,y=>by
  obtain rfl:l=r:=by lia
  exact q l b x y
 |f+1,l,r,a,b,c,x,y=>by
  refine Ep (λg=>?_) (λg=>?_)
  .obtain rfl:l=r:=by lia
   exact q l b x y
  refine⟨j.lt B _,j.lt B _,?_⟩;refine Ep (λz=>?_) (λz=>?_)
  .exact Mv B j u q f l ((l+r)/2) (by lia) (by lia) (by lia) x λi v w=>KeyOrd.klt_of_klt_of_kle z (u _ i v w)
  .exact Mv B j u q f ((l+r)/2+1) r (by lia) b (by lia) (λi v=>eH (u i ((l+r)/2) (by lia) (by lia)) (cF z)) y
theorem O2 (F:0<N) {Q:Array Nat->Prop}:∀ (f:Nat) (p:Array Nat) (k:Nat),Pm N p->k+f<=N->Up key p k->(∀ B,Pm N B->Up key B (k+f)->Q B)->run (ltK key) (λi=>i<N) (kas_bin f p k) Q
 |0,p,k,g,_,u,q=>q p g u
 |f+1,p,k,g,M,u,q=>by
  let sz:=g.size;refine Hi _ (Mv F g u (λl a lo hi=>?_) k 0 k (by lia) (by lia) (by lia) (λi z=>by lia) λi z w=>by lia);refine O2 F f _ (k+1) (g.bub _ _) (by lia) (λi j x y=>?_) λB a b=>q B a (by rw[show k+(f+1)=k+1+f by lia];exact b);let L:∀ i,kk key (bubble p k (k-l)) i=if i=l then kk key p k else if l<i/\i<=k then kk key p (i-1) else kk key p i:=λi=>by
   rw[LO (by lia) (by lia),show k-(k-l)=l by lia]
  rw[L,L];rcases zBy i l with c|c|c
  .rw[ZH (by lia),ZH (by lia)]
   rcases zBy j l with e|e|e
   .rw[ZH (by lia),ZH (by lia)];exact u i j x (by lia)
   .rw[ZJ e];exact lo i c
   .rw[ZH (by lia),ZJ (by lia)];exact u i (j-1) (by lia) (by lia)
  .rw[ZJ c]
   rcases hW x with e|e
   .rw[ZJ (by lia)];exact bK _
   .rw[ZH (by lia),ZJ (by lia)];exact dZ (hi (j-1) (by lia) (by lia))
  .rw[ZH (by lia),ZJ (by lia),ZH (by lia),ZJ (by lia)]
   exact u (i-1) (j-1) (by lia) (by lia)
def run_sort (g:0<N) {Q:Array Nat->Prop} (q:∀ p,Pm N p->Up key p N->Q p):run (ltK key) (λi=>i<N) (kas_sort N) Q:=by
 refine Hi _ (R4 g (show Pm N _ from dI _) (zAl _) g λr p j a b u=>?_);refine Ep (λc=>?_) (λc=>?_)
 .have z:r<N:=c
  show run _ _ (kas_bin (N-max r 1) p (max r 1)) Q;let e:max r 1=r:=by lia
  rw[e];exact O2 g _ p r j (by lia) u λB x y=>q B x (by rw[show r+(N-r)=N by lia] at y;exact y)
 .have z:¬ r<N:=c
  obtain rfl:r=N:=by lia
  exact q p j u
end
end CRS
namespace L2
open PySem PySem.Spec PyProof.Rows PySem.W
theorem Ku:∀ a:List Int,HT.lexLt a a=ZK
 |[]=>rfl
 |x::xs=>by unfold HT.lexLt;rw[ZJ rfl];exact Ku xs
theorem Tf:∀ a b c:List Int,HT.lexLt a b=ZI->HT.lexLt b c=ZI->HT.lexLt a c=ZI
 |[],[],_,h,_=>nomatch h
 |[],_::_,[],_,h=>nomatch h
 |[],_::_,_::_,_,_=>rfl
 |_::_,[],_,h,_=>nomatch h
 |_::_,_::_,[],_,h=>nomatch h
 |x::xs,y::ys,z::zs,h1,j=>by
  unfold HT.lexLt at h1 j ⊢;by_cases q:x=y
  .by_cases g:y=z
   .rw[ZJ q] at h1;rw[ZJ g] at j;rw[ZJ (q.trans g)];exact Tf xs ys zs h1 j
   .rw[ZH g] at j;rw[ZH (by rw[q];exact g),q];exact j
  .rw[ZH q] at h1
   let F:=ZY h1;by_cases g:y=z
   .rw[ZH (by rw[<- g];exact q),<- g];exact h1
   .rw[ZH g] at j
    let B:=ZY j;rw[ZH (by omega)];exact ZN (by omega)
theorem K5:∀ a b c:List Int,HT.lexLt a c=ZI->HT.lexLt a b=ZI\/HT.lexLt b c=ZI
 |[],[],_,h=>.inr h
 |[],_::_,_,_=>.inl rfl
 |_::_,_,[],h=>nomatch h
 |_::_,[],_::_,_=>.inr rfl
 |x::xs,y::ys,z::zs,h=>by
  unfold HT.lexLt at h ⊢;by_cases j:x=y
  .by_cases g:y=z
   .rw[ZJ (j.trans g)] at h;rw[ZJ j,ZJ g];exact K5 xs ys zs h
   .rw[ZH (by rw[j];exact g)] at h;rw[ZH g];exact .inr (by rw[<- j];exact h)
  .rw[ZH j]
   by_cases g:y=z
   .rw[ZH (by rw[<- g];exact j)] at h;exact .inl (by rw[g];exact h)
   .rw[ZH g]
    by_cases l:x<y
    .exact .inl (ZN l)
    .right
     refine ZN ?_;by_cases q:x=z
     .omega
     .rw[ZH q] at h
      let:=ZY h;omega
theorem Nh:∀ a b:List Int,HT.lexLt a b=ZK->HT.lexLt b a=ZK->a=b
 |[],[],_,_=>rfl
 |[],_::_,h,_=>nomatch h
 |_::_,[],_,h=>nomatch h
 |x::xs,y::ys,h1,j=>by
  unfold HT.lexLt at h1 j;by_cases g:x=y
  .rw[ZJ g] at h1;rw[ZJ g.symm] at j;rw[g,Nh xs ys h1 j]
  .rw[ZH g] at h1;rw[ZH (aR g)] at j
   let z:=bL h1;let q:=bL j;omega
def YF:KeyOrd:=⟨List Int,HT.lexLt,Ku,Tf,K5,Nh⟩
def DJ (prog:ZO) (w:ZX) (A:aE) (vs:List ZE) (O:KeyOrd) (key:Nat->O.α) (s:ZG):Prop:=
 ∃ κ:SortKind,(∀ (Q:SortKind->ZG->Prop) (E:ZE->ZG->Prop),Q κ s->ZP (ZS prog w) A (keyKind' vs.toArray) Q E s) /\
  ∀ i j,i<vs.length->j<vs.length->∀ C:Bool->ZG->Prop,C (O.blt (key i) (key j)) s->ZP (ZS prog w) A (keyLt' κ (vs.getD i bD) (vs.getD j bD)) C (λ_ _=>False) s
def Gy (vs:List ZE) (p:Array Nat):List ZE:=p.toList.map λi=>vs.getD i bD
def Pq {n:Nat} {vs:List ZE} {p:Array Nat} (h:CRS.Pm n p):(Gy vs p).length=n:=by
 unfold Gy;rw[zAc,zAE,h.size]
theorem GQ:∀ {vs},vs.length<2->((vs.toArray.zip vs.toArray).map (·.2))=(Gy vs (zAS vs.length).toArray).toArray
 |[],_=>by
  apply zCD.mp;simp [Gy]
 |[v],_=>by
  apply zCD.mp;simp [Gy]
 |_::_::_,h=>ZR h (by simp)
def GS {O} {key:Nat->O.α} {a} {vs} {n:Nat} {P:kL->ZG->Prop} (ho:s.heap.get? a=ZC (aF "list" vs.toArray n)) (h64:vs.length<64)
  (ask:∀ h':aB,(∀ b o,b≠a->s.heap.get? b=ZC o->h'.get? b=ZC o)->2<=vs.length->DJ prog w A vs O key { s with heap:=h' })
  (h:∀ p,CRS.Pm vs.length p->CRS.Up key p vs.length->P (.done (.ret .none)) { s with heap:=sortedHeap s.heap a vs (Gy vs p).toArray }) :
  ZP (ZS prog w) A (cW.«list.sort» ⟨[.ref a],[]⟩) P E s:=by
 let lt:a<⇑s:=zAs ho;let line:∀ k:Nat,k<64->k<=sizeLine:=λk hk=>by rw[zCH];lia
 rw[list_sort_plain];refine zCF (gE ho rfl (zCF (cN ho rfl ?_ (by rw[zAi];exact line _ h64) (zAw _))));obtain⟨e1,ho1⟩:∃ e1,(s.heap.update a (ZW λ_=>(#[]:Array ZE))).get? a=ZC (aF "list" #[] e1):=⟨_,kT ho λ_ => #[]⟩;refine zCF (g0 ho1 rfl (zCF (lM (zCF (fA (aW ?_) (zAw _))) (by rw[zAE,zAi];exact line _ h64))));let sb:=zBr.update s.heap a (ZW λ_=>(#[]:Array ZE));let old:∀ b o,b≠a->s.heap.get? b=ZC o->(((s.heap.update a (ZW λ_=>(#[]:Array ZE))).push (aF "tuple" vs.toArray 0)).push (aF "list" #[] 0)).get? b=ZC o:=λb o nb e=>
  zAg _ (zAg _ ((sb.2 b nb).trans e))
 let ho3:(((s.heap.update a (ZW λ_=>(#[]:Array ZE))).push (aF "tuple" vs.toArray 0)).push (aF "list" #[] 0)).get? a=ZC (aF "list" #[] e1):=zAg _ (zAg _ ho1);show ZP (ZS prog w) A _ P E { s with heap:=((s.heap.update a (ZW λ_=>(#[]:Array ZE))).push (aF "tuple" vs.toArray 0)).push (aF "list" #[] 0) }
 dsimp only
 let sz:vs.toArray.size=vs.length:=zAi ..;by_cases few:vs.toArray.size<2
 .rw[ZJ few,ZJ few]
  refine zCF (zCG ?_);rw[oA];refine zCF (zCG ?_);let eo:(arrOf (SortSt.mk' general' (vs.toArray.zip vs.toArray) #[] 7 ZD)).map (·.2)=(Gy vs (zAS vs.length).toArray).toArray:=GQ (by lia);show ZP (ZS prog w) A (do
   let x <- seqEpoch a
   let _ <- iO (.ref a) λ_=>(arrOf (SortSt.mk' general' (vs.toArray.zip vs.toArray) #[] 7 ZD)).map (·.2)
   _) P E _
  rw[eo];refine zCF (g0 ho3 rfl (zCF (cN ho3 rfl ?_ (zAw _) (by rw[zAi,Pq (n:=vs.length) (dI _)];let:=line _ h64;lia))));simp only [jZ,zBd,cO];refine zCG (h _ (dI _) λi j hij hj=>?_);rw[show i=j by lia];exact bK _
 .rw[ZH few,ZH few]
  let two:2<=vs.length:=by lia
  obtain⟨κ,kind,less⟩:=ask _ old two;refine zCF (kind _ _ ?_);let tree:(kas_sort vs.length).kasWp (kas_ask prog w A κ vs) (λp s'=>s'={ s with heap:=((s.heap.update a (ZW λ_=>(#[]:Array ZE))).push (aF "tuple" vs.toArray 0)).push (aF "list" #[] 0) }/\CRS.Pm vs.length p/\CRS.Up key p vs.length)
    { s with heap:=((s.heap.update a (ZW λ_=>(#[]:Array ZE))).push (aF "tuple" vs.toArray 0)).push (aF "list" #[] 0) }:=
   CRS.run_wp (lt:=CRS.ltK key) (V:=λi=>i<vs.length) (λi j C hi hj hC=>less i j hi hj C hC) (λp hp=>⟨rfl,hp⟩) _ (CRS.run_sort (by lia) λp h1 h2=>⟨h1,h2⟩)
  refine zCF (bJ (kat_run (ks:=vs) (vs:=vs) (Q:=λst' s'=>s'={ s with heap:=((s.heap.update a (ZW λ_=>(#[]:Array ZE))).push (aF "tuple" vs.toArray 0)).push (aF "list" #[] 0) }/\failedOf st'=ZD/\∃ p,CRS.Pm vs.length p/\CRS.Up key p vs.length/\(arrOf st').map (·.2)=(Gy vs p).toArray)
   rfl two h64 (λp st' s' _ har hf ⟨es,g1,g2⟩=>⟨es,hf,p,g1,g2,kat_snds rfl har⟩) tree) ?_ λ_ _ e=>e)
  rintro ⟨⟨⟩,st'⟩ s' ⟨rfl,hf,p,hp,hu,eo⟩;show ZP (ZS prog w) A (do
   let x <- seqEpoch a
   let _ <- iO (.ref a) λ_=>(arrOf st').map (·.2)
   _) P E _
  rw[eo];refine zCF (g0 ho3 rfl (zCF (cN ho3 rfl ?_ (zAw _) (by rw[zAi,Pq hp];let:=line _ h64;lia))));rw[hf];simp only [jZ,zBd,cO];exact zCG (h p hp hu)
def W0 {O} {key:Nat->O.α} {l} {vs} {Q:ZE->ZG->Prop} (hl:s.heap.IsList l vs.toArray) (h64:vs.length<64)
  (ask:∀ (A:aE) (h':aB),(∀ b o,s.heap.get? b=ZC o->h'.get? b=ZC o)->2<=vs.length->DJ prog w A vs O key { s with heap:=h' })
  (h:∀ p,CRS.Pm vs.length p->CRS.Up key p vs.length->Q (.ref (⇑s+1)) { s with heap:=sortedAll s.heap vs (Gy vs p).toArray }) :
  ZP (ZS prog w) A (call (.builtin "sorted") [.ref l]) Q E s:=by
 let line:vs.length<=sizeLine:=by rw[zCH];omega
 refine jV kind_sorted nW nY (args_sorted1 _) ?_;unfold cW.«sorted»;refine zCF (m:=checkCount "sorted" 1 1 _) (zCG (zCF (collect_list hl (zCF (fA ?_ line)))));let sz:((s.heap.push (aF "list" #[] 0)).update ⇑s (ZW (· ++ vs.toArray))).objs.size=⇑s+1:=by rw[oX,size_push']
 let at1:(((s.heap.push (aF "list" #[] 0)).update ⇑s (ZW (· ++ vs.toArray))).push (aF "list" vs.toArray 0)).get? (⇑s+1)=ZC (aF "list" vs.toArray 0):=by
  rw[<- sz];exact zAF _ rfl
 let old:∀ b o,s.heap.get? b=ZC o->(((s.heap.push (aF "list" #[] 0)).update ⇑s (ZW (· ++ vs.toArray))).push (aF "list" vs.toArray 0)).get? b=ZC o:=λb o e=>
  zAg _ (((zBr.update (s.heap.push (aF "list" #[] 0)) ⇑s (ZW (· ++ vs.toArray))).2 b (zAy (zAs e))).trans (zAg _ e))
 show ZP (ZS prog w) _ _ _ _ { s with heap:=((s.heap.push (aF "list" #[] 0)).update ⇑s (ZW (· ++ vs.toArray))).push (aF "list" vs.toArray 0) };rw[sz];refine zCF (aW (aX lQ ⟨_,at1,rfl⟩ kU (GS (O:=O) (key:=key) at1 h64 (λh' k two=>?_) λp hp hu=>⟨_,rfl,?_⟩) (args_list_sort _)))
 .exact ask _ h' (λb o e=>k b o (zAy (zCg (zAs e))) (old b o e)) two
 .exact zCG ⟨_,rfl,h p hp hu⟩
theorem Zm {Q:Bool->ZG->Prop}:∀ {xs ys} {ns j:List Int} (i:Nat),cC xs ns->cC ys j->ns.length=j.length->Q (HT.lexLt ns j) s->KatLex prog w A ZI ZK Q (xs.zip ys) i s
 |_,_,_,_,i,.nil,.nil,_,h=>kat_nil h
 |_,_,_,_,_,.nil,.cons _ _ _,e,_=>by simp at e
 |_,_,_,_,_,.cons _ _ _,.nil,e,_=>by simp at e
 |_,_,_,_,i,.cons a t r,.cons b u q,e,h=>by
  rw[gY];refine kat_cons (fX ?_);rw[HT.lexLt_cons] at h;by_cases c:a=b
  .rw[ZJ c] at h
   let g:(a==b)=ZI:=by rw[c];exact kW b
   rw[g];exact kat_yes (Zm (i+1) r q (by simpa using e) h)
  .rw[ZH c] at h
   let g:(a==b)=ZK:=by simpa using c
   rw[g];refine kat_no ?_;cases i with
   |zero=>exact oneLt_int h
   |succ i=>exact kat_one _ _ (PyProof.Rows.lt_int h)
def YX (h:aB) (k:Nat):List ZE->List (List Int)->Prop
 |[],[]=>True
 |v::vs,r::rs=>(∃ (t:ZF) (xs:List ZE),v=.ref t/\mC h t xs.toArray/\cC xs r/\r.length=k)/\YX h k vs rs
 |_,_=>False
theorem YX.at {h:aB} {k:Nat}:∀ {vs} {g:List (List Int)} {i:Nat},YX h k vs g->i<vs.length->∃ (t:ZF) (xs:List ZE),vs.getD i bD=.ref t/\mC h t xs.toArray/\cC xs (g.getD i [])/\(g.getD i []).length=k
 |[],[],_,_,z=>by simp at z
 |[],_::_,_,z,_=>z.elim
 |_::_,[],_,z,_=>z.elim
 |v::vs,r::g,0,⟨⟨t,xs,e,z⟩,q⟩,_=>⟨t,xs,e,z⟩
 |v::vs,r::g,i+1,⟨_,q⟩,l=>q.at (i:=i) (by simpa using l)
theorem YX.firsts {h:aB} {k:Nat}:∀ {vs} {g:List (List Int)},YX h (k+1) vs g->∃ fs:List ZE,KatTups h vs fs/\fs.length=vs.length/\∀ v∈fs,∃ (n:Int) (t:Tok),v=.int n t
 |[],[],_=>⟨[],trivial,rfl,λ_ z=>nomatch z⟩
 |[],_::_,z=>z.elim
 |_::_,[],z=>z.elim
 |v::vs,r::g,⟨⟨t,xs,e,⟨o,F,B,n,j⟩,L,l⟩,q⟩=>by
  obtain⟨fs,h1,S,M⟩:=q.firsts;cases L with
  |nil=>simp at l
  |cons a u Y=>
   refine⟨.int a u::fs,⟨⟨t,o,_,n,e,F,B,j,by simp⟩,h1⟩,by rw[zAf,zAf,S],λy U=>?_⟩;rcases zAj.mp U with z|z
   .exact⟨a,u,z⟩
   .exact M y z
def Uc {M:Model} {h:aB} (n:Int) (t:Tok):Looks M h (nP (.int n t)) (.type "int"):=λA Q E s _ q=>wpAny_of_eq rfl q
def X8 {vs:List ZE} {L:List (List Int)} {k:Nat} (T:YX s.heap (k+1) vs L) (aa:2<=vs.length):DJ prog w A vs YF (λi=>L.getD i []) s:=by
 obtain⟨fs,h1,h2,h3⟩:=T.firsts;refine⟨tuples' (aY "int" != aY "tuple"),λQ E q=>kat_kind h1 (by lia) (λv S=>?_) rfl q,λi j hi Z C hC=>?_⟩
 .obtain⟨n,t,rfl⟩:=h3 v S
  exact Uc n t
 .obtain⟨t,xs,e,⟨o,ho,hc,n,hd⟩,M,l⟩:=T.at hi
  obtain⟨t',F,e',⟨o',B,U,n',z⟩,g,l'⟩:=T.at Z;rw[e,e'];let ls:=M.length;let ab:=g.length;let nb:(aY "int" != aY "tuple")=ZI:=by ac_nf
  rw[nb];refine kat_lt ho hd B z ?_;let Y:decide (xs.toArray.size<F.toArray.size)=ZK:=ZQ (by simp only [zAi];lia);rw[Y];exact Zm 0 M g (l.trans l'.symm) hC
def YA (K:zAa) (H:Hp) (k:Nat):List V->List (List Int)->Prop
 |[],[]=>True
 |y::ys,r::rs=>(∃ t,y=.ref t/\Hx K H t (r.map V.int)/\r.length=k)/\YA K H k ys rs
 |_,_=>False
theorem Rk:∀ {r:List Int} {us},Fy (r.map V.int) us->cC us r
 |[],_,.nil=>.nil
 |a::r,_,.cons ⟨t,e⟩ g=>by subst e;exact .cons a t (Rk g)
theorem YA.vals {s:ZG} {k:Nat} (I:Ed X pins σ H s):∀ {ys} {B:List (List Int)} {us},YA X.K H k ys B->Fy ys us->YX s.heap k us B
 |[],[],_,_,.nil=>trivial
 |[],_::_,_,z,_=>z.elim
 |_::_,[],_,z,_=>z.elim
 |y::ys,r::B,_,⟨⟨t,e,h,l⟩,q⟩,.cons F L=>by
  subst e;cases F;obtain⟨j,g,p,_⟩:=I.tuple h;exact⟨⟨t,j,rfl,p,Rk g,l⟩,q.vals I L⟩
theorem Yk:∀ {ys} {us} (i:Nat),Fy ys us->Kl (ys.getD i .non) (us.getD i bD)
 |_,_,_,.nil=>rfl
 |_,_,0,.cons r _=>r
 |_,_,i+1,.cons _ g=>by
  rw[mZ,mZ];exact Yk i g
theorem Rp {ys:List V} {us:List ZE} (r:Fy ys us):∀ l:List Nat,Fy (l.map λi=>ys.getD i .non) (l.map λi=>us.getD i bD)
 |[]=>.nil
 |i::l=>.cons (Yk i r) (Rp r l)
def TF (K:zAa) (t:TE):TT:=λσ H Q=>t σ H λx H1=>∃ k,QO K x H1 k/\Q k H1
def CP {e:bA} {t:TE} (h:PE X e t) (L:∀ g,nX e X.env g=(do let v <- g;gD e.pos;eB [v] (truthy v)):=by intro _;rfl):PT X e (TF X.K t):=by
 intro pins s σ H Q I q;exact isTrue_plain (Cb (h pins s σ H _ I q) λv B ⟨x,H1,z,F,j⟩=>NU pins B σ H1 x v Q z F j) (L _)
end L2
namespace L2
open PySem PySem.Spec PyProof.Rows
structure YZ (K:zAa) (x qual:ZM) (st:bM) (f:ZF) (fd:eR):Prop where
 ex:∃ (oc:ZE) (od:Option ZF) (dV kV doc pm:ZE) (an:Option ZF) (cdv ct:ZE) (osl:Array (Option ZE)),
  fd=zAU x qual (Ck st) (Bp st) (Aq st) dV kV doc pm an cdv ct/\K.lookup f=ZC ⟨oc,od,.func fd,osl⟩/\zBi K cdv qual=ZI
 kp:zAP K (.ref f)=ZI
section
variable {P:ZO} {w:ZX} {K:zAa} {mg:ZM->Option ZE} {base:aB}
def YZ.ok {x qual} {st} {f} {fd} {N ps} {k:Nat} {sp} (F:YZ K x qual st f fd) (S:By N ps (Aq st)) (len:∀ vs H Q E,sp vs H Q E->vs.length=ps.length)
  (g:∀ (cdv:ZE) (A:aE) (outer:List kF) (s:ZG) (H:Hp) (vs:List V) (Q:VK) (E:XK),XE k (A.deeper (dO qual (Aq st) ⇑s f cdv))->sp vs H Q E ->
   ∃ t,PSs (Kq Ew P w K mg base N qual (Aq st) f cdv A outer s H E).nox (Bp st) t/\t { nx:=λ_ H'=>Q .non H',rt:=Q } (Fi N vs) H):XB P w K mg base Ew (k+1) f fd ps sp:=by
 obtain⟨Z,od,Y,kV,B,U,an,cdv,ct,L,e,M,z⟩:=F.ex;subst e;refine BS M z S len λA outer s H vs Q E hr j=>?_;obtain⟨t,h,q⟩:=g cdv A outer s H vs Q E hr j;exact⟨t,h.nox,q⟩
def GD {x qual} {st} {f} {L} {M B} {j} {z kV g q cdv F} (l:K.lookup f=ZC ⟨L,M,.func (zAU x qual (Ck st) (Bp st) (Aq st) z kV g q B cdv F),j⟩)
  (c:zBi K cdv qual=ZI) (k:zAP K (.ref f)=ZI):YZ K x qual st f (zAU x qual (Ck st) (Bp st) (Aq st) z kV g q B cdv F):=⟨⟨L,M,z,kV,g,q,B,cdv,F,j,rfl,l,c⟩,k⟩
end
def Zi {K K':zAa} {a:ZF} {xs:List V} {L F:Nat} {tb:TS} {D:Lm} {σ:St} {H:Hp} (g:Nat->St->Hp->Prop) (h0:g 0 σ H) (hl:∀ i σ H,i<=xs.length->g i σ H->Dp K H a xs)
  (Z:∀ i x σ H t,xs[i]?=ZC x->g i σ H->H t=ZD->tb { D with nx:=g (i+1),ct:=g (i+1),bk:=D.nx } ((σ.set L (ZC (.int i))).set F (ZC x)) (upd H t (.tup [.int i,x]))) (hd:∀ σ H,g xs.length σ H->D.nx σ H) :
  ∃ W:Nat->Nat->St->Hp->Prop,(∃ m,W 0 m σ H)/\∀ i m σ H,W i m σ H ->
   ((FN K a).stop i H/\D.nx σ H)\/((FN K a).go i H/\∃ N:St->Hp->Prop,(∀ B H',N B H'->∃ M,M<m/\W (i+1) M B H')/\∀ x H',(FN K a).yld i H x H'->Yv K' 2 (Ge (Cp L) (Ge (Cp F) K1)) x σ H' λσ2 Y=>tb { D with nx:=N,ct:=N,bk:=D.nx } σ2 Y):=by
 refine⟨λi m σ H=>m=xs.length-i/\i<=xs.length/\g i σ H,⟨xs.length,by simp,zAw _,h0⟩,?_⟩;rintro i m σ H ⟨rfl,hi,p⟩;let q:=hl i σ H hi p;by_cases j:i<xs.length
 .refine .inr ⟨⟨xs,xs[i],q,by simp [j]⟩,g (i+1),λB H' p'=>⟨xs.length-(i+1),by omega,rfl,j,p'⟩,λx H' y=>?_⟩
  obtain⟨t,z,ex,U,hz,S⟩:=y;subst ex S;exact⟨t,_,rfl,Hx.of Aa,rfl,_,_,rfl,_,_,rfl,rfl,Z i z σ H t (hz xs q) p U⟩
 .obtain rfl:i=xs.length:=by omega
  exact .inl ⟨⟨xs,q,zAl _⟩,hd σ H p⟩
def JH (K:zAa) (a b:ZF):It:=
 ⟨λi H=>∃ xs ys x y,Dp K H a xs/\Dp K H b ys/\xs[i]?=ZC x/\ys[i]?=ZC y,
   λi H v H'=>∃ t x y,v=.ref t/\H t=ZD/\(∀ xs,Dp K H a xs->xs[i]?=ZC x)/\(∀ ys,Dp K H b ys->ys[i]?=ZC y)/\H'=upd H t (.tup [x,y]),
   λi H=>∃ xs ys,Dp K H a xs/\Dp K H b ys/\(xs.length<=i\/ys.length<=i)⟩
structure Zp (z u o i j:ZF):Prop where
 uz:u≠z
 oz:o≠z
 iz:i≠z
 jz:j≠z
 uo:u≠o
 ui:u≠i
 uj:u≠j
 oi:o≠i
 oj:o≠j
 ij:i≠j
def KW (n:Nat):Zp (n+4) (n+2) (n+3) n (n+1):=
 ⟨zAy (by lia),zAy (by lia),zAy (by lia),zAy (by lia),zAy (by lia),zBB (by lia),zBB (by lia),zBB (by lia),zBB (by lia),zAy (by lia)⟩
def IT (a b z u o i j:ZF) (k:Nat) (h:aB):Prop:=IsZip h z u o .none/\IsPair h u (.ref i) (.ref j)/\(∃ x y,IsPair h o x y)/\h.IsListIter i a k/\h.IsListIter j b k
def Ut {a b z u o i j:ZF} {k:Nat} {h:aB} {xs ys:Array ZE} (D:Zp z u o i j) (st:IT a b z u o i j k h) (L:h.IsList a xs) (F:h.IsList b ys):ZipApart z u o i j a b:=by
 obtain⟨Z,hu,⟨x,y,ho⟩,⟨g,ei,ci,_⟩,⟨oj,Y,cj,_⟩⟩:=st;let ne:∀ {c d:ZF} {p q:cP} {zs:Array ZE},h.IsList c zs->h.get? d=ZC q->q.cls≠.type "list"->c≠d:=λ{c d p q zs} hl hd hn e=>by
  obtain⟨p',hp,hc,_⟩:=hl;rw[e,hd] at hp;cases hp;exact hn hc
 let U:(aY "zip")≠.type "list":=by ac_nf
 let S:(aY "tuple")≠.type "list":=by ac_nf
 let ni:(aY "list_iterator")≠.type "list":=by ac_nf
 let M:g.cls≠.type "list":=by rw[ci];exact ni
 let B:oj.cls≠.type "list":=by rw[cj];exact ni
 constructor <;> first
  |exact D.uz|exact D.oz|exact D.iz|exact D.jz|exact D.uo|exact D.ui|exact D.uj|exact D.oi|exact D.oj|exact D.ij
  |exact ne (p:=g) L Z U|exact ne (p:=g) F Z U|exact ne (p:=g) L ho S|exact ne (p:=g) F ho S|exact ne (p:=g) L hu S|exact ne (p:=g) F hu S
  |exact ne (p:=g) L ei M|exact ne (p:=g) F ei M|exact ne (p:=g) L Y B|exact ne (p:=g) F Y B
def AC {P} {w} {K} {aj} {n:Nat} {tp} (a b z u o i j:ZF) (D:Zp z u o i j) :
  Xh P w K (.Tuple aj n tp) (JH K a b) [z,u,o,i,j] z (IT a b z u o i j) where
 mem:=by simp
 obj:=λk h st c g=>by
  obtain⟨hz,hu,⟨x,y,ho⟩,⟨oi,ei,ci,di⟩,⟨oj,ej,cj,dj⟩⟩:=st;simp only [zAj,zBg,dG] at g;rcases g with rfl|rfl|rfl|rfl|rfl
  .exact⟨_,hz,λv q=>by
    let q':mO _=iR v:=q;cases q'⟩
  .exact⟨_,hu,λv q=>by
    let q':Data.seq _ _=iR v:=q;cases q'⟩
  .exact⟨_,ho,λv q=>by
    let q':Data.seq _ _=iR v:=q;cases q'⟩
  .exact⟨oi,ei,λv q=>by rw[di] at q;cases q⟩
  .exact⟨oj,ej,λv q=>by rw[dj] at q;cases q⟩
 keep:=λk h h' st kk=>by
  obtain⟨hz,hu,⟨x,y,ho⟩,h1,h2⟩:=st;exact⟨kk z (by simp) _ hz,kk u (by simp) _ hu,⟨x,y,kk o (by simp) _ ho⟩,h1.at λob e=>kk i (by simp) ob e,h2.at λob e=>kk j (by simp) ob e⟩
 item:=by
  intro X hP hw hK g k pins s σ H E I hf st hg;subst hP hw hK;obtain⟨xs,ys,x,y,ad,ac,hx,hy⟩:=hg;obtain⟨al,rv,p,hz⟩:=I.list ad;obtain⟨an,ae,p',am⟩:=I.list ac;obtain⟨v,hv,ru⟩:=rv.get hx;obtain⟨v',ao,ar⟩:=ae.get hy;let DD:=Ut D st p.isList p'.isList;obtain⟨sz,su,⟨x0,y0,so⟩,s1,s2⟩:=id st;let Z:=hf z (by simp);let fu:=hf u (by simp);let fo:=hf o (by simp);let Y:=hf i (by simp);let fj:=hf j (by simp);refine wpAny_pyNext_zip_item DD sz su so s1 s2 p.isList p'.isList (x:=v) (y:=v') (by simpa using hv) (by simpa using ao) λh1 a1 a2 a3 a4 a5 a6 hk=>⟨_,rfl,?_⟩;refine wpAny_letOwnedTupleGo_zip a1 λh2 ap ak=>?_;let F:zBr z h1 h2:=ak;let ah:z<⇑s:=zAs sz;let aa:H ⇑s=ZD:=I.hok.fresh (zAl _);let up:∀ c ob,c≠z->c≠o->c≠i->c≠j->s.heap.get? c=ZC ob->h2.get? c=ZC ob:=λc ob c1 c2 c3 c4 q=>(F.2 c c1).trans (hk c ob c1 c2 c3 c4 q);let L:∀ c,c∉[z,o,i,j]->c≠z/\c≠o/\c≠i/\c≠j:=λc g=>by
   simp only [zAj,zBg,dG,not_or] at g;exact g
  let M:∀ c ob,H c=ZC ob->c≠z/\c≠o/\c≠i/\c≠j:=λc ob q=>
   ⟨λe=>by (rw[e,Z.1] at q;cases q),λe=>by (rw[e,fo.1] at q;cases q),λe=>by (rw[e,Y.1] at q;cases q),λe=>by (rw[e,fj.1] at q;cases q)⟩
  let U:∀ c ob,c∉[z,o,i,j]->s.heap.get? c=ZC ob->h2.get? c=ZC ob:=λc ob g q=>up c ob (L c g).1 (L c g).2.1 (L c g).2.2.1 (L c g).2.2.2 q;let ab:∀ c ob B,H c=ZC B->s.heap.get? c=ZC ob->h2.get? c=ZC ob:=λc ob B g q=>up c ob (M c B g).1 (M c B g).2.1 (M c B g).2.2.1 (M c B g).2.2.2 q;let ai:h2.get? ⇑s=ZC { cls:=.type "tuple",data:=.seq #[v,v'] }:=(F.2 _ (zBB ah)).trans a5;let I1:Ed X pins σ (upd H ⇑s (.tup [x,y])) { s with heap:=h2,gens:=s.gens,drawn:=s.drawn,toks:=s.toks }:=by
   refine I.step (ch:=[z,o,i,j]) (λc g=>?_) (λc ob _ _ g q _=>U c ob g q) (λc ob _ _ g q _=>⟨ob.slots,U c ob g q⟩) (λc ob _ q n=>by rw[Ag (zAy (zAs q))];exact n)
    (λc ob g q=>⟨ob,U c ob g q⟩) (λc xs q=>by rw[Ag (Ad q aa)];exact q) (λc ob u q=>by rw[Ag (Ad q aa)];exact q) (λc ps q=>⟨#[],by rw[Ag (Ad q aa),q];simp⟩)
    (λm hm=>?_) (λc ob q=>?_) I.bare
   .simp only [zAj,zBg,dG] at g
    rcases g with rfl|rfl|rfl|rfl
    .exact⟨Z.2.2.2.1,Z.2.1,Z.2.2.2.2.1,Z.2.2.2.2.2⟩
    .exact⟨fo.2.2.2.1,fo.2.1,fo.2.2.2.2.1,fo.2.2.2.2.2⟩
    .exact⟨Y.2.2.2.1,Y.2.1,Y.2.2.2.2.1,Y.2.2.2.2.2⟩
    .exact⟨fj.2.2.2.1,fj.2.1,fj.2.2.2.2.1,fj.2.2.2.2.2⟩
   .obtain⟨ob,es,ep,ag,r⟩:=hm
    exact⟨ob,es,ep,up _ ob (aR Z.2.1) (aR fo.2.1) (aR Y.2.1) (aR fj.2.1) ag,r⟩
   .by_cases hb:c=⇑s
    .subst hb
     rw[Aa] at q;cases q;exact⟨Dq (by show 2<=1000;decide),[v,v'],.cons ru (.cons ar .nil),_,ai,rfl,_,rfl⟩
    .rw[Ag hb] at q
     refine (I.hok c ob q).stay (λd w' hd S=>?_) (λd S=>by rw[Ag (Ad S aa)];exact S) (λd zs S=>by rw[Ag (Ad S aa)];exact S);rcases hd with rfl|hd
     .exact ab _ w' _ q S
     .exact ab _ w' _ hd S
  refine⟨.ref ⇑s,_,I1,rfl,⟨_,x,y,rfl,aa,λzs af=>by rw[I.list_inj af ad];exact hx,λzs af=>by rw[I.list_inj af ac];exact hy,rfl⟩,⟨ap,?_,⟨v,v',?_⟩,?_,?_⟩,λc g=>?_⟩
  .exact (F.2 u D.uz).trans (hk u _ D.uz D.uo D.ui D.uj su)
  .exact (F.2 o D.oz).trans a2
  .exact a3.at λob q=>(F.2 i D.iz).trans q
  .exact a4.at λob q=>(F.2 j D.jz).trans q
  .have hl:c<⇑s:=by
    simp only [zAj,zBg,dG] at g;rcases g with rfl|rfl|rfl|rfl|rfl
    .exact zAs sz
    .exact zAs su
    .exact zAs so
    .obtain⟨_,q,_⟩:=s1;exact zAs q
    .obtain⟨_,q,_⟩:=s2;exact zAs q
   rw[Ag (zAy hl)];exact (hf c g).1
 done:=by
  intro X hP hw hK g k pins s σ H E I hf st hg;subst hP hw hK;obtain⟨xs,ys,ad,ac,aq⟩:=hg;obtain⟨al,rv,p,hz⟩:=I.list ad;obtain⟨an,ae,p',am⟩:=I.list ac;let DD:=Ut D st p.isList p'.isList;obtain⟨sz,su,⟨x0,y0,so⟩,s1,s2⟩:=id st;let Z:=hf z (by simp);let fo:=hf o (by simp);let Y:=hf i (by simp);let fj:=hf j (by simp);let hl:=rv.length;let as:=ae.length;refine wpAny_pyNext_zip_end (I.ok.hd g) DD sz su so s1 s2 p.isList p'.isList ?_ λh' hk=>⟨rfl,?_⟩
  .rcases aq with e|e
   .exact .inl (by simp;lia)
   .exact .inr (by simp;lia)
  .have L:∀ c,c∉[z,o,i,j]->c≠z/\c≠o/\c≠i/\c≠j:=λc g=>by
    simp only [zAj,zBg,dG,not_or] at g;exact g
   let M:∀ c ob,H c=ZC ob->c≠z/\c≠o/\c≠i/\c≠j:=λc ob q=>
    ⟨λe=>by (rw[e,Z.1] at q;cases q),λe=>by (rw[e,fo.1] at q;cases q),λe=>by (rw[e,Y.1] at q;cases q),λe=>by (rw[e,fj.1] at q;cases q)⟩
   let U:∀ c ob,c∉[z,o,i,j]->s.heap.get? c=ZC ob->h'.get? c=ZC ob:=λc ob g q=>hk c ob (L c g).1 (L c g).2.1 (L c g).2.2.1 (L c g).2.2.2 q;let ab:∀ c ob B,H c=ZC B->s.heap.get? c=ZC ob->h'.get? c=ZC ob:=λc ob B g q=>hk c ob (M c B g).1 (M c B g).2.1 (M c B g).2.2.1 (M c B g).2.2.2 q;refine I.step (H':=H) (ch:=[z,o,i,j]) (λc g=>?_) (λc ob _ _ g q _=>U c ob g q) (λc ob _ _ g q _=>⟨ob.slots,U c ob g q⟩) (λc ob _ q n=>n)
    (λc ob g q=>⟨ob,U c ob g q⟩) (λc xs q=>q) (λc ob u q=>q) (λc ps q=>⟨#[],by rw[q];simp⟩)
    (λm hm=>?_) (λc ob q=>?_) I.bare
   .simp only [zAj,zBg,dG] at g
    rcases g with rfl|rfl|rfl|rfl
    .exact⟨Z.2.2.2.1,Z.2.1,Z.2.2.2.2.1,Z.2.2.2.2.2⟩
    .exact⟨fo.2.2.2.1,fo.2.1,fo.2.2.2.2.1,fo.2.2.2.2.2⟩
    .exact⟨Y.2.2.2.1,Y.2.1,Y.2.2.2.2.1,Y.2.2.2.2.2⟩
    .exact⟨fj.2.2.2.1,fj.2.1,fj.2.2.2.2.1,fj.2.2.2.2.2⟩
   .obtain⟨ob,es,ep,ag,r⟩:=hm
    exact⟨ob,es,ep,hk _ ob (aR Z.2.1) (aR fo.2.1) (aR Y.2.1) (aR fj.2.1) ag,r⟩
   .refine (I.hok c ob q).stay (λd w' hd S=>?_) (λd S=>S) (λd zs S=>S)
    rcases hd with rfl|hd
    .exact ab _ w' _ q S
    .exact ab _ w' _ hd S
 self:=λ_ _ _ _ _ st h=>wpAny_pyIter_zip st.1 h
def TM (K:zAa) (ta:TA):TI:=λσ H R=>ta σ H λvs H1=>∃ a b,vs=[.ref a,.ref b]/\(∃ xs,Dp K H1 a xs)/\(∃ ys,Dp K H1 b ys)/\R (JH K a b) H1
def KD {X} {F j} {ta} {p pos tp} {z} {n:Nat} (hg:Gl X "zip") (hm:X.mg "zip"=ZD) (ha:PA X [F,j] ta) (hs:ZU [F,j] X.env=[(ZK,aM F X.env),(ZK,aM j X.env)]:=by rfl) (hs2:ZU [j] X.env=[(ZK,aM j X.env)]:=by rfl) :
  PI X (.Tuple z n tp) (.Call (.Name "zip" p) [F,j] [] pos) (TM X.K ta):=by
 intro pins s σ H R I h;refine Call_ (Fz I hg hm (show zCI "zip"=ZC (.type "zip") from rfl) (aU (Cb (ha pos pins s σ H _ I h) λus g ⟨vs,H1,B,r1,q1⟩=>?_) (by rw[hs,hs2]) (by rw[hs2];rfl)));obtain⟨a,b,ev,⟨xs,U⟩,⟨ys,L⟩,q⟩:=q1;subst ev;cases r1 with
 |cons ra M=>
  cases M with
  |cons rb M=>
   cases M
   cases ra
   cases rb
   obtain⟨ac,rv,pl,hz⟩:=B.list U;obtain⟨ad,aa,S,ab⟩:=B.list L;refine call_zip_2 pl.isList S.isList λh' Z b2 b3 b4 b5 b6 hk=>?_;refine wpAny_pyIter_zip Z ?_;let I2:Ed X pins σ H1 { g with heap:=h' }:=B.kept (t':=g.toks) hk;refine⟨_,[⇑g+4,⇑g+2,⇑g+3,⇑g,⇑g+1],_,_,H1,rfl,I2,AC a b (⇑g+4) (⇑g+2) (⇑g+3) ⇑g (⇑g+1) (KW _),⟨Z,b2,⟨_,_,b3⟩,b4,b5⟩,λc hc=>?_,q⟩;let Y:⇑g<=c:=by
    simp only [zAj,zBg,dG] at hc;rcases hc with rfl|rfl|rfl|rfl|rfl <;> lia
   exact B.fpOk Y (B.hok.fresh Y)
def HA {K K':zAa} {a b:ZF} {xs ys:List V} {i1 i2:Nat} {tb:TS} {D:Lm} {σ:St} {H:Hp} (Pv:Nat->St->Hp->Prop) (h0:Pv 0 σ H) (hl:∀ i σ H,i<=min xs.length ys.length->Pv i σ H->Dp K H a xs/\Dp K H b ys)
  (hs:∀ i x y σ H t,xs[i]?=ZC x->ys[i]?=ZC y->Pv i σ H->H t=ZD->tb { D with nx:=Pv (i+1),ct:=Pv (i+1),bk:=D.nx } ((σ.set i1 (ZC x)).set i2 (ZC y)) (upd H t (.tup [x,y]))) (hd:∀ σ H,Pv (min xs.length ys.length) σ H->D.nx σ H) :
  ∃ W:Nat->Nat->St->Hp->Prop,(∃ m,W 0 m σ H)/\∀ i m σ H,W i m σ H ->
   ((JH K a b).stop i H/\D.nx σ H)\/((JH K a b).go i H/\∃ N:St->Hp->Prop,(∀ σ' H',N σ' H'->∃ m',m'<m/\W (i+1) m' σ' H')/\∀ x H',(JH K a b).yld i H x H'->Yv K' 2 (Ge (Cp i1) (Ge (Cp i2) K1)) x σ H' λσ2 H2=>tb { D with nx:=N,ct:=N,bk:=D.nx } σ2 H2):=by
 refine⟨λi m σ H=>m=min xs.length ys.length-i/\i<=min xs.length ys.length/\Pv i σ H,⟨min xs.length ys.length,rfl,zAw _,h0⟩,?_⟩;rintro i m σ H ⟨rfl,hi,p⟩;obtain⟨q1,q2⟩:=hl i σ H hi p;by_cases hlt:i<min xs.length ys.length
 .have l1:i<xs.length:=by lia
  let l2:i<ys.length:=by lia
  refine .inr ⟨⟨xs,ys,xs[i],ys[i],q1,q2,by simp [l1],by simp [l2]⟩,Pv (i+1),λσ' H' p'=>⟨min xs.length ys.length-(i+1),by lia,rfl,by lia,p'⟩,λv H' y=>?_⟩;obtain⟨t,x,z,ex,ht,hx,hz,e3⟩:=y;subst ex e3;exact⟨t,_,rfl,Hx.of Aa,rfl,_,_,rfl,_,_,rfl,rfl,hs i x z σ H t (hx xs q1) (hz ys q2) p ht⟩
 .obtain rfl:i=min xs.length ys.length:=by lia
  exact .inl ⟨⟨xs,ys,q1,q2,by lia⟩,hd σ H p⟩
end L2
namespace L2
open PySem PySem.Spec PyProof.Rows PySem.W
def Ed.trackN {a:ZF} {o:HO} (I:Ed X pins σ H s) (fp:Iq X pins H a) (B:XF X.prog X.w (upd H a o) s.heap a o):Ed X pins σ (upd H a o) s:=by
 obtain⟨U,Y,_,h1,S,M⟩:=fp;let g:∀ b u,H b=ZC u->b≠a:=λb u e z=>by rw[z,U] at e;cases e
 refine I.step (h':=s.heap) (g':=s.gens) (d':=s.drawn) (t':=s.toks) (ch:=[a]) (λb j=>?_) (λb o _ _ _ e _=>e) (λb o _ _ _ e _=>⟨o.slots,e⟩) (λb o L e n=>?_) (λb o _ e=>⟨o,e⟩)
  (λb xs e=>by rw[Ag (g _ _ e)];exact e) (λb Z u e=>by rw[Ag (g _ _ e)];exact e) (λb ps e=>⟨#[],by rw[Ag (g _ _ e),e];simp⟩) (λm F=>F) (λb u e=>?_) I.bare
 .have e:b=a:=by simpa using j
  subst e;exact⟨h1,Y,S,M⟩
 .rw[Ag (λz=>L (by simp [z]))]
  exact n
 .by_cases j:b=a
  .subst j
   rw[Aa] at e;cases e;exact B
  .rw[Ag j] at e
   exact (I.hok b u e).stay (λ_ _ _ q=>q) (λc q=>by rw[Ag (g _ _ q)];exact q) λc xs q=>by rw[Ag (g _ _ q)];exact q
def Ed.unpin {p:ZF×cP} (I:Ed X (p::pins) σ H s):Ed X pins σ H s:=
 I.pins_of λq hq=>I.pin q (zAC _ (zAb _ hq))
def Ed.pin1 (I:Ed X pins σ H s) {a:ZF} (e:s.heap.get? a=ZC ob) (B:H a=ZD) (F:a≠X.env.locals) (j:a∉X.fs) (g:∀ v,ob.data≠.cell v):Ed X ((a,ob)::pins) σ H s:=
 I.pins_of λq hq=>by
  rcases zAj.mp hq with z|z
  .subst z;exact⟨e,B,F,j,g⟩
  .exact I.pin q (zAC _ z)
def HM {P} {w} {K} {mg:ZM->Option ZE} {base} {A} {outer} {s} {H} {f M} {name qual} {j} {z} {g} {pm L} {N ps}
  {vs} {us} {Q} {t} (S:By N ps g) (hr:XE 1 A) (Z:YS P w K mg base A outer s H) (hf:s.heap.get? f=ZC (jD name qual j z g [] pm M L)) (U:s.heap.CodeRec (.ref M) qual)
  (hb:hG (kla_fn name qual j z g [] pm (.ref M) L) ⟨us,[]⟩=pure (ps.zip us)) (r:Fy vs us) (hl:vs.length=ps.length)
  (B:PE (Kq Ew P w K mg base N qual g f (.ref M) A outer s H E0).nox z t) (q:t (Fi N vs) H Q) :
  dD (ZS P w) A (.call (.ref f) ⟨us,[]⟩) (CR Ew outer P w H s Q E0) s:=by
 let Y:s.heap.NoLimit:=Z.mod.nolimit.keeps λb o e=>(Z.bs b o e).1;let F:∀ y∈ps.zip us,g.names.lookup y.1=ZC .local\/(g.names.lookup y.1=ZC .cell/\((nG (⇑s+1) g.names []).lookup y.1).isSome=ZI):=λ⟨n,v⟩ hy=>by
  rcases S.par n (fI hy).1 with q|q
  .exact .inl q
  .exact .inr ⟨q,zCA _ _ _ (.inl q)⟩
 refine kla_callFunE hr.depth hf rfl S.co S.gen rfl U ?_;rw[hb];refine zCG ?_;refine lN S.kind F λaa he s1 x=>?_;subst he;refine⟨Y.keeps x.toInCall.keep,kla_codeExpr ?_⟩;let I:Ed (Kq Ew P w K mg base N qual g f (.ref M) A outer s H E0) [] (Fi N vs) H s1:=Tn S hr.hd Z hl r x;refine bJ (B [] s1 (Fi N vs) H Q (I.wish _) q) (λu s' ⟨v,H',J,rv,q'⟩=>?_) λe s' hs=>(hs:False).elim;exact⟨v,H',J.os,J.bare,J.base,J.hok,rv,q'⟩
def Ij (c:ZF) (qual:ZM):aB->Prop:=λh=>h.CodeRec (.ref c) qual
def LamAt (T:ZF) (pos:Pos) (qual:ZM) (H:Hp):Prop:=H T=ZC (.tbl #[])\/∃ c,H T=ZC (.tbl #[aO pos.line,aO pos.col,.ref c])/\H c=ZC (.ext (Ij c qual))
def BI (mg:ZM->Option ZE) (base:aB):Prop:=∃ bm ob,mg "__builtins__"=ZC (.ref bm)/\bm≠iT/\base.get? bm=ZC ob/\ob.cls=.type "module"/\ob.dict=ZC iT/\ob.data=.plain
def V9 {c:ZF} {qual:ZM} (h1 h2:aB) (x:Ij c qual h1) (k:∀ o,h1.get? c=ZC o->h2.get? c=ZC o):Ij c qual h2:=by
 obtain⟨j,o,vs,t,e,g,r⟩:=x;cases e;exact⟨c,o,vs,t,rfl,k o g,r⟩
def DV {c T:ZF} {qual:ZM} {n:Nat} {A:aE} {E:ZE->ZG->Prop} {Q:ZE->ZG->Prop} (I:Ed X pins σ H s) (F:X.env.code=.ref c) (C:CodeHd X.base c T) (aa:lT scope X.env=pure []) (L:LamAt T pos qual H) (j:BI X.mg X.base)
  (h:∀ (f c':ZF) (pm g:ZE) (h':aB) (tk:Nat) (H':Hp),Ed X pins σ H' { s with heap:=h',toks:=tk }->(∀ b o,H b=ZC o->b≠T->H' b=ZC o)->(∀ b,b<⇑s->H b=ZD->H' b=ZD) ->
   H' T=ZC (.tbl #[aO pos.line,aO pos.col,.ref c'])->H' c'=ZC (.ext (Ij c' qual))->Iq X pins H' f ->
   h'.get? f=ZC (jD "<lambda>" qual params body scope [] pm c' g)->Q (.ref f) { s with heap:=h',toks:=tk }) :
  ZP (ZS X.prog X.w) A (makeFunction "<lambda>" qual params (.expr body) scope X.env [] [] [] pos n) Q E s:=by
 obtain⟨bm,ob,b1,b2,b3,b4,b5,b6⟩:=j;let ht:∃ ps,H T=ZC (.tbl ps):=by
  rcases L with L|⟨c',L,_⟩
  .exact⟨_,L⟩
  .exact⟨_,L⟩
 obtain⟨al,aj⟩:=ht;let U:∀ b o,X.base.get? b=ZC o->b≠T:=λb o e z=>by
  let:=(I.bs b o e).2;rw[z,aj] at this;cases this
 let ac:=I.mod.glob.keeps I.bk;let af:zCJ≠T:=by
  obtain⟨o,es,ep,e,_⟩:=I.mod.glob;exact U _ _ e
 let ai:bm≠zCJ:=λq=>by
  obtain⟨o,es,ep,e,hd,_⟩:=I.mod.glob;rw[q,e] at b3;cases b3;rw[hd] at b6;cases b6
 let BA:s.heap.BuiltinsAt X.mg T:=⟨bm,ob,b1,b2,ai,U _ _ b3,I.bk _ _ b3,b4,b5,b6⟩;rcases L with L|⟨c',L,Lc⟩
 .have hP:s.heap.get? T=ZC (tabObj #[]):=I.hok T _ L
  refine kla_makeFunction (mg:=X.mg) aa I.ok.glob ac F (C.keeps I.bk) hP (by exact bV) (by rfl) af BA λc' g h' tk hx M Z Y ah=>?_;let ag:H c'=ZD:=I.hok.fresh M;let nT:∀ b,H b=ZD->b≠T:=λb n z=>by rw[z,L] at n;cases n
  let nc:∀ b,b<⇑s->b≠c':=λb l z=>ZR (zAI l M) (by rw[z];exact zBq _);let B:∀ b u,H b=ZC u->b≠c':=λb u e z=>by rw[z,ag] at e;cases e
  let cT:c'≠T:=(B T _ L).symm;let keep:∀ b o,b≠T->s.heap.get? b=ZC o->(h'.push (jD "<lambda>" qual params body scope [] ((X.mg "__name__").getD .none) c' g)).get? b=ZC o:=λb o j e=>zAg _ (hx b o j e);let ab:(h'.push (jD "<lambda>" qual params body scope [] ((X.mg "__name__").getD .none) c' g)).get? T=ZC (tabObj #[aO pos.line,aO pos.col,.ref c']):=zAg _ (by simpa using ah);let u:Un X.fs [] H (upd (upd H T (.tbl #[aO pos.line,aO pos.col,.ref c'])) c' (.ext (Ij c' qual))) s.heap (h'.push (jD "<lambda>" qual params body scope [] ((X.mg "__name__").getD .none) c' g)):=by
   let ae:∀ b u,H b=ZC u->(∀ ps,u≠.tbl ps)->upd (upd H T (.tbl #[aO pos.line,aO pos.col,.ref c'])) c' (.ext (Ij c' qual)) b=ZC u:=λb u e n=>by
    rw[Ag (B b u e),Ag (λz=>by rw[z,L] at e;cases e;exact n _ rfl)];exact e
   refine⟨λb o e n _ _=>keep b o (nT b n) e,λb o e n _ _=>⟨o.slots,keep b o (nT b n) e⟩,λb o e n _=>?_,λb o e _=>?_,λb xs e=>ae b _ e (λ_ z=>by cases z),λb o u e=>ae b _ e (λ_ z=>by cases z),λb ps e=>?_⟩
   .rw[Ag (nc b (zAs e)),Ag (nT b n)]
    exact n
   .by_cases j:b=T
    .rw[j];exact⟨_,ab⟩
    .exact⟨o,keep b o j e⟩
   .by_cases j:b=T
    .subst j
     rw[L] at e;cases e;exact⟨#[aO pos.line,aO pos.col,.ref c'],by rw[Ag cT.symm,Aa];simp⟩
    .exact⟨#[],by rw[Ag (B b _ e),Ag j,e];simp⟩
  let ak:XZ X.prog X.w (upd (upd H T (.tbl #[aO pos.line,aO pos.col,.ref c'])) c' (.ext (Ij c' qual))) (h'.push (jD "<lambda>" qual params body scope [] ((X.mg "__name__").getD .none) c' g)):=λb o e=>by
   by_cases j:b=c'
   .subst j
    rw[Aa] at e;cases e;obtain⟨c2,oc,vs,t,e2,ad,r⟩:=Y;cases e2;exact⟨⟨b,oc,vs,t,rfl,zAg _ ad,r⟩,⟨oc,zAg _ ad⟩,λh1 h2=>V9 h1 h2⟩
   .rw[Ag j] at e
    by_cases S:b=T
    .subst S
     rw[Aa] at e;cases e;exact ab
    .rw[Ag S] at e
     refine (I.hok b o e).stay (λd v hd q=>keep d v ?_ q) (λd q=>?_) λd xs q=>?_
     .rcases hd with z|z
      .rw[z];exact S
      .intro y
       rw[y,L] at z;cases z
     .rw[Ag (B d _ q),Ag (λz=>by rw[z,L] at q;cases q)]
      exact q
     .rw[Ag (B d _ q),Ag (λz=>by rw[z,L] at q;cases q)]
      exact q
  let big:⇑s<=h'.objs.size:=zCi (zBW M Z);let fn:H h'.objs.size=ZD:=I.hok.fresh big;let ff:upd (upd H T (.tbl #[aO pos.line,aO pos.col,.ref c'])) c' (.ext (Ij c' qual)) h'.objs.size=ZD:=by
   rw[Ag (zBB Z),Ag (nT _ fn)];exact fn
  refine h h'.objs.size c' _ g _ tk _ (I.un (t':=tk) u ak) (λb o e j=>?_) (λb l n=>?_) (by rw[Ag cT.symm,Aa]) Aa (I.fpOk big ff) (zAF _ rfl)
  .rw[Ag (B b _ e),Ag j]
   exact e
  .rw[Ag (nc b l),Ag (nT b n)]
   exact n
 .have hP:s.heap.get? T=ZC (tabObj #[aO pos.line,aO pos.col,.ref c']):=I.hok T _ L
  refine kla_makeFunctionHit (mg:=X.mg) (cv:=.ref c') aa I.ok.glob ac F (C.keeps I.bk) hP (by simp [TriplesOk,aO]) (by simp [codeAmong,aO]) BA λg h' tk hk big=>?_;let fn:H h'.objs.size=ZD:=I.hok.fresh big;refine h h'.objs.size c' _ g _ tk H (I.kept (t':=tk) λb u e=>zAg _ (hk b u e)) (λb o e _=>e) (λb _ n=>n) L Lc (I.fpOk big fn) (zAF _ rfl)
theorem AS:∀ {ks vs:List ZE},ks.length=vs.length->vs.length<2->((ks.toArray.zip vs.toArray).map (·.2))=(Gy vs (zAS vs.length).toArray).toArray
 |[],[],_,_=>by
  apply zCD.mp;simp [Gy]
 |[k],[v],_,_=>by
  apply zCD.mp;simp [Gy]
 |[],_::_,h,_=>by simp at h
 |_::_,[],h,_=>by simp at h
 |_::_::_,[_],h,_=>by simp at h
 |_,_::_::_,_,h=>ZR h (by simp)
def P4 {a q:ZF} {ks vs:List ZE} {n M:Nat} {p:Array Nat} {st:SortSt} {P:kL->ZG->Prop} (S:s.heap.get? q=ZC (aF "list" ks.toArray n)) (Z:s.heap.get? a=ZC (aF "list" #[] M)) (B:q≠a)
  (L:ks.length<64) (F:vs.length<64) (Y:CRS.Pm vs.length p) (j:(arrOf st).map (·.2)=(Gy vs p).toArray) (U:failedOf st=ZD)
  (h:P (.done (.ret .none)) { s with heap:=(s.heap.update q (ZW λ_=>(#[]:Array ZE))).update a (ZW λ_=>(Gy vs p).toArray) }) :
  ZP (ZS prog w) A (ksk_tail a ZK M (.ref q) st) P E s:=by
 let g:∀ k:Nat,k<64->k<=sizeLine:=λk S=>by rw[zCH];lia
 let z:(s.heap.update q (ZW λ_=>(#[]:Array ZE))).get? a=ZC (aF "list" #[] M):=(nD _ _ _ _ (aR B)).trans Z;unfold ksk_tail
 dsimp only
 rw[j];refine zCF (cN S rfl ?_ (by rw[zAi];exact g _ L) (zAw _));refine zCF (wpAny_letGo ?_);refine zCF (g0 z rfl ?_);simp only [zBd,cO];refine zCF (cN z rfl ?_ (zAw _) (by rw[zAi,Pq Y];exact iL (g _ F)));rw[U];simp only [jZ,zBd,cO];exact zCG h
def JP {O:KeyOrd} {key:Nat->O.α} {a Y:ZF} {ks vs:List ZE} {n e1:Nat} {P:kL->ZG->Prop} (hk:s.heap.get? Y=ZC (aF "list" ks.toArray n)) (ha:s.heap.get? a=ZC (aF "list" #[] e1)) (L:Y≠a)
  (hl:ks.length=vs.length) (z:vs.length<64) (aa:2<=vs.length->DJ prog w A ks O key s)
  (h:∀ p,CRS.Pm vs.length p->CRS.Up key p vs.length->P (.done (.ret .none)) { s with heap:=(s.heap.update Y (ZW λ_=>(#[]:Array ZE))).update a (ZW λ_=>(Gy vs p).toArray) }) :
  ZP (ZS prog w) A (ksk_end a ZK vs.toArray e1 (.ref Y) ks.toArray) P E s:=by
 let sz:vs.toArray.size=vs.length:=zAi ..;unfold ksk_end
 dsimp only
 simp only [zBd,cO];by_cases q:vs.toArray.size<2
 .rw[ZJ q,ZJ q]
  refine zCF (zCG ?_);rw[oA];refine zCF (zCG ?_);refine P4 (p:=(zAS vs.length).toArray) hk ha L (by lia) z (dI _) (AS hl (by lia)) rfl (h _ (dI _) λi j ac hj=>?_);rw[show i=j by lia];exact bK _
 .rw[ZH q,ZH q]
  let M:2<=vs.length:=by lia
  obtain⟨κ,S,B⟩:=aa M;refine zCF (S _ _ ?_);let F:(kas_sort vs.length).kasWp (kas_ask prog w A κ ks) (λp s'=>s'=s/\CRS.Pm vs.length p/\CRS.Up key p vs.length) s:=
   CRS.run_wp (lt:=CRS.ltK key) (V:=λi=>i<vs.length) (λi j C hi hj hC=>B i j (by lia) (by lia) C hC) (λp U=>⟨rfl,U⟩) _ (CRS.run_sort (by lia) λp h1 h2=>⟨h1,h2⟩)
  refine zCF (bJ (kat_run (ks:=ks) (vs:=vs) (Q:=λg s'=>s'=s/\failedOf g=ZD/\∃ p,CRS.Pm vs.length p/\CRS.Up key p vs.length/\(arrOf g).map (·.2)=(Gy vs p).toArray)
   hl M z (λp g s' _ ab Z ⟨es,g1,g2⟩=>⟨es,Z,p,g1,g2,kat_snds hl ab⟩) F) ?_ λ_ _ e=>e)
  rintro ⟨⟨⟩,g⟩ s' ⟨rfl,Z,p,U,hu,eo⟩;exact P4 hk ha L (by lia) z U eo Z (h p U hu)
def YQ (K:zAa) (H:Hp):List V->List (List Int)->Prop
 |[],[]=>True
 |y::ys,r::rs=>(∃ (t:ZF) (d k n:Int) (v:V),y=.ref t/\Hx K H t [.int d,.int k,.int n,v]/\r=[d,k,n])/\YQ K H ys rs
 |_,_=>False
theorem YQ.len {K} {H}:∀ {ys} {g:List (List Int)},YQ K H ys g->ys.length=g.length
 |[],[],_=>rfl
 |[],_::_,z=>z.elim
 |_::_,[],z=>z.elim
 |v::vs,r::g,z=>by rw[zAf,zAf,z.2.len]
theorem YQ.get {K} {H}:∀ {ys} {g:List (List Int)} {i:Nat} {y},YQ K H ys g->ys[i]?=ZC y->∃ (t:ZF) (d k n:Int) (v:V),y=.ref t/\Hx K H t [.int d,.int k,.int n,v]/\g[i]?=ZC [d,k,n]
 |[],[],_,_,_,e=>by simp at e
 |[],_::_,_,_,z,_=>z.elim
 |_::_,[],_,_,z,_=>z.elim
 |y::ys,r::g,0,z,⟨⟨t,d,k,n,v,e,h,j⟩,_⟩,q=>by
  simp at q;subst q;exact⟨t,d,k,n,v,e,h,by rw[j];rfl⟩
 |y::ys,r::g,i+1,z,⟨_,q⟩,e=>by
  obtain⟨t,d,k,n,v,h1,B,F⟩:=q.get (i:=i) (by simpa using e);exact⟨t,d,k,n,v,h1,B,by simpa using F⟩
theorem YA.app {K} {H} {k:Nat} {t} {r:List Int} (h:Hx K H t (r.map V.int)) (l:r.length=k):∀ {ys} {g:List (List Int)},YA K H k ys g->YA K H k (ys++[.ref t]) (g++[r])
 |[],[],_=>⟨⟨t,rfl,h,l⟩,trivial⟩
 |[],_::_,z=>z.elim
 |_::_,[],z=>z.elim
 |y::ys,q::g,⟨z,j⟩=>⟨z,YA.app h l j⟩
theorem YA.mono {K} {H H'} {k:Nat} (s:∀ t xs,Hx K H t xs->Hx K H' t xs):∀ {ys} {g:List (List Int)},YA K H k ys g->YA K H' k ys g
 |[],[],_=>trivial
 |[],_::_,z=>z.elim
 |_::_,[],z=>z.elim
 |y::ys,q::g,⟨⟨t,e,h,l⟩,j⟩=>⟨⟨t,e,s _ _ h,l⟩,YA.mono s j⟩
theorem YA.len {K} {H} {k:Nat}:∀ {ys} {g:List (List Int)},YA K H k ys g->ys.length=g.length
 |[],[],_=>rfl
 |[],_::_,z=>z.elim
 |_::_,[],z=>z.elim
 |y::ys,q::g,z=>by rw[zAf,zAf,z.2.len]
def GW {K} {H} {l} {xs ys} (hl:H l=ZC (.lst xs)):∀ t zs,Hx K H t zs->Hx K (upd H l (.lst ys)) t zs:=λt zs h=>by
 rcases h with (h|⟨o,h⟩)|h
 .exact .inl (.inl (by rw[Ag (λz=>by rw[z,hl] at h;cases h)];exact h))
 .exact .inl (.inr ⟨o,by rw[Ag (λz=>by rw[z,hl] at h;cases h)];exact h⟩)
 .exact .inr h
def Zk {K} {H H'} (s:∀ b o,H b=ZC o->H' b=ZC o):∀ t zs,Hx K H t zs->Hx K H' t zs:=λt zs h=>by
 rcases h with (h|⟨o,h⟩)|h
 .exact .inl (.inl (s _ _ h))
 .exact .inl (.inr ⟨o,s _ _ h⟩)
 .exact .inr h
def MR (X:Cx) (qual:ZM) (params:Arguments) (body:bA) (scope:fY):Prop:=By ["entry"] ["entry"] scope /\
 (∀ (pm:ZE) (c':ZF) (ctv u:ZE),hG (kla_fn "<lambda>" qual params body scope [] pm (.ref c') ctv) ⟨[u],[]⟩=pure [(("entry" : ZM),u)]) /\
 ∀ (A:aE) (outer:List kF) (s:ZG) (H:Hp) (f c':ZF),PE (Kq Ew X.prog X.w X.K X.mg X.base ["entry"] qual scope f (.ref c') A outer s H E0).nox body (VR (MA X.K) (KU 0) O5 (JD (tC (.int 3))))
def HV {f c':ZF} {qual:ZM} {params:Arguments} {body:bA} {scope:fY} {pm ctv:ZE} {A:aE} {t:ZF} {d k n:Int} {v:V} {E:ZE->ZG->Prop} {R:ZE->ZG->Prop} (B:MR X qual params body scope) (hA:A.frames=ZC X.stack) (hr:XE 1 A)
  (I:Ed X pins σ H s) (hf:s.heap.get? f=ZC (jD "<lambda>" qual params body scope [] pm c' ctv)) (hc:H c'=ZC (.ext (Ij c' qual))) (ht:Hx X.K H t [.int d,.int k,.int n,v])
  (h:∀ p s',Ed X pins σ (upd H p (.tup [.int d,.int k,.int n])) s'->H p=ZD->R (.ref p) s'):ZP (ZS X.prog X.w) A (call (.ref f) [.ref t]) R E s:=by
 obtain⟨S,bd,pb⟩:=B;let e0:=I.env0;let e1:YS X.prog X.w X.K X.mg X.base A X.stack s H:=⟨hA,e0.mod,e0.bs,e0.bsz,e0.funs,e0.frf,e0.hok,e0.bare⟩;let cr:s.heap.CodeRec (.ref c') qual:=(I.hok c' _ hc).1;refine iS (dM (HM (vs:=[.ref t]) (us:=[.ref t]) (ps:=["entry"]) (N:=["entry"]) (Q:=λx H'=>∃ p,x=.ref p/\H p=ZD/\H'=upd H p (.tup [.int d,.int k,.int n])) S hr e1 hf cr (bd pm c' ctv _) (.cons rfl .nil) rfl (pb A X.stack s H f c') ?_) λr s' hq=>?_)
 .refine⟨_,rfl,_,rfl,t,_,rfl,ht,by show ¬ (HT.sIx 4 0 ZD=0/\HT.sIx 4 4 (ZC 3)=4);decide,λp hp=>⟨p,rfl,hp,rfl⟩⟩
 .cases r with
  |error e=>exact aV hq
  |ok fl=>
   cases fl with
   |ret u=>
    obtain⟨x,H',I',rx,p,rfl,hp,rfl⟩:=I.after hq;cases rx;exact h p s' I' hp
   |next=>exact aV hq
   |brk=>exact aV hq
   |cont=>exact aV hq
def MD (K:zAa) (T:ZF) (lpos:Pos) (qual:ZM) (te:TE):TE:=λσ H Q=>te σ H λx H1=>∃ l ys rs,x=.ref l/\Dp K H1 l ys/\YQ K H1 ys rs/\ys.length<64/\LamAt T lpos qual H1 /\
 ∀ (p:Array Nat) (a:ZF) (H':Hp),H1 a=ZD->(∀ b o,H1 b=ZC o->b≠T->H' b=ZC o)->LamAt T lpos qual H'->CRS.Pm ys.length p->CRS.Up (O:=YF) (λi=>rs.getD i []) p ys.length->H' a=ZC (.lst (p.toList.map λi=>ys.getD i .non))->Q (.ref a) H'
theorem YQ.mono {K} {H H'} (s:∀ t xs,Hx K H t xs->Hx K H' t xs):∀ {ys} {g:List (List Int)},YQ K H ys g->YQ K H' ys g
 |[],[],_=>trivial
 |[],_::_,z=>z.elim
 |_::_,[],z=>z.elim
 |y::ys,q::g,⟨⟨t,d,k,n,v,e,h,l⟩,j⟩=>⟨⟨t,d,k,n,v,e,s _ _ h,l⟩,j.mono s⟩
def AX (T:ZF) (H:Hp):Prop:=H T=ZC (.tbl #[])/\∀ b,b≠T->H b=ZD\/∃ o xs,H b=ZC (.frz o (.lst xs))
def U7 {P} {w} {K} {mg mb:ZM->Option ZE} {CX} {k:Nat} {fa a c T} {fd} {x} {sp} {s₁} {vs} {ns:List Int}
  (KX:K.In s₁.heap) (ab:s₁.heap.Ns zCJ mg) (g:s₁.heap.Ns iT mb) (aj:∀ x:ZM,x ≠ "__name__"->mb x=zCI x) (ad:s₁.heap.NoLimit) (hg:s₁.gens = #[])
  (Z:s₁.heap.get? a=ZC { cls:=.type "list",data:=.seq vs.toArray }) (hi:cC vs ns) (hl:ns.length<=sizeLine) (hr:XE k jG) (hT:s₁.heap.get? T=ZC (tabObj #[])) (hKT:K.lookup T=ZD) (hcT:codeHdIn K c T=ZI) (bi:BI mg s₁.heap)
  (F:∀ base:aB,K.In base->base.Ns zCJ mg->BI mg base->XB P w K mg base CX k fa fd [x] sp) (hbind:∀ (s:ZG) (u:ZE),lK s fd ⟨[u],[]⟩ [(x,u)])
  (hsp:∀ H:Hp,AX T H->Dp K H a (ns.map V.int)->sp [.ref a] H (λv _=>v=.bl ZI) λ_ _ _=>False)
  (hCX:∀ H e s',CX [] H s₁ (λ_ _ _=>False) e s'->False) :
  dD (ZS P w) jG (.call (.ref fa) ⟨[.ref a],[]⟩) (λr s'=>r=.ok (.ret (.bool ZI))/\OldK s₁.heap s'.heap/\s'.os=s₁.os/\gI s'.gens) s₁:=by
 let rv:=Uh hi;let ae:=hi.length;let ag:a≠T:=λz=>by rw[z,hT] at Z;cases Z
 let U:∀ H:Hp,AX T H->Dp K H a (ns.map V.int)->XZ P w H s₁.heap->(∀ b,H b≠ZD->b=a\/b=T)->(H a≠ZD->K.lookup a=ZD) ->
   dD (ZS P w) jG (.call (.ref fa) ⟨[.ref a],[]⟩) (λr s'=>r=.ok (.ret (.bool ZI))/\OldK s₁.heap s'.heap/\s'.os=s₁.os/\gI s'.gens) s₁:=by
  intro H hO hS ai hA hK;let j:∀ {b:ZF} {o:cP},s₁.heap.get? b=ZC o->H b=ZD->(Sz s₁.heap H).get? b=ZC o:=λe n=>DI e n;let aa:∀ {b:ZF} {o:cP},s₁.heap.get? b=ZC o->(∀ xs n,o.data≠.seq xs n)->(∀ xs,o.data≠.fields xs)->H b=ZD:=λ{b o} e d1 d2=>by
   cases q:H b with
   |none=>rfl
   |some u=>
    rcases hA b (by rw[q];simp) with Y|Y
    .subst Y
     rw[Z] at e;cases e;exact ZR rfl (d1 _ _)
    .subst Y
     rw[hT] at e;cases e;exact ZR rfl (d2 _)
  let L:∀ {b:ZF} {m:ZM->Option ZE},s₁.heap.Ns b m->(Sz s₁.heap H).Ns b m:=λ{b m} ⟨o,es,ep,e,d,r⟩=>⟨o,es,ep,j e (aa e (λ_ _ z=>by rw[d] at z;cases z) (λ_ z=>by rw[d] at z;cases z)),d,r⟩;let ah:K.In (Sz s₁.heap H):=λb o e=>j (KX b o e) (by
   cases q:H b with
   |none=>rfl
   |some u=>
    rcases hA b (by rw[q];simp) with Y|Y
    .subst Y
     rw[hK (by rw[q];simp)] at e;cases e
    .subst Y
     rw[hKT] at e;cases e)
  let hM:Mod K mg (Sz s₁.heap H):=⟨ah,L ab,⟨mb,L g,aj⟩,let ⟨mc,h1,h2⟩:=ad;⟨mc,L h1,h2⟩⟩;let al:BI mg (Sz s₁.heap H):=by
   obtain⟨bm,ob,b1,b2,b3,b4,b5,b6⟩:=bi;exact⟨bm,ob,b1,b2,j b3 (aa b3 (λ_ _ z=>by rw[b6] at z;cases z) (λ_ z=>by rw[b6] at z;cases z)),b4,b5,b6⟩
  let e0:YS P w K mg (Sz s₁.heap H) jG [] s₁ H:=⟨rfl,hM,λb o e=>FE e,lZ (U8 _ _),trivial,λb g=>ZR (show b∈([]:List ZF) from g) (by simp),ai,.of_eq hg⟩;refine dM ((F _ ah (L ab) al).run jG [] s₁ H ⟨[.ref a],[]⟩ [.ref a] [.ref a] _ _ hr e0 (hbind s₁ (.ref a)) (.cons rfl .nil) (hsp H hO hS)) λr s' h=>?_;cases r with
  |error e=>exact (hCX H e s' h).elim
  |ok fl=>
   cases fl with
   |next=>exact aV h
   |brk=>exact aV h
   |cont=>exact aV h
   |ret u=>
    obtain⟨v,H',os,ac,un,S,r',q⟩:=h;let q':v=.bl ZI:=q;subst q';obtain rfl:u=jI ZI:=r';obtain⟨more,ak⟩:=un.tbls T _ hO.1;let af:s'.heap.get? T=ZC { cls:=.none,data:=.fields (#[]++more) }:=S T _ ak;let keep:∀ b o,b≠T->s₁.heap.get? b=ZC o->s'.heap.get? b=ZC o:=λb o nb e=>by
     cases q:H b with
     |none=>exact un.keep b o e q (by intro z;exact ZR (show b∈([]:List ZF) from z) (by simp)) (by simp)
     |some u=>
      rcases hO.2 b nb with z|⟨ob,xs,z⟩
      .rw[q] at z;cases z
      .have z2:=un.frzs b ob _ z
       obtain⟨e1,_⟩:=ai b _ z;obtain⟨e2,_⟩:=S b _ z2;rw[e] at e1;cases e1;exact e2
    let ct:isCodeTable s₁.heap T:=((codeHd_of_K KX hcT).tab hT).isCodeTable;refine⟨rfl,⟨λb o e=>?_,λb o e=>?_⟩,os,ac⟩
    .by_cases g:b=T
     .subst g
      rw[hT] at e;cases e;exact .inr (.inl ⟨ct,rfl,#[],more,rfl,af⟩)
     .exact .inl (keep b o g e)
    .by_cases g:b=T
     .subst g
      exact⟨_,af⟩
     .exact⟨o,keep b o g e⟩
 cases hk:K.lookup a with
 |some o=>
  let e:=KX a o hk;rw[Z] at e;cases e;refine U (λb=>if b=T then ZC (.tbl #[]) else ZD) ⟨ZJ rfl,λb g=>.inl (ZH g)⟩ (.inr ⟨_,vs.toArray,_,hk,rfl,rfl,rfl,by rw[zAi,ae];exact hl,by simpa using rv⟩) (λb u z=>?_) (λb z=>?_) λz=>ZR (ZH ag) z
  .by_cases g:b=T
   .have M:=(ZJ g).symm.trans z
    cases M
    subst g;exact hT
   .have M:=(ZH g).symm.trans z
    cases M
  .by_cases g:b=T
   .exact .inr g
   .exact ZR (ZH g) z
 |none=>
  refine U (λb=>if b=T then ZC (.tbl #[]) else if b=a then ZC (.frz { cls:=.type "list",data:=.seq vs.toArray } (.lst (ns.map V.int))) else ZD) ⟨ZJ rfl,λb g=>?_⟩ (.inl (.inr ⟨{ cls:=.type "list",data:=.seq vs.toArray },(ZH ag).trans (ZJ rfl)⟩)) (λb u z=>?_) (λb z=>?_) λ_=>hk
  .by_cases B:b=a
   .exact .inr ⟨_,_,(ZH g).trans (ZJ B)⟩
   .exact .inl ((ZH g).trans (ZH B))
  .by_cases g:b=T
   .have M:=(ZJ g).symm.trans z
    cases M
    subst g;exact hT
   .have z1:=(ZH g).symm.trans z
    by_cases B:b=a
    .have M:=(ZJ B).symm.trans z1
     cases M
     subst B;exact⟨Z,by rw[zAc];exact hl,vs,_,rv,Z⟩
    .have M:=(ZH B).symm.trans z1
     cases M
  .by_cases g:b=T
   .exact .inr g
   .by_cases B:b=a
    .exact .inl B
    .exact ZR ((ZH g).trans (ZH B)) z
def walk_ofT {l:iJ} {n k:Nat} {q:ZO} {z:List ZM} {XP:(ZM->Option ZE)->aB->Prop} {U:ZX->aB->Prop} {d:DefRec} {K:Params->zAa} {CX:ZX->EV} {sp:ZX->Sp} {x:ZM} {c T:ZF}
  (hn:l.most=ZC n) (Z:n<=sizeLine) (ae:d.params.defaults=[]) (hr:XE k jG)
  (hY:∀ (w:ZX) (h:aB),U w h->(K w.params).In h) (ad:∀ (w:ZX) (h:aB),U w h->h.get? T=ZC (tabObj #[])) (aa:∀ w:ZX,(K w.params).lookup T=ZD) (M:∀ w:ZX,codeHdIn (K w.params) c T=ZI)
  (F:∀ (w:ZX) (mg:ZM->Option ZE) (L:ZF) (h:aB),(K w.params).In h->h.Ns zCJ mg->mg d.name=ZC (.ref L) ->
   ∃ fd:eR,(∀ (s:ZG) (u:ZE),lK s fd ⟨[u],[]⟩ [(x,u)]) /\
    ∀ base:aB,(K w.params).In base->base.Ns zCJ mg->BI mg base->XB l.prog w (K w.params) mg base (CX w) k L fd [x] (sp w))
  (ac:∀ (w:ZX) (H:Hp) (a:ZF) (ns:List Int),ns.length<=n->AX T H->Dp (K w.params) H a (ns.map V.int)->sp w [.ref a] H (λv _=>v=.bl ZI) λ_ _ _=>False)
  (S:∀ (w:ZX) (H:Hp) (s:ZG) (e:ZE) (s':ZG),CX w [] H s (λ_ _ _=>False) e s'->False) :
  PySem.W.WalkO q z XP U l.row.toRowW d [] (λf vs=>mT f vs):=by
 refine Att.attach_call hn ae λw s₀ s₁ mg mb L o pm cd ag a vs ns G Y ho hd af ab B j g hg=>?_;let KX:=hY w _ Y;obtain⟨fd,hb,hF⟩:=F w mg L _ KX G.T.g ab;exact U7 KX G.T.g G.T.b G.T.builtins G.T.nolimit hg B j (zAD g Z) hr (ad w _ Y) (aa w) (M w) G.T.bmain hF hb (λH hO hS=>ac w H a ns g hO hS) λH e s'=>S w H s₁ e s'
def XS.okC {P} {w} {K} {mg:ZM->Option ZE} {base} {x qual} {st} {f c} {fd} {N ps} {k:Nat} {sp} (F:XS K x qual st f fd) (M:fd.code=.ref c) (S:By N ps (Aq st)) (len:∀ vs H Q E,sp vs H Q E->vs.length=ps.length)
  (g:∀ (A:aE) (outer:List kF) (s:ZG) (H:Hp) (vs:List V) (Q:VK) (E:XK),XE k (A.deeper (dO qual (Aq st) ⇑s f (.ref c)))->sp vs H Q E ->
   ∃ t,PSs (Kq Ew P w K mg base N qual (Aq st) f (.ref c) A outer s H E).nox (Bp st) t/\t { nx:=λ_ H'=>Q .non H',rt:=Q } (Fi N vs) H):XB P w K mg base Ew (k+1) f fd ps sp:=by
 obtain⟨Z,od,kV,B,Y,an,cdv,ct,L,rfl,U,z⟩:=F.ex;obtain rfl:cdv=.ref c:=M;refine BS U z S len λA outer s H vs Q E hr j=>?_;obtain⟨t,h,q⟩:=g A outer s H vs Q E hr j;exact⟨t,h.nox,q⟩
def Uq {X:Cx} {k:Nat} {x:ZM} {C:ZF} {ps:List ZM} {sp:Sp} {p pos:Pos} (M:U5 X.prog X.w X.K X.mg X.base k x C ps sp) (hr:XE (k+1) X.A) (j:Gl X x) (g:(x==("__debug__" : ZM))=ZK:=by lk) :
  PE X (.Call (.Name x p) [] [] pos) (O8 C sp [] E0 BJ):=by
 obtain⟨f,fd,mk,F,b,q⟩:=M.ex;exact DE mk F hr j q b .nil Tt g
def QF {X:Cx} {qual:ZM} {j:Nat} (S:By ["entry"] ["entry"] scope)
  (bd:∀ (z:ZE) (q:ZF) (g u:ZE),hG (kla_fn "<lambda>" qual params (.Subscript (.Name "entry" p1) (.Slice ZD (ZC (.Constant (.int 3) j p2)) ZD p3) p4) scope [] z (.ref q) g) ⟨[u],[]⟩=pure [(("entry" : ZM),u)]) :
  MR X qual params (.Subscript (.Name "entry" p1) (.Slice ZD (ZC (.Constant (.int 3) j p2)) ZD p3) p4) scope:=by
 refine⟨S,bd,λA outer s H f q=>Cu DX (pv 0 rfl ?_) Fc (Ci Af)⟩;rcases S.par "entry" (by simp) with h|h
 .exact .inl h
 .exact .inr (.inl h)
end L2
namespace CRL
open PySem L2
def Z7 (H H':Hp):Prop:=∀ t xs,H t=ZC (.tup xs)->H' t=ZC (.tup xs)
def An {H H':Hp} (s:Dg H H'):Z7 H H':=λt xs h=>s t _ h
def Cd {l:ZF} {xs:List V} (h:H l=ZC (.lst xs)) (o:HO):Z7 H (upd H l o):=λt zs z=>by
 rw[Ag (At z h (by intro e;cases e))];exact z
inductive Rw where
 |at (v:V)
 |pr (k:Int) (s:ZM)
def TR (H:Hp):Rw->V->Prop
 |.at u,v=>v=u/\Eo u=ZI
 |.pr k s,v=>∃ t,v=.ref t/\H t=ZC (.tup [.int k,.str s])
abbrev VU:=Int×Int×Int×Rw
abbrev Tr:=Int×Int×Int
def UP (H:Hp) (x:V) (e:VU):Prop:=∃ t v,x=.ref t/\H t=ZC (.tup [.int e.1,.int e.2.1,.int e.2.2.1,v])/\TR H e.2.2.2 v
def WM (H:Hp):List V->List VU->Prop
 |[],[]=>True
 |x::xs,e::es=>UP H x e/\WM H xs es
 |_,_=>False
def QP {n:Nat} {p:Array Nat} (h:CRS.Pm n p):∀ i∈p.toList,i<n:=λi hi=>by
 let:=(zBC.mp h).mem_iff.mp hi
 simpa using this
def YO (H:Hp):List V->List Tr->Prop
 |[],[]=>True
 |x::xs,p::ps=>(∃ t,x=.ref t/\H t=ZC (.tup [.int p.1,.int p.2.1,.int p.2.2]))/\YO H xs ps
 |_,_=>False
theorem YO.len:∀ {xs} {ps},YO H xs ps->xs.length=ps.length
 |[],[],_=>rfl
 |[],_::_,h=>h.elim
 |_::_,[],h=>h.elim
 |x::xs,p::ps,h=>by rw[zAf,zAf,YO.len h.2]
theorem YO.mono {H H':Hp} (s:Z7 H H'):∀ {xs} {ps},YO H xs ps->YO H' xs ps
 |[],[],_=>trivial
 |[],_::_,h=>h.elim
 |_::_,[],h=>h.elim
 |x::xs,p::ps,⟨⟨t,e,h⟩,r⟩=>⟨⟨t,e,s _ _ h⟩,YO.mono s r⟩
theorem YO.get:∀ {xs} {ps} {i:Nat} {x},YO H xs ps->xs[i]?=ZC x->∃ t p,ps[i]?=ZC p/\x=.ref t/\H t=ZC (.tup [.int p.1,.int p.2.1,.int p.2.2])
 |[],[],_,_,_,e=>by simp at e
 |[],_::_,_,_,h,_=>h.elim
 |_::_,[],_,_,h,_=>h.elim
 |x::xs,p::ps,0,y,⟨⟨t,e,h⟩,r⟩,q=>by
  simp at q;subst q;exact⟨t,p,rfl,e,h⟩
 |x::xs,p::ps,i+1,y,⟨_,r⟩,q=>by
  obtain⟨t,j,h1,g⟩:=YO.get (i:=i) r (by simpa using q);exact⟨t,j,by simpa using h1,g⟩
theorem YO.snoc:∀ {xs} {ps} {t} {a b c:Int},YO H xs ps->H t=ZC (.tup [.int a,.int b,.int c])->YO H (xs++[.ref t]) (ps++[(a,b,c)])
 |[],[],t,_,_,_,_,h=>⟨⟨t,rfl,h⟩,trivial⟩
 |[],_::_,_,_,_,_,r,_=>r.elim
 |_::_,[],_,_,_,_,r,_=>r.elim
 |x::xs,p::ps,_,_,_,_,⟨z,r⟩,h=>⟨z,YO.snoc r h⟩
abbrev Gp:ZM:="Days.up_to.<locals>.<lambda>"
def _root_.L2.LamAt.mono {T:ZF} {qual:ZM} {H H':Hp} (h:LamAt T pos qual H) (s:∀ b o,H b=ZC o->(∃ ps,o=.tbl ps)\/(∃ φ,o=.ext φ)->H' b=ZC o):LamAt T pos qual H':=by
 rcases h with h|⟨c,h,g⟩
 .exact .inl (s _ _ h (.inl ⟨_,rfl⟩))
 .exact .inr ⟨c,s _ _ h (.inl ⟨_,rfl⟩),s _ _ g (.inr ⟨_,rfl⟩)⟩
def _root_.L2.LamAt.same {T:ZF} {qual:ZM} {H H':Hp} (h:LamAt T pos qual H) (s:Dg H H'):LamAt T pos qual H':=h.mono λb o e _=>s b o e
def _root_.L2.LamAt.ins {T l C dx:ZF} {qual:ZM} {fs:List (ZM×V)} (h:LamAt T pos qual H) (e:H l=ZC (.ins C dx fs)) (o:HO):LamAt T pos qual (upd H l o):=h.mono λb u z k=>by
 rw[Ag (λy=>by rw[y,e] at z;cases z;rcases k with ⟨_,k⟩|⟨_,k⟩ <;> cases k)];exact z
def Dy (C:ZF) (H:Hp) (x wl nl:ZF):Prop:=∃ dx,H x=ZC (.ins C dx [("waiting",.ref wl),("numbers",.ref nl)])
def NA {l n:ZF} {xs:List V} {kvs:List (Ev×V)} (h:H n=ZC (.dK kvs)) (e:H l=ZC (.lst xs)) (o:HO):upd H l o n=ZC (.dK kvs):=by
 rw[Ag (At h e (by intro y;cases y))];exact h
end CRL
namespace CST
open PySem
abbrev Rs (xs:Array Nat):Prop:=xs.toList.Pairwise (· < ·)
def L3 {xs:Array Nat} (h:Rs xs) {i k:Nat} (g:i<k) (j:k<xs.size):xs[i]'(by lia)<xs[k]:=by
 let:=zAH.mp h i k (by simpa using (by lia:i<xs.size)) (by simpa using j) g
 simpa using this
structure VZ (xs:Array Nat) (j p:Nat):Prop where
 le:p<=xs.size
 lo:∀ i (h:i<xs.size),i<p->xs[i]<j
 hi:∀ i (h:i<xs.size),p<=i->j<=xs[i]
theorem Rz {xs:Array Nat} {j:Nat} (r:Rs xs):∀ (f lo hi:Nat),hi-lo<=f->lo<=hi->hi<=xs.size->(∀ i (h:i<xs.size),i<lo->xs[i]<j)->(∀ i (h:i<xs.size),hi<=i->j<=xs[i])->VZ xs j (eZ xs j f lo hi)
 |0,lo,hi,F,h1,g,a,b=>by
  let e:lo=hi:=by omega
  subst e;unfold eZ;exact⟨g,a,b⟩
 |f+1,lo,hi,F,h1,g,a,b=>by
  unfold eZ;by_cases c:lo<hi
  .rw[ZJ c]
   let B:(lo+hi)/2<xs.size:=by omega
   let e:xs.getD ((lo+hi)/2) j=xs[(lo+hi)/2]:=by simp [zBP,B]
   dsimp only
   rw[e];by_cases d:xs[(lo+hi)/2]<j
   .rw[ZJ d]
    refine Rz r f _ hi (by omega) (by omega) g (λi h z=>?_) b;by_cases q:i=(lo+hi)/2
    .subst q;exact d
    .exact lY (L3 r (by omega) B) d
   .rw[ZH d]
    refine Rz r f lo _ (by omega) (by omega) (by omega) a (λi h z=>?_);by_cases q:i=(lo+hi)/2
    .subst q;omega
    .have:=L3 r (i:=(lo+hi)/2) (k:=i) (by omega) h
     omega
  .rw[ZH c]
   let e:lo=hi:=by omega
   subst e;exact⟨g,a,b⟩
def Qs {xs:Array Nat} {j:Nat} (r:Rs xs):VZ xs j (aG xs j):=by
 unfold aG;exact Rz r _ _ _ (by lia) (zAw _) (zAl _) (λi _ h=>ZR h (zBA _)) (λi h h'=>ZR h' (by lia))
structure Ka (by_:Bool) (t:bN):Prop where
 rs:Rs t.place
 dm:t.dummies = #[]
 ld:by_=ZK->t.led=ZI
def G8 (b:Bool):Ka b (.fresh 0 0 (!b)):=⟨jU,rfl,λh=>by rw[h];rfl⟩
def Fu {b:Bool} {t:bN} (g:Ka b t) (n:Nat):Ka b (t.standIn n):=by
 refine⟨?_,rfl,g.ld⟩;show (Array.range n).toList.Pairwise (· < ·);rw[Array.toList_range];exact List.pairwise_lt_range
def B9 {b:Bool} {t:bN} (g:Ka b t) (p:Bool):Ka b { t with plain:=p }:=⟨g.rs,g.dm,g.ld⟩
def Zt (j:Nat):jP #[] j=ZK:=by
 unfold jP;let:(#[]:Array Nat)[aG #[] j]?=ZD:=by simp
 rw[this];rfl
def F6 {t:bN} {j:Nat} (g:t.dummies = #[]):t.slot j=.empty\/∃ i,t.slot j=.live i:=by
 unfold SetTable.slot
 dsimp only
 by_cases c:(t.place[aG t.place j]?==ZC j)=ZI
 .rw[ZJ c];exact .inr ⟨_,rfl⟩
 .rw[ZH c,g,Zt]
  exact .inl rfl
def G5 {t:bN} {j:Nat} (r:Rs t.place) (h:t.slot j=.empty):∀ i (hi:i<t.place.size),t.place[i]≠j:=λi hi e=>by
 let b:=Qs (j:=j) r;let B:aG t.place j<=i:=by
  rcases fF i (aG t.place j) with z|z
  .have:=b.lo i hi z;lia
  .exact z
 let g:aG t.place j<t.place.size:=by lia
 let q:t.place[aG t.place j]=j:=by
  let h1:=b.hi _ g (zAl _);rcases Nat.lt_or_eq_of_le B with z|z
  .have:=L3 r z hi;lia
  .have:t.place[aG t.place j]=t.place[i]:=by congr 1
   lia
 unfold SetTable.slot at h
 dsimp only at h
 let c:(t.place[aG t.place j]?==ZC j)=ZI:=by
  rw[zBc g,q];simp
 rw[ZJ c] at h;cases h
theorem Xw {t:bN} {F:Nat->Int} {h:Int} (B:t.dummies = #[]):∀ (f:Nat) (p:SetTable.Probe) (j:Nat) (d:Option Nat),p.dummy=ZD->eY t F h f p=ZC (.empty j d)->d=ZD/\t.slot j=.empty
 |0,p,j,d,_,e=>by unfold eY at e;cases e
 |f+1,p,j,d,g,e=>by
  unfold eY at e;let q:(t.advance p).dummy=ZD:=by
   unfold SetTable.advance
   split
   .exact g
   .exact g
  rcases F6 (t:=t) (j:=p.j) B with z|⟨i,z⟩
  .rw[z] at e
   dsimp only at e
   injection e with e;injection e with M L;subst M;exact⟨L▸g,z⟩
  .rw[z] at e
   dsimp only at e
   split at e
   .injection e with e;cases e
   .exact Xw B f _ j d q e
def LU {t:bN} {j:Nat} (r:Rs t.place) (h:∀ i (hi:i<t.place.size),t.place[i]≠j):Rs (t.put j).1.place:=by
 let b:=Qs (j:=j) r;show (SetTable.insertAt t.place (aG t.place j) j).toList.Pairwise (· < ·);rw[SetTable.toList_insertAt];let M:∀ x∈t.place.toList.take (aG t.place j),x<j:=λx B=>by
  obtain⟨i,hi,q⟩:=zAG B;rw[List.getElem_take] at q;let g:i<aG t.place j/\i<t.place.size:=by
   rw[zAn,zAE] at hi;lia
  let:=b.lo i g.2 g.1;rw[<- q]
  simpa using this
 let L:∀ x∈t.place.toList.drop (aG t.place j),j<x:=λx B=>by
  obtain⟨i,hi,q⟩:=zAG B;rw[List.getElem_drop] at q;let g:aG t.place j+i<t.place.size:=by
   rw[zBa,zAE] at hi;lia
  let h1:=b.hi _ g (Nat.le_add_right _ _);let Y:=h _ g;rw[<- q];let:j<t.place[aG t.place j+i]:=by lia
  simpa using this
 refine zBQ.mpr ⟨r.sublist (zCf _ _),zAJ.mpr ⟨L,r.sublist (oG _ _)⟩,λa F U S=>?_⟩;rcases zAj.mp S with z|z
 .rw[z];exact M a F
 .exact lY (M a F) (L U z)
def Yr {b:Bool} {t:bN} {j:Nat} (g:Ka b t) (h:t.slot j=.empty):Ka b (t.put j).1:=by
 refine⟨LU g.rs (G5 g.rs h),?_,g.ld⟩;show (if jP t.dummies j then _ else t.dummies) = #[];rw[g.dm,Zt];rfl
set_option tactic.hygienic true in
def Zg {b:Bool} {t:bN} (g:Ka b t) (es:Array (Int×ZE)) (h:Int) (x:ZE):Ka b (layNew t es h x).2.1/\(layNew t es h x).2.2.1=ZK:=by
 unfold layNew;cases e:t.freeSlot h with
 |none=>exact⟨Fu g _,rfl⟩
 |some p=>
  obtain⟨sl,M⟩:=p;unfold SetTable.freeSlot at e
  split at e
  .rename_i j d hp
   injection e with e;injection e with F B;obtain⟨L,z⟩:=Xw g.dm _ _ j d rfl hp;subst L
   dsimp only at F B ⊢
   let q:j=sl:=F;subst q;refine⟨?_,B.symm⟩;unfold SetTable.orStandIn
   split
   .exact Yr g z
   .exact Fu (Yr g z) _
  .cases e
theorem Qa (o:Nat->Option Nat):∀ l:List Nat,((l.filterMap λj=>(o j).map (j,·)).map (·.1)).Sublist l
 |[]=>List.Sublist.slnil
 |j::l=>by
  rw[zCt];cases e:o j with
  |none=>exact (Qa o l).cons j
  |some k=>exact (Qa o l).cons₂ j
def So {b:Bool} {t:bN} (g:Ka b t) (es:Array (Int×ZE)) (j:Nat):Ka b (jB t es j).2.1:=by
 unfold jB;cases e:t.relaid (es.map (·.1)) j with
 |none=>exact Fu g _
 |some p=>
  obtain⟨M,z⟩:=p
  dsimp only
  split
  .unfold SetTable.relaid SetTable.laid at e
   cases B:SetTable.layClean (SetTable.sizeAbove j-1) (es.map (·.1)) with
   |none=>rw[B] at e;cases e
   |some q=>
    rw[B] at e;let F:=aH e;injection F with L _;subst L;refine⟨?_,rfl,g.ld⟩;show (List.toArray _).toList.Pairwise (· < ·);rw[gN];exact List.pairwise_lt_range.sublist (Qa _ _)
  .exact Fu g _
section
variable {prog:ZO} {w:ZX} {K:Type} [DecidableEq K] (knd:KeyKind prog w K)
def JL (e:Int×ZE) (k:K):Prop:=knd.is k e.2=ZI/\e.1=knd.hash k/\e.2.scannable=ZI
def XY (h:aB) (a:ZF) (ks:List K):Prop:=∃ o es ep t,h.get? a=ZC o/\o.ExactSet/\o.data=.set es ep t/\cZ (JL knd) es.toList ks/\ks.Nodup/\es.size<cU/\t.fits es.size=ZI/\Ka (w.params.followText "set-order") t
variable {knd}
def On {α β:Type} {F:α->β->Prop}:∀ {l j:List α} {ks},j.Perm l->cZ F l ks->∃ ks',ks'.Perm ks/\cZ F j ks':=by
 intro l j ks p;let q:=p.symm;clear p
 induction q generalizing ks with
 |nil=>intro h;exact⟨ks,cV _,h⟩
 |cons x _ ih=>
  intro h;cases h with
  |cons r t=>
   obtain⟨ks',Y,h'⟩:=ih t;exact⟨_,Y.cons _,.cons r h'⟩
 |swap x y l=>
  intro h;cases h with
  |cons r t=>
   cases t with
   |cons L B=>exact⟨_,iM _ _ _,.cons L (.cons r B)⟩
 |trans _ _ z g=>
  intro h;obtain⟨Z,M,h1⟩:=z h;obtain⟨U,p2,S⟩:=g h1;exact⟨U,p2.trans M,S⟩
theorem Ol {α β:Type} {F:α->β->Prop} {a:α} {b:β} (r:F a b):∀ {l:List α} {ks},cZ F l ks->cZ F (l++[a]) (ks++[b])
 |_,_,.nil=>.cons r .nil
 |_,_,.cons q t=>.cons q (Ol r t)
theorem Kn {α β:Type} {F:α->β->Prop}:∀ {l:List α} {ks},cZ F l ks->∀ a∈l,∃ b∈ks,F a b
 |_,_,.nil,_,h=>nomatch h
 |_,_,.cons q t,a,h=>by
  rcases zAj.mp h with z|z
  .subst z;exact⟨_,zAd,q⟩
  .obtain⟨b,g,r⟩:=Kn t a z
   exact⟨b,zAb _ g,r⟩
theorem Om {α β:Type} {F:α->β->Prop}:∀ {l:List α} {ks},cZ F l ks->∀ b∈ks,∃ a∈l,F a b
 |_,_,.nil,_,h=>nomatch h
 |_,_,.cons q t,a,h=>by
  rcases zAj.mp h with z|z
  .subst z;exact⟨_,zAd,q⟩
  .obtain⟨b,g,r⟩:=Om t a z
   exact⟨b,zAb _ g,r⟩
def OZ {l:List (Int×ZE)} {ks:List K} (h:cZ (JL knd) l ks):ElemsOf knd l:=λe j=>by
 obtain⟨k,_,z,g,q⟩:=Kn h e j;exact⟨⟨k,z,g⟩,q⟩
def Zh {l:List (Int×ZE)} {ks:List K} {k:K} (h:cZ (JL knd) l ks):(l.findIdx? λe=>knd.is k e.2)=ZD↔k∉ks:=by
 rw[List.findIdx?_eq_none_iff];constructor
 .intro z q
  obtain⟨e,g,r⟩:=Om h k q;let:=z e g;rw[r.1] at this;cases this
 .intro z e g
  obtain⟨B,j,r⟩:=Kn h e g;cases c:knd.is k e.2 with
  |false=>rfl
  |true=>exact ZR (knd.inj _ _ _ c r.1▸j) z
def stored {h:aB} {a:ZF} {o:cP} {es j:Array (Int×ZE)} {ep:Nat} {t t':bN} {ks:List K} (Y:h.get? a=ZC o) (z:o.ExactSet) (F:o.data=.set es ep t) (M:cZ (JL knd) j.toList ks) (S:ks.Nodup) (U:j.size<cU) (L:t'.fits j.size=ZI)
  (g:Ka (w.params.followText "set-order") t'):(h.update a (hV j t')).get? a=ZC { o with data:=.set j (ep+1) t' }/\XY knd (h.update a (hV j t')) a ks:=by
 let B:(h.update a (hV j t')).get? a=ZC { o with data:=.set j (ep+1) t' }:=by
  let q:=zCl (hV j t') Y (by rw[putSet_of j t' F];rfl)
  rwa [putSet_of j t' F] at q
 exact⟨B,_,j,ep+1,t',B,z,rfl,M,S,U,L,g⟩
def Yq {a:ZF} {o:cP} {es j:Array (Int×ZE)} {ep:Nat} {t q:bN} {ks1:List K} (ho:s.heap.get? a=ZC o) (B:o.ExactSet) (hd:o.data=.set es ep t) (hp:cZ (JL knd) j.toList ks1) (nd:ks1.Nodup) (L:j.size<cU) (hf:q.fits j.size=ZI)
  (g:Ka (w.params.followText "set-order") q) {wd:Bool} {gw:Bool->mS Unit} (Z:∀ (b:Bool) (s₁:ZG) (Q':Unit->ZG->Prop),Q' () s₁->ZP (ZS prog w) A (gw b) Q' E s₁) {R:Option Bool->ZG->Prop}
  (h:∀ h' z,zBr a s.heap h'->XY knd h' a z->z.Perm ks1->R (ZC ZI) { s with heap:=h' }) :
  ZP (ZS prog w) A (do
   storeSet a j q
   if (!wd&&q.tooFull)=ZI then do
    gw (jB q j (cH j.size)).2.2
    storeSet a (jB q j (cH j.size)).1 (jB q j (cH j.size)).2.1
    pure (ZC ZI)
   else pure (ZC ZI)) R E s:=by
 obtain⟨F,G1⟩:=stored (knd:=knd) ho B hd hp nd L hf g;let sb:=zBr.update s.heap a (hV j q);refine zCF (wpAny_storeSet_of ho hd ?_ (fits_of_scanBound L));by_cases c:(!wd&&q.tooFull)=ZI
 .rw[ZJ c]
  let p2:=relayAll_perm q j (cH j.size);let f2:=relayAll_fits q j (cH j.size);let S:=So g j (cH j.size);generalize jB q j (cH j.size)=Y at p2 f2 S;obtain⟨U,t3,gv⟩:=Y
  dsimp only at p2 f2 S
  let z2:U.size=j.size:=by rw[<- zAE,p2.length_eq,zAE]
  obtain⟨aa,q2,M⟩:=On p2 hp;refine zCF (Z _ _ _ (zCF (wpAny_storeSet_of F rfl ?_ (fits_of_scanBound (by rw[z2];exact L)))));obtain⟨_,G2⟩:=stored (knd:=knd) F B rfl M (q2.nodup_iff.mpr nd) (by rw[z2];exact L) f2 S;exact zCG (h _ aa (sb.trans (zBr.update _ a _)) G2 q2)
 .rw[ZH c]
  exact zCG (h _ ks1 sb G1 (cV _))
def SK {a:ZF} {ks:List K} {k:K} {x:ZE} {Q:Bool->ZG->Prop} (B:knd.is k x=ZI) (F:x.scannable=ZI) (hS:XY knd s.heap a ks) (L:ks.length+1<cU)
  (h:∀ b h' q,zBr a s.heap h'->XY knd h' a q->q.Perm (if k∈ks then ks else ks++[k])->Q b { s with heap:=h' }) :
  ZP (ZS prog w) A (setAddHashed a x (knd.hash k)) Q E s:=by
 obtain⟨o,es,ep,t,ho,aa,hd,U,nd,hb,hf,g⟩:=id hS;let ae:=OZ U;let lk:es.size=ks.length:=by rw[<- zAE];exact dL U
 unfold setAddHashed setAddHashedIn;refine aW (zCF (bW ho hd hf ?_))
 dsimp only
 rw[byScan_of F hb ae];simp only [↓reduceIte];unfold setAddByScan;refine zCF (zCF (lL (zCF (wpAny_setScan_of B ho hd hf ae ?_))));cases hr:List.findIdx? (λe=>knd.is k e.2) es.toList with
 |some j=>
  let hk:k∈ks:=Classical.byContradiction λz=>by rw[(Zh U).mpr z] at hr;cases hr
  dsimp only
  refine zCG (zCG ?_);let e:s={ s with heap:=s.heap }:=by cases s;rfl
  rw[e];exact h ZK s.heap ks (zBr.refl a s.heap) hS (by rw[ZJ hk])
 |none=>
  let hk:k∉ks:=(Zh U).mp hr
  dsimp only
  let Z:=layNew_perm t es (knd.hash k) x;let f1:=layNew_fits t es (knd.hash k) x;let g1:=(Zg g es (knd.hash k) x).1;generalize layNew t es (knd.hash k) x=Y at Z f1 g1 ⊢;obtain⟨af,t1,wd,gv⟩:=Y
  dsimp only at Z f1 g1 ⊢
  rw[nN] at Z;obtain⟨ks1,q1,ad⟩:=On Z (Ol (show JL knd (knd.hash k,x) k from ⟨B,rfl,F⟩) U);let ab:ks1.Nodup:=q1.nodup_iff.mpr (zCz.mpr ⟨nd,by simp,λa ha b ac=>by rw[zAh] at ac;subst ac;rintro rfl;exact hk ha⟩);let b1:af.size<cU:=by rw[<- zAE,Z.length_eq,zAm,zAE,lk];exact L
  let S:∀ h' q,zBr a s.heap h'->XY knd h' a q->q.Perm ks1->Q ZI { s with heap:=h' }:=λh' q M G p=>h ZI h' q M G (by rw[ZH hk];exact p.trans q1);let gw:∀ (b:Bool) (s₁:ZG) (Q':Unit->ZG->Prop),Q' () s₁->ZP (ZS prog w) A (match b with|true=>rule "set.scan.the-table-gave-way" |false=>pure ()) Q' E s₁ :=
   λb s₁ Q' hq=>by cases b <;> first|exact zCG hq|exact lL hq
  refine zCF (gw _ _ _ ?_)
  split
  .refine zCF ?_
   rw[hashByValue_scannable 8 F];refine zCG ?_;refine Yq (ks1:=ks1) (knd:=knd) ho aa hd ad ab b1 ?_ ?_ gw λh' q M G p=>?_
   .split
    .exact f1
    .exact SetTable.fits_plain_off f1
   .split
    .exact g1
    .exact B9 g1 _
   .exact zCG (S h' q M G p)
  .refine zCF (zCG ?_)
   simp only [↓reduceIte];exact Yq (ks1:=ks1) (knd:=knd) ho aa hd ad ab b1 f1 g1 gw λh' q M G p=>zCG (S h' q M G p)
end
def XH:Slot "set_iterator" "__next__" "set_iterator.__next__":=
 .of (owner:="set_iterator") (n:="__next__") (by rw[kR,gP];kernel_rfl) (by ac_nf) (by ac_nf) (by ac_nf) (by first|exact .inl (by ac_nf)|exact .inr (by ac_nf)) (by rw[hB];kernel_rfl)
def Jt:entryFor table "set_iterator.__next__"=ZC cW.«set_iterator.__next__» := entryFor_of_fast (by kernel_rfl)
def Lg (a:ZE):nZ "set_iterator.__next__" ⟨[a],[]⟩:=by unfold nZ;kernel_rfl
def A7:Slot "set_iterator" "__iter__" "set_iterator.__iter__":=
 .of (owner:="set_iterator") (n:="__iter__") (by rw[kR,gP];kernel_rfl) (by ac_nf) (by ac_nf) (by ac_nf) (by first|exact .inl (by ac_nf)|exact .inr (by ac_nf)) (by rw[hB];kernel_rfl)
def DG (a:ZE):nZ "set_iterator.__iter__" ⟨[a],[]⟩:=by unfold nZ;kernel_rfl
def U6:entryFor table "set_iterator.__iter__"=ZC cW.«dict_keyiterator.__iter__» :=
 entryFor_alias (id':="dict_keyiterator.__iter__") (by kernel_rfl) rfl (by ac_nf) (by kernel_rfl)
def DY:entryFor table "set.__iter__"=ZC cW.«frozenset.__iter__» :=
 entryFor_alias (id':="frozenset.__iter__") (by kernel_rfl) rfl (by ac_nf) (by kernel_rfl)
def C0 (h:aB) (I:ZF) (first:ZE) (i:Nat) (a:ZF) (n ep:Nat):Prop:=h.get? I=ZC { cls:=.type "set_iterator",dict:=ZD,data:=.fields #[first,aO i,.ref a,aO n,aO ep],slots := #[] }
section
variable {prog:ZO} {w:ZX} {A:aE} {E:ZE->ZG->Prop} {s:ZG} {I a:ZF} {i n ep slot nx:Nat} {x:ZE} {o:cP} {es:Array (Int×ZE)} {t:bN} {Q:Option ZE->ZG->Prop}
def Xn (g:C0 s.heap I (aO slot) i a n ep) (Y:s.heap.get? a=ZC o) (L:o.data=.set es ep t) (M:t.fits es.size=ZI) (hn:es.size=n)
  (U:∀ (F:aE) (z:Option (ZE×Nat)->ZG->Prop) (B:ZE->ZG->Prop),z (ZC (x,nx)) s->ZP (ZS prog w) F (lD a slot i ep) z B s)
  (h:∀ h',C0 h' I (aO nx) (i+1) a n ep->zBr I s.heap h'->Q (ZC x) { s with heap:=h' }):ZP (ZS prog w) A (eK (.ref I)) Q E s:=by
 let ty:s.TypeIs (.ref I) "set_iterator":=⟨_,g,rfl⟩;unfold eK;refine zCF (fC (cD (name:=aK "__next__") ty XH (aX XH ty Jt ?_ (Lg _))));unfold cW.«set_iterator.__next__»;refine zCF (m:=lR "__next__" 0 _) (zCG (zCF (gZ g rfl ?_)))
 dsimp only [aO]
 refine zCF (cY Y L M ?_);rw[hn];rw[ZH (by simp)];refine zCF (U _ _ _ ?_)
 dsimp only
 refine zCF (cI g (by simp) λh1 e1 q=>?_);refine zCF (cI e1 (by simp) λZ S j=>?_);refine zCG ⟨_,rfl,zCG (h Z ?_ (q.trans j))⟩;unfold C0;rw[S];simp [aO]
end
theorem Ks {α:Type}:∀ {l:List α} {i:Nat} (h:i<l.length),(l[i]::l.eraseIdx i).Perm l
 |[],_,h=>ZR h (zBA _)
 |x::l,0,_=>cV _
 |x::l,i+1,h=>(iM x _ _).trans ((Ks (l:=l) (i:=i) (by simpa using h)).cons x)
theorem M3 {α:Type} (f:Nat->Nat):∀ (m k:Nat) (l:List α) (out:Array α),l.length=m->(jC f m k l out).toList.Perm (out.toList++l)
 |0,k,l,out,h=>by
  let e:l=[]:=List.length_eq_zero_iff.mp h;subst e;unfold jC;rw[zAY]
 |m+1,k,l,out,h=>by
  let hl:f k%l.length<l.length:=Nat.mod_lt _ (by lia);unfold jC;rw[zAe hl]
  dsimp only
  refine (M3 f m (k+1) _ _ (by rw[mK,ZJ hl];lia)).trans ?_;rw[nN,zAZ];exact (Ks hl).append_left _
def XR {α:Type} (f:Nat->Nat) (xs:Array α):(eE f xs).toList.Perm xs.toList:=by
 unfold eE;exact (M3 f xs.size 0 xs.toList #[] zAE).trans (by simp)
def Hu (p:Array Nat) (i:Nat):Nat:=if i=0 then 0 else p.getD (i-1) 0+1
def Se {p:Array Nat} (r:Rs p) {i:Nat} (hi:i<=p.size):aG p (Hu p i)=i:=by
 let b:=Qs (j:=Hu p i) r;unfold Hu at b ⊢;by_cases c:i=0
 .rw[ZJ c] at b ⊢
  rw[c];rcases oC (aG p 0) with z|z
  .exact z
  .have B:0<p.size:=zAI z b.le
   exact ZR (b.lo 0 B z) (zBA _)
 .rw[ZH c] at b ⊢
  let q:i-1<p.size:=by lia
  let e:p.getD (i-1) 0=p[i-1]:=by simp [zBP,q]
  rw[e] at b ⊢;rcases zBy (aG p (p[i-1]+1)) i with z|z|z
  .have:=b.hi (i-1) q (by lia)
   lia
  .exact z
  .have g:i<p.size:=zAI z b.le
   let h1:=b.lo i g z;let F:=L3 r (i:=i-1) (k:=i) (by lia) g
   lia
def Pe {Q:Bool->ZG->Prop} (h:Q (w.params.followText "set-order") s):ZP (ZS prog w) A setsByText Q E s:=by
 unfold setsByText;exact zCF (jY (zCG h))
def Ui {slot i:Nat} {Q:Option (ZE×Nat)->ZG->Prop} (z:w.params.followText "set-order"=ZI) (q:s.heap.get? a=ZC o) (g:o.data=.set es ep t) (j:t.fits es.size=ZI)
  (h:Q (((eE (w.params.setOrder a ep) es)[i]?).map λe=>(e.2,slot)) s):ZP (ZS prog w) A (lD a slot i ep) Q E s:=by
 unfold lD;refine zCF (bW q g j ?_)
 dsimp only
 refine zCF (Pe ?_);rw[z,ZJ rfl,ZH (by simp)];refine zCF ?_;unfold setWalk;refine zCF (bW q g j ?_)
 dsimp only
 refine zCF (Pe ?_);rw[z,ZJ rfl];exact zCF (jY (zCG (zCG h)))
def Rm {slot i:Nat} {Q:Option (ZE×Nat)->ZG->Prop} (F:w.params.followText "set-order"=ZK) (B:s.heap.get? a=ZC o) (g:o.data=.set es ep t) (q:t.fits es.size=ZI) (hl:t.led=ZI) (z:(!t.plain&&decide (es.size>1))=ZK)
  (h:Q (match es[aG t.place slot]?,t.place[aG t.place slot]? with
   |some (_,x),ZC j=>ZC (x,j+1)
   | _,_=>ZD) s):ZP (ZS prog w) A (lD a slot i ep) Q E s:=by
 unfold lD;refine zCF (bW B g q ?_)
 dsimp only
 refine zCF (Pe ?_);rw[F,ZH zAt];show ZP _ _ (if (!t.plain&&decide (es.size>1))=ZI then _ else _) _ _ _;rw[z,ZH zAt];refine zCF ?_;show ZP _ _ (if (!t.led && !es.isEmpty)=ZI then unsupported "set:maker-not-led" else pure ()) _ _ _;rw[hl,ZH (by simp)];exact zCG (zCG h)
def E5 {place:Nat} {k:Int} {x:ZE} {Q:ZE->ZG->Prop} (q:s.heap.get? a=ZC o) (g:o.data=.set es ep t) (j:t.fits es.size=ZI) (z:es[place]?=ZC (k,x)) (h:Q x s):ZP (ZS prog w) A (setNextDrawn a place ep) Q E s:=by
 unfold setNextDrawn;refine zCF (bW q g j ?_)
 dsimp only
 rw[ZH (by simp),z];exact zCG h
def F7 {n:Nat} {Q:Nat->ZG->Prop} (g:n≠0) (h:∀ i,i<n->Q i { s with drawn:=s.drawn.bump src }):ZP (ZS prog w) A (choose src n) Q E s:=λ_ _ _=>by
 unfold choose;rw[Sem.wp_choose];exact⟨g,h _ (Nat.mod_lt _ (by lia))⟩
theorem Ql {α:Type}:∀ (n:Nat) (xs:List α) (s:ZG) (Q:List α->ZG->Prop),xs.length=n->(∀ ys d,ys.Perm xs->Q ys { s with drawn:=d })->ZP (ZS prog w) A (drawOrder n xs) Q E s
 |0,xs,s,Q,hl,h=>by
  let e:xs=[]:=List.length_eq_zero_iff.mp hl;subst e;unfold drawOrder;exact zCG (h [] s.drawn (cV _))
 |n+1,xs,s,Q,hl,h=>by
  cases xs with
  |nil=>simp at hl
  |cons x xs=>
   unfold drawOrder;refine zCF (F7 (by simp) λi hi=>?_);rw[zAe hi]
   dsimp only
   refine zCF (Ql n _ _ _ (by rw[mK,ZJ hi];lia) λys d p=>zCG ?_);exact h _ d ((p.cons _).trans (Ks hi))
section
variable {prog:ZO} {w:ZX} {A:aE} {E:ZE->ZG->Prop} {s:ZG} {I a T:ZF} {i n ep slot:Nat} {o:cP} {es:Array (Int×ZE)} {t:bN} {Q:Option ZE->ZG->Prop}
def DT {z:Nat} {pl:Nat} {tk:Tok} {k:Int} {x:ZE} (g:C0 s.heap I (.ref T) i a n ep) (hT:s.heap.get? T=ZC { cls:=.type "tuple",dict:=ZD,data:=.seq places z,slots := #[] }) (ho:s.heap.get? a=ZC o) (hd:o.data=.set es ep t) (hf:t.fits es.size=ZI) (hn:es.size=n)
  (hp:places[i]?=ZC (.int (pl:Int) tk)) (hx:es[pl]?=ZC (k,x))
  (h:∀ h',C0 h' I (.ref T) (i+1) a n ep->zBr I s.heap h'->Q (ZC x) { s with heap:=h' }):ZP (ZS prog w) A (eK (.ref I)) Q E s:=by
 let ty:s.TypeIs (.ref I) "set_iterator":=⟨_,g,rfl⟩;unfold eK;refine zCF (fC (cD (name:=aK "__next__") ty XH (aX XH ty Jt ?_ (Lg _))));unfold cW.«set_iterator.__next__»;refine zCF (m:=lR "__next__" 0 _) (zCG (zCF (gZ g rfl ?_)))
 dsimp only [aO]
 refine zCF (cY ho hd hf ?_);rw[hn,ZH (by simp)];refine zCF (wpAny_seqItems hT rfl ?_)
 dsimp only
 rw[show ((i:Int)).toNat=i from rfl,hp]
 dsimp only
 refine zCF (E5 ho hd hf (place:=pl) hx ?_);refine zCF (cI g (by simp) λh1 q j=>?_);refine zCG ⟨_,rfl,zCG (h h1 ?_ j)⟩;unfold C0;rw[q];simp [aO]
def Sb {α:Type} {Q:α->ZG->Prop} (g:A.handled=ZD) (h:∀ h' e,(∀ b o,s.heap.get? b=ZC o->h'.get? b=ZC o)->gF { s with heap:=h' } e "StopIteration"->E e { s with heap:=h' }):ZP (ZS prog w) A (newExc (.type "StopIteration") [] >>= raiseNew) Q E s:=by
 refine zCF ?_;simp only [newExc,newTuple];refine zCF (bB ?_ (by size_fits));refine zCF (m:=firstArgMember _ _) (wpAny_of_eq (a:=bD) (by first|rfl|(simp only [firstArgMember];rfl)) ?_);refine bB ?_ (by size_fits);refine wpAny_raiseNew_none g (h _ _ (λb j e=>zAg _ (zAg _ e)) ⟨_,zAF _ rfl,rfl⟩)
def P7 (L:A.handled=ZD) (g:C0 s.heap I (aO slot) i a n ep) (Z:s.heap.get? a=ZC o) (M:o.data=.set es ep t) (S:t.fits es.size=ZI) (hn:es.size=n)
  (Y:∀ (F:aE) (q:Option (ZE×Nat)->ZG->Prop) (B:ZE->ZG->Prop),q ZD s->ZP (ZS prog w) F (lD a slot i ep) q B s)
  (h:∀ h',mN I s.heap h'->Q ZD { s with heap:=h' }):ZP (ZS prog w) A (eK (.ref I)) Q E s:=by
 let ty:s.TypeIs (.ref I) "set_iterator":=⟨_,g,rfl⟩;unfold eK;refine zCF (fC (cD (name:=aK "__next__") ty XH (aX XH ty Jt ?_ (Lg _))));unfold cW.«set_iterator.__next__»;refine zCF (m:=lR "__next__" 0 _) (zCG (zCF (gZ g rfl ?_)))
 dsimp only [aO]
 refine zCF (cY Z M S ?_);rw[hn,ZH (by simp)];refine zCF (Y _ _ _ ?_)
 dsimp only
 refine zCF (cI g (by simp) λh1 e1 j=>?_);refine Sb (s:={ s with heap:=h1 }) (by exact L) λh2 e k2 te=>?_
 dsimp only
 refine zCF (jX (T:="StopIteration") (b:=ZI) te isSubtype_stop ?_);exact zCG (h h2 (λb z U e'=>k2 b z ((j.2 b U).trans e')))
def GV {L:Nat} (F:A.handled=ZD) (g:C0 s.heap I (.ref T) i a n ep) (hT:s.heap.get? T=ZC { cls:=.type "tuple",dict:=ZD,data:=.seq places L,slots := #[] }) (ho:s.heap.get? a=ZC o) (hd:o.data=.set es ep t) (hf:t.fits es.size=ZI) (hn:es.size=n) (hp:places[i]?=ZD)
  (h:∀ h',mN I s.heap h'->Q ZD { s with heap:=h' }):ZP (ZS prog w) A (eK (.ref I)) Q E s:=by
 let ty:s.TypeIs (.ref I) "set_iterator":=⟨_,g,rfl⟩;unfold eK;refine zCF (fC (cD (name:=aK "__next__") ty XH (aX XH ty Jt ?_ (Lg _))));unfold cW.«set_iterator.__next__»;refine zCF (m:=lR "__next__" 0 _) (zCG (zCF (gZ g rfl ?_)))
 dsimp only [aO]
 refine zCF (cY ho hd hf ?_);rw[hn,ZH (by simp)];refine zCF (wpAny_seqItems hT rfl ?_)
 dsimp only
 rw[show ((i:Int)).toNat=i from rfl,hp]
 dsimp only
 refine zCF (cI g (by simp) λh1 Z j=>?_);refine zCF (cI Z (by simp) λU e2 q=>?_);refine Sb (s:={ s with heap:=U }) (by exact F) λS e M te=>?_
 dsimp only
 refine zCF (jX (T:="StopIteration") (b:=ZI) te isSubtype_stop ?_);exact zCG (h S (λb B z Y=>M b B ((q.2 b z).trans ((j.2 b z).trans Y))))
def Xc {first:ZE} {Q:ZE->ZG->Prop} (g:C0 s.heap I first i a n ep) (h:Q (.ref I) s):ZP (ZS prog w) A (nV (.ref I)) Q E s:=by
 let ty:s.TypeIs (.ref I) "set_iterator":=⟨_,g,rfl⟩;refine wpAny_pyIter_slot ty A7 (aX A7 ty U6 ?_ (DG _));unfold cW.«dict_keyiterator.__iter__»;exact zCF (m:=lR "__iter__" 0 _) (zCG (zCG ⟨_,rfl,"set_iterator",_,ty,XH.lookup,h⟩))
def Ya:Slot "set" "__iter__" "set.__iter__":=
 .of (owner:="set") (n:="__iter__") (by rw[kR,gP];kernel_rfl) (by ac_nf) (by ac_nf) (by ac_nf) (by first|exact .inl (by ac_nf)|exact .inr (by ac_nf)) (by rw[hB];kernel_rfl)
def Z5 (a:ZE):nZ "set.__iter__" ⟨[a],[]⟩:=by unfold nZ;kernel_rfl
def UE (w:ZX) (h0 h:aB) (I a:ZF) (es:Array (Int×ZE)) (ep:Nat) (t:bN):Prop:=
 (C0 h I (aO 0) 0 a es.size ep/\(w.params.followText "set-order"=ZI\/(w.params.followText "set-order"=ZK/\(!t.plain&&decide (es.size>1))=ZK))) \/
 ∃ T ps,C0 h I (.ref T) 0 a es.size ep/\h.get? T=ZC { cls:=.type "tuple",dict:=ZD,data:=.seq ((ps:List Nat).map λi:Nat=>aO i).toArray 0,slots := #[] }/\ps.Perm (zAS es.size)/\T≠I/\h0.get? T=ZD
def CY {Q:ZE->ZG->Prop} (hc:o.cls=.type "set") (B:s.heap.get? a=ZC o) (M:o.data=.set es ep t) (S:t.fits es.size=ZI) (hz:es.size<=sizeLine)
  (h:∀ h' d I,UE w s.heap h' I a es ep t->(∀ b g,s.heap.get? b=ZC g->h'.get? b=ZC g)->s.heap.get? I=ZD->Q (.ref I) { s with heap:=h',drawn:=d }):ZP (ZS prog w) A (nV (.ref a)) Q E s:=by
 let ty:s.TypeIs (.ref a) "set":=⟨_,B,hc⟩;refine wpAny_pyIter_slot ty Ya (aX Ya ty DY ?_ (Z5 _));unfold cW.«frozenset.__iter__»;refine zCF (m:=Builtin.Frozenset.slot0 "__iter__" _) (zCG ?_);refine zCF (zCF (cY B M S (zCG ?_)));refine zCF ?_;unfold setDrawn;refine zCF (bW B M S ?_)
 dsimp only
 refine zCF (Pe (zCG ?_));show ZP _ _ (if (!(w.params.followText "set-order")&&(!t.plain&&decide (es.size>1)))=ZI then _ else _) _ _ _;let last:∀ (first:ZE) (h1:aB) (q:Drawn),(∀ b g,s.heap.get? b=ZC g->h1.get? b=ZC g)->⇑s<=h1.objs.size->(∀ j,(∀ b g,h1.get? b=ZC g->j.get? b=ZC g)->C0 j h1.objs.size first 0 a es.size ep->UE w s.heap j h1.objs.size a es ep t) ->
   ZP (ZS prog w) A.in1 (do
    let x <- setEpoch a
    let y <- newFields "set_iterator" [first,aO 0,aI a,aO ↑es.size,aO ↑x]
    ret y) (λF s'=>∃ v,F=.done (.ret v)/\∃ Y r,s'.TypeIs v Y/\lO (aY Y) (aK "__next__")=pure (ZC r)/\Q v s') E { s with heap:=h1,drawn:=q }:=λfirst h1 q U le bg=>by
  refine zCF ?_;unfold setEpoch;refine zCF (bW (s:={ s with heap:=h1,drawn:=q }) (U _ _ B) M S (zCG ?_));refine zCF (bB (zCG ⟨_,rfl,"set_iterator",_,⟨_,zAF _ rfl,rfl⟩,XH.lookup,?_⟩));refine h _ q h1.objs.size (bg _ (λb g e=>zAg _ e) (zAF _ rfl)) (λb g e=>zAg _ (U b g e)) ?_;cases z:s.heap.get? h1.objs.size with
  |none=>rfl
  |some g=>
   let:=zAs z;exact ZR le (Nat.not_le.mpr this)
 by_cases c:(!(w.params.followText "set-order")&&(!t.plain&&decide (es.size>1)))=ZI
 .rw[ZJ c]
  refine zCF (Ql _ _ _ _ zBb λps d p=>?_);refine zCF (lM ?_ (by rw[zAc,p.length_eq,zBb];exact hz));refine last _ _ d (λb g e=>zAg _ e) (by rw[zBR];exact zBE _) λj Z L=>.inr ⟨⇑s,ps,L,Z _ _ (zAF _ rfl),p,?_,?_⟩
  .show ⇑s≠(s.heap.push _).objs.size
   rw[zBR];exact zAy (zBS _)
  .cases z:s.heap.get? ⇑s with
   |none=>rfl
   |some g=>exact ZR (zAs z) (zBq _)
 .rw[ZH c]
  refine zCF (zCG ?_);let e:s={ s with heap:=s.heap,drawn:=s.drawn }:=by cases s;rfl
  rw[e];refine last _ s.heap s.drawn (λ_ _ z=>z) (zAl _) λj Z L=>.inl ⟨L,?_⟩;cases b:w.params.followText "set-order" with
  |true=>exact .inl rfl
  |false=>
   rw[b] at c;exact .inr ⟨rfl,by simpa using c⟩
end
section
variable {prog:ZO} {w:ZX} {A:aE} {E:ZE->ZG->Prop} {I a:ZF} {es:Array (Int×ZE)} {ep:Nat} {t:bN}
def N6 (h:aB) (a:ZF) (es:Array (Int×ZE)) (ep:Nat) (t:bN):Prop:=∃ o,h.get? a=ZC o/\o.data=.set es ep t
def Qm (g:t.fits es.size=ZI):t.place.size=es.size:=by
 unfold SetTable.fits at g;simp at g;exact g.1
def F2 (es:Array (Int×ZE)):(zAS es.size).map (λp=>(es.getD p (0,.none)).2)=es.toList.map (·.2):=by
 refine iC λi=>?_;rw[zAx,zAx];by_cases h:i<es.size
 .rw[mY h,zBu,zBc h]
  simp [zBP,h]
 .rw[zCn (by simpa using h),zBu,zCc (by lia)]
  rfl
def Kw {s:ZG} {h':aB} (j:zBr I s.heap h'):Moved [I] (λx y:Array jM=>y=x) s { s with heap:=h' }:=⟨λb o g e=>(j.2 b (λz=>g (by rw[z];exact zAh.mpr rfl))).trans e,rfl,rfl,rfl,zAl _⟩
def Nt {s:ZG} {h':aB} (j:mN I s.heap h'):Moved [I] (λx y:Array jM=>y=x) s { s with heap:=h' }:=⟨λb o g e=>j b o (λz=>g (by rw[z];exact zAh.mpr rfl)) e,rfl,rfl,rfl,zAl _⟩
def D7 (hh:A.handled=ZD) (M:w.params.followText "set-order"=ZI) (B:t.fits es.size=ZI) (Y:a≠I) :
  WalksS prog w A I [I,a] [I] (λx y=>y=x) es.size (λi v=>(((eE (w.params.setOrder a ep) es).toList.map (·.2))[i]?)=ZC v) (λi s=>C0 s.heap I (aO 0) i a es.size ep/\N6 s.heap a es ep t) where
 sub:=λb hb=>by rw[zAh.mp hb];exact zAd
 grefl:=λ_=>rfl
 gtrans:=λ_ _ _ h1 h2=>h2.trans h1
 frame:=λi s h' tk ⟨z,o,j,g⟩ _ k=>⟨k I zAd _ z,o,k a (by simp) _ j,g⟩
 item:=λi s Q E hi ⟨z,o,j,g⟩ h=>by
  let sz:(eE (w.params.setOrder a ep) es).size=es.size:=by rw[<- zAE,(XR _ es).length_eq,zAE]
  let S:(eE (w.params.setOrder a ep) es)[i]?=ZC ((eE (w.params.setOrder a ep) es)[i]'(by lia)):=zBc (by lia);refine Xn (slot:=0) (nx:=0) z j g B rfl (λA' Z U q=>Ui M j g B (by rw[S];exact q)) λh' L F=>?_;refine h _ _ ?_ ⟨L,o,(F.2 a Y).trans j,g⟩ (Kw F);rw[zAx,zBu,S];rfl
 done:=λs Q E ⟨z,o,j,g⟩ h=>by
  let sz:(eE (w.params.setOrder a ep) es).size=es.size:=by rw[<- zAE,(XR _ es).length_eq,zAE]
  refine P7 (slot:=0) hh z j g B rfl (λA' Z U q=>Ui M j g B (by rw[zCc (by lia)];exact q)) λh' F=>h _ (Nt F)
 self:=λi s Q E ⟨z,_⟩ h=>Xc z h
def Zx (hh:A.handled=ZD) (Y:w.params.followText "set-order"=ZK) (B:t.fits es.size=ZI) (hl:t.led=ZI) (U:Rs t.place) (S:(!t.plain&&decide (es.size>1))=ZK) (na:a≠I) :
  WalksS prog w A I [I,a] [I] (λx y=>y=x) es.size (λi v=>((es.toList.map (·.2))[i]?)=ZC v) (λi s=>C0 s.heap I (aO (Hu t.place i)) i a es.size ep/\N6 s.heap a es ep t) where
 sub:=λb hb=>by rw[zAh.mp hb];exact zAd
 grefl:=λ_=>rfl
 gtrans:=λ_ _ _ h1 h2=>h2.trans h1
 frame:=λi s h' tk ⟨z,o,j,g⟩ _ k=>⟨k I zAd _ z,o,k a (by simp) _ j,g⟩
 item:=λi s Q E hi ⟨z,o,j,g⟩ h=>by
  let sz:=Qm B;let M:=Se U (i:=i) (by lia);let Z:es[i]?=ZC (es[i]'hi):=zBc hi;let pi:t.place[i]?=ZC (t.place[i]'(by lia)):=zBc (by lia);let en:Hu t.place (i+1)=t.place[i]'(by lia)+1:=by
   unfold Hu;rw[ZH (by lia),Nat.add_sub_cancel];simp [zBP,show i<t.place.size by lia]
  refine Xn (slot:=Hu t.place i) (nx:=Hu t.place (i+1)) z j g B rfl (λA' Q' E' q=>Rm Y j g B hl S (by rw[M,Z,pi];dsimp only;rw[<- en];exact q)) λh' L F=>?_;refine h _ _ ?_ ⟨L,o,(F.2 a na).trans j,g⟩ (Kw F);rw[zAx,zBu,Z];rfl
 done:=λs Q E ⟨z,o,j,g⟩ h=>by
  let sz:=Qm B;let M:=Se U (i:=es.size) (by lia);refine P7 (slot:=Hu t.place es.size) hh z j g B rfl (λA' Q' E' q=>Rm Y j g B hl S (by rw[M,zCc (zAl _)];exact q)) λh' F=>h _ (Nt F)
 self:=λi s Q E ⟨z,_⟩ h=>Xc z h
def Zj {T:ZF} {ps:List Nat} (U:A.handled=ZD) (L:t.fits es.size=ZI) (B:ps.Perm (zAS es.size)) (S:a≠I) (nT:T≠I) :
  WalksS prog w A I [I,a,T] [I] (λx y=>y=x) es.size (λi v=>((ps.map λp=>(es.getD p (0,.none)).2)[i]?)=ZC v)
   (λi s=>C0 s.heap I (.ref T) i a es.size ep/\N6 s.heap a es ep t/\s.heap.get? T=ZC { cls:=.type "tuple",dict:=ZD,data:=.seq (ps.map λi:Nat=>aO i).toArray 0,slots := #[] }) where
 sub:=λb Z=>by rw[zAh.mp Z];exact zAd
 grefl:=λ_=>rfl
 gtrans:=λ_ _ _ h1 h2=>h2.trans h1
 frame:=λi s h' tk ⟨g,⟨o,q,j⟩,hT⟩ _ k=>⟨k I zAd _ g,⟨o,k a (by simp) _ q,j⟩,k T (by simp) _ hT⟩
 item:=λi s Q E hi ⟨g,⟨o,q,j⟩,hT⟩ h=>by
  let Y:ps.length=es.size:=by rw[B.length_eq,zBb]
  let M:ps[i]?=ZC (ps[i]'(by lia)):=zAe (by lia);let pl:ps[i]'(by lia)<es.size:=zBD.mp (B.mem_iff.mp (zBj _));let ex:es[ps[i]'(by lia)]?=ZC (es[ps[i]'(by lia)]'pl):=zBc pl;refine DT (pl:=ps[i]'(by lia)) (k:=(es[ps[i]'(by lia)]'pl).1) (x:=(es[ps[i]'(by lia)]'pl).2) g hT q j L rfl (tk:=0) ?_ ex λh' F z=>?_
  .rw[zCo,zAx,M]
   rfl
  .refine h _ _ ?_ ⟨F,⟨o,(z.2 a S).trans q,j⟩,(z.2 T nT).trans hT⟩ (Kw z)
   rw[zAx,M];simp [zBP,pl]
 done:=λs Q E ⟨g,⟨o,q,j⟩,hT⟩ h=>by
  let Y:ps.length=es.size:=by rw[B.length_eq,zBb]
  refine GV U g hT q j L rfl ?_ λh' z=>h _ (Nt z);rw[zCo,zAx,zCn (by lia)];rfl
 self:=λi s Q E ⟨g,_⟩ h=>Xc g h
def U4 (M:A.handled=ZD) {Z h:aB} (S:N6 h a es ep t) (U:t.fits es.size=ZI) (g:Ka (w.params.followText "set-order") t) (F:a≠I) (Y:Z.get? I=ZD) (b:UE w Z h I a es ep t) :
  ∃ (os:List ZE) (fp:List ZF) (St:Nat->ZG->Prop),os.Perm (es.toList.map (·.2))/\WalksS prog w A I fp [I] (λx y=>y=x) es.size (λi v=>os[i]?=ZC v) St/\(∀ s:ZG,s.heap=h->St 0 s)/\∀ x∈fp,x=a\/Z.get? x=ZD:=by
 rcases b with ⟨q,B|⟨B,hp⟩⟩|⟨T,ps,q,hT,pm,nT,L⟩
 .refine⟨_,_,_,(XR (w.params.setOrder a ep) es).map _,D7 M B U F,λs e=>by rw[e];exact⟨q,S⟩,λx j=>?_⟩
  rcases zAj.mp j with z|z
  .rw[z];exact .inr Y
  .exact .inl (zAh.mp z)
 .refine⟨_,_,_,cV _,Zx M B U (g.ld B) g.rs hp F,λs e=>by rw[e];exact⟨q,S⟩,λx j=>?_⟩
  rcases zAj.mp j with z|z
  .rw[z];exact .inr Y
  .exact .inl (zAh.mp z)
 .refine⟨_,_,_,(pm.map _).trans (List.Perm.of_eq (F2 es)),Zj M U pm F nT,λs e=>by rw[e];exact⟨q,S,hT⟩,λx j=>?_⟩
  rcases zAj.mp j with z|z
  .rw[z];exact .inr Y
  .rcases zAj.mp z with z|z
   .exact .inl z
   .rw[zAh.mp z];exact .inr L
end
def GX:lO (.type "set") (aK "__len__")=pure (ZC (.builtin "set.__len__")):=F.slot_set_len.lookup
def ME:isSubtype (.type "set") (.type "set")=pure ZI:=by rw[hB];kernel_rfl
def EA {Q:Bool->ZG->Prop} (ty:s.TypeIs (.ref a) "set") (h:Q ZK s):ZP (ZS prog w) A (gT (.ref a)) Q E s:=by
 unfold gT;refine zCF (wpAny_specialOf ty GX ?_);generalize g:("set.__len__" : String)=j
 wp_delta
 rw[show splitId j=ZC ("set","__len__") from by subst g;decide +kernel];subst g;refine zCF (jX ty ME ?_);show ZP _ A (nP (aI a) >>= _) _ _ _;refine zCF (iZ ty ?_);exact zCG h
def Yc {Q:List ZE->ZG->Prop} (hh:A.handled=ZD) (hc:o.cls=.type "set") (U:s.heap.get? a=ZC o) (hd:o.data=.set es ep t) (hf:t.fits es.size=ZI) (g:Ka (w.params.followText "set-order") t) (hz:es.size<=sizeLine)
  (h:∀ s' vs,vs.Perm (es.toList.map (·.2))->(∀ b ob,s.heap.get? b=ZC ob->s'.heap.get? b=ZC ob)->s'.gens=s.gens->s'.os=s.os->Q vs s'):ZP (ZS prog w) A (collect (.ref a)) Q E s:=by
 unfold collect;refine zCF (wpAny_runValue (dC F.entry_proto_collect ?_));rw[cL F.plain_proto_collect _];show ZP _ A.in1 (newList [] >>= λl=>again (.builtin "list.__iadd__" ⟨[l,.ref a],[]⟩)) _ _ s;refine zCF (bB (zCG ⟨iQ F.plain_list_iadd _,dC F.entry_list_iadd ?_⟩));rw[cL F.plain_list_iadd _];let lt:a<⇑s:=zAs U;let q:∀ b ob,s.heap.get? b=ZC ob->(s.heap.push { cls:=.type "list",data:=.seq ([]:List ZE).toArray }).get? b=ZC ob:=λb ob e=>zAg _ e;let M:(s.heap.push { cls:=.type "list",data:=.seq ([]:List ZE).toArray }).get? ⇑s=ZC { cls:=.type "list",data:=.seq ([]:List ZE).toArray }:=zAF _ rfl;generalize hL:⇑s=L at M;generalize s.heap.push { cls:=.type "list",data:=.seq ([]:List ZE).toArray }=H at q M;let nL:s.heap.get? L=ZD:=by
  cases z:s.heap.get? L with
  |none=>rfl
  |some ob=>exact ZR (zAs z) (by rw[hL];exact zBq _)
 show ZP _ A.in1 (bZ (.ref L) (.ref a) (.ref L)) _ _ { s with heap:=H };unfold bZ;let ty:gF { s with heap:=H } (.ref a) "set":=⟨_,q _ _ U,hc⟩;refine zCF (iZ ty ?_);let c1:iD (.ref L) (.ref a)=ZK:=by
  let:L≠a:=by rw[<- hL];exact zBB lt
  simp [iD,this]
 rw[ZH (by rw[c1];decide)];refine zCF (CY (s:={ s with heap:=H }) hc (q _ _ U) hd hf hz λh1 d I bg k1 S=>?_);let ah:gF { s with heap:=h1,drawn:=d } (.ref a) "set":=⟨_,k1 _ _ (q _ _ U),hc⟩;refine zCF (aW (EA ah ?_));show ZP _ A.in1 (rule "list.extend.makes-room" >>= λ_=>Builtin.List.listTouch (.ref L) >>= λ_=>again (.builtin "list.extend.loop" ⟨[.ref L,.ref I,.ref L],[]⟩)) _ _ _;refine zCF (lL (zCF ?_));show ZP _ A.in1 (updateSeq L (·.push .none) >>= λ_=>updateSeq L (·.pop)) _ _ _;let Z:=k1 _ _ M;refine zCF (wpAny_updateSeq (s:={ s with heap:=h1,drawn:=d }) Z rfl ?_);let aa:=zCl (ZW (·.push bD)) Z rfl;refine wpAny_updateSeq aa rfl ?_;let ae:=zCl (ZW (·.pop)) aa rfl;let ac:∀ b ob,b≠L->h1.get? b=ZC ob->((h1.update L (ZW (·.push bD))).update L (ZW (·.pop))).get? b=ZC ob:=λb ob nb e=>
  (zCa _ _ (aR nb)).trans ((zCa _ _ (aR nb)).trans e)
 let af:a≠I:=λz=>by
  rw[<- z] at S;let:=q _ _ U;let B:H.get? a=ZD:=S;rw[this] at B;cases B
 let ak:L≠I:=λz=>by
  rw[<- z] at S;let B:H.get? L=ZD:=S;rw[M] at B;cases B
 obtain⟨vs,fp,St,pm,W,ad,ai⟩:=U4 (prog:=prog) (A:=A.in1.in1) (by exact hh) (h:=h1) ⟨o,k1 _ _ (q _ _ U),hd⟩ hf g af S bg;let nf:L∉fp:=λz=>by
  rcases ai L z with e|e
  .exact ZR e (by rw[<- hL];exact zBB lt)
  .have e':H.get? L=ZD:=e
   rw[M] at e';cases e'
 let ag:=W.frame 0 { s with heap:=h1,drawn:=d } _ s.toks (ad _ rfl) (zAl _) λb hb ob e=>ac b ob (λz=>nf (z▸hb)) e;refine zCG ⟨iQ F.plain_extend_loop _,codeAny_extend_loopS W.of_in1 hz L nf _ es.size 0 _ _ _ rfl (zAw _) ag ae (ItemsOf.nil _) λs' Y c' hm aj ab=>?_⟩;show ZP _ A (load L >>= _) _ _ s';refine zCF (wpAny_load aj (zCG ?_));let ea:Y.toList=vs:=by
  obtain⟨z1,z2⟩:=ab;let lv:vs.length=es.size:=by rw[pm.length_eq,zAc,zAE]
  refine iC λj=>?_;rw[zBu];by_cases hj:j<Y.size
  .rw[zBc hj]
   exact (z2 j _ (zBc hj)).symm
  .rw[zCc (by omega),zCn (by omega)]
 rw[ea];refine h s' vs pm (λb ob e=>hm.heap b ob (λz=>?_) (ac b ob (λz=>?_) (k1 b ob (q b ob e)))) hm.gens hm.os
 .rcases zAj.mp z with z|z
  .rw[z,nL] at e
   cases e
  .rw[zAh.mp z] at e
   let e':=q _ _ e;let B:H.get? I=ZD:=S;rw[e'] at B;cases B
 .rw[z,nL] at e
  cases e
def GP {x:ZE} {Q:ZE->ZG->Prop} (h:Q (.ref ⇑s) { s with heap:=s.heap.push { cls:=.type "set",dict:=ZD,data:=.set #[] 0 (.fresh 0 0 (!w.params.followText "set-order")) } }) :
  dD (ZS prog w) A (.call (.builtin "set.__new__") ⟨[.type "set",x],[]⟩) (wants Q E) s:=by
 refine codeAny_of_tree ?_;show ZP _ A.in1 (do checkBuiltinCall "set.__new__" ⟨[.type "set",x],[]⟩;again (.builtin "set.__new__" ⟨[.type "set",x],[]⟩)) _ _ s;refine zCF (wpAny_of_eq (F.newCall_set_1 x) (zCG ⟨iQ F.plain_set_new _,dC F.entry_set_new ?_⟩));rw[cL F.plain_set_new _];unfold cW.«set.__new__» Builtin.Frozenset.newClass;let g:=sub_set_self;obtain⟨q,z,d,j,B⟩:=s
 dsimp only
 wp_walk
 refine jY (zCG ?_)
 dsimp only
 simp only [newObj];exact zCF (wpAny_alloc (zCG (zCG h)))
def XY.keep {h h':aB} {a:ZF} {K:Type} [DecidableEq K] {knd:KeyKind prog w K} {ks:List K} (g:XY knd h a ks) (k:∀ o,h.get? a=ZC o->h'.get? a=ZC o):XY knd h' a ks:=by
 obtain⟨o,es,ep,t,j,r⟩:=g;exact⟨o,es,ep,t,k o j,r⟩
def Zl {K:Type} [DecidableEq K] {knd:KeyKind prog w K} {mk:K->Nat->ZE} (M:∀ k t,knd.is k (mk k t)=ZI) (ab:∀ k t,(mk k t).scannable=ZI) (W:WalksS prog w A.in1 I fp wr G n P St) (S:ZF) (nS:S∉fp) (val:Nat->K) (hv:∀ i v,P i v->∃ t,v=mk (val i) t) (L:n+1<cU) :
  ∀ (k i:Nat) (s:ZG) (ks:List K),n-i=k->i<=n->St i s->XY knd s.heap S ks->(∀ y,y∈ks↔∃ j,j<i/\val j=y)->ks.length<=i ->
   (∀ s' q,Moved (S::wr) G s s'->XY knd s'.heap S q->(∀ y,y∈q↔∃ j,j<n/\val j=y)->q.length<=n->R (.ok (.ret .none)) s') ->
   dD (ZS prog w) A (.builtin "set.update.loop" ⟨[.ref S,.ref I],[]⟩) R s:=by
 let nw:S∉wr:=λz=>nS (W.sub _ z);let sub:∀ b∈wr,b∈S::wr:=λb L=>zAb _ L;intro k
 induction k with
 |zero=>
  intro i s ks hk hi st g mem len F;let e:i=n:=by lia
  subst e;refine dC eG ?_;rw[cL cE _];show ZP _ A.in1 (eK (.ref I) >>= _) _ _ s;refine zCF (W.done s _ _ st λs' U=>?_);show ZP _ A.in1 (ret bD) _ _ s';exact zCG (F s' ks (U.mono sub) (g.keep λo e=>U.heap S o nw e) mem len)
 |succ k ih=>
  intro i s ks hk hi st g mem len F;refine dC eG ?_;rw[cL cE _];show ZP _ A.in1 (eK (.ref I) >>= _) _ _ s;refine zCF (W.item i s _ _ (by lia) st λv s' hP ac U=>?_);obtain⟨tk,rfl⟩:=hv i v hP;let g':=g.keep λo e=>U.heap S o nw e;show ZP _ A.in1 (eB [mk (val i) tk] (setAdd S (mk (val i) tk)) >>= _) _ _ s';refine zCF (aW ?_);unfold setAdd;refine aW (zCF (knd.pyHash (k:=val i) (M _ _) ?_));refine SK (knd:=knd) (s:={ s' with toks:=s'.toks+1 }) (M _ _) (ab _ _) g' (by lia) λb h' q sb g2 pm=>?_;let Z:q.length<=i+1:=by
   rw[pm.length_eq]
   split
   .lia
   .rw[zAm,zAN];lia
  let Y:∀ y,y∈q↔∃ j,j<i+1/\val j=y:=λy=>by
   rw[pm.mem_iff];constructor
   .intro hy
    split at hy
    .obtain⟨j,h1,B⟩:=(mem y).mp hy
     exact⟨j,by lia,B⟩
    .rcases zAu.mp hy with z|z
     .obtain⟨j,h1,B⟩:=(mem y).mp z
      exact⟨j,by lia,B⟩
     .exact⟨i,by lia,(zAh.mp z).symm⟩
   .rintro ⟨j,h1,B⟩
    let aa:∀ {z},z∈ks->z∈(if val i∈ks then ks else ks++[val i]):=λ{z} hz=>by
     split
     .exact hz
     .exact zBp _ hz
    by_cases c:j<i
    .exact aa ((mem y).mpr ⟨j,c,B⟩)
    .have e:j=i:=by lia
     subst e
     split
     .rw[<- B];assumption
     .rw[<- B];exact zAC _ (zAh.mpr rfl)
  refine zCG ⟨iQ cE _,ih (i+1) _ q (by lia) (by lia) (W.frame _ s' _ _ ac (zBE _) λb L o e=>?_) g2 Y Z λs2 ad ae g3 m3 l3=>?_⟩
  .rw[sb.2 b (λz:b=S=>nS (by rw[<- z];exact L))];exact e
  .refine F s2 ad (Moved.trans W.gtrans ((U.mono sub).then_heap (zBE _) λb o L e=>?_) ae) g3 m3 l3
   rw[sb.2 b (λz:b=S=>L (by rw[z];exact zAd))];exact e
abbrev Sv (w:ZX):cP:={ cls:=.type "set",dict:=ZD,data:=.set #[] 0 (.fresh 0 0 (!w.params.followText "set-order")) }
def ET {h:aB} {a:ZF} {K:Type} [DecidableEq K] {knd:KeyKind prog w K} (g:h.get? a=ZC (Sv w)):XY knd h a []:=by
 refine⟨_,#[],0,_,g,⟨rfl,rfl,rfl⟩,rfl,.nil,jT,by lk,rfl,?_⟩;exact G8 (w.params.followText "set-order")
set_option maxRecDepth 100000 in
def A4 {K:Type} [DecidableEq K] {knd:KeyKind prog w K} {mk:K->Nat->ZE} (Z:∀ k t,knd.is k (mk k t)=ZI) (ab:∀ k t,(mk k t).scannable=ZI) (Y:K) {l:ZF} {items:Array ZE} {ns:List K} {Q:ZE->ZG->Prop} (hh:A.handled=ZD) (hl:s.heap.IsList l items) (hi:∀ (i:Nat) (v:ZE),items[i]?=ZC v->∃ t,v=mk (ns.getD i Y) t) (ln:items.size=ns.length) (hb:items.size+1<cU)
  (h:∀ (h':aB) (tk:Nat) (ks:List K),XY knd h' ⇑s ks->(∀ y,y∈ks↔y∈ns)->ks.length<=items.size->(∀ b o,s.heap.get? b=ZC o->h'.get? b=ZC o)->Q (.ref ⇑s) { s with heap:=h',toks:=tk }) :
  ZP (ZS prog w) A (call (.type "set") [.ref l]) Q E s:=by
 obtain⟨c,tl,ak⟩:=F.called_set.mro;let ae:=F.called_set.made;let aj:=F.called_set.sub;let h1:=F.called_set.notType;let h2:=F.called_set.canCreate;let am:=F.typeCall_set_1 (.ref l);refine iS (codeAny_of_tree (show ZP _ _ (callAny (.type "set") _) _ _ _ from ?_));refine zCG ⟨Code.quiet_builtin _ (by ac_nf),dC F.entry_type_call ?_⟩;rw[Around.under_plain (weight_type_call_type "set" [.ref l] []) rfl]
 repeat (any_goals (first|assumption|wp_step))
 refine dM (GP (x:=.ref l) (E:=E) (Q:=λv s₁=>v=.ref ⇑s/\s₁={ s with heap:=s.heap.push (Sv w) }) ⟨rfl,rfl⟩) λr s₁ hr=>?_;cases r with
 |error e=>exact hr
 |ok fl=>
  cases fl with
  |ret obj=>
   obtain⟨rfl,rfl⟩:=hr;let M:(s.heap.push (Sv w)).get? ⇑s=ZC (Sv w):=zAF _ rfl;let hT:gF { s with heap:=s.heap.push (Sv w) } (.ref ⇑s) "set":=⟨_,M,rfl⟩;let ao:=F.called_set.init.lookup;let al:=F.called_set.init.bind (.ref ⇑s)
   repeat (any_goals (first|assumption|wp_step))
   refine dM (codeAny_call_builtin (R:=wants (λr s₂=>r=.none/\∃ h' tk ks,s₂={ s with heap:=h',toks:=tk }/\XY knd h' ⇑s ks/\(∀ y,y∈ks↔y∈ns)/\ks.length<=items.size/\(∀ b o,s.heap.get? b=ZC o->h'.get? b=ZC o)) E)
    F.called_set.init.plain F.entry_set_init (check_set_init_1 hT ?_)) λr₂ s₂ q=>?_
   .obtain⟨⟨oc,od,an,ag⟩,S,L,nl,B⟩:=id hl
    simp only at L B;subst L B;let aa:(s.heap.push (Sv w)).get? l=ZC { cls:=.type "list",dict:=od,data:=.seq items nl,slots:=ag }:=zAg _ S;let il:(s.heap.push (Sv w)).IsList l items:=⟨_,aa,rfl,nl,rfl⟩;let lt:l<⇑s:=zAs S;let u1:=F.sub_list_set;let u2:=F.sub_list_frozenset;let u3:(aY "list"== aY "dict")=ZK:=by lk
    unfold cW.«set.__init__» noKeywords Builtin.Frozenset.updateFrom;generalize ah:nV=PI
    wp_walk
    subst ah;refine wpAny_pyIter_list il (zCF (wpAny_runValue ?_));let sz:(s.heap.push (Sv w)).objs.size=⇑s+1:=zBR ..;let ne:l≠(s.heap.push (Sv w)).objs.size:=by rw[sz];exact zAy (zCg lt)
    let h3:A.in1.in1.in1.handled=ZD:=by simp [hh]
    let nf:⇑s∉[(s.heap.push (Sv w)).objs.size,l]:=by
     rw[sz];intro z;rcases zAj.mp z with z|z
     .exact ZR z (zAy (zBS _))
     .exact ZR (zAh.mp z) (zBB lt)
    refine Zl Z ab ((Walks.list h3 _ l ne items).toS) ⇑s nf (λi=>ns.getD i Y) hi hb (items.size-0) 0 _ [] (by lia) (zAw _) ⟨⟨_,zAF _ rfl,rfl,rfl⟩,il.push _⟩ (ET (zAg _ M)) (λy=>⟨λz=>(nomatch z),λ⟨j,z,_⟩=>ZR z (zBA _)⟩) (zAw _) λs' ks U g m ac=>?_;obtain⟨h',g',d',ai,af⟩:=s';let eg:g'=s.gens:=U.gens;let ed:d'=s.drawn:=U.drawn;let eo:af=s.os:=U.os;subst eg ed eo;refine zCG (zCG ⟨rfl,h',ai,ks,rfl,g,λy=>?_,ac,λb o e=>?_⟩)
    .rw[m y]
     constructor
     .rintro ⟨j,z1,z2⟩
      rw[<- z2];show ns.getD j Y∈ns;rw[zAr,zAe (by lia)];exact zBj _
     .intro z
      obtain⟨j,hj,e⟩:=zAG z;refine⟨j,by lia,?_⟩;show ns.getD j Y=y;rw[zAr,zAe hj];exact e
    .refine U.heap b o (λz=>?_) (zAg _ (zAg _ e))
     let lb:=zAs e;rcases zAj.mp z with z|z
     .exact ZR z (zAy lb)
     .exact ZR (zAh.mp z) (by rw[sz];exact zAy (zCg lb))
   .cases r₂ with
    |error e=>exact q
    |ok ad=>
     cases ad with
     |ret r=>
      obtain⟨rfl,h',tk,ks,rfl,g,m,ln,k⟩:=q
      repeat (any_goals (first|assumption|wp_step))
      exact h _ _ ks g m ln k
     |_=>exact q.elim
  |_=>exact hr.elim
def set_of_list {l:ZF} {items:Array ZE} {ns:List Int} {Q:ZE->ZG->Prop} (j:A.handled=ZD) (hl:s.heap.IsList l items) (hi:PyProof.Rows.IntsAre items.toList ns) (g:items.size+1<cU)
  (h:∀ (h':aB) (tk:Nat) (ks:List Int),XY (intKind prog w) h' ⇑s ks->(∀ y,y∈ks↔y∈ns)->ks.length<=items.size->(∀ b o,s.heap.get? b=ZC o->h'.get? b=ZC o)->Q (.ref ⇑s) { s with heap:=h',toks:=tk }) :
  ZP (ZS prog w) A (call (.type "set") [.ref l]) Q E s:=
 A4 (mk:=.int) (λ_ _=>intKind_is _ _ _ _) (λ_ _=>rfl) 0 j hl (λi v e=>PyProof.Rows.IntsAre.int_at hi i v (by rw[zBu];exact e)) (by rw[<- zAE];exact hi.length) g h
end CST
namespace CST
open PySem PyProof.Rows
theorem Oi:∀ {l} {ks:List Int},cZ (JL (intKind prog w)) l ks->cC (l.map (·.2)) ks
 |_,_,.nil=>.nil
 |e::l,k::ks,.cons r t=>by
  obtain⟨g,h⟩:=nJ r.1;rw[zAp,h];exact .cons k g (Oi t)
def V5:∀ {vs us},vs.Perm us->∀ {ns:List Int},cC us ns->∃ g:List Int,cC vs g/\g.Perm ns:=by
 intro vs us p;let q:=p.symm;clear p
 induction q with
 |nil=>intro ns h;exact⟨ns,h,cV _⟩
 |cons x _ ih=>
  intro ns h;cases h with
  |cons n t r=>
   obtain⟨g,h1,z⟩:=ih r;exact⟨n::g,.cons n t h1,z.cons n⟩
 |swap x y l=>
  intro ns h;cases h with
  |cons n t r=>
   cases r with
   |cons m u F=>exact⟨_,.cons m u (.cons n t F),iM _ _ _⟩
 |trans _ _ B j=>
  intro ns h;obtain⟨S,h1,L⟩:=B h;obtain⟨M,z,p2⟩:=j h1;exact⟨M,z,p2.trans L⟩
def sorted_set {a:ZF} {ks:List Int} {Q:ZE->ZG->Prop} (hh:A.handled=ZD) (g:XY (intKind prog w) s.heap a ks) (aa:ks.length<64)
  (h:∀ (s':ZG) (l:ZF) (out:Array ZE) (F:List Int) (e:Nat),cC out.toList F->F.Perm ks->F.Pairwise (· <= ·)->(∀ b o,s.heap.get? b=ZC o->s'.heap.get? b=ZC o)->a<l->s'.heap.get? l=ZC (aF "list" out e)->s'.gens=s.gens->s'.os=s.os->Q (.ref l) s') :
  ZP (ZS prog w) A (call (.builtin "sorted") [.ref a]) Q E s:=by
 obtain⟨o,es,ep,t,Z,L,hd,U,nd,hb,hf,gd⟩:=g;let Y:es.size=ks.length:=by rw[<- zAE];exact dL U
 let j:es.size<=sizeLine:=by rw[zCH];lia
 refine jV kind_sorted nW nY (args_sorted1 _) ?_;unfold cW.«sorted»;refine zCF (m:=checkCount "sorted" 1 1 _) (zCG (zCF (Yc (by exact hh) L.1 Z hd hf gd j λs' vs S k eg eo=>?_)));let lv:vs.length=ks.length:=by rw[S.length_eq,zAc,zAE,Y]
 obtain⟨F,im,mp⟩:=V5 S (Oi U);refine zCF (fA ?_ (by rw[lv,<- Y];exact j));let q:(s'.heap.push (aF "list" vs.toArray 0)).get? ⇑s'=ZC (aF "list" vs.toArray 0):=zAF _ rfl;refine zCF (aW (aX lQ ⟨_,q,rfl⟩ kU (list_sort_tree (s:={ s' with heap:=s'.heap.push (aF "list" vs.toArray 0) }) q im (by lia) λout M a1 a2 a3=>⟨_,rfl,?_⟩) (args_list_sort _)));refine zCG ⟨_,rfl,?_⟩;obtain⟨e,he⟩:=sortedHeap_at (out:=out) q;let lt:∀ b B,s.heap.get? b=ZC B->b<⇑s':=λb B z=>zAs (k b B z);refine h _ ⇑s' out M e a1 (a2.trans mp) a3 (λb B z=>?_) ?_ he eg eo
 .show (sortedHeap _ _ _ _).get? b=_
  rw[sortedHeap_old (zAy (lt b B z)) (by rw[size_push'];exact zCg (lt b B z))];exact zAg _ (k b B z)
 .exact lt a o Z
end CST
namespace L2
open PySem PySem.Spec PyProof.Rows PySem.W
theorem Tz:∀ {us} {ns:List Int},cC us ns->Fy (ns.map V.int) us
 |_,_,.nil=>.nil
 |_,_,.cons n t r=>.cons ⟨t,rfl⟩ (Tz r)
def CT (K:zAa) (te:TE):TE:=λσ H Q=>te σ H λx H1=>∃ (a:ZF) (ns:List Int),x=.ref a/\Dp K H1 a (ns.map V.int)/\ns.length<64 /\
 ∀ (l:ZF) (ms:List Int),H1 l=ZD->ms.Pairwise (· < ·)->(∀ y,y∈ms↔y∈ns)->Q (.ref l) (upd H1 l (.lst (ms.map V.int)))
theorem Ow:∀ {g:List Int},g.Pairwise (· <= ·)->g.Nodup->g.Pairwise (· < ·)
 |[],_,_=>.nil
 |x::g,h,n=>by
  rw[zAJ] at h;rw[zAT] at n;rw[zAJ];refine⟨λy j=>?_,Ow h.2 n.2⟩;let:=h.1 y j;let ne:x≠y:=λz=>n.1 (by rw[z];exact j)
  lia
def B5 {e:bA} (he:PE X e te) (hc:X.calm=ZI) (aa:Gl X "sorted") (ad:X.mg "sorted"=ZD) (U:Gl X "set") (ab:X.mg "set"=ZD)
  (S:zCI "sorted"=ZC (.builtin "sorted"):=by rfl) (hv2:zCI "set"=ZC (.type "set"):=by rfl)
  (hs1:ZU [.Call (.Name "set" p2) [e] [] pos2] X.env=[(ZK,aM (.Call (.Name "set" p2) [e] [] pos2) X.env)]:=by rfl) (hs2:ZU [e] X.env=[(ZK,aM e X.env)]:=by rfl) :
  PE X (.Call (.Name "sorted" p1) [.Call (.Name "set" p2) [e] [] pos2] [] pos1) (CT X.K te):=by
 intro pins s σ H Q I h;refine aN (Fz I aa ad S ?_ (by lk) (by lk));refine cX ?_ hs1 rfl;rw[hs1];show ZP _ _ (lB ((ZK,aM (.Call (.Name "set" p2) [e] [] pos2) X.env)::bC pos1 [])) _ _ s;refine bH ?_;refine aN (Fz I U ab hv2 ?_ (by lk) (by lk));refine aU ?_ hs2 rfl;rw[hs2];show ZP _ _ (lB ((ZK,aM e X.env)::bC pos2 [])) _ _ s;refine bH (Cb (he pins s σ H _ I h) λu s1 ⟨x,H1,B,r1,a,ns,ex,hq,af,q⟩=>?_);subst ex;cases r1;refine bR ?_;obtain⟨Y,rv,pl,hz⟩:=B.list hq;let hl:=rv.length;rw[zAc] at hl;let hh:X.A.handled=ZD:=I.ok.hd hc;refine CST.set_of_list (items:=Y.toArray) (ns:=ns) hh pl.isList (Rk rv) (by rw[zAi];unfold cU;lia) λh2 tk ks g mem len k2=>?_;refine bR ?_;rw[zAi] at len;refine CST.sorted_set (s:={ s1 with heap:=h2,toks:=tk }) hh g (by lia) λs' l Z j ee im L pw k3 al ae eg eo=>?_;let M:j.Nodup:=by
  obtain⟨_,_,_,_,_,_,_,_,M,_⟩:=g;exact L.nodup_iff.mpr M
 let lt:=Ow pw M;let kk:∀ b ob,s1.heap.get? b=ZC ob->s'.heap.get? b=ZC ob:=λb ob z=>k3 b ob (k2 b ob z);let F:⇑s1<=l:=zCi al;let lp:(j.map V.int).length<=sizeLine:=by rw[zAc,L.length_eq,zCH];lia
 let ac:XF X.prog X.w (upd H1 l (.lst (j.map V.int))) s'.heap l (.lst (j.map V.int)):=⟨lp,Z.toList,ee,Tz im,ae⟩;refine⟨.ref l,upd H1 l (.lst (j.map V.int)),B.call' (s':=s') (ch:=[]) eo (Un.laid kk F (B.hok.fresh F)) (B.hok.laid kk F ac) (by rw[eg];exact B.bare) (λb z=>(nomatch z)),rfl,q l j (B.hok.fresh F) lt λy=>?_⟩;rw[L.mem_iff];exact mem y
def Qj {ns:List Int} {its:List ZE} (j:Fy (ns.map V.int) its):∃ ys,its.toArray=hE ys/\ys.size=ns.length/\∀ i,(h:i<ns.length)->kH ys i=ns[i]:=by
 let hi:cC its ns:=Pt j;obtain⟨ys,g⟩:=hi.allInts.items;let B:its.length=ns.length:=hi.length;let M:ys.size=ns.length:=by
  let z:=aC Array.size g;rw[zAi] at z;unfold hE at z;rw[Array.size_map] at z
  lia
 refine⟨ys,g,M,λi h=>?_⟩;obtain⟨u,S,t,L⟩:=j.get (i:=i) (x:=.int ns[i]) (by rw[zAx,zAe h];rfl);let U:(hE ys)[i]?=ZC u:=by rw[<- g,zCo];exact S
 obtain⟨Y,q⟩:=intItems_at U;rw[L] at q;injection q with F;exact F.symm
def JC (K:zAa) (le:Int->Int->Prop):List V->Hp->VK->Prop:=λxs H Q=>∃ p,∃ ns:List Int,xs=[.ref p]/\Dp K H p (ns.map V.int)/\ns≠[]/\∀ m∈ns,(∀ k∈ns,le m k)->Q (.int m) H
def X3 (hc:X.calm=ZI):Fq X (.builtin "min") (JC X.K (λm k=>m<=k)):=by
 intro pins s σ H xs us Q I r h;obtain⟨p,ns,rfl,hq,B,q⟩:=h;obtain⟨u,rfl,rx⟩:=Ki r;cases rx;obtain⟨aa,rv,S,hz⟩:=I.list hq;obtain⟨ys,ey,hy,L⟩:=Qj rv;let hl:s.heap.IsList p (hE ys):=ey▸S.isList;let F:0<ns.length:=List.length_pos_iff.mpr B;refine min_intList (I.ok.hd hc) hl (by lia) λv h' tk U Y=>?_;obtain⟨b1,M⟩:=argBest_lt (kH ys) (ys.size-1);obtain⟨t,rfl⟩:=intItems_at U;generalize argBest (λi j=>decide (kH ys i<kH ys j)) (ys.size-1)=z at b1 M;let Z:z<ns.length:=by lia
 refine⟨.int (kH ys z),H,I.kept Y,⟨t,rfl⟩,q _ ?_ λk g=>?_⟩
 .rw[L z Z]
  exact zBj _
 .obtain⟨j,hj,e⟩:=zAG g
  rw[<- e,<- L j hj];exact M j (by lia)
def Q6 (hc:X.calm=ZI):Fq X (.builtin "max") (JC X.K (λm k=>k<=m)):=by
 intro pins s σ H xs us Q I r h;obtain⟨p,ns,rfl,hq,B,q⟩:=h;obtain⟨u,rfl,rx⟩:=Ki r;cases rx;obtain⟨aa,rv,S,hz⟩:=I.list hq;obtain⟨ys,ey,hy,L⟩:=Qj rv;let hl:s.heap.IsList p (hE ys):=ey▸S.isList;let F:0<ns.length:=List.length_pos_iff.mpr B;refine max_intList (I.ok.hd hc) hl (by lia) λv h' tk U Y=>?_;obtain⟨b1,M⟩:=argBest_gt (kH ys) (ys.size-1);obtain⟨t,rfl⟩:=intItems_at U;generalize argBest (λi j=>decide (kH ys i>kH ys j)) (ys.size-1)=z at b1 M;let Z:z<ns.length:=by lia
 refine⟨.int (kH ys z),H,I.kept Y,⟨t,rfl⟩,q _ ?_ λk g=>?_⟩
 .rw[L z Z]
  exact zBj _
 .obtain⟨j,hj,e⟩:=zAG g
  rw[<- e,<- L j hj];exact M j (by lia)
def ED:V->List V->Hp->VK->Prop:=λx vs H Q=>∃ l b xs zs,x=.ref l/\vs=[.ref b]/\H l=ZC (.lst xs)/\H b=ZC (.tup zs)/\xs.length+zs.length<=sizeLine/\Q .non (upd H l (.lst (xs++zs)))
def G6:NX X "list.extend" ED:=by
 intro pins s σ H x vs v us Q I rx Z h;obtain⟨l,b,xs,zs,rfl,rfl,U,Y,hz,q⟩:=h;cases rx;obtain⟨u,rfl,ru⟩:=Z.one;cases ru;obtain⟨z,j,n,r,hl,e⟩:=I.lstM U;obtain⟨z2,g,S,ob,M,L,n2,B⟩:=(show XF X.prog X.w H s.heap b (.tup zs) from I.hok b _ Y);let l1:=r.length;let l2:=S.length;let sz:j.toArray.size+g.toArray.size<=sizeLine:=by rw[zAi,zAi];lia
 let no:¬ (!j.toArray.isEmpty&&cK (j.toArray.size+g.toArray.size))=ZI:=by rw[Zs sz,zCm];exact zAt
 refine aX F.slot_list_extend ⟨_,e,rfl⟩ oY ?_ (oH _ _);show ZP _ _ (bZ (.ref l) (.ref b) .none) _ _ _;unfold bZ;refine zCF (iZ (T:="tuple") ⟨_,M,L⟩ ?_);rw[ZJ (by simp)];refine zCF (gE M B (zCF (gE e rfl ?_)));rw[ZH no];refine zCF (cN e rfl ?_ (by rw[zAi];lia) (by rw[zCh];lia));refine zCG ⟨_,rfl,.non,_,I.lset (its':=j++g) U e (by simp) (r.append S) ?_,rfl,q⟩;rw[zAm]
 lia
end L2
namespace L2
open PySem PySem.Spec PyProof.Rows
def UN (K:zAa) (neg:Bool):R2:=λx y H Q=>∃ a b xs,x=.ref a/\y=.ref b/\Dp K H a xs/\Dp K H b []/\Q (.bl (if neg then !xs.isEmpty else xs.isEmpty)) H
def NK {X:Cx} (B:X.A.units<bX):Kb X (aT .NotEq) (UN X.K ZI):=by
 intro pins s σ H x y v u Q I S M h;obtain⟨a,b,xs,rfl,rfl,h1,Z,q⟩:=h;cases S;cases M;obtain⟨L,z,g,z1⟩:=I.list h1;obtain⟨js,F,p2,z2⟩:=I.list Z;cases F;let U:=z.length;cases xs with
 |nil=>
  cases z
  refine (jQ (e:=λ_=>ZI) g.isList p2.isList rfl B (λj Y _=>ZR Y (by simp)):eT X.A s _ _ _) X.prog X.w _ _ ?_;exact⟨.bl ZK,H,I,rfl,q⟩
 |cons x xs=>
  refine (gV g.isList p2.isList (by rw[zAf] at U;simp only [zAi,bne_iff_ne,ne_eq,zBZ];lia) B:eT X.A s _ _ _) X.prog X.w _ _ ?_;exact⟨.bl ZI,H,I,rfl,q⟩
inductive Co where
 |alw|cau (n:ZM)|thi (n:ZM)|day (a b:Int)|ovr (m:Int)
inductive Gf where
 |at (c:Co)|no (t:Gf)|al (ts:List Gf)|so (ts:List Gf)
structure A8 where
 a0:ZF
 a1:ZF
 a2:ZF
 a3:ZF
 a4:ZF
 a5:ZF
 a6:ZF
 a7:ZF
def A8.l (κ:A8):List ZF:=[κ.a0,κ.a1,κ.a2,κ.a3,κ.a4,κ.a5,κ.a6,κ.a7]
def A8.cl (κ:A8) (i:Nat):ZF:=κ.l.getD i 0
def A8.inj {κ:A8} (g:κ.l.Nodup) {i j:Nat} (hi:i<8) (q:j<8) (h:κ.cl i=κ.cl j):i=j:=by
 let hl:κ.l.length=8:=rfl;unfold A8.cl at h;rw[zAr,zAr,zAe (by lia),zAe (by lia)] at h;let p:=zAH.mp g;rcases zBy i j with c|c|c
 .exact ZR h (p i j (by lia) (by lia) c)
 .exact c
 .exact ZR h.symm (p j i (by lia) (by lia) c)
def kd:Gf->Nat
 |.at .alw=>0
 |.at (.cau _)=>1
 |.at (.thi _)=>2
 |.at (.day _ _)=>3
 |.at (.ovr _)=>4
 |.no _=>5
 |.al _=>6
 |.so _=>7
def Od (t:Gf):kd t<8:=by
 cases t with
 |«at» c=>cases c <;> simp [kd]
 |no t=>exact (by decide:5<8)
 |al g=>exact (by decide:6<8)
 |so g=>exact (by decide:7<8)
def A8.of (κ:A8) (t:Gf):ZF:=κ.cl (kd t)
def A8.Fam (κ:A8) (C:ZF):Prop:=C=κ.a0\/C=κ.a1\/C=κ.a2\/C=κ.a3\/C=κ.a4\/C=κ.a5\/C=κ.a6\/C=κ.a7
def A8.fam (κ:A8) (t:Gf):κ.Fam (κ.of t):=by
 cases t with
 |«at» c=>
  cases c with
  |alw=>exact .inl rfl
  |cau _=>exact .inr (.inl rfl)
  |thi _=>exact .inr (.inr (.inl rfl))
  |day _ _=>exact .inr (.inr (.inr (.inl rfl)))
  |ovr _=>exact .inr (.inr (.inr (.inr (.inl rfl))))
 |no t=>exact .inr (.inr (.inr (.inr (.inr (.inl rfl)))))
 |al g=>exact .inr (.inr (.inr (.inr (.inr (.inr (.inl rfl))))))
 |so g=>exact .inr (.inr (.inr (.inr (.inr (.inr (.inr rfl))))))
section
variable {κ:A8} {t:Gf}
def WO (g:κ.l.Nodup) (h:κ.of t=κ.a0):t=.at .alw:=by
 let e:kd t=0:=A8.inj g (Od t) (by lk) h;cases t with
 |«at» c=>cases c <;> first|rfl|(simp [kd] at e)
 |_=>simp [kd] at e
def WI (g:κ.l.Nodup) (h:κ.of t=κ.a1):∃ n,t=.at (.cau n):=by
 let e:kd t=1:=A8.inj g (Od t) (by lk) h;cases t with
 |«at» c=>cases c <;> first|exact⟨_,rfl⟩|(simp [kd] at e)
 |_=>simp [kd] at e
def WS (g:κ.l.Nodup) (h:κ.of t=κ.a2):∃ n,t=.at (.thi n):=by
 let e:kd t=2:=A8.inj g (Od t) (by lk) h;cases t with
 |«at» c=>cases c <;> first|exact⟨_,rfl⟩|(simp [kd] at e)
 |_=>simp [kd] at e
def WF (g:κ.l.Nodup) (h:κ.of t=κ.a3):∃ a b,t=.at (.day a b):=by
 let e:kd t=3:=A8.inj g (Od t) (by lk) h;cases t with
 |«at» c=>cases c <;> first|exact⟨_,_,rfl⟩|(simp [kd] at e)
 |_=>simp [kd] at e
def GE (g:κ.l.Nodup) (h:κ.of t=κ.a4):∃ n,t=.at (.ovr n):=by
 let e:kd t=4:=A8.inj g (Od t) (by lk) h;cases t with
 |«at» c=>cases c <;> first|exact⟨_,rfl⟩|(simp [kd] at e)
 |_=>simp [kd] at e
def WT (g:κ.l.Nodup) (h:κ.of t=κ.a5):∃ u,t=.no u:=by
 let e:kd t=5:=A8.inj g (Od t) (by lk) h;cases t with
 |«at» c=>cases c <;> simp [kd] at e
 |no u=>exact⟨_,rfl⟩
 |_=>simp [kd] at e
def WY (g:κ.l.Nodup) (h:κ.of t=κ.a6):∃ u,t=.al u:=by
 let e:kd t=6:=A8.inj g (Od t) (by lk) h;cases t with
 |«at» c=>cases c <;> simp [kd] at e
 |al u=>exact⟨_,rfl⟩
 |_=>simp [kd] at e
def WR (g:κ.l.Nodup) (h:κ.of t=κ.a7):∃ u,t=.so u:=by
 let e:kd t=7:=A8.inj g (Od t) (by lk) h;cases t with
 |«at» c=>cases c <;> simp [kd] at e
 |so u=>exact⟨_,rfl⟩
 |_=>simp [kd] at e
end
def Kc:Co->List (ZM×V)
 |.alw=>[]
 |.cau n=>Ar "name" (.str n) []
 |.thi n=>Ar "name" (.str n) []
 |.day a b=>Ar "last" (.int b) (Ar "first" (.int a) [])
 |.ovr m=>Ar "cents" (.int m) []
mutual
def XA (κ:A8) (H:Hp):V->Gf->Prop
 |v,.at c=>∃ p dx,v=.ref p/\H p=ZC (.ins (κ.of (.at c)) dx (Kc c))
 |v,.no t=>∃ p dx w,v=.ref p/\H p=ZC (.ins κ.a5 dx (Ar "part" w []))/\XA κ H w t
 |v,.al ts=>∃ p dx l vs,v=.ref p/\H p=ZC (.ins κ.a6 dx (Ar "several" (.ref l) []))/\H l=ZC (.lst vs)/\CdsAt κ H vs ts
 |v,.so ts=>∃ p dx l vs,v=.ref p/\H p=ZC (.ins κ.a7 dx (Ar "several" (.ref l) []))/\H l=ZC (.lst vs)/\CdsAt κ H vs ts
def CdsAt (κ:A8) (H:Hp):List V->List Gf->Prop
 |[],[]=>True
 |v::vs,t::ts=>XA κ H v t/\CdsAt κ H vs ts
 |[],_::_=>False
 |_::_,[]=>False
end
mutual
def Lr (H:Hp):V->Gf->Prop
 |v,.at .alw=>∃ p,v=.ref p/\H p=ZC (.tup [.str "always"])
 |v,.at (.cau n)=>∃ p,v=.ref p/\H p=ZC (.tup [.str "cause",.str n])
 |v,.at (.thi n)=>∃ p,v=.ref p/\H p=ZC (.tup [.str "thing",.str n])
 |v,.at (.day a b)=>∃ p,v=.ref p/\H p=ZC (.tup [.str "days",.int a,.int b])
 |v,.at (.ovr m)=>∃ p,v=.ref p/\H p=ZC (.tup [.str "over",.int m])
 |v,.no t=>∃ p w,v=.ref p/\H p=ZC (.tup [.str "not",w])/\Lr H w t
 |v,.al ts=>∃ p l vs,v=.ref p/\H p=ZC (.tup [.str "all",.ref l])/\H l=ZC (.lst vs)/\TrsAt H vs ts
 |v,.so ts=>∃ p l vs,v=.ref p/\H p=ZC (.tup [.str "some",.ref l])/\H l=ZC (.lst vs)/\TrsAt H vs ts
def TrsAt (H:Hp):List V->List Gf->Prop
 |[],[]=>True
 |v::vs,t::ts=>Lr H v t/\TrsAt H vs ts
 |[],_::_=>False
 |_::_,[]=>False
end
mutual
def Nc:Gf->Nat
 |.at _=>0
 |.no t=>Nc t+1
 |.al ts=>hgts ts+1
 |.so ts=>hgts ts+1
def hgts:List Gf->Nat
 |[]=>0
 |t::ts=>max (Nc t) (hgts ts)
end
structure LS where
 d:Int
 th:ZM
 ca:ZM
 ct:Int
def MX:Co->LS->Bool
 |.alw,_=>ZI
 |.cau n,x=>decide (V.str x.ca=V.str n)
 |.thi n,x=>decide (V.str x.th=V.str n)
 |.day a b,x=>decide (a<=x.d)&&decide (x.d<=b)
 |.ovr m,x=>decide (m<x.ct)
mutual
def hT:Gf->LS->Bool
 |.at c,x=>MX c x
 |.no t,x => !hT t x
 |.al ts,x=>hAll ts x
 |.so ts,x=>hSom ts x
def hAll:List Gf->LS->Bool
 |[],_=>ZI
 |t::ts,x=>hT t x&&hAll ts x
def hSom:List Gf->LS->Bool
 |[],_=>ZK
 |t::ts,x=>hT t x||hSom ts x
end
mutual
theorem XA.same {κ:A8} {H H':Hp} (s:Dg H H'):∀ {v} (t:Gf),XA κ H v t->XA κ H' v t
 |v,.at c,h=>by
  unfold XA at h ⊢;obtain⟨p,dx,e,h⟩:=h;exact⟨p,dx,e,s _ _ h⟩
 |v,.no t,h=>by
  unfold XA at h ⊢;obtain⟨p,dx,w,e,h,r⟩:=h;exact⟨p,dx,w,e,s _ _ h,XA.same s t r⟩
 |v,.al j,h=>by
  unfold XA at h ⊢;obtain⟨p,dx,l,vs,e,h,g,r⟩:=h;exact⟨p,dx,l,vs,e,s _ _ h,s _ _ g,CdsAt.same s j r⟩
 |v,.so j,h=>by
  unfold XA at h ⊢;obtain⟨p,dx,l,vs,e,h,g,r⟩:=h;exact⟨p,dx,l,vs,e,s _ _ h,s _ _ g,CdsAt.same s j r⟩
theorem CdsAt.same {κ:A8} {H H':Hp} (s:Dg H H'):∀ {vs} (g:List Gf),CdsAt κ H vs g->CdsAt κ H' vs g
 |[],[],_=>by unfold CdsAt;trivial
 |v::vs,t::g,h=>by
  unfold CdsAt at h ⊢;exact⟨XA.same s t h.1,CdsAt.same s g h.2⟩
 |[],_::_,h=>by unfold CdsAt at h;exact h.elim
 |_::_,[],h=>by unfold CdsAt at h;exact h.elim
end
mutual
theorem Lr.same {H H':Hp} (s:Dg H H'):∀ {v} (t:Gf),Lr H v t->Lr H' v t
 |v,.at .alw,h=>by unfold Lr at h ⊢;obtain⟨p,e,h⟩:=h;exact⟨p,e,s _ _ h⟩
 |v,.at (.cau n),h=>by unfold Lr at h ⊢;obtain⟨p,e,h⟩:=h;exact⟨p,e,s _ _ h⟩
 |v,.at (.thi n),h=>by unfold Lr at h ⊢;obtain⟨p,e,h⟩:=h;exact⟨p,e,s _ _ h⟩
 |v,.at (.day a b),h=>by unfold Lr at h ⊢;obtain⟨p,e,h⟩:=h;exact⟨p,e,s _ _ h⟩
 |v,.at (.ovr m),h=>by unfold Lr at h ⊢;obtain⟨p,e,h⟩:=h;exact⟨p,e,s _ _ h⟩
 |v,.no t,h=>by
  unfold Lr at h ⊢;obtain⟨p,w,e,h,r⟩:=h;exact⟨p,w,e,s _ _ h,Lr.same s t r⟩
 |v,.al j,h=>by
  unfold Lr at h ⊢;obtain⟨p,l,vs,e,h,g,r⟩:=h;exact⟨p,l,vs,e,s _ _ h,s _ _ g,TrsAt.same s j r⟩
 |v,.so j,h=>by
  unfold Lr at h ⊢;obtain⟨p,l,vs,e,h,g,r⟩:=h;exact⟨p,l,vs,e,s _ _ h,s _ _ g,TrsAt.same s j r⟩
theorem TrsAt.same {H H':Hp} (s:Dg H H'):∀ {vs} (g:List Gf),TrsAt H vs g->TrsAt H' vs g
 |[],[],_=>by unfold TrsAt;trivial
 |v::vs,t::g,h=>by
  unfold TrsAt at h ⊢;exact⟨Lr.same s t h.1,TrsAt.same s g h.2⟩
 |[],_::_,h=>by unfold TrsAt at h;exact h.elim
 |_::_,[],h=>by unfold TrsAt at h;exact h.elim
end
theorem CdsAt.len {κ:A8}:∀ {vs} {g},CdsAt κ H vs g->vs.length=g.length
 |[],[],_=>rfl
 |v::vs,t::g,h=>by
  unfold CdsAt at h;rw[zAf,zAf,CdsAt.len h.2]
 |[],_::_,h=>by unfold CdsAt at h;exact h.elim
 |_::_,[],h=>by unfold CdsAt at h;exact h.elim
theorem TrsAt.len:∀ {vs} {g},TrsAt H vs g->vs.length=g.length
 |[],[],_=>rfl
 |v::vs,t::g,h=>by
  unfold TrsAt at h;rw[zAf,zAf,TrsAt.len h.2]
 |[],_::_,h=>by unfold TrsAt at h;exact h.elim
 |_::_,[],h=>by unfold TrsAt at h;exact h.elim
theorem CdsAt.get {κ:A8}:∀ {vs} {g} {i:Nat} {v},CdsAt κ H vs g->vs[i]?=ZC v->∃ t,g[i]?=ZC t/\XA κ H v t
 |[],[],_,_,_,e=>by simp at e
 |v::vs,t::g,0,u,h,e=>by
  unfold CdsAt at h;simp at e;subst e;exact⟨t,rfl,h.1⟩
 |v::vs,t::g,i+1,u,h,e=>by
  unfold CdsAt at h;obtain⟨q,j,r⟩:=CdsAt.get (i:=i) h.2 (by simpa using e);exact⟨q,by simpa using j,r⟩
 |[],_::_,_,_,h,_=>by unfold CdsAt at h;exact h.elim
 |_::_,[],_,_,h,_=>by unfold CdsAt at h;exact h.elim
theorem TrsAt.get:∀ {vs} {g} {i:Nat} {v},TrsAt H vs g->vs[i]?=ZC v->∃ t,g[i]?=ZC t/\Lr H v t
 |[],[],_,_,_,e=>by simp at e
 |v::vs,t::g,0,u,h,e=>by
  unfold TrsAt at h;simp at e;subst e;exact⟨t,rfl,h.1⟩
 |v::vs,t::g,i+1,u,h,e=>by
  unfold TrsAt at h;obtain⟨q,j,r⟩:=TrsAt.get (i:=i) h.2 (by simpa using e);exact⟨q,by simpa using j,r⟩
 |[],_::_,_,_,h,_=>by unfold TrsAt at h;exact h.elim
 |_::_,[],_,_,h,_=>by unfold TrsAt at h;exact h.elim
theorem CdsAt.snoc {κ:A8}:∀ {vs} {g} {v} {t},CdsAt κ H vs g->XA κ H v t->CdsAt κ H (vs++[v]) (g++[t])
 |[],[],v,t,_,r=>by
  show CdsAt κ H [v] [t];unfold CdsAt;exact⟨r,by unfold CdsAt;trivial⟩
 |v::vs,t::g,j,q,h,r=>by
  unfold CdsAt at h;show CdsAt κ H (v::(vs++[j])) (t::(g++[q]));unfold CdsAt;exact⟨h.1,CdsAt.snoc h.2 r⟩
 |[],_::_,_,_,h,_=>by unfold CdsAt at h;exact h.elim
 |_::_,[],_,_,h,_=>by unfold CdsAt at h;exact h.elim
def Ph {t:Gf} {m:Nat} (h:hgts ts<m) (i:Nat) (e:ts[i]?=ZC t):Nc t<m:=by
 induction ts generalizing i with
 |nil=>simp at e
 |cons u g ih=>
  unfold hgts at h;cases i with
  |zero=>simp at e;subst e;lia
  |succ i=>exact ih (by lia) i (by simpa using e)
def X9 {g:List Gf} {t:Gf} {x:LS} {i:Nat} (e:g[i]?=ZC t):hAll (g.drop i) x=(hT t x&&hAll (g.drop (i+1)) x):=by
 rw[zBt (zAk.mp e).1,(zAk.mp e).2,hAll]
def R7 {g:List Gf} {t:Gf} {x:LS} {i:Nat} (e:g[i]?=ZC t):hSom (g.drop i) x=(hT t x||hSom (g.drop (i+1)) x):=by
 rw[zBt (zAk.mp e).1,(zAk.mp e).2,hSom]
def TK:¬ (("first" : ZM)="last"):=by ac_nf
def AB (n:ZM):(Kc (.cau n)).lookup ("name" : ZM)=ZC (.str n):=by unfold Kc;rw[Ak,ZJ rfl]
def BQ (n:ZM):(Kc (.thi n)).lookup ("name" : ZM)=ZC (.str n):=by unfold Kc;rw[Ak,ZJ rfl]
def GZ (a b:Int):(Kc (.day a b)).lookup ("last" : ZM)=ZC (.int b):=by unfold Kc;rw[Ak,ZJ rfl]
def EM (a b:Int):(Kc (.day a b)).lookup ("first" : ZM)=ZC (.int a):=by unfold Kc;rw[Ak,ZH TK,Ak,ZJ rfl]
def BK (m:Int):(Kc (.ovr m)).lookup ("cents" : ZM)=ZC (.int m):=by unfold Kc;rw[Ak,ZJ rfl]
def E9 (f:ZM) (v:V):(Ar f v []).lookup f=ZC v:=by rw[Ak,ZJ rfl]
def Fn {f g:ZM} (h:¬ g=f) (v:V):(Ar f v []).lookup g=ZD:=by rw[Ak,ZH h];rfl
def N5 (c:Co) {m:ZM} (h1:¬ m="name") (q:¬ m="first") (g:¬ m="last") (j:¬ m="cents"):(Kc c).lookup m=ZD:=by
 cases c with
 |alw=>rfl
 |cau n=>unfold Kc;rw[Ak,ZH h1];rfl
 |thi n=>unfold Kc;rw[Ak,ZH h1];rfl
 |day a b=>unfold Kc;rw[Ak,ZH g,Ak,ZH q];rfl
 |ovr m=>unfold Kc;rw[Ak,ZH j];rfl
def XA.obj {κ:A8} {H:Hp} {v:V} {t:Gf} (h:XA κ H v t):∃ p dx fs,v=.ref p/\H p=ZC (.ins (κ.of t) dx fs) /\
  fs.lookup ("holds" : ZM)=ZD/\fs.lookup ("rank" : ZM)=ZD/\fs.lookup ("words" : ZM)=ZD/\fs.lookup ("marks" : ZM)=ZD:=by
 cases t with
 |«at» c=>
  unfold XA at h;obtain⟨p,dx,e,h⟩:=h;exact⟨p,dx,_,e,h,N5 c (by ac_nf) (by ac_nf) (by ac_nf) (by ac_nf),N5 c (by ac_nf) (by ac_nf) (by ac_nf) (by ac_nf),N5 c (by ac_nf) (by ac_nf) (by ac_nf) (by ac_nf),N5 c (by ac_nf) (by ac_nf) (by ac_nf) (by ac_nf)⟩
 |no t=>
  unfold XA at h;obtain⟨p,dx,w,e,h,_⟩:=h;exact⟨p,dx,_,e,h,Fn (by ac_nf) _,Fn (by ac_nf) _,Fn (by ac_nf) _,Fn (by ac_nf) _⟩
 |al g=>
  unfold XA at h;obtain⟨p,dx,l,vs,e,h,_⟩:=h;exact⟨p,dx,_,e,h,Fn (by ac_nf) _,Fn (by ac_nf) _,Fn (by ac_nf) _,Fn (by ac_nf) _⟩
 |so g=>
  unfold XA at h;obtain⟨p,dx,l,vs,e,h,_⟩:=h;exact⟨p,dx,_,e,h,Fn (by ac_nf) _,Fn (by ac_nf) _,Fn (by ac_nf) _,Fn (by ac_nf) _⟩
def Nw (H H':Hp):Hp:=λb=>match H b with
 |none=>H' b
 |some _=>ZD
def Nw.of {H H':Hp} {b:ZF} {o:HO} (h:H b=ZD) (e:H' b=ZC o):Nw H H' b=ZC o:=by
 unfold Nw;rw[h];exact e
def Nw.at {H H':Hp} {b:ZF} {o:HO} (e:Nw H H' b=ZC o):H b=ZD/\H' b=ZC o:=by
 unfold Nw at e;cases h:H b with
 |none=>rw[h] at e;exact⟨rfl,e⟩
 |some o'=>rw[h] at e;cases e
def Nw.sub (H H':Hp):Dg (Nw H H') H':=λb o e=>(Nw.at e).2
def Nw.grow (s:∀ b o,H b=ZD->H1 b=ZC o->H2 b=ZC o):Dg (Nw H H1) (Nw H H2):=λb o e=>Nw.of (Nw.at e).1 (s b o (Nw.at e).1 (Nw.at e).2)
def PH (H:Hp) (t:ZF) (x:LS):Prop:=∃ ev,∃ n:Int,H t=ZC (.tup [.int n,.int x.d,.str ev,.str x.th,.str x.ca,.int x.ct])
mutual
def Xf (φ:Co->Prop):Gf->Prop
 |.at c=>φ c
 |.no t=>Xf φ t
 |.al ts=>2<=ts.length/\ts.length<=8/\okTs φ ts
 |.so ts=>2<=ts.length/\ts.length<=8/\okTs φ ts
def okTs (φ:Co->Prop):List Gf->Prop
 |[]=>True
 |t::ts=>Xf φ t/\okTs φ ts
end
def Q3 {φ:Co->Prop} (h:okTs φ j):∀ t∈j,Xf φ t:=by
 induction j with
 |nil=>intro t q;cases q
 |cons t j ih=>
  unfold okTs at h;intro u g;rcases zAj.mp g with rfl|g
  .exact h.1
  .exact ih h.2 u g
end L2
namespace L2
open PySem PySem.Spec PyProof PyProof.Rows
def Jz {X} {K} {f} {pos} {e} {ta} (j:PE X e ta) (g:dB e f X.env (aM e X.env)=aM e X.env) (q:X.K=K:=by rfl):PE X (.Attribute e f pos) (PK K ta f):=q▸Bc j g
def CQ {X:Cx}:NX X "str.join" (λx vs H Q=>∃ z p ps,x=.str z/\vs=[.ref p]/\Dp X.K H p (ps.map V.str)/\ps.length<=1000/\z.length<=100/\(∀ y∈ps,y.length<=1000)/\Q (.str (bO z ps)) H):=by
 intro pins s σ H x vs v us Q I rx Y h;obtain⟨z,p,ps,rfl,rfl,hl,S,hz,M,q⟩:=h;obtain⟨t,rfl⟩:=rx;obtain⟨w,rfl,ru⟩:=Y.one;cases ru;obtain⟨Z,r,U,_⟩:=I.list hl;obtain⟨l,rfl,e⟩:=M9 r;let z1:ps.length*1000<=1000*1000:=Nat.mul_le_mul_right _ S;let z2:ps.length*z.length<=1000*100:=Nat.mul_le_mul S hz;let j:Builtin.Str.tooLong (ps.toArray.foldl (· + ·.length+z.length) 0)=ZK:=StrLaws.joinFits M (by lia);let L:(bO z ps).length<=sizeLine:=by
  refine zAD (L0 M) ?_;rw[zCH,Nat.mul_add]
  lia
 refine eO F.slot_str_join (eI _ _ _) F.entry_str_join (F.args_str_join_2 _ _) (meets_str_join_list z t p l (by rw[e];exact j)) ⟨U.isList,?_⟩;let el:l.length=ps.length:=by rw[<- e,zAc]
 match l,el,e with
 |[],_,e=>
  let B:ps=[]:=by rw[<- e];rfl
  subst B;let g:joinMade z []=.str (bO z []):=by show Made.str (kM _ _)=_;rw[kI];rfl
  rw[g];exact⟨L,⟨.str _,H,I.tok _,⟨_,rfl⟩,q⟩⟩
 |[(y,u)],_,e=>
  let B:ps=[y]:=by rw[<- e];rfl
  subst B;exact⟨.str y,H,I,⟨u,rfl⟩,q⟩
 |a::b::c,_,e=>
  let g:joinMade z (a::b::c)=.str (bO z ps):=by show Made.str (kM _ _)=_;rw[kI,e]
  rw[g];exact⟨L,⟨.str _,H,I.tok _,⟨_,rfl⟩,q⟩⟩
end L2
namespace CST
open PySem
def set_of_strs {l:ZF} {items:Array ZE} {ns:List ZM} {Q:ZE->ZG->Prop} (q:A.handled=ZD) (hl:s.heap.IsList l items) (hi:∀ (i:Nat) (v:ZE),items[i]?=ZC v->∃ t,v=.str (ns.getD i gM) t) (j:items.size=ns.length) (g:items.size+1<cU)
  (h:∀ (h':aB) (tk:Nat) (ks:List ZM),XY (strKind prog w) h' ⇑s ks->(∀ y,y∈ks↔y∈ns)->ks.length<=items.size->(∀ b o,s.heap.get? b=ZC o->h'.get? b=ZC o)->Q (.ref ⇑s) { s with heap:=h',toks:=tk }) :
  ZP (ZS prog w) A (call (.type "set") [.ref l]) Q E s:=
 A4 (mk:=.str) (λ_ _=>strKind_is _ _ _ _) (λ_ _=>rfl) gM q hl hi j g h
end CST
namespace L2
open PySem PySem.Spec PyProof PyProof.Rows
section
variable {α:Type} [DecidableEq α]
theorem Mi:∀ {ks ss:List α},ks.Nodup->(∀ y∈ks,y∈ss)->ks.length<=ss.length
 |[],_,_,_=>zAw _
 |k::ks,ss,g,h=>by
  rw[zAT] at g;let j:=h k zAd;let ih:=Mi (ks:=ks) (ss:=ss.erase k) g.2 λy q=>(zCq (λz=>g.1 (by rw[<- z];exact q))).mpr (h y (zAb _ q));rw[zBT j] at ih;let:0<ss.length:=zCd j;rw[zAf]
  lia
theorem Xk:∀ {ss:List α},¬ ss.Nodup->∃ x,x∈ss/\x∈ss.erase x
 |[],h=>ZR jT h
 |y::t,h=>by
  by_cases c:y∈t
  .exact⟨y,zAd,by rw[List.erase_cons_head];exact c⟩
  .obtain⟨x,h1,g⟩:=Xk (ss:=t) (λz=>h (zAT.mpr ⟨c,z⟩))
   let ne:¬ (y==x)=ZI:=λz=>c (by rw[beq_iff_eq.mp z];exact h1);exact⟨x,zAb _ h1,by rw[List.erase_cons_tail ne];exact zAb _ g⟩
def BG {ks ss:List α} (j:ks.Nodup) (m:∀ y,y∈ks↔y∈ss):(ss.Nodup->ks.length=ss.length)/\(¬ ss.Nodup->ks.length<ss.length):=by
 refine⟨λh=>Nat.le_antisymm (Mi j λy g=>(m y).mp g) (Mi h λy g=>(m y).mpr g),λh=>?_⟩;obtain⟨x,h1,q⟩:=Xk h;let:=Mi (ss:=ss.erase x) j λy g=>by
  by_cases c:y=x
  .rw[c];exact q
  .exact (zCq c).mpr ((m y).mp g)
 rw[zBT h1] at this;let:0<ss.length:=zCd h1
 lia
end
theorem Q1:∀ {ss:List ZM} {us:List ZE},Fy (ss.map V.str) us->∀ (i:Nat) (v:ZE),us[i]?=ZC v->∃ t,v=.str (ss.getD i gM) t
 |[],_,.nil,i,v,e=>by simp at e
 |_::_,_::_,.cons r _,0,v,e=>by
  simp at e;subst e;obtain⟨t,rfl⟩:=r;exact⟨t,rfl⟩
 |_::ss,_::us,.cons _ q,i+1,v,e=>by
  obtain⟨t,rfl⟩:=Q1 q i v (by simpa using e);exact⟨t,by simp⟩
def HN (K:zAa) (te:TE):TE:=λσ H Q=>te σ H λx H1=>∃ a ss,x=.ref a/\Dp K H1 a (bI V.str ss)/\ss.length<60/\∀ n:Nat,(ss.Nodup->n=ss.length)->(¬ ss.Nodup->n<ss.length)->Q (.int (n:Int)) H1
def T4 {e:bA} {te:TE} {p1 p2 z j:Pos} (he:PE X e te) (hc:X.calm=ZI) (U:Gl X "len") (Z:X.mg "len"=ZD) (S:Gl X "set") (Y:X.mg "set"=ZD)
  (M:zCI "len"=ZC (.builtin "len"):=by rfl) (hv2:zCI "set"=ZC (.type "set"):=by rfl)
  (hs1:ZU [.Call (.Name "set" p2) [e] [] j] X.env=[(ZK,aM (.Call (.Name "set" p2) [e] [] j) X.env)]:=by rfl) (hs2:ZU [e] X.env=[(ZK,aM e X.env)]:=by rfl) :
  PE X (.Call (.Name "len" p1) [.Call (.Name "set" p2) [e] [] j] [] z) (HN X.K te):=by
 intro pins s σ H Q I h;refine aN (Fz I U Z M ?_ (by lk) (by lk));refine cX ?_ hs1 rfl;rw[hs1];show ZP _ _ (lB ((ZK,aM (.Call (.Name "set" p2) [e] [] j) X.env)::bC z [])) _ _ s;refine bH ?_;refine aN (Fz I S Y hv2 ?_ (by lk) (by lk));refine aU ?_ hs2 rfl;rw[hs2];show ZP _ _ (lB ((ZK,aM e X.env)::bC j [])) _ _ s;refine bH (Cb (he pins s σ H _ I h) λu s1 ⟨x,H1,I1,r1,a,ss,ex,hq,ab,q⟩=>?_);subst ex;cases r1;refine bR ?_;obtain⟨B,rv,pl,hz⟩:=I1.list hq;let hl:=rv.length;rw[zAc] at hl;let hh:X.A.handled=ZD:=I.ok.hd hc;let hv:∀ (i:Nat) (v:ZE),B.toArray[i]?=ZC v->∃ t,v=.str (ss.getD i gM) t:=λi v e=>by
  rw[zCo] at e;exact Q1 rv i v e
 refine CST.set_of_strs (items:=B.toArray) (ns:=ss) hh pl.isList hv (by rw[zAi];exact hl.symm) (by rw[zAi];unfold cU;lia) λh2 tk F g mem len k2=>?_;refine bR ?_;rw[zAi] at len;obtain⟨o,es,ep,t,ho,L,hd,hp,nd,aa,hf,_⟩:=g;obtain⟨z1,z2⟩:=BG nd mem;let le:es.size=F.length:=by rw[<- zAE];exact hp.length
 refine call_len_set (s:={ s1 with heap:=h2,toks:=tk }) ho L hd hf (by lia) ?_;exact⟨.int (F.length:Int),H1,I1.kept (h':=h2) k2,⟨_,by rw[le]⟩,q F.length z1 z2⟩
end L2
namespace L2
open PySem PySem.Spec PyProof.Rows PySem.W
section
variable {prog:ZO} {w:ZX} {A:aE} {E:ZE->ZG->Prop} {s:ZG}
def N1:ZE->Prop
 |.int _ _=>True
 |.str _ _=>True
 |_=>False
theorem Xv {Q:Bool->ZG->Prop}:∀ {xs:List ZE} (i:Nat),(∀ v∈xs,N1 v)->Q ZK s->KatLex prog w A ZI ZK Q (xs.zip xs) i s
 |[],i,_,h=>kat_nil h
 |v::xs,i,p,h=>by
  let ih:=Xv (xs:=xs) (i+1) (λu g=>p u (zAb _ g)) h;let pv:=p v zAd;rw[gY];cases v with
  |int n t=>
   refine kat_cons (fX ?_);rw[kW];exact kat_yes ih
  |str n t=>
   refine kat_cons (wpAny_eqBool_str ?_);rw[ZN rfl];exact kat_yes ih
  |_=>exact pv.elim
def YJ (h:aB):List ZE->List Int->Prop
 |[],[]=>True
 |v::vs,r::rs=>(∃ (t:ZF) (u:Tok) (more:List ZE),v=.ref t/\mC h t (dJ r u::more).toArray/\∀ z∈more,N1 z)/\YJ h vs rs
 |_,_=>False
theorem YJ.keep {h h':aB} (j:∀ b o,h.get? b=ZC o->h'.get? b=ZC o):∀ {vs} {g:List Int},YJ h vs g->YJ h' vs g
 |[],[],_=>trivial
 |[],_::_,z=>z.elim
 |_::_,[],z=>z.elim
 |v::vs,r::g,⟨⟨t,u,m,e,⟨o,B,F⟩,z⟩,q⟩=>⟨⟨t,u,m,e,⟨o,j _ _ B,F⟩,z⟩,q.keep j⟩
theorem YJ.at {h:aB}:∀ {vs} {g:List Int} {i:Nat},YJ h vs g->i<vs.length->∃ (t:ZF) (u:Tok) (more:List ZE),vs.getD i bD=.ref t/\mC h t (dJ (g.getD i 0) u::more).toArray/\∀ z∈more,N1 z
 |[],[],_,_,z=>by simp at z
 |[],_::_,_,z,_=>z.elim
 |_::_,[],_,z,_=>z.elim
 |v::vs,r::g,0,⟨⟨t,u,m,e,z⟩,q⟩,_=>⟨t,u,m,e,z⟩
 |v::vs,r::g,i+1,⟨_,q⟩,l=>q.at (i:=i) (by simpa using l)
theorem YJ.len {h:aB}:∀ {vs} {g:List Int},YJ h vs g->vs.length=g.length
 |[],[],_=>rfl
 |[],_::_,z=>z.elim
 |_::_,[],z=>z.elim
 |v::vs,r::g,z=>by rw[zAf,zAf,z.2.len]
theorem YJ.firsts {h:aB}:∀ {vs} {g:List Int},YJ h vs g->∃ fs:List ZE,KatTups h vs fs/\fs.length=vs.length/\∀ v∈fs,∃ (n:Int) (t:Tok),v=.int n t
 |[],[],_=>⟨[],trivial,rfl,λ_ z=>nomatch z⟩
 |[],_::_,z=>z.elim
 |_::_,[],z=>z.elim
 |v::vs,r::g,⟨⟨t,u,m,e,⟨o,F,B,n,j⟩,U⟩,q⟩=>by
  obtain⟨fs,h1,M,L⟩:=q.firsts;refine⟨.int r u::fs,⟨⟨t,o,_,n,e,F,B,j,by simp⟩,h1⟩,by rw[zAf,zAf,M],λy S=>?_⟩;rcases zAj.mp S with z|z
  .exact⟨r,u,z⟩
  .exact L y z
def HF {g:List Int} (B:g.Nodup) {i j:Nat} (hi:i<g.length) (q:j<g.length) (e:g.getD i 0=g.getD j 0):i=j:=by
 rw[zAr,zAr,zAe hi,zAe q] at e;let z:g[i]=g[j]:=e;rcases zBy i j with c|c|c
 .exact ZR z ((zAH.mp B) i j hi q c)
 .exact c
 .exact ZR z.symm ((zAH.mp B) j i q hi c)
def Yz {vs:List ZE} {g:List Int} (T:YJ s.heap vs g) (nd:g.Nodup) (ac:2<=vs.length):DJ prog w A vs YF (λi=>[g.getD i 0]) s:=by
 obtain⟨fs,h1,h2,h3⟩:=T.firsts;let lr:=T.len;refine⟨tuples' (aY "int" != aY "tuple"),λQ E q=>kat_kind h1 (by lia) (λv U=>?_) rfl q,λi j hi hj C B=>?_⟩
 .obtain⟨n,t,rfl⟩:=h3 v U
  exact Uc n t
 .have nb:(aY "int" != aY "tuple")=ZI:=by ac_nf
  rw[nb];obtain⟨t,u,m,e,⟨o,S,hc,n,M⟩,Y⟩:=T.at hi;by_cases c:i=j
  .subst c
   rw[e];refine kat_lt S M S M ?_;rw[ZQ (zBq _)];rw[show YF.blt [g.getD i 0] [g.getD i 0]=ZK from Ku _] at B;refine Xv 0 (λz Z=>?_) B;rcases zAj.mp Z with y|y
   .rw[y];trivial
   .exact Y z y
  .obtain⟨t',u',m',e',⟨o',L,aa,n',F⟩,ab⟩:=T.at hj
   let ne:¬ g.getD i 0=g.getD j 0:=λz=>c (HF nd (by lia) (by lia) z);rw[e,e'];refine kat_lt S M L F ?_;show KatLex prog w A ZI _ C ((dJ (g.getD i 0) u::m).zip (dJ (g.getD j 0) u'::m')) 0 s;rw[gY];refine kat_cons (fX ?_);rw[show (g.getD i 0==g.getD j 0)=ZK by simpa using ne];refine kat_no (oneLt_int ?_);let eb:YF.blt [g.getD i 0] [g.getD j 0]=decide (g.getD i 0<g.getD j 0):=by
    show HT.lexLt [g.getD i 0] [g.getD j 0]=_;rw[HT.lexLt_cons,ZH ne]
   rw[eb] at B;exact B
end
def ER:V->Bool
 |.int _=>ZI
 |.str _=>ZI
 |_=>ZK
def ZA (K:zAa) (H:Hp):List V->List Int->Prop
 |[],[]=>True
 |y::ys,r::rs=>(∃ t more,y=.ref t/\Hx K H t (.int r::more)/\more.all ER=ZI)/\ZA K H ys rs
 |_,_=>False
theorem Re:∀ {g} {us},g.all ER=ZI->Fy g us->∀ z∈us,N1 z
 |_,_,_,.nil,_,h=>nomatch h
 |x::g,u::us,a,.cons r q,z,h=>by
  rw[zCr,zAo] at a;rcases zAj.mp h with e|e
  .subst e
   cases x with
   |int n=>obtain⟨t,rfl⟩:=r;trivial
   |str n=>obtain⟨t,rfl⟩:=r;trivial
   |_=>exact ZR a.1 zAt
  .exact Re a.2 q z e
theorem ZA.vals {s:ZG} (I:Ed X pins σ H s):∀ {ys} {j:List Int} {us},ZA X.K H ys j->Fy ys us->YJ s.heap us j
 |[],[],_,_,.nil=>trivial
 |[],_::_,_,z,_=>z.elim
 |_::_,[],_,z,_=>z.elim
 |y::ys,r::j,_,⟨⟨t,m,e,h,F⟩,q⟩,.cons B S=>by
  subst e;cases B;obtain⟨M,g,p,_⟩:=I.tuple h;cases g with
  |cons U L=>
   obtain⟨u,rfl⟩:=U;exact⟨⟨t,u,_,rfl,p,Re F L⟩,q.vals I S⟩
def LN (K:zAa):List V->Hp->VK->Prop:=λxs H Q=>∃ a ys rs,xs=[.ref a]/\Dp K H a ys/\ys.length<64/\ZA K H ys rs/\rs.Nodup /\
 ∀ (l:ZF) (p:Array Nat),H l=ZD->CRS.Pm ys.length p->CRS.Up (O:=YF) (λi=>[rs.getD i 0]) p ys.length->Q (.ref l) (upd H l (.lst (p.toList.map λi=>ys.getD i .non)))
def Vf:Fq X (.builtin "sorted") (LN X.K):=by
 intro pins s σ H xs us Q I r h;obtain⟨a,ys,rs,rfl,hq,M,T,U,q⟩:=h;obtain⟨u,rfl,Z⟩:=Ki r;cases Z;obtain⟨g,j,L,hz⟩:=I.list hq;let hl:=j.length;let Y:=T.vals I j;refine W0 (O:=YF) (key:=λi=>[rs.getD i 0]) L.isList (by lia) (λA' h' S z=>Yz (s:={ s with heap:=h' }) (Y.keep S) U z) λp B F=>?_;obtain⟨e,he⟩:=sortedAll_at s.heap g (Gy g p).toArray;let lp:(p.toList.map λi=>ys.getD i .non).length<=sizeLine:=by
  rw[zAc,zAE,B.size]
  lia
 rw[<- hl] at B F;exact⟨.ref (⇑s+1),_,I.laid (t':=s.toks) (λb o q=>sortedAll_old q) (zBE _) (show XF X.prog X.w _ _ _ (.lst _) from ⟨lp,Gy g p,e,Rp j _,he⟩),rfl,q _ p (I.hok.fresh (zBE _)) B F⟩
def T7 {α:Type} {S:List α} {d:α} {f:α->Int} {p:Array Nat} (hp:CRS.Pm S.length p) (up:CRS.Up (O:=YF) (λi=>[(S.map f).getD i 0]) p S.length) (nd:(S.map f).Nodup) :
  (p.toList.map λi=>S.getD i d).Perm S/\(p.toList.map λi=>S.getD i d).Pairwise (λx y=>f x<f y):=by
 let U:p.toList.Perm (zAS S.length):=by
  let:=zBC.mp hp
  simpa using this
 let e:(zAS S.length).map (λi=>S.getD i d)=S:=by
  apply oQ
  .simp
  .intro i h1 h2
   simp [zAr,zAe h2]
 let Z:(p.toList.map λi=>S.getD i d).Perm S:=by
  let:=U.map (λi=>S.getD i d);rw[e] at this;exact this
 refine⟨Z,?_⟩;let L:((p.toList.map λi=>S.getD i d).map f).Nodup:=(Z.map f).nodup_iff.mpr nd;let sz:=hp.size;rw[zAH];intro i j hi hj M;let B:i<p.size:=by simpa using hi
 let q:j<p.size:=by simpa using hj
 let u:=up i j (by lia) (by lia);let lt:∀ k (g:k<p.size),p.getD k 0=p[k]/\p[k]<S.length:=λk g=>by
  refine⟨by simp [zBP,g],?_⟩;let m:p[k]∈p.toList:=by simp
  let:=U.mem_iff.mp m
  simpa using this
 obtain⟨a1,a2⟩:=lt i B;obtain⟨b1,b2⟩:=lt j q;let fa:∀ k (g:k<S.length),(S.map f).getD k 0=f (S.getD k d):=λk g=>by
  simp [zAr,zAx,zAe g]
 let ne:f (S.getD p[i] d)≠f (S.getD p[j] d):=by
  let:=(zAH.mp (zAW.mp L)) i j (by simpa using B) (by simpa using q) M
  simpa using this
 let Y:¬ YF.blt [(S.map f).getD (p.getD j 0) 0] [(S.map f).getD (p.getD i 0) 0]=ZI:=by
  let u':YF.blt [(S.map f).getD (p.getD j 0) 0] [(S.map f).getD (p.getD i 0) 0]=ZK:=u;rw[u'];exact zAt
 rw[a1,b1,fa _ a2,fa _ b2] at Y;let F:¬ HT.lexLt [f (S.getD p[j] d)] [f (S.getD p[i] d)]=ZI:=Y;rw[HT.lexLt_cons,ZH ne.symm] at F;let:¬ f (S.getD p[j] d)<f (S.getD p[i] d):=λz=>F (ZN z);simp only [zBk,gB]
 lia
end L2
namespace L2
open PySem PySem.Spec PyProof.Rows
def C1 {K K'} {a} {xs} {tc} {te} {σ} {ix:List Nat} {QQ:Hp->Prop} {H1} {p} (g:Nat->List V->Hp->Prop) (h0:g 0 [] (upd H1 p (.lst [])))
  (hp:∀ i ys H,i<=xs.length->g i ys H->H p=ZC (.lst ys)/\ys.length<=i/\Dp K H a xs) (hn:xs.length<=sizeLine)
  (hs:∀ i x ys H,xs[i]?=ZC x->g i ys H->∃ t y z u w,x=.ref t/\Hx K' H t [y,z,u,w]/\tc (ZC y::ZC z::ZC u::ZC w::Di ix σ) H λb H5=>if b=ZI then te (ZC y::ZC z::ZC u::ZC w::Di ix σ) H5 λv H6=>H6 p=ZC (.lst ys) /\
   (ZC y::ZC z::ZC u::ZC w::Di ix σ)=(ZC y::ZC z::ZC u::ZC w::Di ix σ)/\g (i+1) (ys++[v]) (upd H6 p (.lst (ys++[v]))) else (ZC y::ZC z::ZC u::ZC w::Di ix σ)=(ZC y::ZC z::ZC u::ZC w::Di ix σ)/\g (i+1) ys H5)
  (hd:∀ ys H,g xs.length ys H->QQ H) :
  Ot (Yv K' 4 (Ge (Cp 0) (Ge (Cp 1) (Ge (Cp 2) (Ge (Cp 3) K1))))) tc te 4 ix σ (Y5 K a) p H1 QQ:=by
 refine⟨λi m ys σ2 L=>m=xs.length-i/\i<=xs.length/\(∃ o o' U Y,σ2=o::o'::U::Y::Di ix σ)/\g i ys L,⟨xs.length,by simp,zAw _,⟨ZD,ZD,ZD,ZD,rfl⟩,h0⟩,?_⟩;rintro i m ys σ2 L ⟨rfl,hi,⟨o,o',U,Y,rfl⟩,pv⟩;obtain⟨M,aa,j⟩:=hp i ys L hi pv;refine⟨M,?_⟩;by_cases B:i<xs.length
 .refine .inr ⟨⟨xs,xs[i],j,by simp [B]⟩,by lia,λx H3 S=>?_⟩
  obtain⟨e,S⟩:=S;subst e;obtain⟨t,y,z,u,w,ex,ht,q⟩:=hs i x ys _ (S xs j) pv;subst ex;refine⟨λF Z H'=>Z=(ZC y::ZC z::ZC u::ZC w::Di ix σ)/\g (i+1) F H',λF Z H' ⟨e,q⟩=>⟨xs.length-(i+1),by lia,rfl,B,⟨_,_,_,_,e⟩,q⟩,?_⟩;exact⟨t,_,rfl,ht,rfl,_,_,rfl,_,_,rfl,_,_,rfl,_,_,rfl,rfl,q⟩
 .obtain rfl:i=xs.length:=by lia
  exact .inl ⟨⟨xs,j,zAl _⟩,hd ys L pv⟩
def TsAt {α:Type} (f:α->List V) (H:Hp):List V->List α->Prop
 |[],[]=>True
 |x::xs,z::zs=>(∃ t,x=.ref t/\H t=ZC (.tup (f z)))/\TsAt f H xs zs
 |_,_=>False
section
variable {α:Type}
theorem TsAt.len:∀ {xs} {zs:List α},TsAt f H xs zs->xs.length=zs.length
 |[],[],_=>rfl
 |[],_::_,h=>h.elim
 |_::_,[],h=>h.elim
 |x::xs,p::ps,h=>by rw[zAf,zAf,TsAt.len h.2]
theorem TsAt.mono {H H':Hp} (s:∀ t g,H t=ZC (.tup g)->H' t=ZC (.tup g)):∀ {xs} {zs:List α},TsAt f H xs zs->TsAt f H' xs zs
 |[],[],_=>trivial
 |[],_::_,h=>h.elim
 |_::_,[],h=>h.elim
 |x::xs,p::ps,⟨⟨t,e,h⟩,r⟩=>⟨⟨t,e,s _ _ h⟩,TsAt.mono s r⟩
theorem TsAt.snoc:∀ {xs} {zs:List α} {t} {z:α},TsAt f H xs zs->H t=ZC (.tup (f z))->TsAt f H (xs++[.ref t]) (zs++[z])
 |[],[],t,_,_,h=>⟨⟨t,rfl,h⟩,trivial⟩
 |[],_::_,_,_,r,_=>r.elim
 |_::_,[],_,_,r,_=>r.elim
 |x::xs,p::ps,_,_,⟨z,r⟩,h=>⟨z,TsAt.snoc r h⟩
theorem TsAt.get:∀ {xs} {zs:List α} {i:Nat} {x},TsAt f H xs zs->xs[i]?=ZC x->∃ t z,zs[i]?=ZC z/\x=.ref t/\H t=ZC (.tup (f z))
 |[],[],_,_,_,e=>by simp at e
 |[],_::_,_,_,h,_=>h.elim
 |_::_,[],_,_,h,_=>h.elim
 |x::xs,p::ps,0,y,⟨⟨t,e,h⟩,r⟩,q=>by
  simp at q;subst q;exact⟨t,p,rfl,e,h⟩
 |x::xs,p::ps,i+1,y,⟨_,r⟩,q=>by
  obtain⟨t,j,h1,g⟩:=TsAt.get (i:=i) r (by simpa using q);exact⟨t,j,by simpa using h1,g⟩
end
structure DfIn (K:zAa) (x:ZM) (st:bM) (f:ZF):Prop where
 ns:zAL K zCJ x=ZC (ZC (.ref f))
 ex:∃ (od an:Option ZF) (sl:Array (Option ZE)) (oc kV dc pm cd ct:ZE),K.lookup f=ZC ⟨oc,od,.func (zAU x x (Ck st) (Bp st) (Aq st) .none kV dc pm an cd ct),sl⟩/\zBi K cd x=ZI
 kp:zAP K (.ref f)=ZI
structure MtIn (K:zAa) (x qual:ZM) (st:bM) (f:ZF):Prop where
 fn:zBM K (.ref f)=ZI
 ex:∃ (od an:Option ZF) (sl:Array (Option ZE)) (oc kV dc pm cd ct:ZE),K.lookup f=ZC ⟨oc,od,.func (zAU x qual (Ck st) (Bp st) (Aq st) .none kV dc pm an cd ct),sl⟩/\zBi K cd qual=ZI
 kp:zAP K (.ref f)=ZI
structure XJ (K:zAa) (x:ZM) (C:ZF):Prop where
 ns:zAL K zCJ x=ZC (ZC (.ref C))
 pg:zCp K C gM=ZI
 hd:zCy K C=ZI
 po:gQ K C=ZI
 sa:zAM K (.ref C) "__setattr__"=ZC (ZC (.builtin "object.__setattr__"))
 mi:zCw K C=ZI
 kp:zAP K (.ref C)=ZI
def XJ.cl {K} {x} {C} (c:XJ K x C):YU K C:=⟨c.pg,c.hd,c.po,c.sa⟩
section
variable {K:zAa} {x qual:ZM} {st:bM} {f:ZF} {ps:List ZM}
def MtIn.get (d:MtIn K x qual st f)
  (L:∀ (kV g j:ZE) (z:Option ZF) (q B:ZE) (us:List ZE),us.length=ps.length->hG (zAU x qual (Ck st) (Bp st) (Aq st) .none kV g j z q B) ⟨us,[]⟩=pure (ps.zip us)):∃ fd,XS K x qual st f fd/\XM K fd ps []:=by
 obtain⟨M,z,U,S,kV,g,j,q,B,l,c⟩:=d.ex;let F:=Wg (x:=x) (qual:=qual) (st:=st) l c d.kp;exact⟨_,F,F.binds L⟩
end
def vE {α β:Type} {f:α->β} {y:β} {v:α} {R:α->Prop} (e:y=f v) (h:R v):∃ x,y=f x/\R x:=⟨v,e,h⟩
def DfIn.of {K} {x} {st} {f} {B z} {L} {F kV j q g M} (n:zAL K zCJ x=ZC (ZC (.ref f))) (l:K.lookup f=ZC ⟨F,B,.func (zAU x x (Ck st) (Bp st) (Aq st) .none kV j q z g M),L⟩) (c:zBi K g x=ZI) (k:zAP K (.ref f)=ZI):DfIn K x st f:=⟨n,⟨B,z,L,F,kV,j,q,g,M,l,c⟩,k⟩
def MtIn.of {K} {x qual} {st} {f} {B z} {L} {F kV j q g M} (n:zBM K (.ref f)=ZI) (l:K.lookup f=ZC ⟨F,B,.func (zAU x qual (Ck st) (Bp st) (Aq st) .none kV j q z g M),L⟩) (c:zBi K g qual=ZI) (k:zAP K (.ref f)=ZI):MtIn K x qual st f:=⟨n,⟨B,z,L,F,kV,j,q,g,M,l,c⟩,k⟩
def vF {α β γ δ:Type} {f:α->β} {g:γ->δ} {x:β} {y} {a:α} {b:γ} {R:α->γ->Prop} (e:x=f a) (q:y=g b) (h:R a b):∃ i j,x=f i/\y=g j/\R i j:=⟨a,b,e,q,h⟩
def vI {x y:V} {A:ZF->List V->Prop} {B:List V->Int->V->Prop} {R:V->Prop} {p:ZF} {xs:List V} {i:Int} {v:V} (e:x=.ref p) (g:y=.int i) (a:A p xs) (b:B xs i v) (h:R v):∃ p xs i v,x=.ref p/\y=.int i/\A p xs/\B xs i v/\R v:=⟨p,xs,i,v,e,g,a,b,h⟩
def vC {α:Type} {l:List α} {a:α} {t:List α} {R:α->List α->Prop} (e:l=a::t) (h:R a t):∃ v r,l=v::r/\R v r:=⟨a,t,e,h⟩
end L2
namespace L2
open PySem PySem.Spec PyProof.Rows PySem.W
def Ve {X} {K} (h:X.K=K):NZ X (MA K):=h▸DX
theorem A6:∀ {xs},xs.all Eo=ZI->IJ xs xs=ZI
 |[],_=>rfl
 |x::xs,h=>by
  rw[zCr,zAo] at h;unfold IJ;rw[Xr h.1,A6 h.2];rfl
theorem Uf {K} {H}:∀ {vs},vs.all Eo=ZI->Reps K H (vs.map D.at) vs
 |[],_=>by rw[zBv];unfold Reps;rfl
 |v::vs,h=>by
  rw[zCr,zAo] at h;rw[zAp];unfold Reps;exact⟨v,vs,rfl,by unfold Qb;exact⟨rfl,h.1⟩,Uf h.2⟩
theorem Tx:∀ (vs us:List V),eqDs (vs.map D.at) (us.map D.at)=IJ vs us
 |[],[]=>by rw[zBv];unfold eqDs IJ;rfl
 |v::vs,u::us=>by
  rw[zAp,zAp];unfold eqDs IJ Y4;rw[Tx vs us]
 |[],_::_=>by rw[zBv,zAp];unfold eqDs IJ;rfl
 |_::_,[]=>by rw[zBv,zAp];unfold eqDs IJ;rfl
theorem Hk:∀ (vs:List V),deps (vs.map D.at)=0
 |[]=>by rw[zBv];unfold deps;rfl
 |v::vs=>by
  rw[zAp];unfold deps LD;rw[Hk vs];rfl
def Pl {K} {H} {t} {vs} (h:H t=ZC (.tup vs)) (f:vs.all Eo=ZI):Qb K H (.seq ZI (vs.map D.at)) (.ref t):=by
 unfold Qb;exact⟨t,vs,rfl,λ_=>Hx.of h,λe=>Bool.noConfusion e,Uf f⟩
end L2
namespace CRL
open PySem L2
def OY {α:Type} (key:α->List Int) (a b:α):Prop:=HT.lexLt (key b) (key a)=ZK
def T5 {α:Type} (d:α) (ps:List α):(zAS ps.length).map (λi=>ps.getD i d)=ps:=by
 apply oQ
 .simp
 .intro i h1 g
  simp [g]
def XR {α:Type} {p:Array Nat} {es:List α} (d:α) (key:α->List Int) (h:CRS.Pm es.length p) (u:CRS.Up (O:=YF) (λi=>(es.map key).getD i []) p es.length) :
  (p.toList.map λi=>es.getD i d).Perm es/\(p.toList.map λi=>es.getD i d).Pairwise (OY key):=by
 constructor
 .have z:=(zBC.mp h).map λi=>es.getD i d
  simp only [gN] at z;rw[T5] at z;exact z
 .rw[zAH]
  intro i j hi Z B;let sz:=h.size;let q:j<es.length:=by simpa [sz] using Z
  let aa:i<es.length:=by lia
  let L:0<es.length:=by lia
  let z:=u i j (zCi B) q;let Y:p.getD i 0=p[i]'(by lia):=by simp [zBP,show i<p.size by lia]
  let aj:p.getD j 0=p[j]'(by lia):=by simp [zBP,show j<p.size by lia]
  let M:=h.lt L i;let S:=h.lt L j;let g:∀ k,k<es.length->(es.map key).getD k []=key (es.getD k d):=λk U=>by simp [U]
  let F:HT.lexLt ((es.map key).getD (p.getD j 0) []) ((es.map key).getD (p.getD i 0) [])=ZK:=z;rw[g _ M,g _ S] at F;rw[zBk,zBk,gB,gB,<- Y,<- aj];exact F
theorem _root_.L2.TsAt.pick {α:Type} {f:α->List V} {xs:List V} {es:List α} (d:α) (h:TsAt f H xs es):∀ l:List Nat,(∀ i∈l,i<xs.length)->TsAt f H (l.map λi=>xs.getD i .non) (l.map λi=>es.getD i d)
 |[],_=>trivial
 |i::l,hl=>by
  let hi:=hl i zAd;obtain⟨t,e,g,ex,z⟩:=h.get (i:=i) (zAe hi);refine⟨⟨t,?_,?_⟩,h.pick d l λj q=>hl j (zAb _ q)⟩
  .show xs.getD i .non=_
   rw[zAr,zAe hi];exact ex
  .show H t=ZC (.tup (f (es.getD i d)))
   rw[zAr,g];exact z
def P6 {α:Type} {fv:α->List V} {K:zAa} {a p:ZF} {xs:List V} {es:List α} {ix:List Nat} {QQ:Hp->Prop} (f:α->Bool) (U:H1 a=ZC (.lst xs)) (M:H1 p=ZD) (h:TsAt fv H1 xs es) (hl:es.length<=1000)
  (Y:∀ (t:ZF) (e:α) (g:Hp) (Q:Bool->Hp->Prop),e∈es->Dg H1 g->g t=ZC (.tup (fv e))->Q (f e) g->tc (ZC (.ref t)::Di ix σ) g Q) (Z:∀ (x:V) (g:Hp) (Q:VK),Q x g->te (ZC x::Di ix σ) g Q)
  (L:∀ ys,TsAt fv H1 ys (es.filter f)->QQ (upd H1 p (.lst ys))):Ot (Cp 0) tc te 1 ix σ (Y5 K a) p H1 QQ:=by
 let S:=h.len;let F:∀ ys:List V,Dg H1 (upd H1 p (.lst ys)):=λys=>Ac M _;refine Bk (K:=K) (a:=a) (xs:=xs) (λi ys g=>g=upd H1 p (.lst ys)/\ys.length<=i/\TsAt fv H1 ys ((es.take i).filter f)) ⟨rfl,zAl _,by rw[zBe];trivial⟩ (λi ys g _ ⟨e,l,_⟩=>⟨by rw[e];exact Aa,l,by rw[e];exact Dp.of (F ys _ _ U)⟩) (by rw[zCH];lia) (λi x ys g hi ⟨e,l,B⟩=>?_) (λys g ⟨e,l,B⟩=>?_)
 .obtain⟨t,j,q,ex,z⟩:=h.get hi
  subst e ex;refine Y t j _ _ (zAz q) (F ys) (F ys _ _ z) ?_;let fs:(es.take (i+1)).filter f=(es.take i).filter f++(if f j=ZI then [j] else []):=by
   rw[zBz,q,zBN]
   congr 1
   by_cases c:f j=ZI
   .rw[ZJ c]
    exact zBh c
   .rw[ZH c]
    exact zBo c
  rw[fs];by_cases c:f j=ZI
  .rw[ZJ c,ZJ c]
   refine Z _ _ _ ⟨Aa,rfl,by rw[Vx],by rw[zAm];exact zBU l,B.snoc z⟩
  .rw[ZH c,ZH c,zAY]
   exact⟨rfl,rfl,by lia,B⟩
 .rw[S,zAB] at B
  rw[e];exact L ys B
def O4 {α:Type} {fv:α->List V} {g:α->V} {K:zAa} {a p:ZF} {xs:List V} {es:List α} {ix:List Nat} {QQ:Hp->Prop} (Y:H1 a=ZC (.lst xs)) (S:H1 p=ZD) (h:TsAt fv H1 xs es) (hl:es.length<=1000)
  (Z:∀ (t:ZF) (e:α) (j:Hp) (Q:VK),e∈es->Dg H1 j->j t=ZC (.tup (fv e))->Q (g e) j->te (ZC (.ref t)::Di ix σ) j Q)
  (M:QQ (upd H1 p (.lst (es.map g)))):Ot (Cp 0) IC te 1 ix σ (Y5 K a) p H1 QQ:=by
 let U:=h.len;let L:∀ ys:List V,Dg H1 (upd H1 p (.lst ys)):=λys=>Ac S _;refine Bk (K:=K) (a:=a) (xs:=xs) (λi ys j=>j=upd H1 p (.lst ys)/\ys.length<=i/\ys=(es.take i).map g) ⟨rfl,zAl _,by rw[zBe];rfl⟩ (λi ys j _ ⟨e,l,_⟩=>⟨by rw[e];exact Aa,l,by rw[e];exact Dp.of (L ys _ _ Y)⟩) (by rw[zCH];lia) (λi x ys j hi ⟨e,l,B⟩=>?_) (λys j ⟨e,l,B⟩=>?_)
 .obtain⟨t,F,q,ex,z⟩:=h.get hi
  subst e ex;refine (Z t F _ _ (zAz q) (L ys) (L ys _ _ z) ⟨Aa,rfl,by rw[Vx],by rw[zAm];exact zBU l,?_⟩);rw[zBz,q,zAq,B];rfl
 .rw[U,zAB] at B
  rw[e,B];exact M
end CRL
namespace L2
open PySem PySem.Spec PyProof.Rows
section
variable {X:Cx} {K:zAa}
def Gg (h:X.K=K):NZ X (OH K):=h▸FV
def Lx (h:X.K=K):Kb X (dA .Add) (II K):=h▸FT
def Ce (h:X.K=K):Fq X (.type "list") (λxs H Q=>∃ p ys,xs=[.ref p]/\(Dp K H p ys\/Hx K H p ys)/\∀ l,H l=ZD->Q (.ref l) (upd H l (.lst ys))):=h▸Xd
def DR {l:bA} (h:X.K=K) (hl:PE X l tl):PI X tg l (EQ K tl):=h▸HZ hl
end
abbrev HB (x qual:ZM) (st:bM) (ps:List ZM):Prop:=∀ (kV dc pm:ZE) (an:Option ZF) (cd ct:ZE) (us:List ZE),us.length=ps.length->hG (zAU x qual (Ck st) (Bp st) (Aq st) .none kV dc pm an cd ct) ⟨us,[]⟩=pure (ps.zip us)
def Kv {lo:Int} {n:Nat} {g:TG} {tb:TS} {D:Lm} {σ:St} {H:Hp} (j:Nat->St->Hp->Prop) (S:j 0 σ H)
  (M:∀ i σ H,i<n->j i σ H->∀ N:St->Hp->Prop,(∀ σ H,j (i+1) σ H->N σ H)->g (.int (lo+i)) σ H λB q=>tb { D with nx:=N,ct:=N,bk:=D.nx } B q) (hd:∀ σ H,j n σ H->D.nx σ H) :
  ∃ W:Nat->Nat->St->Hp->Prop,(∃ m,W 0 m σ H)/\∀ i m σ H,W i m σ H ->
   ((EW lo n).stop i H/\D.nx σ H)\/((EW lo n).go i H/\∃ N:St->Hp->Prop,(∀ F H',N F H'->∃ L,L<m/\W (i+1) L F H')/\∀ x H',(EW lo n).yld i H x H'->g x σ H' λB q=>tb { D with nx:=N,ct:=N,bk:=D.nx } B q):=
 Ua j S (λi σ H hi p=>M i σ H hi p _ λ_ _ z=>z) hd
def Bx {K:zAa} {a:ZF} {xs:List V} {g:TG} {tb:TS} {D:Lm} {σ:St} {H:Hp} (j:Nat->St->Hp->Prop) (S:j 0 σ H) (hl:∀ i σ H,i<=xs.length->j i σ H->Dp K H a xs)
  (M:∀ i x σ H,xs[i]?=ZC x->j i σ H->∀ N:St->Hp->Prop,(∀ σ H,j (i+1) σ H->N σ H)->g x σ H λB q=>tb { D with nx:=N,ct:=N,bk:=D.nx } B q) (hd:∀ σ H,j xs.length σ H->D.nx σ H) :
  ∃ W:Nat->Nat->St->Hp->Prop,(∃ m,W 0 m σ H)/\∀ i m σ H,W i m σ H ->
   ((Y5 K a).stop i H/\D.nx σ H)\/((Y5 K a).go i H/\∃ N:St->Hp->Prop,(∀ F H',N F H'->∃ L,L<m/\W (i+1) L F H')/\∀ x H',(Y5 K a).yld i H x H'->g x σ H' λB q=>tb { D with nx:=N,ct:=N,bk:=D.nx } B q):=
 Hs j S hl (λi x σ H hi p=>M i x σ H hi p _ λ_ _ z=>z) hd
def Js {K K':zAa} {a:ZF} {xs:List V} {q j:Nat} {tb:TS} {D:Lm} {σ:St} {H:Hp} (g:Nat->St->Hp->Prop) (U:g 0 σ H) (hl:∀ i σ H,i<=xs.length->g i σ H->Dp K H a xs)
  (M:∀ i x σ H t,xs[i]?=ZC x->g i σ H->H t=ZD->∀ N:St->Hp->Prop,(∀ σ H,g (i+1) σ H->N σ H)->tb { D with nx:=N,ct:=N,bk:=D.nx } ((σ.set q (ZC (.int i))).set j (ZC x)) (upd H t (.tup [.int i,x]))) (hd:∀ σ H,g xs.length σ H->D.nx σ H) :
  ∃ W:Nat->Nat->St->Hp->Prop,(∃ m,W 0 m σ H)/\∀ i m σ H,W i m σ H ->
   ((FN K a).stop i H/\D.nx σ H)\/((FN K a).go i H/\∃ N:St->Hp->Prop,(∀ B H',N B H'->∃ F,F<m/\W (i+1) F B H')/\∀ x H',(FN K a).yld i H x H'->Yv K' 2 (Ge (Cp q) (Ge (Cp j) K1)) x σ H' λS L=>tb { D with nx:=N,ct:=N,bk:=D.nx } S L):=
 Zi g U hl (λi x σ H t hi p n=>M i x σ H t hi p n _ λ_ _ z=>z) hd
section
variable {P:ZO} {w:ZX} {K:zAa} {mg:ZM->Option ZE} {base:aB} {x y qual:ZM} {st:bM} {C:ZF} {k:Nat} {ps:List ZM} {sp:Sp}
abbrev Fm (K:zAa) (x:ZM) (st:bM):Prop:=∃ f,DfIn K x st f
abbrev Fg (K:zAa) (C:ZF) (x qual:ZM) (st:bM):Prop:=∃ f,zAM K (.ref C) x=ZC (ZC (.ref f))/\MtIn K x qual st f
def Ii (K:zAa) (x:ZM) (n:Int):Prop:=∃ t,zAL K zCJ x=ZC (ZC (.int n t))
def JS (K:zAa) (x:ZM) (y:ZM):Prop:=∃ t,zAL K zCJ x=ZC (ZC (.str y t))
def MtD (K:zAa) (C:ZF) (x qual:ZM) (st:bM) (ds:Array ZE):Prop:=∃ (f dv:ZF) (od an:Option ZF) (sl:Array (Option ZE)) (oc kV dc pm cd ct:ZE) (nd:Nat),zAM K (.ref C) x=ZC (ZC (.ref f))/\zBM K (.ref f)=ZI /\
 K.lookup f=ZC ⟨oc,od,.func (zAU x qual (Ck st) (Bp st) (Aq st) (.ref dv) kV dc pm an cd ct),sl⟩/\zBi K cd qual=ZI/\zAP K (.ref f)=ZI/\K.lookup dv=ZC ⟨.type "tuple",ZD,.seq ds nd,#[]⟩
def MtC (K:zAa) (C:ZF) (x qual:ZM) (st:bM) (T:ZF):Prop:=∃ (f c:ZF) (od an:Option ZF) (sl:Array (Option ZE)) (oc kV dc pm ct:ZE),zAM K (.ref C) x=ZC (ZC (.ref f))/\zBM K (.ref f)=ZI /\
 K.lookup f=ZC ⟨oc,od,.func (zAU x qual (Ck st) (Bp st) (Aq st) .none kV dc pm an (.ref c) ct),sl⟩/\zBi K (.ref c) qual=ZI/\zAP K (.ref f)=ZI/\hJ K c T=ZI
def BsE (K:zAa) (C:ZF) (x qual:ZM) (st:bM):Prop:=∃ f,iI K (.ref C) (.type "type") x=ZC (.val (.ref f))/\zCe K (.ref C) "__getattribute__"=ZC (ZC (.builtin "type.__getattribute__"))/\iH K C (.type "type")=ZI/\MtIn K x qual st f
def MtD.of {K} {C} {x qual} {st} {ds} {f j} {L F} {S} {M kV q z g U} {B:Nat} (a:zAM K (.ref C) x=ZC (ZC (.ref f))) (i:zBM K (.ref f)=ZI)
  (l:K.lookup f=ZC ⟨M,L,.func (zAU x qual (Ck st) (Bp st) (Aq st) (.ref j) kV q z F g U),S⟩) (c:zBi K g qual=ZI) (k:zAP K (.ref f)=ZI) (d:K.lookup j=ZC ⟨.type "tuple",ZD,.seq ds B,#[]⟩):MtD K C x qual st ds:=⟨_,_,_,_,_,_,_,_,_,_,_,_,a,i,l,c,k,d⟩
def MtC.of {K} {C T} {x qual} {st} {f c} {z q} {F} {B kV g j L} (a:zAM K (.ref C) x=ZC (ZC (.ref f))) (i:zBM K (.ref f)=ZI)
  (l:K.lookup f=ZC ⟨B,z,.func (zAU x qual (Ck st) (Bp st) (Aq st) .none kV g j q (.ref c) L),F⟩) (d:zBi K (.ref c) qual=ZI) (k:zAP K (.ref f)=ZI) (h:hJ K c T=ZI):MtC K C x qual st T:=⟨_,_,_,_,_,_,_,_,_,_,a,i,l,d,k,h⟩
def BsE.of {K:zAa} {C f:ZF} {x qual:ZM} {st:bM} (b:iI K (.ref C) (.type "type") x=ZC (.val (.ref f))) (g:zCe K (.ref C) "__getattribute__"=ZC (ZC (.builtin "type.__getattribute__"))) (r:iH K C (.type "type")=ZI) (i:MtIn K x qual st f):BsE K C x qual st:=⟨_,b,g,r,i⟩
def NT4 (K:zAa) (x p q r s:ZM):Prop:=∃ (w:ZF) (n:Nat) (a b c d:Tok),zAL K zCJ x=ZC (ZC (.ref w))/\K.lookup w=ZC ⟨.type "tuple",ZD,.seq #[.str p a,.str q b,.str r c,.str s d] n,#[]⟩
def NT4.of {K} {x p q r s} {w} {n:Nat} {a b c d} (h:zAL K zCJ x=ZC (ZC (.ref w))) (l:K.lookup w=ZC ⟨.type "tuple",ZD,.seq #[.str p a,.str q b,.str r c,.str s d] n,#[]⟩):NT4 K x p q r s:=⟨_,_,_,_,_,_,h,l⟩
structure SV (K:zAa) (C:ZF):Prop where
 ha:zAM K (.ref C) "__class__"=ZC (ZC (.builtin "object.__class__"))
 hm:PySem.W.mroIn K C (.type "object")=ZC ZI
 gs:zCe K (.builtin "object.__class__") "__get__"=ZC (ZC (.builtin "getset_descriptor.__get__"))
 tk:nK K (.builtin "object.__class__")=ZC ZI
structure Zy (P:ZO) (w:ZX) (K:zAa) (mg:ZM->Option ZE) (base:aB):Prop where
 nv:∀ {x:ZM} {v:ZE},zAL K zCJ x=ZC (ZC v)->mg x=ZC v
 nn:∀ {x:ZM},zAL K zCJ x=ZC ZD->mg x=ZD
def Zy.gi (z:Zy P w K mg base) {n:Int} (h:Ii K x n):RO mg x n:=h.imp λ_=>z.nv
def Zy.gs (z:Zy P w K mg base) {n:ZM} (h:JS K x n):PR mg x n:=h.imp λ_=>z.nv
def VQ:Nat->(List ZE->Prop)->Prop
 |0,P=>P []
 |n+1,P=>∀ a,VQ n λl=>P (a::l)
theorem VT:∀ {n:Nat} {j:List ZE->Prop},VQ n j->∀ g:List ZE,g.length=n->j g
 |0,_,h,[],_=>h
 |_+1,_,h,a::g,e=>VT (h a) g (Nat.succ.inj e)
def bd (h:HB x qual st ps:=by exact λ_ _ _ _ _ _=>VT (by (repeat intro _);rfl)):HB x qual st ps:=h
def JQ (z:Zy P w K mg base) (d:Fm K x st) (g:HB x x st ps) (h:∀ f fd,XS K x x st f fd->XB P w K mg base Ew k f fd ps sp):MW P w K mg base k x ps sp:=by
 obtain⟨_,d⟩:=d;obtain⟨_,_,_,_,_,_,_,_,_,l,c⟩:=d.ex;let F:=Wg l c d.kp;exact⟨_,_,h _ _ F,F.binds g,d.kp,z.nv d.ns⟩
def Jw (z:Zy P w K mg base) (m:Fg K C x qual st) (c:YU K C) (g:HB x qual st ps) (h:∀ f fd,XS K x qual st f fd->XB P w K mg base Ew k f fd ps sp):G0 P w K mg base k C x ps sp:=by
 obtain⟨_,a,i⟩:=m;obtain⟨_,F,B⟩:=i.get g;exact⟨⟨_,_,h _ _ F,B,⟨a,i.fn,i.kp⟩⟩,c⟩
def WA (z:Zy P w K mg base) (q:XJ K y C) (m:Fg K C "__init__" qual st) (g:HB "__init__" qual st ps) (h:∀ f fd,XS K "__init__" qual st f fd->XB P w K mg base Ew k f fd ps sp):U5 P w K mg base k y C ps sp:=by
 obtain⟨_,a,i⟩:=m;obtain⟨_,F,B⟩:=i.get g;exact⟨_,_,⟨q.mi,a,i.fn,q.kp⟩,h _ _ F,B,z.nv q.ns⟩
def WQ {ds:Array ZE} (z:Zy P w K mg base) (q:XJ K y C) (m:MtD K C "__init__" qual st ds) (h:∀ f fd,YZ K "__init__" qual st f fd->XB P w K mg base Ew k f fd ps sp)
  (S:∀ (g:ZF) (kV F B:ZE) (M:Option ZF) (j U:ZE) (L:Nat),K.lookup g=ZC ⟨.type "tuple",ZD,.seq ds L,#[]⟩->XM K (zAU "__init__" qual (Ck st) (Bp st) (Aq st) (.ref g) kV F B M j U) ps []):U5 P w K mg base k y C ps sp:=by
 obtain⟨_,_,_,_,_,_,_,_,_,_,_,_,a,i,l,c,e,Y⟩:=m;exact⟨_,_,⟨q.mi,a,i,q.kp⟩,h _ _ (GD l c e),S _ _ _ _ _ _ _ _ Y,z.nv q.ns⟩
def WV {T:ZF} (kb:K.In base) (m:MtC K C x qual st T) (c:YU K C) (h:∀ f fd c,XS K x qual st f fd->fd.code=.ref c->PySem.W.CodeHd base c T->XB P w K mg base Ew k f fd ps sp) (g:HB x qual st ps):G0 P w K mg base k C x ps sp:=by
 obtain⟨_,_,_,_,_,_,_,_,_,_,a,i,l,d,e,t⟩:=m;let F:=Wg l d e;exact⟨⟨_,_,h _ _ _ F rfl (PySem.W.codeHd_of_K kb t),F.binds g,⟨a,i,e⟩⟩,c⟩
def WP (z:Zy P w K mg base) (q:XJ K y C) (m:BsE K C x qual st) (h:∀ f fd,XS K x qual st f fd->XB P w K mg base Ew k f fd ps sp) (j:HB x qual st ps):NS P w K mg base k y x ps sp:=by
 obtain⟨_,b,g,r,i⟩:=m;obtain⟨_,F,B⟩:=i.get j;exact⟨_,_,_,h _ _ F,B,⟨g,r,b,i.kp⟩,z.nv q.ns⟩
def GA {CX:EV} {f:ZF} (h:∀ vs H Q E,¬ sp vs H Q E):XB P w K mg base CX k f fd ps sp:=
 ⟨λvs H Q E z=>ZR z (h vs H Q E),λ_ _ _ _ _ _ _ _ _ _ _ _ _ z=>ZR z (h _ _ _ _)⟩
end
def Cn (S:By X.N ps d) (i:Nat) (g:PE X e te) (hi:X.N[i]?=ZC x:=by rfl) (hx:LZ X.env.scope x:=by exact Or.inl rfl) (hs:hZ e (ZC (.Name x pos')) pos.line X.env=pure ZK:=by rfl) (hf:X.fn x=ZI\/X.env.scope.names.lookup x=ZC .local:=by first|exact .inl rfl|exact .inr rfl|assumption) :
  PS X (.Assign [.Name x pos'] e pos) (Z3 te (Cp i)):=Nf S.nd hi hx g hs hf
def Et (S:By X.N ps d) (i:Nat) (hi:X.N[i]?=ZC x:=by rfl) (hx:LZ X.env.scope x:=by exact Or.inl rfl) (hf:X.fn x=ZI\/X.env.scope.names.lookup x=ZC .local:=by first|exact .inl rfl|exact .inr rfl|assumption):PG X (.Name x pos) (Cp i):=Wj S.nd hi hx hf
def Ke {NC:List ZM} (i:Nat) (g:NC.Nodup:=by ac_nf) (hi:(Qg X NC d s3 H3 fp).N[i]?=ZC x:=by rfl) (hx:LZ (Qg X NC d s3 H3 fp).env.scope x:=by exact Or.inl rfl) (hf:(Qg X NC d s3 H3 fp).fn x=ZI\/(Qg X NC d s3 H3 fp).env.scope.names.lookup x=ZC .local:=by first|exact .inl rfl|exact .inr rfl|assumption):PG (Qg X NC d s3 H3 fp) (.Name x pos) (Cp i):=Wj g hi hx hf
def Cm (C:MW X.prog X.w X.K X.mg X.base k x ps sp) (hr:XE n X.A) (j:PA X (e::es) t) (g:k<=n:=by lk) (hg:Gl X x:=by exact rfl) (hdb:(x==("__debug__" : ZM))=ZK:=by lk) (he:ZU (e::es) X.env=(ZK,aM e X.env)::ZU es X.env:=by rfl) (hpl:(bC pos (ZU es X.env)).any (·.1)=ZK:=by rfl) :
  PE X (.Call (.Name x p) (e::es) [] pos) (M8 sp [] E0 t):=Mm C (hr.mono g) hg j hdb he hpl
def Ea (K:zAa) (j:PE X a ta) (g:PE X b tb) (q:X.K=K:=by exact rfl) (hs:Wt b:=by exact λ_ _=>rfl):PE X (.Subscript a b pos) (OB (NO K) ta tb):=L9 (GI q) j g hs
def Le (K:zAa) (j:PE X a ta) (g:PE X b tb) (q:X.K=K:=by exact rfl) (hs:Wt b:=by exact λ_ _=>rfl):PE X (.Subscript a b pos) (OB (LW K) ta tb):=L9 (AJ q) j g hs
def Pg {id} {r:List V->Hp->VK->Prop} (B:Fq X (.builtin id) r) (z:Zy X.prog X.w X.K X.mg X.base) (q:zAL X.K zCJ x=ZC ZD) (g:PA X (e::es) t) (j:zCI x=ZC (.builtin id):=by exact rfl) (hg:Gl X x:=by exact rfl) (hn:x ≠ "__name__":=by lk) (hdb:(x==("__debug__" : ZM))=ZK:=by lk)
  (he:ZU (e::es) X.env=(ZK,aM e X.env)::ZU es X.env:=by rfl) (hpl:(bC pos (ZU es X.env)).any (·.1)=ZK:=by rfl):PE X (.Call (.Name x p) (e::es) [] pos) (UW r t):=Ec B hg (z.nn q) j g hn hdb he hpl
def Qq {i:Int} (z:Zy X.prog X.w X.K X.mg X.base) (h:Ii X.K x i) (g:Gl X x:=by exact rfl) (hd:(x==("__debug__" : ZM))=ZK:=by lk):PE X (.Name x pos) (tC (.int i)):=FL (z.gi h) g hd
def Hc (K:zAa) {tg l:bA} (hl:PE X l tl) (h:X.K=K:=by exact rfl):PI X tg l (EQ K tl):=DR h hl
def Bn (j:PE X a ta) (g:ZU [a] X.env=(ZK,aM a X.env)::ZU [] X.env:=by rfl):PA X [a] (L6 ta BJ):=Ah j Cs g
def Bi (q:PE X a ta) (g:PE X b tb) (j:ZU [a,b] X.env=(ZK,aM a X.env)::ZU [b] X.env:=by rfl) (ht:ZU [b] X.env=(ZK,aM b X.env)::ZU [] X.env:=by rfl):PA X [a,b] (L6 ta (L6 tb BJ)):=Ah q (Ah g Cs ht) j
section
variable {P:ZO} {w:ZX} {K:zAa} {mg:ZM->Option ZE} {base:aB} {x y qual:ZM} {st:bM} {C:ZF} {k:Nat} {ps:List ZM} {sp:Sp}
structure OR (x qual:ZM) (st:bM) (N ps:List ZM) (sp:Sp):Prop where
 b:HB x qual st ps
 s:By N ps (Aq st)
 l:∀ vs H Q E,sp vs H Q E->vs.length=ps.length
def df {N:List ZM} (b:HB x qual st ps:=by exact bd) (s:By N ps (Aq st):=by exact⟨rfl,rfl,rfl,by ac_nf,rfl,by ac_nf,by ac_nf⟩) (l:∀ vs H Q E,sp vs H Q E->vs.length=ps.length:=by intro _ _ _ _ h;first|(cases h;subst_vars;rfl)|(obtain⟨_,rfl,_⟩:=h;rfl)|(obtain⟨_,_,rfl,_⟩:=h;rfl)|(obtain⟨_,_,_,rfl,_⟩:=h;rfl)):OR x qual st N ps sp:=⟨b,s,l⟩
def Os {f:ZF} (F:XS K x qual st f fd) (N:List ZM) (D:OR x qual st N ps sp) (h:∀ {f:ZF} {cdv:ZE} {A:aE} {outer:List kF} {s:ZG} {vs:List V} {E:XK},By N ps (Aq st)->∀ (H:Hp) (Q:VK),XE k (A.deeper (dO qual (Aq st) ⇑s f cdv))->sp vs H Q E ->
   ∃ t,PSs (Kq Ew P w K mg base N qual (Aq st) f cdv A outer s H E).nox (Bp st) t/\t { nx:=λ_ H'=>Q .non H',rt:=Q } (Fi N vs) H):XB P w K mg base Ew (k+1) f fd ps sp:=F.ok D.s D.l λ_ _ _ _ H _ Q _=>h D.s H Q
def Gj (z:Zy P w K mg base) (d:Fm K x st) (N:List ZM) (D:OR x x st N ps sp) (h:∀ {f:ZF} {cdv:ZE} {A:aE} {outer:List kF} {s:ZG} {vs:List V} {E:XK},By N ps (Aq st)->∀ (H:Hp) (Q:VK),XE k (A.deeper (dO x (Aq st) ⇑s f cdv))->sp vs H Q E ->
   ∃ t,PSs (Kq Ew P w K mg base N x (Aq st) f cdv A outer s H E).nox (Bp st) t/\t { nx:=λ_ H'=>Q .non H',rt:=Q } (Fi N vs) H):MW P w K mg base (k+1) x ps sp:=JQ z d D.b λ_ _ F=>Os F N D h
def JF (z:Zy P w K mg base) (m:Fg K C x qual st) (c:YU K C) (N:List ZM) (D:OR x qual st N ps sp) (h:∀ {f:ZF} {cdv:ZE} {A:aE} {outer:List kF} {s:ZG} {vs:List V} {E:XK},By N ps (Aq st)->∀ (H:Hp) (Q:VK),XE k (A.deeper (dO qual (Aq st) ⇑s f cdv))->sp vs H Q E ->
   ∃ t,PSs (Kq Ew P w K mg base N qual (Aq st) f cdv A outer s H E).nox (Bp st) t/\t { nx:=λ_ H'=>Q .non H',rt:=Q } (Fi N vs) H):G0 P w K mg base (k+1) C x ps sp:=Jw z m c D.b λ_ _ F=>Os F N D h
def N4 (z:Zy P w K mg base) (q:XJ K y C) (m:Fg K C "__init__" qual st) (N:List ZM) (D:OR "__init__" qual st N ps sp) (h:∀ {f:ZF} {cdv:ZE} {A:aE} {outer:List kF} {s:ZG} {vs:List V} {E:XK},By N ps (Aq st)->∀ (H:Hp) (Q:VK),XE k (A.deeper (dO qual (Aq st) ⇑s f cdv))->sp vs H Q E ->
   ∃ t,PSs (Kq Ew P w K mg base N qual (Aq st) f cdv A outer s H E).nox (Bp st) t/\t { nx:=λ_ H'=>Q .non H',rt:=Q } (Fi N vs) H):U5 P w K mg base (k+1) y C ps sp:=WA z q m D.b λ_ _ F=>Os F N D h
end
end L2
namespace L2
open PySem PySem.Spec PyProof.Rows PySem.W
def QG (X:Cx) (σ:St) (P:List (ZF×cP)) (A:aE) (f:ZF) (n:Nat) (H:Hp) (ys:List V) (rs:List (List Int)):Prop:=rs.length=ys.length/\∀ (j:Nat) y,ys[j]?=ZC y->∃ r,rs[j]?=ZC r/\r.length=n/\∀ (e:ZF×cP) (H':Hp) (s:ZG) (u:ZE) {E R:ZE->ZG->Prop},Ed X (e::P) σ H' s->(∀ b o,H b=ZC o->H' b=ZC o)->Kl y u ->
 (∀ p s',Ed X (e::P) σ (upd H' p (.tup (r.map V.int))) s'->H' p=ZD->R (.ref p) s')->ZP (ZS X.prog X.w) A (call (.ref f) [u]) R E s
def X0 {a f:ZF} {n:Nat} {A:aE} {ys:List V} {rs:List (List Int)} {vs:List ZE} {nn:Nat} {E:ZE->ZG->Prop} {R:kL->ZG->Prop}
  (I:Ed X pins σ H s)
  (ha:s.heap.get? a=ZC (aF "list" vs.toArray nn)) (fa:Iq X pins H a) (rv:Fy ys vs) (KY:QG X σ pins A f (n+1) H ys rs) (h64:ys.length<64)
  (h:∀ p s' H',Ed X pins σ H' s'->(∀ b o,H b=ZC o->H' b=ZC o)->CRS.Pm ys.length p->CRS.Up (O:=YF) (λi=>rs.getD i []) p ys.length->H' a=ZC (.lst (p.toList.map λi=>ys.getD i .non))->R (.done (.ret .none)) s') :
  ZP (ZS X.prog X.w) A (ksk_tree a (.ref f) ZK) R E s:=by
 let lv:=rv.length;let line:∀ k:Nat,k<64->k<=sizeLine:=λk hk=>by rw[zCH];lia
 let s1:=zBr.update s.heap a (ZW λ_=>(#[]:Array ZE));obtain⟨e1,ho1⟩:∃ e1,(s.heap.update a (ZW λ_=>(#[]:Array ZE))).get? a=ZC (aF "list" #[] e1):=⟨_,kT ha λ_ => #[]⟩;unfold ksk_tree;refine zCF (gE ha rfl ?_);refine zCF (cN ha rfl ?_ (by rw[zAi];exact line _ (by lia)) (zAw _));refine zCF (g0 ho1 rfl ?_);refine zCF (lM ?_ (by show vs.length<=_;exact line _ (by lia)));refine zCF (fA ?_ (zAw _));refine aW ?_;let J1:Ed X pins σ H { s with heap:=s.heap.update a (ZW λ_=>(#[]:Array ZE)),toks:=s.toks }:=
  I.turned (λb o hb e=>(s1.2 b hb).trans e) fa.1 fa.2.1 fa.2.2.2.1 fa.2.2.2.2.1 fa.2.2.2.2.2
 let J2:Ed X pins σ H { s with heap:=(s.heap.update a (ZW λ_=>(#[]:Array ZE))).push (aF "tuple" vs.toArray 0),toks:=s.toks }:=
  J1.kept λb o e=>zAg _ e
 let ho2:((s.heap.update a (ZW λ_=>(#[]:Array ZE))).push (aF "tuple" vs.toArray 0)).get? a=ZC (aF "list" #[] e1):=zAg _ ho1;let nf:H ((s.heap.update a (ZW λ_=>(#[]:Array ZE))).push (aF "tuple" vs.toArray 0)).objs.size=ZD:=J2.fresh;let J3:=J2.lnew (ys:=[]) (its:=[]) (t':=s.toks) .nil (zAw _);let ho3:(((s.heap.update a (ZW λ_=>(#[]:Array ZE))).push (aF "tuple" vs.toArray 0)).push (aF "list" #[] 0)).get? a=ZC (aF "list" #[] e1):=zAg _ ho2;let nea:a≠((s.heap.update a (ZW λ_=>(#[]:Array ZE))).push (aF "tuple" vs.toArray 0)).objs.size:=zAy (zAs ho2);show ZP _ _ _ _ _ { s with heap:=((s.heap.update a (ZW λ_=>(#[]:Array ZE))).push (aF "tuple" vs.toArray 0)).push (aF "list" #[] 0),toks:=s.toks };let J4:Ed X ((a,aF "list" #[] e1)::pins) σ (upd H ((s.heap.update a (ZW λ_=>(#[]:Array ZE))).push (aF "tuple" vs.toArray 0)).objs.size (.lst [])) { s with heap:=((s.heap.update a (ZW λ_=>(#[]:Array ZE))).push (aF "tuple" vs.toArray 0)).push (aF "list" #[] 0),toks:=s.toks }:=
  J3.pin1 ho3 (by rw[Ag nea];exact fa.1) fa.2.1 fa.2.2.1 (λv z=>by cases z)
 revert J4
 generalize ((s.heap.update a (ZW λ_=>(#[]:Array ZE))).push (aF "tuple" vs.toArray 0)).objs.size=kS at nf nea ⊢;intro J4;let S4:∀ b o,H b=ZC o->upd H kS (.lst []) b=ZC o:=λb o e=>by rw[Ag (Ad e nf)];exact e
 let hk4:upd H kS (.lst []) kS=ZC (.lst []):=Aa;generalize upd H kS (.lst [])=H4 at J4 S4 hk4;unfold ksk_rest;refine zCF (lL ?_)
 first
  |rw[List.forIn_toArray]
  |(rw[<- nE];simp only [gN])
  |rw[<- nE]
 refine zCF (ksk_fold (λi s'=>∃ H' ts,Ed X ((a,aF "list" #[] e1)::pins) σ H' s'/\(∀ b o,H b=ZC o->H' b=ZC o)/\H' kS=ZC (.lst ts)/\YA X.K H' (n+1) ts (rs.take i))
  vs 0 _ ⟨H4,[],J4,S4,hk4,by rw[zBe];trivial⟩ (λj x s' hx ⟨H',ts,J,SH,hk,TI⟩=>?_) (λs' ⟨H',ts,J,SH,hk,TI⟩=>?_))
 .rw[lX] at TI ⊢
  let hj:j<vs.length:=(zAk.mp hx).1;let hj':j<ys.length:=by lia
  obtain⟨rw',er,ln,ky⟩:=KY.2 j _ (zAe hj');obtain⟨u,hu,ru⟩:=rv.get (zAe hj');rw[hx] at hu;cases hu;refine zCF (fC (ky _ H' s' _ J SH ru λp s'' J2 hp=>?_));let hk2:upd H' p (.tup (rw'.map V.int)) kS=ZC (.lst ts):=by rw[Ag (Ad hk hp)];exact hk
  obtain⟨z,its,n',ri,li,e⟩:=J2.lstM hk2;let lt:=TI.len;let lt':ts.length<=j:=by rw[lt,zAn];lia
  dsimp only
  refine zCF (cN e rfl ?_ (by rw[zAi,<- li];exact line _ (by lia)) (zAD (lZ (Array.size_push ..)) (by rw[zAi,<- li,zCH];lia)));let J3:=J2.lset (t':=s''.toks) (f:=(·.push (.ref p))) (its':=its++[.ref p]) (ys:=ts++[.ref p]) hk2 e (by simp) (ri.append (Paired.cons (show Kl (.ref p) (.ref p) from rfl) .nil)) (by rw[zAm];exact line _ (by show ts.length+1<64;lia));refine zCG ⟨rfl,_,_,J3,λb o q=>?_,Aa,?_⟩
  .rw[Ag (Ad q nf),Ag (Ad (SH _ _ q) hp)]
   exact SH _ _ q
  .have hp2:Hx X.K (upd H' p (.tup (rw'.map V.int))) p (rw'.map V.int):=Hx.of Aa
   let T2:YA X.K (upd H' p (.tup (rw'.map V.int))) (n+1) ts (rs.take j):=TI.mono (Zk λb o q=>by rw[Ag (Ad q hp)];exact q);rw[zBz,er];exact (T2.app hp2 ln).mono (GW hk2)
 .rw[lX] at TI
  let lr:=KY.1;rw[zCb (by lia)] at TI;obtain⟨z,its,n',ri,li,e⟩:=J.lstM hk;let lt:=TI.len;refine zCF (gE e rfl ?_);let ha':=(J.pin (a,aF "list" #[] e1) (zAC _ (by simp))).1;let ha'':=(J.pin (a,aF "list" #[] e1) (zAC _ (by simp))).2.1;refine JP (O:=YF) (key:=λi=>rs.getD i []) e ha' (aR nea) (by lia) (by lia) (λtwo=>X8 (TI.vals J ri) (by lia)) λp hp hu=>?_;let J5:=J.unpin.lset (t':=s'.toks) (f:=λ_=>(#[]:Array ZE)) (its':=[]) (ys:=[]) hk e (by simp) .nil (zAw _);let s2:=zBr.update (s'.heap.update kS (ZW λ_=>(#[]:Array ZE))) a (ZW λ_=>(Gy vs p).toArray);let ha2:(s'.heap.update kS (ZW λ_=>(#[]:Array ZE))).get? a=ZC (aF "list" #[] e1):=(nD _ _ _ _ nea).trans ha';let an:upd H' kS (.lst []) a=ZD:=by rw[Ag nea];exact ha''
  let fa':Iq X pins (upd H' kS (.lst [])) a:=⟨an,fa.2.1,fa.2.2.1,fa.2.2.2.1,fa.2.2.2.2.1,λq hq=>fa.2.2.2.2.2 q (by
   exact hq)⟩
  let J6:=J5.turned (t':=s'.toks) (λb o hb e=>(s2.2 b hb).trans e) fa'.1 fa'.2.1 fa'.2.2.2.1 fa'.2.2.2.2.1 fa'.2.2.2.2.2;let lp:(p.toList.map λi=>ys.getD i .non).length<=sizeLine:=by
   rw[zAc,zAE,hp.size];exact line _ (by lia)
  let J7:=J6.trackN (o:=.lst (p.toList.map λi=>ys.getD i .non)) fa' ⟨lp,Gy vs p,_,Rp rv _,kT ha2 λ_=>(Gy vs p).toArray⟩;rw[<- lv] at hp hu;refine h p _ _ J7 (λb o q=>?_) hp hu Aa;rw[Ag (Ad q fa.1),Ag (Ad q nf)];exact SH _ _ q
def Xo {l f:ZF} {k n:Nat} {ys:List V} {rs:List (List Int)} {E:ZE->ZG->Prop} {Q:VK}
  (hr:XE (k+2) X.A) (I:Ed X pins σ H s)
  (hl:Dp X.K H l ys) (KY:∀ A:aE,A.frames=ZC X.stack->XE k A->QG X σ pins A f (n+1) H ys rs) (h64:ys.length<64)
  (h:∀ p a H',H a=ZD->(∀ b o,H b=ZC o->H' b=ZC o)->CRS.Pm ys.length p->CRS.Up (O:=YF) (λi=>rs.getD i []) p ys.length->H' a=ZC (.lst (p.toList.map λi=>ys.getD i .non))->Q (.ref a) H') :
  ZP (ZS X.prog X.w) X.A (call (.builtin "sorted") [.ref l] [(aK "key",.ref f)]) (EP X pins σ Q) E s:=by
 obtain⟨vs,rv,pl,hz⟩:=I.list hl;let lv:=rv.length;let line:vs.length<=sizeLine:=by rw[zCH];omega
 refine call_function_entry_kw kind_sorted nW nY (ksk_s1 _ _) ?_;unfold cW.«sorted»;refine zCF (m:=checkCount "sorted" 1 1 _) (zCG (zCF (collect_list pl.isList (zCF (fA ?_ line)))));let sz:((s.heap.push (aF "list" #[] 0)).update ⇑s (ZW (· ++ vs.toArray))).objs.size=⇑s+1:=by rw[oX,size_push']
 let at1:(((s.heap.push (aF "list" #[] 0)).update ⇑s (ZW (· ++ vs.toArray))).push (aF "list" vs.toArray 0)).get? (⇑s+1)=ZC (aF "list" vs.toArray 0):=by
  rw[<- sz];exact zAF _ rfl
 let old:∀ b o,s.heap.get? b=ZC o->(((s.heap.push (aF "list" #[] 0)).update ⇑s (ZW (· ++ vs.toArray))).push (aF "list" vs.toArray 0)).get? b=ZC o:=λb o e=>
  zAg _ (((zBr.update (s.heap.push (aF "list" #[] 0)) ⇑s (ZW (· ++ vs.toArray))).2 b (zAy (zAs e))).trans (zAg _ e))
 show ZP (ZS X.prog X.w) _ _ _ _ { s with heap:=((s.heap.push (aF "list" #[] 0)).update ⇑s (ZW (· ++ vs.toArray))).push (aF "list" vs.toArray 0) };rw[sz];let fn:H (⇑s+1)=ZD:=I.hok.fresh (zBE _);let J:=I.kept (t':=s.toks) old;let fa:Iq X (pins) H (⇑s+1):=I.fpOk (zBE _) fn;refine zCF (aW (wpAny_call_entry_kw lQ ⟨_,at1,rfl⟩ kU ?_ (ksk_l1 _ _)));rw[ksk_t1];refine X0 (s:={ s with heap:=((s.heap.push (aF "list" #[] 0)).update ⇑s (ZW (· ++ vs.toArray))).push (aF "list" vs.toArray 0) }) J at1 fa rv (KY _ I.ok.frames ((hr.in1).in1)) h64 λp s' H' J' SH hp hu ha=>⟨_,rfl,?_⟩;exact zCG ⟨_,rfl,.ref (⇑s+1),H',J',rfl,h p _ H' fn SH hp hu ha⟩
def V6 {c T:ZF} {qual:ZM} {F e:bA} {p pos g U:Pos} (he:PE X e te) (B:MR X qual params F scope) (hr:XE 3 X.A) (S:X.env.code=.ref c) (C:CodeHd X.base c T) (hb:BI X.mg X.base) (aa:lT scope X.env=pure [])
  (hq:X.env.qual++"<lambda>"=qual) (ac:defaultsOf params X.env=([],[])) (hg:Gl X "sorted") (hm:X.mg "sorted"=ZD) (hs:ZU [e] X.env=[(ZK,aM e X.env)]:=by rfl) :
  PE X (.Call (.Name "sorted" p) [e] [⟨ZC "key",.Lambda params F scope g,U⟩] pos) (MD X.K T g qual te):=by
 intro pins s σ H Q I h;refine aN (Fz (u:=.builtin "sorted") I hg hm (by rfl) ?_);refine callWith_kw ?_ (by rw[hs];rfl) (by rw[hs];rfl);rw[hs];refine bH (Cb (he pins s σ H _ I h) λu s1 ⟨x,H1,I1,r1,q1⟩=>bR ?_);obtain⟨l,ys,rs,rfl,hl,KY,ab,L,q⟩:=q1;cases r1;show ZP _ _ (evalAll ((do let v <- aM (.Lambda params F scope g) X.env;gD pos;pure v)::[])) _ _ s1;refine wpAny_evalAll_cons (zCF (kla_eval ac ?_));rw[hq];refine DV I1 S C aa L hb λf c' pm ad h' tk H' J M nn hT hc fp hf=>?_;refine zCF (iP (zCG (wpAny_evalAll_nil ?_)));let nT:∀ b u,H1 b=ZC u->(∀ ps,u≠.tbl ps)->b≠T:=λb u e n z=>by
  rcases L with L|⟨_,L,_⟩
  .rw[z,L] at e;cases e;exact n _ rfl
  .rw[z,L] at e;cases e;exact n _ rfl
 let sT:∀ t xs,Hx X.K H1 t xs->Hx X.K H' t xs:=λt xs z=>by
  rcases z with (z|⟨o,z⟩)|z
  .exact .inl (.inl (M _ _ z (nT _ _ z λ_ y=>by cases y)))
  .exact .inl (.inr ⟨o,M _ _ z (nT _ _ z λ_ y=>by cases y)⟩)
  .exact .inr z
 let sL:Dp X.K H' l ys:=by
  rcases hl with (z|⟨o,z⟩)|z
  .exact .inl (.inl (M _ _ z (nT _ _ z λ_ y=>by cases y)))
  .exact .inl (.inr ⟨o,M _ _ z (nT _ _ z λ_ y=>by cases y)⟩)
  .exact .inr z
 let KZ:=KY.mono sT;refine Cb (Xo (k:=1) (n:=2) hr (J.pin1 hf fp.1 fp.2.1 fp.2.2.1 (λv z=>by cases z)) sL (λA hA hr=>⟨KZ.len.symm,λj y hy=>?_⟩) ab λp a Y Z S2 hp hu ha=>?_) λu s' ⟨x,Y,I2,r2,q2⟩=>⟨x,Y,I2.unpin,r2,q2⟩
 .obtain⟨t,d,k,m,v,rfl,ht,er⟩:=KZ.get hy
  refine⟨_,er,rfl,λe Y s u {_ _} J M ru h=>?_⟩;cases ru;let fo:=(J.pin _ (zAC _ (zAb _ zAd))).1;exact HV B hA hr J fo (M _ _ hc) (Zk M _ _ ht) h
 refine q p a Y ?_ (λb o e n=>S2 _ _ (M b o e n)) (.inr ⟨c',S2 _ _ hT,S2 _ _ hc⟩) hp hu ha;cases z:H1 a with
 |none=>rfl
 |some o=>
  by_cases n:a=T
  .rw[n,hT] at Z;cases Z
  .rw[M a o z n] at Z;cases Z
end L2
namespace L2
open PySem PySem.Spec PyProof.Rows
abbrev oR (a:ZF):Option V:=ZC (.ref a)
abbrev oN (i:Int):Option V:=ZC (.int i)
abbrev oS (x:ZM):Option V:=ZC (.str x)
abbrev oL (xs:List V):Option HO:=ZC (.lst xs)
abbrev oT (xs:List V):Option HO:=ZC (.tup xs)
abbrev oI (C d:ZF) (fs:List (ZM×V)):Option HO:=ZC (.ins C d fs)
end L2
namespace CRP
abbrev Tr3:=Int×Int×Int
def fwFrom:List (Int×Int)->Int->Int->Int
 |[],_,_ => -1
 |(a,b)::r,k,c=>if c<a\/b<=c then k else fwFrom r (k+1) c
def fw (sp:List (Int×Int)) (c:Int):Int:=fwFrom sp 0 c
theorem P3 {l c:Int} (h:l<=c):∀ (sp:List (Int×Int)) (k:Int),(∀ p∈sp,¬ (l<p.1/\p.1<=c)/\¬ (l<p.2/\p.2<=c))->fwFrom sp k c=fwFrom sp k l
 |[],_,_=>rfl
 |(a,b)::r,k,g=>by
  let ih:=P3 h r (k+1) λp j=>g p (zAb _ j);obtain⟨q,B⟩:=g (a,b) zAd;unfold fwFrom
  dsimp only at q B
  by_cases z:c<a\/b<=c
  .rw[ZJ z,ZJ (by lia)]
  .rw[ZH z,ZH (by lia),ih]
def Fs:List Tr3->Int->Int->Int->List Tr3
 |[],lo,hi,k=>[(lo,hi,k)]
 |[(l,h,k')],lo,hi,k=>if k'=k then [(l,hi,k)] else [(l,h,k'),(lo,hi,k)]
 |x::y::r,lo,hi,k=>x::Fs (y::r) lo hi k
theorem stepP_snoc (l h k' lo hi k:Int):∀ g:List Tr3,Fs (g++[(l,h,k')]) lo hi k=if k'=k then g++[(l,hi,k)] else g++[(l,h,k')]++[(lo,hi,k)]
 |[]=>by
  show Fs [(l,h,k')] lo hi k=_;unfold Fs;by_cases z:k'=k
  .rw[ZJ z,ZJ z];rfl
  .rw[ZH z,ZH z];rfl
 |[x]=>by
  let ih:=stepP_snoc l h k' lo hi k [];show x::Fs [(l,h,k')] lo hi k=_;rw[show Fs [(l,h,k')] lo hi k=_ from ih];by_cases z:k'=k
  .rw[ZJ z,ZJ z];rfl
  .rw[ZH z,ZH z];rfl
 |x::y::r=>by
  let ih:=stepP_snoc l h k' lo hi k (y::r);show x::Fs (y::r++[(l,h,k')]) lo hi k=_;rw[ih];by_cases z:k'=k
  .rw[ZJ z,ZJ z];rfl
  .rw[ZH z,ZH z];rfl
def Ch (f:Int->Int):Int->Option Int->List Tr3->Int->Prop
 |s,_,[],e=>s=e
 |s,lk,(l,h,k)::r,e=>l=s/\l<h/\lk≠ZC k/\(∀ c,l<=c->c<h->f c=k)/\Ch f h (ZC k) r e
theorem Ch.step {f:Int->Int} {hi k:Int}:∀ {told} {s:Int} {g:Option Int} {e:Int},Ch f s g told e->e<hi->(∀ c,e<=c->c<hi->f c=k)->(told=[]->g≠ZC k)->Ch f s g (Fs told e hi k) hi
 |[],s,g,e,h,h1,j,U=>by
  let Y:s=e:=h;subst Y;exact⟨rfl,h1,U rfl,j,rfl⟩
 |[(l,h,Z)],s,g,e,⟨L,S,F,B,M⟩,h1,j,U=>by
  let Y:h=e:=M;subst Y;unfold Fs;by_cases z:Z=k
  .rw[ZJ z]
   refine⟨L,by lia,by rw[<- z];exact F,λc c1 c2=>?_,rfl⟩;by_cases q:c<h
   .rw[B c c1 q,z]
   .exact j c (by lia) c2
  .rw[ZH z]
   exact⟨L,S,F,B,rfl,h1,λq=>z (aH q),j,rfl⟩
 |(l,h,Z)::y::r,s,g,e,⟨L,S,F,B,M⟩,h1,j,U=>by
  unfold Fs;exact⟨L,S,F,B,Ch.step (told:=y::r) M h1 j λz=>by cases z⟩
def foldP (sp:List (Int×Int)) (ms:List Int) (i:Nat):List Tr3:=(zAS i).foldl (λtold j=>Fs told (ms.getD j 0) (ms.getD (j+1) 0) (fw sp (ms.getD j 0))) []
def foldP_succ (sp:List (Int×Int)) (g:List Int) (i:Nat):foldP sp g (i+1)=Fs (foldP sp g i) (g.getD i 0) (g.getD (i+1) 0) (fw sp (g.getD i 0)):=by
 unfold foldP;rw[fH,List.foldl_append];rfl
theorem Tv (lo hi k:Int):∀ g:List Tr3,(Fs g lo hi k).length<=g.length+1
 |[]=>by unfold Fs;simp
 |[(l,h,j)]=>by unfold Fs;split <;> simp
 |x::y::r=>by
  let:=Tv lo hi k (y::r);unfold Fs;simp only [zAf] at *
  lia
theorem foldP_len (sp:List (Int×Int)) (g:List Int):∀ i,(foldP sp g i).length<=i
 |0=>zAw _
 |i+1=>by
  rw[foldP_succ];let:=foldP_len sp g i;let:=Tv (g.getD i 0) (g.getD (i+1) 0) (fw sp (g.getD i 0)) (foldP sp g i)
  lia
def get_lt {g:List Int} (h:g.Pairwise (· < ·)) {i j:Nat} (q:i<j) (z:j<g.length):g.getD i 0<g.getD j 0:=by
 rw[zAr,zAr,zAe (by lia),zAe z];exact zAH.mp h i j (by lia) z q
theorem fold_ch {sp:List (Int×Int)} {g:List Int} (h:g.Pairwise (· < ·)) (B:∀ p∈sp,p.1∈g/\p.2∈g):∀ i,i<g.length->g.getD 0 0=0->Ch (fw sp) 0 ZD (foldP sp g i) (g.getD i 0)
 |0,_,F=>F.symm
 |i+1,hi,F=>by
  let ih:=fold_ch h B i (by lia) F;rw[foldP_succ];refine ih.step (get_lt h (zBS _) hi) (λc Y c2=>?_) (λ_ z=>by cases z);refine P3 Y sp 0 λp M=>?_;let L:∀ y∈g,¬ (g.getD i 0<y/\y<=c):=λy Z ⟨z1,z2⟩=>by
   obtain⟨j,U,e⟩:=zAG Z;let ej:g.getD j 0=y:=by rw[zAr,zAe U];exact e
   rcases zBy j (i+1) with q|q|q
   .rcases fF j i with S|S
    .have:=get_lt h S (by lia);lia
    .have:j=i:=by lia
     subst this;lia
   .subst q;lia
   .have:=get_lt h q U;lia
  exact⟨L _ (B p M).1,L _ (B p M).2⟩
theorem Ch.head {f:Int->Int} {s:Int} {g:Option Int} {e:Int}:∀ {ps},Ch f s g ps e->s<e->∃ p,ps[0]?=ZC p/\p.1=s
 |[],h,z=>ZR (show s=e from h) (by lia)
 |(l,j,k)::r,h,_=>⟨_,rfl,h.1⟩
theorem Ch.get {f:Int->Int}:∀ {ps} {s:Int} {j:Option Int} {e:Int} {i:Nat} {p},Ch f s j ps e->ps[i]?=ZC p->p.1<p.2.1/\(∀ c,p.1<=c->c<p.2.1->f c=p.2.2)/\(p.2.1<e->∃ q,ps[i+1]?=ZC q/\q.1=p.2.1)/\s<=p.1/\p.2.1<=e
 |[],_,_,_,_,_,_,z=>by simp at z
 |(l,h,k)::r,s,j,e,0,p,⟨a1,L,S,F,g⟩,z=>by
  simp at z;subst z;refine⟨L,F,λq=>?_,by show s<=l;lia,?_⟩
  .obtain⟨p,h1,B⟩:=g.head q
   exact⟨p,by simpa using h1,B⟩
  .show h<=e
   cases r with
   |nil=>exact mE (show h=e from g)
   |cons x r=>
    let:=Ch.get (i:=0) g rfl
    lia
 |(l,h,k)::r,s,j,e,i+1,p,⟨a1,L,S,F,g⟩,z=>by
  obtain⟨Z,M,U,b4,Y⟩:=Ch.get (i:=i) g (by simpa using z);refine⟨Z,M,λq=>?_,by lia,Y⟩;obtain⟨y,h1,B⟩:=U q;exact⟨y,by simpa using h1,B⟩
end CRP
namespace CR
abbrev Rn:=Int×Int
def inR (ps:List Rn) (n:Int):Bool:=ps.any λp=>decide (p.1<=n)&&decide (n<p.2)
structure Frm (ps:List Rn):Prop where
 lt:∀ p∈ps,p.1<p.2
 pw:ps.Pairwise λp q=>p.2<q.1
def inR_iff {ps:List Rn} {n:Int}:inR ps n=ZI↔∃ p∈ps,p.1<=n/\n<p.2:=by
 unfold inR;rw[List.any_eq_true];constructor
 .rintro ⟨p,g,h⟩
  rw[zAo,ZL,ZL] at h;exact⟨p,g,h⟩
 .rintro ⟨p,g,h⟩
  exact⟨p,g,by rw[zAo,ZL,ZL];exact h⟩
def Pi (ps qs:List Rn) (n:Int):inR (ps++qs) n=(inR ps n||inR qs n):=by unfold inR;rw[List.any_append]
def bool_iff {a b:Bool} (h:a=ZI↔b=ZI):a=b:=by cases a <;> cases b <;> simp_all
def cutM (lo hi:Int) (p:Rn):Rn:=(if lo>p.1 then lo else p.1,if hi<p.2 then hi else p.2)
def cutW (ps:List Rn) (lo hi:Int):List Rn:=(ps.map (cutM lo hi)).filter λp=>decide (p.1<p.2)
def cutW_in (ps:List Rn) (lo hi n:Int):inR (cutW ps lo hi) n=(inR ps n&&(decide (lo<=n)&&decide (n<hi))):=by
 apply bool_iff;rw[zAo,zAo,ZL,ZL,inR_iff,inR_iff];constructor
 .rintro ⟨p,j,h1,g⟩
  obtain⟨j,_⟩:=zAR.mp j;obtain⟨q,hq,rfl⟩:=zAv.mp j;unfold cutM at h1 g;refine⟨⟨q,hq,?_,?_⟩,?_,?_⟩ <;> (simp only at h1 g;split at h1 <;> split at g <;> omega)
 .rintro ⟨⟨q,hq,h1,g⟩,z,B⟩
  refine⟨cutM lo hi q,zAR.mpr ⟨zAv.mpr ⟨q,hq,rfl⟩,?_⟩,?_,?_⟩
  .rw[ZL];unfold cutM;simp only;split <;> split <;> omega
  .unfold cutM;simp only;split <;> omega
  .unfold cutM;simp only;split <;> omega
def cutW_frm {ps:List Rn} (lo hi:Int) (h:ps.Pairwise λp q=>p.2<q.1):Frm (cutW ps lo hi):=by
 refine⟨λp g=>?_,?_⟩
 .exact ZY (zAR.mp g).2
 .refine List.Pairwise.filter _ ?_
  rw[zBH];refine h.imp ?_;intro p q h;unfold cutM;simp only
  split <;> split <;> lia
def below (ps:List Rn) (m:Int):Int:=(ps.map λp=>if p.1<m then (if m<p.2 then m else p.2)-p.1 else 0).sum
def lowW:List Rn->Int->List Rn
 |[],_=>[]
 |p::ps,n=>(if 0<n then [(p.1,if p.1+n<p.2 then p.1+n else p.2)] else [])++lowW ps (n-(p.2-p.1))
def Ex (p:Rn) (ps:List Rn) (m:Int):below (p::ps) m=(if p.1<m then (if m<p.2 then m else p.2)-p.1 else 0)+below ps m:=by
 unfold below;rw[zAp,zAX]
theorem below_nn:∀ {ps} (m:Int),(∀ p∈ps,p.1<p.2)->0<=below ps m
 |[],_,_=>by unfold below;simp
 |p::ps,m,h=>by
  let ih:=below_nn (ps:=ps) m λq hq=>h q (zAb _ hq);let:=h p zAd;rw[Ex]
  split
  .split <;> lia
  .lia
theorem Kr:∀ {ps} {m:Int},(∀ p∈ps,m<=p.1)->below ps m=0
 |[],_,_=>by unfold below;simp
 |p::ps,m,h=>by
  let ih:=Kr (ps:=ps) (m:=m) λq hq=>h q (zAb _ hq);let:=h p zAd;rw[Ex,ih]
  split <;> lia
theorem lowW_none:∀ {ps} {n:Int},(∀ p∈ps,p.1<p.2)->n<=0->lowW ps n=[]
 |[],_,_,_=>rfl
 |p::ps,n,h,g=>by
  let:=h p zAd;unfold lowW;rw[ZH (by lia),lowW_none (ps:=ps) (λq hq=>h q (zAb _ hq)) (by lia)];rfl
theorem Vz:∀ {ps},Frm ps->∀ n m:Int,inR (lowW ps n) m=(inR ps m&&decide (below ps m<n))
 |[],_,n,m=>by simp [lowW,inR]
 |p::ps,f,n,m=>by
  let Y:=f.lt p zAd;let B:Frm ps:=⟨λq hq=>f.lt q (zAb _ hq),(zAJ.mp f.pw).2⟩;let hq:=(zAJ.mp f.pw).1;let ih:=Vz B (n-(p.2-p.1)) m;unfold lowW;rw[Pi,ih,Ex];let e:inR (p::ps) m=(inR [p] m||inR ps m):=Pi [p] ps m;rw[e];let one:∀ q:Rn,inR [q] m=(decide (q.1<=m)&&decide (m<q.2)):=λq=>by simp [inR]
  by_cases F:m<p.2
  ·
   let S:below ps m=0:=Kr λq h=>by let:=hq q h;lia
   let L:inR ps m=ZK:=by
    apply zBs.mpr;intro h;obtain⟨q,h1,j,_⟩:=inR_iff.mp h;let:=hq q h1
    lia
   rw[S,L,one,zCj,kO,kO];apply bool_iff;by_cases z:0<n
   .rw[ZJ z,one]
    simp only [zAo,ZL];constructor
    .rintro ⟨h1,j⟩
     split at j <;> (refine⟨⟨h1,F⟩,?_⟩;split <;> (try split) <;> lia)
    .rintro ⟨⟨h1,j⟩,g⟩
     refine⟨h1,?_⟩
     split at g
     .split <;> lia
     .split <;> lia
   .rw[ZH z]
    simp only [zAo,ZL];constructor
    .intro h;exact ZR h (by simp [inR])
    .rintro ⟨⟨h1,j⟩,g⟩
     split at g <;> (try split at g) <;> lia
  .have U:inR [p] m=ZK:=by rw[one];simp;lia
   let M:inR (if 0<n then [(p.1,if p.1+n<p.2 then p.1+n else p.2)] else []) m=ZK:=by
    split
    .rw[one];simp only [fV,oM];right;split <;> lia
    .rfl
   rw[U,M,gU,gU,ZJ (by lia),ZH (by lia)]
   congr 1
   apply bool_iff;rw[ZL,ZL]
   lia
theorem Xj:∀ {ps} {n:Int} {q},q∈lowW ps n->∃ p∈ps,q.1=p.1/\q.2<=p.2
 |[],_,_,h=>by simp [lowW] at h
 |p::ps,n,q,h=>by
  unfold lowW at h;rcases zAu.mp h with h|h
  .split at h
   .rw[zAh] at h
    subst h;refine⟨p,zAd,rfl,?_⟩;simp only
    split <;> lia
   .cases h
  .obtain⟨r,hr,h1,g⟩:=Xj h
   exact⟨r,zAb _ hr,h1,g⟩
theorem Yt:∀ {ps} (n:Int),Frm ps->Frm (lowW ps n)
 |[],_,_=>⟨λ_ h=>(nomatch h),.nil⟩
 |p::ps,n,f=>by
  let j:=f.lt p zAd;let g:Frm ps:=⟨λq hq=>f.lt q (zAb _ hq),(zAJ.mp f.pw).2⟩;let hq:=(zAJ.mp f.pw).1;let ih:=Yt (n-(p.2-p.1)) g;unfold lowW
  split
  .refine⟨λq h=>?_,?_⟩
   .rcases zAu.mp h with h|h
    .rw[zAh] at h
     subst h;simp only
     split <;> lia
    .exact ih.lt q h
   .rw[fP,zAJ]
    refine⟨λq h=>?_,ih.pw⟩;obtain⟨r,hr,h1,_⟩:=Xj h;let:=hq r hr;simp only
    split <;> lia
  .exact ih
theorem lowW_len:∀ (ps:List Rn) (n:Int),(lowW ps n).length<=ps.length
 |[],_=>zAl _
 |p::ps,n=>by
  let:=lowW_len ps (n-(p.2-p.1));unfold lowW;rw[zAm,zAf]
  split <;> simp <;> lia
def maxI (a b:Int):Int:=if b>a then b else a
def minI (a b:Int):Int:=if b<a then b else a
def leftW (e:Int):Int->List Rn->List Rn
 |b,[]=>if b<e then [(b,e)] else []
 |b,q::qs=>(if b<minI q.1 e then [(b,minI q.1 e)] else [])++leftW e (maxI b q.2) qs
def outW (ps qs:List Rn):List Rn:=(ps.map λp=>leftW p.2 p.1 qs).flatten
theorem Ry (e:Int):∀ {qs},(∀ q∈qs,q.1<q.2)->(qs.Pairwise λp q=>p.2<q.1)->∀ b m:Int,inR (leftW e b qs) m=((decide (b<=m)&&decide (m<e)) && !inR qs m)
 |[],_,_,b,m=>by
  unfold leftW;apply bool_iff
  split <;> simp [inR] <;> omega
 |q::qs,hl,M,b,m=>by
  let hq:=hl q zAd;let Y:=(zAJ.mp M).1;let ih:=Ry e (λq h=>hl q (zAb _ h)) (zAJ.mp M).2 (maxI b q.2) m;unfold leftW;let Z:inR (q::qs) m=(inR [q] m||inR qs m):=Pi [q] qs m;rw[Pi,ih,Z];let one:∀ q:Rn,inR [q] m=(decide (q.1<=m)&&decide (m<q.2)):=λq=>by simp [inR]
  rw[one];let L:∀ x,x<minI q.1 e↔x<q.1/\x<e:=λx=>by unfold minI;split <;> omega
  let e1:inR (if b<minI q.1 e then [(b,minI q.1 e)] else []) m=(decide (b<=m)&&(decide (m<q.1)&&decide (m<e))):=by
   apply bool_iff;by_cases B:b<minI q.1 e
   .rw[ZJ B,one]
    simp only [zAo,ZL];rw[L]
   .rw[ZH B]
    simp only [zAo,ZL];constructor
    .intro h;exact ZR h (by simp [inR])
    .intro h
     exact ZR ((L b).mpr ⟨by omega,by omega⟩) B
  rw[e1];let F:m<q.1->inR qs m=ZK:=λh=>by
   apply zBs.mpr;intro h';obtain⟨r,h1,j,_⟩:=inR_iff.mp h';let:=Y r h1;omega
  let S:∀ x,maxI b q.2<=x↔b<=x/\q.2<=x:=λx=>by unfold maxI;split <;> omega
  apply bool_iff;rw[Bool.or_eq_true];simp only [zAo,ZL,zBl,Bool.or_eq_false_iff,fV,oM];rw[S];constructor
  .rintro (⟨h1,j,g⟩|⟨⟨⟨h1,j⟩,g⟩,z⟩)
   .exact⟨⟨h1,g⟩,.inl (by omega),F j⟩
   .exact⟨⟨h1,g⟩,.inr (by omega),z⟩
  .rintro ⟨⟨h1,j⟩,g,z⟩
   by_cases U:m<q.1
   .exact .inl ⟨h1,U,j⟩
   .refine .inr ⟨⟨⟨h1,?_⟩,j⟩,z⟩
    rcases g with g|g <;> omega
set_option tactic.hygienic true in
theorem Hg (e:Int):∀ {qs} {b:Int} {r},r∈leftW e b qs->b<=r.1/\r.1<r.2/\r.2<=e
 |[],b,r,h=>by
  unfold leftW at h
  split at h
  .rw[zAh] at h;subst h;simp only;lia
  .cases h
 |q::qs,b,r,h=>by
  unfold leftW at h;rcases zAu.mp h with h|h
  .split at h
   .rw[zAh] at h;subst h;rename_i hh;simp only;refine⟨aD _,hh,?_⟩;unfold minI;split <;> lia
   .cases h
  .have:=Hg e h
   let g:b<=maxI b q.2:=by unfold maxI;split <;> lia
   lia
theorem Xy (e:Int):∀ {qs},(∀ q∈qs,q.1<q.2)->∀ b:Int,(leftW e b qs).Pairwise λp q=>p.2<q.1
 |[],_,b=>by unfold leftW;split <;> simp
 |q::qs,hl,b=>by
  let hq:=hl q zAd;let ih:=Xy e (λq h=>hl q (zAb _ h)) (maxI b q.2);unfold leftW
  split
  .rw[fP,zAJ]
   refine⟨λr h=>?_,ih⟩;let h1:=Hg e h;let g:q.2<=maxI b q.2:=by unfold maxI;split <;> lia
   simp only;let:minI q.1 e<=q.1:=by unfold minI;split <;> lia
   lia
  .exact ih
def outW_in {ps qs:List Rn} (g:Frm qs) (m:Int):inR (outW ps qs) m=(inR ps m && !inR qs m):=by
 apply bool_iff;rw[zAo,zBl,inR_iff,inR_iff];unfold outW;constructor
 .rintro ⟨r,hr,h1,j⟩
  obtain⟨l,hl,hr⟩:=zCE.mp hr;obtain⟨p,q,rfl⟩:=zAv.mp hl;let z:inR (leftW p.2 p.1 qs) m=ZI:=inR_iff.mpr ⟨r,hr,h1,j⟩;rw[Ry p.2 g.lt g.pw] at z;simp only [zAo,ZL,zBl] at z;exact⟨⟨p,q,z.1.1,z.1.2⟩,z.2⟩
 .rintro ⟨⟨p,q,h1,j⟩,B⟩
  let z:inR (leftW p.2 p.1 qs) m=ZI:=by
   rw[Ry p.2 g.lt g.pw];simp only [zAo,ZL,zBl];exact⟨⟨h1,j⟩,B⟩
  obtain⟨r,hr,h⟩:=inR_iff.mp z;exact⟨r,zCE.mpr ⟨_,zAv.mpr ⟨p,q,rfl⟩,hr⟩,h⟩
def outW_frm {ps qs:List Rn} (fp:Frm ps) (g:Frm qs):Frm (outW ps qs):=by
 refine⟨λr hr=>?_,?_⟩
 .obtain⟨l,hl,hr⟩:=zCE.mp hr
  obtain⟨p,j,rfl⟩:=zAv.mp hl;exact (Hg p.2 hr).2.1
 .unfold outW
  rw[List.pairwise_flatten];refine⟨λl hl=>?_,?_⟩
  .obtain⟨p,j,rfl⟩:=zAv.mp hl
   exact Xy p.2 g.lt p.1
  .rw[zBH]
   refine fp.pw.imp ?_;intro p q h r hr t z;let h1:=Hg p.2 hr;let B:=Hg q.2 z;omega
theorem leftW_len (e:Int):∀ (qs:List Rn) (b:Int),(leftW e b qs).length<=qs.length+1
 |[],b=>by unfold leftW;split <;> simp
 |q::qs,b=>by
  let:=leftW_len e qs (maxI b q.2);unfold leftW;rw[zAm,zAf]
  split <;> simp <;> lia
def outW_len (ps qs:List Rn):(outW ps qs).length<=ps.length*(qs.length+1):=by
 unfold outW
 induction ps with
 |nil=>simp
 |cons p ps ih=>
  let:=leftW_len p.2 qs p.1;rw[zAp,oE,zAm,zAf,Nat.add_mul];omega
def cutW_len (ps:List Rn) (lo hi:Int):(cutW ps lo hi).length<=ps.length:=by
 unfold cutW;let:=zAO (λp:Rn=>decide (p.1<p.2)) (ps.map (cutM lo hi));rw[zAc] at this;exact this
def lowW_nil (n:Int):lowW [] n=[]:=rfl
def lowW_cons (p:Rn) (ps:List Rn) (n:Int):lowW (p::ps) n=(if 0<n then [(p.1,if p.1+n<p.2 then p.1+n else p.2)] else [])++lowW ps (n-(p.2-p.1)):=rfl
def leftW_nil (e b:Int):leftW e b []=if b<e then [(b,e)] else []:=rfl
def leftW_cons (e b:Int) (q:Rn) (qs:List Rn):leftW e b (q::qs)=(if b<minI q.1 e then [(b,minI q.1 e)] else [])++leftW e (maxI b q.2) qs:=rfl
end CR
namespace CRT
open CR CRP
section
variable {ν:Type}
abbrev Sx (ν:Type):=Int×Int × ν × Int
abbrev Av (ν:Type):=ν × (Int×Int)×Option Int
def payW (c:Av ν) (un:List Rn):List Rn:=match c.2.2 with
 |none=>cutW un c.2.1.1 c.2.1.2
 |some n=>lowW (cutW un c.2.1.1 c.2.1.2) n
def tag (nm:ν) (k:Int) (ps:List Rn):List (Sx ν):=ps.map λp=>(p.1,p.2,nm,k)
def paidS:List (Av ν)->List Rn->List (Sx ν)
 |[],_=>[]
 |c::cs,un=>tag c.1 (-1) (payW c un)++paidS cs (outW un (payW c un))
def leftS:List (Av ν)->List Rn->List Rn
 |[],un=>un
 |c::cs,un=>leftS cs (outW un (payW c un))
def borneS (nm:ν) (g:Int->Int) (parts:List Tr3) (un:List Rn):List (Sx ν):=(parts.map λp=>tag nm (g p.2.2) (cutW un p.1 p.2.1)).flatten
def B6 (S:List (Sx ν)) (n:Int):Prop:=∃ s∈S,s.1<=n/\n<s.2.1
def Wn {S T:List (Sx ν)} {n:Int}:B6 (S++T) n↔B6 S n\/B6 T n:=by
 unfold B6;constructor
 .rintro ⟨s,g,h⟩
  rcases zAu.mp g with z|z
  .exact .inl ⟨s,z,h⟩
  .exact .inr ⟨s,z,h⟩
 .rintro (⟨s,g,h⟩|⟨s,g,h⟩)
  .exact⟨s,zAu.mpr (.inl g),h⟩
  .exact⟨s,zAu.mpr (.inr g),h⟩
def YH {nm:ν} {k:Int} {ps:List Rn} {n:Int}:B6 (tag nm k ps) n↔inR ps n=ZI:=by
 rw[inR_iff];unfold B6 tag;constructor
 .rintro ⟨s,j,h⟩
  obtain⟨p,g,rfl⟩:=zAv.mp j;exact⟨p,g,h⟩
 .rintro ⟨p,g,h⟩
  exact⟨_,zAv.mpr ⟨p,g,rfl⟩,h⟩
def apart (s t:Sx ν):Prop:=(s.2.1<=t.1\/t.2.1<=s.1)/\(s.2.1=t.1\/t.2.1=s.1->s.2.2≠t.2.2)
structure Sep (S:List (Sx ν)):Prop where
 lt:∀ s∈S,s.1<s.2.1
 pw:S.Pairwise apart
def apart.symm {s t:Sx ν} (h:apart s t):apart t s:=⟨h.1.symm,λz e=>h.2 z.symm e.symm⟩
def Sep.nil:Sep ([]:List (Sx ν)):=⟨λ_ h=>(nomatch h),.nil⟩
def P5 {nm:ν} {k:Int} {ps:List Rn} (f:Frm ps):Sep (tag nm k ps):=by
 refine⟨λs j=>?_,?_⟩
 .obtain⟨p,g,rfl⟩:=zAv.mp j
  exact f.lt p g
 .unfold tag
  rw[zBH];refine f.pw.imp_of_mem λ{p q} g hq h=>⟨.inl (by show p.2<=q.1;lia),λz=>?_⟩;let:=f.lt p g;let:=f.lt q hq;rcases z with z|z
  .have B:p.2=q.1:=z
   lia
  .have B:q.2=p.1:=z
   lia
def Vu {S T:List (Sx ν)} (a:Sep S) (b:Sep T) (q:∀ n,B6 S n->B6 T n->False) (F:∀ s∈S,∀ t∈T,(s.2.1=t.1\/t.2.1=s.1)->s.2.2≠t.2.2):Sep (S++T):=by
 refine⟨λs g=>?_,zBQ.mpr ⟨a.pw,b.pw,λs g t j=>⟨?_,F s g t j⟩⟩⟩
 .rcases zAu.mp g with z|z
  .exact a.lt s z
  .exact b.lt s z
 .have L:=a.lt s g
  let B:=b.lt t j;by_cases M:s.2.1<=t.1
  .exact .inl M
  by_cases U:t.2.1<=s.1
  .exact .inr U
  exfalso;by_cases c3:s.1<=t.1
  .exact q t.1 ⟨s,g,c3,by lia⟩ ⟨t,j,by lia,B⟩
  .exact q s.1 ⟨s,g,by lia,L⟩ ⟨t,j,by lia,by lia⟩
def payW_frm {c:Av ν} {un:List Rn} (f:Frm un):Frm (payW c un):=by
 unfold payW
 split
 .exact cutW_frm _ _ f.pw
 .exact Yt _ (cutW_frm _ _ f.pw)
def payW_in {c:Av ν} {un:List Rn} (f:Frm un) {n:Int} (h:inR (payW c un) n=ZI):inR un n=ZI:=by
 unfold payW at h
 split at h
 .rw[cutW_in,zAo] at h
  exact h.1
 .rw[Vz (cutW_frm _ _ f.pw),zAo,cutW_in,zAo] at h
  exact h.1.1
theorem leftS_frm:∀ {cs:List (Av ν)} {un:List Rn},Frm un->Frm (leftS cs un)
 |[],_,f=>f
 |c::cs,un,f=>leftS_frm (cs:=cs) (outW_frm f (payW_frm f))
theorem leftS_sub:∀ {cs:List (Av ν)} {un:List Rn} {n:Int},Frm un->inR (leftS cs un) n=ZI->inR un n=ZI
 |[],_,_,_,h=>h
 |c::cs,un,n,f,h=>by
  let:=leftS_sub (cs:=cs) (outW_frm f (payW_frm f)) h;rw[outW_in (payW_frm f),zAo] at this;exact this.1
theorem Jl:∀ {cs:List (Av ν)} {un:List Rn} {n:Int},Frm un->(B6 (paidS cs un) n↔inR un n=ZI/\inR (leftS cs un) n=ZK)
 |[],un,n,f=>by
  constructor
  .rintro ⟨s,B,_⟩
   cases B
  .rintro ⟨h1,j⟩
   let g:inR un n=ZK:=j;rw[h1] at g;cases g
 |c::cs,un,n,f=>by
  let q:=outW_frm f (payW_frm (c:=c) f);unfold paidS leftS;rw[Wn,YH,Jl (cs:=cs) q,outW_in (payW_frm f),zAo,zBl];constructor
  .rintro (h|⟨⟨h1,j⟩,F⟩)
   .refine⟨payW_in f h,?_⟩
    cases z:inR (leftS cs (outW un (payW c un))) n with
    |false=>rfl
    |true=>
     let:=leftS_sub q z;rw[outW_in (payW_frm f),zAo,zBl] at this;rw[h] at this;cases this.2
   .exact⟨h1,F⟩
  .rintro ⟨h1,j⟩
   cases z:inR (payW c un) n with
   |true=>exact .inl rfl
   |false=>exact .inr ⟨⟨h1,rfl⟩,j⟩
theorem paidS_key:∀ {cs:List (Av ν)} {un:List Rn} {s:Sx ν},s∈paidS cs un->s.2.2.2 = -1/\s.2.2.1∈cs.map (·.1)
 |[],_,_,h=>nomatch h
 |c::cs,un,s,h=>by
  unfold paidS at h;rcases zAu.mp h with z|z
  .obtain⟨p,_,rfl⟩:=zAv.mp z
   exact⟨rfl,zAd⟩
  .obtain⟨a,b⟩:=paidS_key z
   exact⟨a,zAb _ b⟩
theorem Va:∀ {cs:List (Av ν)} {un:List Rn},Frm un->(cs.map (·.1)).Nodup->Sep (paidS cs un)
 |[],_,_,_=>Sep.nil
 |c::cs,un,f,g=>by
  rw[zAp,zAT] at g;let q:=outW_frm f (payW_frm (c:=c) f);unfold paidS;refine Vu (P5 (payW_frm f)) (Va q g.2) (λn h1 j=>?_) (λs B t z _ e=>?_)
  .rw[YH] at h1
   rw[Jl q,outW_in (payW_frm f),zAo,zBl] at j;rw[h1] at j;cases j.1.2
  .obtain⟨p,_,rfl⟩:=zAv.mp B
   let:=(paidS_key z).2;rw[<- e] at this;exact g.1 this
def La (nm:ν) (g:Int->Int) (p:Tr3) (ps:List Tr3) (un:List Rn):borneS nm g (p::ps) un=tag nm (g p.2.2) (cutW un p.1 p.2.1)++borneS nm g ps un:=by
 unfold borneS;rw[zAp,oE]
theorem IR {f:Int->Int}:∀ {ps} {a:Int} {g:Option Int} {e:Int},Ch f a g ps e->a<=e
 |[],a,g,e,h=>by
  let h':a=e:=h
  lia
 |(l,h,k)::r,a,g,e,⟨F,z,B,q,j⟩=>by
  let:=IR j
  lia
theorem Mc {f:Int->Int} {nm:ν} {g:Int->Int} {un:List Rn} {n:Int}:∀ {ps} {a:Int} {q:Option Int} {e:Int},Ch f a q ps e->(B6 (borneS nm g ps un) n↔inR un n=ZI/\a<=n/\n<e)
 |[],a,q,e,h=>by
  let h':a=e:=h;constructor
  .rintro ⟨s,F,_⟩
   cases F
  .rintro ⟨_,h1,z⟩
   lia
 |(l,h,k)::r,a,q,e,⟨Y,S,U,M,B⟩=>by
  let L:=IR B;rw[La,Wn,YH,Mc B,cutW_in,zAo,zAo,ZL,ZL]
  dsimp only
  constructor
  .rintro (⟨h1,z,j⟩|⟨h1,z,j⟩)
   .exact⟨h1,by lia,by lia⟩
   .exact⟨h1,by lia,j⟩
  .rintro ⟨h1,z,j⟩
   by_cases c:n<h
   .exact .inl ⟨h1,by lia,c⟩
   .exact .inr ⟨h1,by lia,j⟩
theorem borne_mem {nm:ν} {g:Int->Int} {un} {s}:∀ {ps},s∈borneS nm g ps un->∃ p∈ps,s.2.2=(nm,g p.2.2)/\∃ q∈cutW un p.1 p.2.1,s.1=q.1/\s.2.1=q.2
 |[],h=>nomatch h
 |p::ps,h=>by
  rw[La] at h;rcases zAu.mp h with z|z
  .obtain⟨q,hq,rfl⟩:=zAv.mp z
   exact⟨p,zAd,rfl,q,hq,rfl,rfl⟩
  .obtain⟨p',h1,h2⟩:=borne_mem z
   exact⟨p',zAb _ h1,h2⟩
def cutW_bd {un:List Rn} {lo hi:Int} {q:Rn} (h:q∈cutW un lo hi):lo<=q.1/\q.2<=hi/\q.1<q.2:=by
 unfold cutW at h;obtain⟨h1,g⟩:=zAR.mp h;obtain⟨p,_,rfl⟩:=zAv.mp h1;let:=ZY g;unfold cutM at this ⊢
 dsimp only at this ⊢
 refine⟨?_,?_,this⟩
 .split <;> lia
 .split <;> lia
theorem Um {f:Int->Int} {nm:ν} {g:Int->Int} {un} (fu:Frm un):∀ {ps} {a:Int} {lk:Option Int} {e:Int},Ch f a lk ps e->(∀ p∈ps,∀ q∈ps,g p.2.2=g q.2.2->p.2.2=q.2.2)->Sep (borneS nm g ps un)
 |[],_,_,_,_,_=>Sep.nil
 |(l,h,k)::r,a,lk,e,⟨a1,a2,a3,a4,a5⟩,gi=>by
  rw[La];refine Vu (P5 (cutW_frm _ _ fu.pw)) (Um fu a5 λp hp q hq=>gi p (zAb _ hp) q (zAb _ hq)) (λn h1 h2=>?_) (λs hs t ht tc e'=>?_)
  .rw[YH,cutW_in,zAo,zAo,ZL,ZL] at h1
   rw[Mc a5] at h2;let:=h1.2.2
   dsimp only at this
   lia
  .obtain⟨q,hq,rfl⟩:=zAv.mp hs
   obtain⟨b1,b2,b3⟩:=cutW_bd hq
   dsimp only at b1 b2
   obtain⟨p,hp,ek,q',hq',e1,e2⟩:=borne_mem ht;obtain⟨c1,c2,c3⟩:=cutW_bd hq';let nx:∀ {ps:List Tr3} {b:Int} {lk:Option Int} {e:Int},Ch f b lk ps e->∀ p∈ps,b<=p.1/\(p.1=b->lk≠ZC p.2.2):=by
    intro ps
    induction ps with
    |nil=>intro b lk e _ p hp;cases hp
    |cons x ps ih=>
     obtain⟨l',h',k'⟩:=x;rintro b lk e ⟨d1,d2,d3,d4,d5⟩ p hp;rcases zAj.mp hp with z|z
     .subst z
      exact⟨by show b<=l';lia,λ_=>d3⟩
     .have:=(ih d5 p z).1
      exact⟨by lia,λy=>by lia⟩
   obtain⟨n1,n2⟩:=nx a5 p hp;let ek':g k=g p.2.2:=by
    let:=aC (λz:ν × Int=>z.2) (e'.trans ek);exact this
   let kk:=gi (l,h,k) zAd p (zAb _ hp) ek';let pe:p.1=h:=by
    rcases tc with z|z
    .have z':q.2=t.1:=z
     lia
    .have z':t.2.1=q.1:=z
     lia
   exact n2 pe (by rw[<- kk])
def allS (cs:List (Av ν)) (nm:ν) (g:Int->Int) (parts:List Tr3) (c:Int):List (Sx ν):=paidS cs [(0,c)]++borneS nm g parts (leftS cs [(0,c)])
def frm_one {c:Int} (h:0<c):Frm [((0:Int),c)]:=⟨λp g=>by rw[zAh.mp g];exact h,List.pairwise_singleton _ _⟩
def in_one {c n:Int}:inR [((0:Int),c)] n=ZI↔0<=n/\n<c:=by
 rw[inR_iff];constructor
 .rintro ⟨p,g,h⟩
  rw[zAh.mp g] at h;exact h
 .intro h
  exact⟨_,zAh.mpr rfl,h⟩
def all_in {cs:List (Av ν)} {nm:ν} {g f:Int->Int} {j:List Tr3} {c n:Int} (q:0<c) (ch:Ch f 0 ZD j c):B6 (allS cs nm g j c) n↔0<=n/\n<c:=by
 unfold allS;rw[Wn,Jl (frm_one q),Mc ch,in_one];constructor
 .rintro (h|h)
  .exact h.1
  .exact h.2
 .intro h
  cases z:inR (leftS cs [(0,c)]) n with
  |false=>exact .inl ⟨h,rfl⟩
  |true=>exact .inr ⟨rfl,h⟩
def all_sep {cs:List (Av ν)} {nm:ν} {g f:Int->Int} {parts:List Tr3} {c:Int} (c0:0<c) (nd:(cs.map (·.1)).Nodup) (ch:Ch f 0 ZD parts c) (gi:∀ p∈parts,∀ q∈parts,g p.2.2=g q.2.2->p.2.2=q.2.2)
  (gn:∀ p∈parts,g p.2.2 = -1->∀ n,p.1<=n->n<p.2.1->inR (leftS cs [(0,c)]) n=ZK):Sep (allS cs nm g parts c):=by
 unfold allS;let fl:Frm (leftS cs [((0:Int),c)]):=leftS_frm (frm_one c0);refine Vu (Va (frm_one c0) nd) (Um fl ch gi) (λn h1 h2=>?_) (λs hs t ht tc e=>?_)
 .rw[Jl (frm_one c0)] at h1
  rw[Mc ch] at h2;rw[h1.2] at h2;cases h2.1
 .obtain⟨p,hp,ek,q,hq,e1,e2⟩:=borne_mem ht
  obtain⟨c1,c2,c3⟩:=cutW_bd hq;let k1:=(paidS_key hs).1;let k2:g p.2.2 = -1:=by
   let:=aC (λz:ν × Int=>z.2) (e.trans ek);rw[<- k1];exact this.symm
  let i1:=gn p hp k2 q.1 c1 (by lia);let i2:inR (cutW (leftS cs [((0:Int),c)]) p.1 p.2.1) q.1=ZI:=inR_iff.mpr ⟨q,hq,aD _,c3⟩;rw[cutW_in,i1] at i2;cases i2
def Sep.starts {S:List (Sx ν)} (h:Sep S):(S.map (·.1)).Nodup:=by
 rw[zAW,zBH];refine h.pw.imp_of_mem λ{s t} g j a e=>?_;let B:=h.lt s g;let q:=h.lt t j;rcases a.1 with z|z <;> lia
def Sep.perm {S T:List (Sx ν)} (h:Sep S) (p:T.Perm S):Sep T:=⟨λs g=>h.lt s (p.mem_iff.mp g),(p.pairwise_iff λh=>h.symm).mpr h.pw⟩
def inS_perm {S T:List (Sx ν)} (p:T.Perm S) {n:Int}:B6 T n↔B6 S n:=by
 unfold B6;constructor
 .rintro ⟨s,g,h⟩
  exact⟨s,p.mem_iff.mp g,h⟩
 .rintro ⟨s,g,h⟩
  exact⟨s,p.mem_iff.mpr g,h⟩
def FormS:Int->Option (ν × Int)->List (Sx ν)->Int->Prop
 |a,_,[],c=>a=c
 |a,lk,s::r,c=>s.1=a/\s.1<s.2.1/\lk≠ZC s.2.2/\FormS s.2.1 (ZC s.2.2) r c
theorem form_of:∀ {S:List (Sx ν)} {a c:Int} {M:Option (ν × Int)},a<=c->Sep S->S.Pairwise (λs t=>s.1<t.1)->(∀ n,B6 S n↔a<=n/\n<c)->(∀ s∈S,s.1=a->M≠ZC s.2.2)->FormS a M S c
 |[],a,c,M,ac,_,_,B,_=>by
  show a=c;by_cases z:a=c
  .exact z
  .obtain⟨s,hs,_⟩:=(B a).mpr ⟨aD _,by lia⟩
   cases hs
 |s::r,a,c,M,ac,sp,so,B,Y=>by
  let l1:=sp.lt s zAd;let j:=zAJ.mp so;let q:=zAJ.mp sp.pw;let s1:=(B s.1).mp ⟨s,zAd,aD _,l1⟩;let Z:s.1=a:=by
   obtain⟨t,g,L,F⟩:=(B a).mpr ⟨aD _,by lia⟩;rcases zAj.mp g with z|z
   .rw[z] at L;lia
   .have:=j.1 t z;lia
  let s2:=(B (s.2.1-1)).mp ⟨s,zAd,by lia,by lia⟩;let U:∀ t∈r,s.2.1<=t.1:=λt g=>by
   let l2:=sp.lt t (zAb _ g);let:=j.1 t g;rcases (q.1 t g).1 with z|z <;> lia
  refine⟨Z,l1,Y s zAd Z,form_of (by lia) ⟨λt g=>sp.lt t (zAb _ g),q.2⟩ j.2 (λn=>?_) (λt g e z=>?_)⟩
  .constructor
   .rintro ⟨t,g,L,F⟩
    let:=U t g;exact⟨by lia,((B n).mp ⟨t,zAb _ g,L,F⟩).2⟩
   .rintro ⟨n1,n2⟩
    obtain⟨t,g,L,F⟩:=(B n).mpr ⟨by lia,n2⟩;rcases zAj.mp g with y|y
    .rw[y] at F;lia
    .exact⟨t,y,L,F⟩
  .exact (q.1 t g).2 (.inl e.symm) (aH z)
def EndsIn (B:List Int) (ps:List Rn):Prop:=∀ p∈ps,p.1∈B/\p.2∈B
def X5 {B:List Int} {ps:List Rn} {lo hi:Int} (h:EndsIn B ps) (h1:lo∈B) (g:hi∈B):EndsIn B (cutW ps lo hi):=λq hq=>by
 unfold cutW at hq;obtain⟨p,j,rfl⟩:=zAv.mp (zAR.mp hq).1;let:=h p j;unfold cutM
 dsimp only
 refine⟨?_,?_⟩
 .split
  .exact h1
  .exact this.1
 .split
  .exact g
  .exact this.2
theorem Uk:∀ {ps} (n:Int),(∀ p∈ps,p.1<p.2)->∃ T:Int,∀ B,EndsIn B ps->EndsIn (T::B) (lowW ps n)
 |[],n,_=>⟨0,λB _ p j=>nomatch j⟩
 |p::ps,n,lt=>by
  by_cases c:0<n/\p.1+n<p.2
  .refine⟨p.1+n,λB h q hq=>?_⟩
   rw[lowW_cons,ZJ c.1,ZJ c.2,lowW_none (λq hq=>lt q (zAb _ hq)) (by lia),zAY] at hq;rw[zAh.mp hq];exact⟨zAb _ (h p zAd).1,zAd⟩
  .obtain⟨T,hT⟩:=Uk (ps:=ps) (n-(p.2-p.1)) λq hq=>lt q (zAb _ hq)
   refine⟨T,λB h q hq=>?_⟩;rw[lowW_cons] at hq;rcases zAu.mp hq with z|z
   .by_cases g:0<n
    .rw[ZJ g,ZH (λy=>c ⟨g,y⟩)] at z
     rw[zAh.mp z];let:=h p zAd;exact⟨zAb _ this.1,zAb _ this.2⟩
    .rw[ZH g] at z
     cases z
   .exact hT B (λq hq=>h q (zAb _ hq)) q z
theorem Ra {B:List Int} {e:Int} (j:e∈B):∀ {qs} {b:Int},b∈B->EndsIn B qs->EndsIn B (leftW e b qs)
 |[],b,g,_,q,hq=>by
  rw[leftW_nil] at hq
  split at hq
  .rw[zAh.mp hq]
   exact⟨g,j⟩
  .cases hq
 |x::qs,b,g,h,q,hq=>by
  let F:=h x zAd;rw[leftW_cons] at hq;rcases zAu.mp hq with z|z
  .split at z
   .rw[zAh.mp z]
    refine⟨g,?_⟩;show minI x.1 e∈B;unfold minI
    split
    .exact j
    .exact F.1
   .cases z
  .refine Ra j (qs:=qs) (b:=maxI b x.2) ?_ (λq hq=>h q (zAb _ hq)) q z
   unfold maxI
   split
   .exact F.2
   .exact g
def Y0 {B:List Int} {ps qs:List Rn} (h:EndsIn B ps) (g:EndsIn B qs):EndsIn B (outW ps qs):=λq hq=>by
 unfold outW at hq;obtain⟨l,hl,z⟩:=zCE.mp hq;obtain⟨p,j,rfl⟩:=zAv.mp hl;exact Ra (h p j).2 (h p j).1 g q z
def EndsIn.mono {B g:List Int} {ps:List Rn} (h:EndsIn B ps) (s:∀ x∈B,x∈g):EndsIn g ps:=λp j=>⟨s _ (h p j).1,s _ (h p j).2⟩
def S9 (c:Av ν) {B:List Int} {un:List Rn} (f:Frm un) (h:EndsIn B un):∃ T,EndsIn (T::c.2.1.1::c.2.1.2::B) (payW c un):=by
 let h':EndsIn (c.2.1.1::c.2.1.2::B) (cutW un c.2.1.1 c.2.1.2):=X5 (h.mono λx g=>by simp [g]) (by simp) (by simp);unfold payW
 split
 .exact⟨0,h'.mono λx g=>zAb _ g⟩
 .obtain⟨T,hT⟩:=Uk (ps:=cutW un c.2.1.1 c.2.1.2) (by assumption) (cutW_frm _ _ f.pw).lt
  exact⟨T,hT _ h'⟩
theorem paid_ends:∀ {cs:List (Av ν)} {B:List Int} {un:List Rn},Frm un->EndsIn B un->∃ g,g.length=B.length+3*cs.length/\(∀ x∈B,x∈g)/\EndsIn g (leftS cs un)/\∀ s∈paidS cs un,s.1∈g
 |[],B,un,f,h=>⟨B,rfl,λ_ z=>z,h,λs z=>nomatch z⟩
 |c::cs,B,un,f,h=>by
  obtain⟨T,hT⟩:=S9 c f h;let U:EndsIn (T::c.2.1.1::c.2.1.2::B) un:=h.mono λx j=>by simp [j]
  obtain⟨g,Y,F,S,M⟩:=paid_ends (cs:=cs) (outW_frm f (payW_frm (c:=c) f)) (Y0 U hT);refine⟨g,by rw[Y];simp only [zAf];lia,λx j=>F x (by simp [j]),S,λs q=>?_⟩;unfold paidS at q;rcases zAu.mp q with z|z
  .obtain⟨p,L,rfl⟩:=zAv.mp z
   exact F _ (hT p L).1
  .exact M s z
def few_of {l m:List Int} (g:l.Nodup) (h:∀ x∈l,x∈m):l.length<=m.length:=by
 induction l generalizing m with
 |nil=>exact zAw _
 |cons x l ih=>
  rw[zAT] at g;let j:=h x zAd;let:=ih (m:=m.erase x) g.2 λy q=>(zCq (λz=>g.1 (by rw[<- z];exact q))).mpr (h y (zAb _ q));rw[zBT j] at this;let:0<m.length:=zCd j;rw[zAf]
  lia
def E2 {ps:List Rn} {lo hi:Int} {q:Rn} (h:q∈cutW ps lo hi):q.1=lo\/∃ p∈ps,q.1=p.1:=by
 unfold cutW at h;obtain⟨p,g,rfl⟩:=zAv.mp (zAR.mp h).1;unfold cutM
 dsimp only
 split
 .exact .inl rfl
 .exact .inr ⟨p,g,rfl⟩
def all_len {cs:List (Av ν)} {nm:ν} {g f:Int->Int} {parts:List Tr3} {c:Int} (c0:0<c) (sp:Sep (allS cs nm g parts c)):(allS cs nm g parts c).length<=2+3*cs.length+parts.length:=by
 obtain⟨B,b1,b2,b3,b4⟩:=paid_ends (cs:=cs) (B:=[0,c]) (frm_one c0) (λp hp=>by rw[zAh.mp hp];simp);let:=few_of (m:=parts.map (·.1)++B) sp.starts λx hx=>?_
 .rw[zAc,zAm,zAc,b1] at this
  simp only [zAf,zBZ] at this
  lia
 .obtain⟨s,hs,rfl⟩:=zAv.mp hx
  unfold allS at hs;rcases zAu.mp hs with z|z
  .exact zAu.mpr (.inr (b4 s z))
  .obtain⟨p,hp,_,q,hq,e1,_⟩:=borne_mem z
   rw[e1];rcases E2 hq with y|⟨p',hp',y⟩
   .rw[y]
    exact zAu.mpr (.inl (zAv.mpr ⟨p,hp,rfl⟩))
   .rw[y]
    exact zAu.mpr (.inr (b3 p' hp').1)
def Oz:List (Av ν)->List Rn->Int->Option ν
 |[],_,_=>ZD
 |c::cs,un,n=>if inR (payW c un) n=ZI then ZC c.1 else Oz cs (outW un (payW c un)) n
theorem Yn:∀ {cs:List (Av ν)} {un:List Rn} {s:Sx ν} {n:Int},Frm un->s∈paidS cs un->s.1<=n->n<s.2.1->Oz cs un n=ZC s.2.2.1
 |[],un,s,n,_,h,_,_=>nomatch h
 |c::cs,un,s,n,f,h,h1,g=>by
  unfold paidS at h;unfold Oz;rcases zAu.mp h with z|z
  .have:inR (payW c un) n=ZI:=YH.mp ⟨s,z,h1,g⟩
   rw[ZJ this];unfold tag at z;obtain⟨p,_,rfl⟩:=zAv.mp z;rfl
  .have j:=outW_frm f (payW_frm (c:=c) f)
   let:inR (outW un (payW c un)) n=ZI:=((Jl j).mp ⟨s,z,h1,g⟩).1;rw[outW_in (payW_frm f),zAo,zBl] at this;rw[ZH (by rw[this.2];exact zAt)];exact Yn j z h1 g
theorem Zz:∀ {cs:List (Av ν)} {un:List Rn} {n:Int},Frm un->inR (leftS cs un) n=ZI->Oz cs un n=ZD
 |[],_,_,_,_=>rfl
 |c::cs,un,n,f,h=>by
  let g:=outW_frm f (payW_frm (c:=c) f);let h':inR (leftS cs (outW un (payW c un))) n=ZI:=h;let:=leftS_sub g h';rw[outW_in (payW_frm f),zAo,zBl] at this;unfold Oz;rw[ZH (by rw[this.2];exact zAt)];exact Zz g h'
def ownS (cs:List (Av ν)) (nm:ν) (g f:Int->Int) (c n:Int):ν × Int:=match Oz cs [(0,c)] n with
 |some w=>(w,-1)
 |none=>(nm,g (f n))
def all_own {cs:List (Av ν)} {nm:ν} {g f:Int->Int} {j:List Tr3} {c n:Int} (F:0<c) (ch:Ch f 0 ZD j c) {s:Sx ν} (h:s∈allS cs nm g j c) (h1:s.1<=n) (U:n<s.2.1):s.2.2=ownS cs nm g f c n:=by
 let f1:=frm_one F;unfold allS at h;unfold ownS;rcases zAu.mp h with z|z
 .rw[Yn f1 z h1 U]
  let:=(paidS_key z).1;obtain⟨a,b,m,k⟩:=s;show (m,k)=(m,-1);rw[show k = -1 from this]
 .obtain⟨p,L,e,q,hq,Z,Y⟩:=borne_mem z
  let B:inR (cutW (leftS cs [(0,c)]) p.1 p.2.1) n=ZI:=inR_iff.mpr ⟨q,hq,by lia,by lia⟩;rw[cutW_in,zAo,zAo,ZL,ZL] at B;rw[Zz f1 B.1];obtain⟨i,hi,S⟩:=zAG L;let M:=Ch.get (i:=i) (p:=p) ch (by rw[zAe hi,S]);rw[e];show (nm,g p.2.2)=(nm,g (f n));rw[M.2.1 n B.2.1 B.2.2]
theorem form_le:∀ {S:List (Sx ν)} {a c:Int} {g:Option (ν × Int)},FormS a g S c->a<=c
 |[],a,c,g,h=>mE h
 |s::r,a,c,g,⟨h1,q,_,j⟩=>by let:=form_le j;lia
theorem form_uniq {o:Int->ν × Int}:∀ {S T:List (Sx ν)} {a c:Int} {lk B:Option (ν × Int)},FormS a lk S c->FormS a B T c->(∀ s∈S,∀ n,s.1<=n->n<s.2.1->s.2.2=o n)->(∀ s∈T,∀ n,s.1<=n->n<s.2.1->s.2.2=o n)->S=T
 |[],[],_,_,_,_,_,_,_,_=>rfl
 |[],t::T,a,c,_,_,h,⟨Y,g2,_,g⟩,_,_=>by
  let:a=c:=h;let:=form_le g
  lia
 |s::S,[],a,c,_,_,⟨Y,g2,_,g⟩,h,_,_=>by
  let:a=c:=h;let:=form_le g
  lia
 |s::S,t::T,a,c,lk,B,⟨h1,h2,h3,q⟩,⟨Y,g2,g3,g⟩,F,L=>by
  let k1:s.2.2=o a:=F s zAd a (by lia) (by lia);let M:t.2.2=o a:=L t zAd a (by lia) (by lia);let j:s.2.1=t.2.1:=by
   rcases oW s.2.1 t.2.1 with z|z|z
   .match S,q with
    |[],q=>
     let:s.2.1=c:=q;let:=form_le g
     lia
    |s'::S',⟨m1,m2,Z,m4⟩=>
     let j1:=F s' (zAb _ zAd) s.2.1 (by lia) (by lia);let j2:=L t zAd s.2.1 (by lia) (by lia);exact ZR (aC ZC (show s.2.2=s'.2.2 by rw[k1,<- M,j2,j1])) Z
   .exact z
   .match T,g with
    |[],g=>
     let:t.2.1=c:=g;let:=form_le q
     lia
    |t'::T',⟨m1,m2,Z,m4⟩=>
     let j1:=L t' (zAb _ zAd) t.2.1 (by lia) (by lia);let j2:=F s zAd t.2.1 (by lia) (by lia);exact ZR (aC ZC (show t.2.2=t'.2.2 by rw[M,<- k1,j2,j1])) Z
  let e:s=t:=by
   obtain⟨s1,s2,s3⟩:=s;obtain⟨t1,t2,t3⟩:=t;let e1:s1=t1:=by let:s1=a:=h1;let:t1=a:=Y;lia
   let e2:s2=t2:=j;let e3:s3=t3:=k1.trans M.symm;rw[e1,e2,e3]
  rw[j] at q;rw[e,form_uniq q g (λs U=>F s (zAb _ U)) λs U=>L s (zAb _ U)]
end
end CRT
namespace CR
theorem Eh:∀ {ps},Frm ps->∀ n:Int,below ps (n+1)=below ps n+if inR ps n=ZI then 1 else 0
 |[],_,n=>by unfold below inR;simp
 |p::ps,f,n=>by
  let j:Frm ps:=⟨λq hq=>f.lt q (zAb _ hq),(zAJ.mp f.pw).2⟩;let ih:=Eh j n;rw[Ex,Ex,ih];let lt:=f.lt p zAd;let g:inR (p::ps) n=ZI↔(p.1<=n/\n<p.2)\/inR ps n=ZI:=by
   rw[inR_iff,inR_iff];constructor
   .rintro ⟨q,hq,h⟩
    rcases zAj.mp hq with e|e
    .rw[e] at h;exact .inl h
    .exact .inr ⟨q,e,h⟩
   .rintro (h|⟨q,hq,h⟩)
    .exact⟨p,zAd,h⟩
    .exact⟨q,zAb _ hq,h⟩
  by_cases c:p.1<=n/\n<p.2
  .have B:¬ inR ps n=ZI:=λh=>by
    obtain⟨q,hq,h1,F⟩:=inR_iff.mp h;let:=(zAJ.mp f.pw).1 q hq
    lia
   rw[ZH B,ZJ (g.mpr (.inl c)),ZJ (show p.1<n+1 by lia)];by_cases e:p.1<n
   .rw[ZJ e,ZJ (show n<p.2 by lia)]
    split <;> lia
   .rw[ZH e]
    split <;> lia
  .have e:(if inR (p::ps) n=ZI then (1:Int) else 0)=if inR ps n=ZI then 1 else 0:=by
    by_cases z:inR ps n=ZI
    .rw[ZJ z,ZJ (g.mpr (.inr z))]
    .rw[ZH z,ZH λh=>(g.mp h).elim c z]
   rw[e];let:(if p.1<n+1 then (if n+1<p.2 then n+1 else p.2)-p.1 else 0)=if p.1<n then (if n<p.2 then n else p.2)-p.1 else 0:=by
    by_cases h:p.1<n
    .rw[ZJ h,ZJ (show p.1<n+1 by lia)]
     split <;> split <;> lia
    .rw[ZH h]
     by_cases h':p.1<n+1
     .rw[ZJ h']
      split <;> lia
     .rw[ZH h']
   lia
def Pos (ps:List Rn):Prop:=∀ n,inR ps n=ZI->0<=n
def Lq {ps:List Rn} (f:Frm ps) (h:Pos ps):below ps 0=0:=Kr λp g=>h p.1 (inR_iff.mpr ⟨p,g,aD _,f.lt p g⟩)
theorem Xi {ps qs:List Rn} (f:Frm ps) (g:Frm qs) (j:Pos ps) (hq:Pos qs):∀ k:Nat,(∀ n,0<=n->n<(k:Int)->inR ps n=ZI->inR qs n=ZI)->below ps (k:Int)<=below qs (k:Int)
 |0,_=>by rw[show ((0:Nat):Int)=0 from rfl,Lq f j,Lq g hq];exact aD _
 |k+1,h=>by
  let ih:=Xi f g j hq k λn B F=>h n B (by lia);rw[show ((k+1:Nat):Int)=(k:Int)+1 by lia,Eh f,Eh g];let q:=h (k:Int) (by lia) (by lia);by_cases z:inR ps (k:Int)=ZI
  .rw[ZJ z,ZJ (q z)];lia
  .rw[ZH z];split <;> lia
def Sd {ps qs:List Rn} (f:Frm ps) (g:Frm qs) (j:Pos ps) (hq:Pos qs) {n:Int} (q:0<=n) (h:∀ k,0<=k->k<n->inR ps k=ZI->inR qs k=ZI):below ps n<=below qs n:=by
 obtain⟨k,rfl⟩:=aQ q;exact Xi f g j hq k h
def below_congr {ps qs:List Rn} (f:Frm ps) (g:Frm qs) (B:Pos ps) (hq:Pos qs) {n:Int} (F:0<=n) (h:∀ k,0<=k->k<n->inR ps k=inR qs k):below ps n=below qs n:=
 Int.le_antisymm (Sd f g B hq F λk j q z=>by rw[<- h k j q];exact z) (Sd g f hq B F λk j q z=>by rw[h k j q];exact z)
def Pos.sub {ps qs:List Rn} (h:Pos ps) (s:∀ n,inR qs n=ZI->inR ps n=ZI):Pos qs:=λn z=>h n (s n z)
def pos_one (c:Int):Pos [((0:Int),c)]:=λn z=>by
 obtain⟨p,g,h1,_⟩:=inR_iff.mp z;rw[zAh.mp g] at h1;exact h1
end CR
namespace CRT
open CR CRP
section
variable {ν:Type}
def Py {c:Av ν} {un:List Rn} (f:Frm un) (n:Int):inR (payW c un) n=(inR un n&&(decide (c.2.1.1<=n)&&decide (n<c.2.1.2))&&match c.2.2 with|none=>ZI|some m=>decide (below (cutW un c.2.1.1 c.2.1.2) n<m)):=by
 obtain⟨g,W,r⟩:=c;cases r with
 |none=>
  show inR (cutW un W.1 W.2) n=(inR un n&&(decide (W.1<=n)&&decide (n<W.2))&&ZI);rw[cutW_in,Bool.and_true]
 |some m=>
  show inR (lowW (cutW un W.1 W.2) m) n=(inR un n&&(decide (W.1<=n)&&decide (n<W.2))&&decide (below (cutW un W.1 W.2) n<m));rw[Vz (cutW_frm _ _ f.pw),cutW_in]
def pos_out {un qs:List Rn} (g:Frm qs) (h:Pos un):Pos (outW un qs):=h.sub λn z=>by
 rw[outW_in g,zAo] at z;exact z.1
def Pn {un:List Rn} {lo hi:Int} (h:Pos un):Pos (cutW un lo hi):=h.sub λn z=>by
 rw[cutW_in,zAo] at z;exact z.1
def pos_pay {c:Av ν} {un:List Rn} (f:Frm un) (h:Pos un):Pos (payW c un):=h.sub λn z=>payW_in f z
def SE (e:Int) (a b:Av ν):Prop:=a.1=b.1/\a.2.2=b.2.2/\∀ n,0<=n->n<e->((a.2.1.1<=n/\n<a.2.1.2)↔(b.2.1.1<=n/\n<b.2.1.2))
def Likes (e:Int):List (Av ν)->List (Av ν)->Prop
 |[],[]=>True
 |a::as,b::bs=>SE e a b/\Likes e as bs
 |_,_=>False
def pay_like {e:Int} {a b:Av ν} (l:SE e a b) {un j:List Rn} (f:Frm un) (g:Frm j) (M:Pos un) (pv:Pos j) (h:∀ n,0<=n->n<e->inR un n=inR j n):∀ n,0<=n->n<e->inR (payW a un) n=inR (payW b j) n:=λn z F=>by
 obtain⟨U,L,S⟩:=l;rw[Py f,Py g,h n z F,L];let w:∀ k,0<=k->k<e->(decide (a.2.1.1<=k)&&decide (k<a.2.1.2))=(decide (b.2.1.1<=k)&&decide (k<b.2.1.2)):=λk q B=>bool_iff (by
  rw[zAo,zAo,ZL,ZL,ZL,ZL];exact S k q B)
 rw[w n z F]
 congr 1
 cases b.2.2 with
 |none=>rfl
 |some m=>
  show decide (below (cutW un a.2.1.1 a.2.1.2) n<m)=decide (below (cutW j b.2.1.1 b.2.1.2) n<m);rw[below_congr (ps:=cutW un a.2.1.1 a.2.1.2) (qs:=cutW j b.2.1.1 b.2.1.2) (cutW_frm _ _ f.pw) (cutW_frm _ _ g.pw) (Pn M) (Pn pv) z λk q B=>by rw[cutW_in,cutW_in,h k q (by lia),w k q (by lia)]]
theorem own_like {e:Int}:∀ {as bs:List (Av ν)} {un j:List Rn},Likes e as bs->Frm un->Frm j->Pos un->Pos j->(∀ n,0<=n->n<e->inR un n=inR j n)->∀ n,0<=n->n<e->Oz as un n=Oz bs j n
 |[],[],_,_,_,_,_,_,_,_,_,_,_=>rfl
 |[],_::_,_,_,h,_,_,_,_,_,_,_,_=>h.elim
 |_::_,[],_,_,h,_,_,_,_,_,_,_,_=>h.elim
 |a::as,b::bs,un,j,⟨l,ls⟩,f,g,F,pv,h,n,L,M=>by
  let q:=pay_like l f g F pv h;unfold Oz;rw[q n L M,l.1,own_like ls (outW_frm f (payW_frm f)) (outW_frm g (payW_frm g)) (pos_out (payW_frm f) F) (pos_out (payW_frm g) pv) (λk z B=>by rw[outW_in (payW_frm f),outW_in (payW_frm g),h k z B,q k z B]) n L M]
end
end CRT
namespace CR
theorem Og {ps qs:List Rn} (f:Frm ps) (g:Frm qs) (hq:Pos qs) {e d:Int} (h:∀ n,0<=n->n<d->inR qs n=inR ps (e+n)):∀ k:Nat,(k:Int)<=d->below ps (e+k)=below ps e+below qs k
 |0,_=>by rw[show ((0:Nat):Int)=0 from rfl,Lq g hq,aZ,aZ]
 |k+1,j=>by
  let ih:=Og f g hq h k (by lia);rw[show e+((k+1:Nat):Int)=(e+(k:Int))+1 by lia,show ((k+1:Nat):Int)=(k:Int)+1 by lia,Eh f,Eh g,h (k:Int) (by lia) (by lia),ih]
  lia
theorem below_all:∀ {ps} {e:Int},(∀ p∈ps,p.1<p.2)->(∀ p∈ps,p.2<=e)->below ps e=(ps.map λp=>p.2-p.1).sum
 |[],_,_,_=>rfl
 |p::ps,e,h,g=>by
  rw[Ex,zAp,zAX,below_all (λq hq=>h q (zAb _ hq)) λq hq=>g q (zAb _ hq)];let h1:=h p zAd;let j:=g p zAd;rw[ZJ (by lia)]
  split <;> lia
end CR
namespace CRT
open CR CRP
section
variable {ν:Type}
theorem Ub {a:Av ν} {un:List Rn} {m:Int} (f:Frm un) (j:Pos un) (q:a.2.2=ZC m) (z:0<=m):∀ k:Nat,below (payW a un) k=if below (cutW un a.2.1.1 a.2.1.2) k<m then below (cutW un a.2.1.1 a.2.1.2) k else m
 |0=>by
  rw[show ((0:Nat):Int)=0 from rfl,Lq (payW_frm f) (pos_pay f j),Lq (cutW_frm _ _ f.pw) (Pn j)]
  split <;> lia
 |k+1=>by
  let ih:=Ub f j q z k;let g:=Py (c:=a) f (k:Int);rw[q] at g;rw[show ((k+1:Nat):Int)=(k:Int)+1 by lia,Eh (payW_frm f),Eh (cutW_frm _ _ f.pw),ih,g,cutW_in];generalize (inR un (k:Int)&&(decide (a.2.1.1<=(k:Int))&&decide ((k:Int)<a.2.1.2)))=b;generalize below (cutW un a.2.1.1 a.2.1.2) (k:Int)=B;by_cases c:B<m
  .cases b with
   |true=>
    rw[ZJ c,ZJ (show (ZI&&decide (B<m))=ZI by rw[kN];exact ZN c),ZJ rfl]
    split <;> lia
   |false=>
    rw[ZJ c,zCj,ZH zAt,aZ,ZJ c]
  .rw[ZH c]
   let F:(b&&decide (B<m))=ZK:=by rw[ZQ c,zCm]
   rw[F,ZH (by lk)]
   split <;> split <;> lia
def WX (p:Int):Option Int->Option Int->Prop
 |none,ZD=>True
 |some m,ZC m'=>0<=m/\m'=m-p
 |_,_=>False
def Sh (e d p:Int) (a b:Av ν):Prop:=a.1=b.1/\(∀ n,0<=n->n<d->((a.2.1.1<=e+n/\e+n<a.2.1.2)↔(b.2.1.1<=n/\n<b.2.1.2)))/\WX p a.2.2 b.2.2
def Shs (e d:Int):List (Av ν)->List (Av ν)->List Rn->Prop
 |[],[],_=>True
 |a::as,b::bs,un=>Sh e d (below (payW a un) e) a b/\Shs e d as bs (outW un (payW a un))
 |_,_,_=>False
def U9 {e d:Int} (e0:0<=e) {a b:Av ν} {un z:List Rn} (s:Sh e d (below (payW a un) e) a b) (f:Frm un) (g:Frm z) (pu:Pos un) (pv:Pos z) (h:∀ n,0<=n->n<d->inR z n=inR un (e+n)):∀ n,0<=n->n<d->inR (payW b z) n=inR (payW a un) (e+n):=λn L M=>by
 obtain⟨s1,Z,q⟩:=s;let w:∀ k,0<=k->k<d->(decide (b.2.1.1<=k)&&decide (k<b.2.1.2))=(decide (a.2.1.1<=e+k)&&decide (e+k<a.2.1.2)):=λk k0 k1=>bool_iff (by
  rw[zAo,zAo,ZL,ZL,ZL,ZL];exact (Z k k0 k1).symm)
 rw[Py f,Py g,h n L M,w n L M]
 congr 1
 cases B:a.2.2 with
 |none=>
  cases F:b.2.2 with
  |none=>rfl
  |some m=>rw[B,F] at q;exact q.elim
 |some m=>
  cases F:b.2.2 with
  |none=>rw[B,F] at q;exact q.elim
  |some m'=>
   rw[B,F] at q;obtain⟨m0,U⟩:=q;show decide (below (cutW z b.2.1.1 b.2.1.2) n<m')=decide (below (cutW un a.2.1.1 a.2.1.2) (e+n)<m);obtain⟨k,rfl⟩:=aQ L;obtain⟨j,rfl⟩:=aQ e0;let b1:=Og (cutW_frm a.2.1.1 a.2.1.2 f.pw) (cutW_frm b.2.1.1 b.2.1.2 g.pw) (Pn pv) (e:=(j:Int)) (d:=d) (λi Y S=>by rw[cutW_in,cutW_in,h i Y S,w i Y S]) k (by lia);let b2:=Ub f pu B m0 j;let b3:=below_nn (ps:=cutW z b.2.1.1 b.2.1.2) (k:Int) (cutW_frm b.2.1.1 b.2.1.2 g.pw).lt;rw[b2] at U;rw[b1];refine bool_iff ?_;rw[ZL,ZL]
   split at U <;> lia
theorem own_shift {e d:Int} (M:0<=e):∀ {as bs:List (Av ν)} {un j:List Rn},Shs e d as bs un->Frm un->Frm j->Pos un->Pos j->(∀ n,0<=n->n<d->inR j n=inR un (e+n))->∀ n,0<=n->n<d->Oz bs j n=Oz as un (e+n)
 |[],[],_,_,_,_,_,_,_,_,_,_,_=>rfl
 |[],_::_,_,_,h,_,_,_,_,_,_,_,_=>h.elim
 |_::_,[],_,_,h,_,_,_,_,_,_,_,_=>h.elim
 |a::as,b::bs,un,j,⟨l,ls⟩,f,g,F,pv,h,n,L,S=>by
  let q:=U9 M l f g F pv h;unfold Oz;rw[q n L S,l.1,own_shift M ls (outW_frm f (payW_frm f)) (outW_frm g (payW_frm g)) (pos_out (payW_frm f) F) (pos_out (payW_frm g) pv) (λk z B=>by rw[outW_in (payW_frm f),outW_in (payW_frm g),h k z B,q k z B]) n L S]
end
end CRT
namespace CRL
open PySem L2
def top (i:Nat):bM:=PySem.Challenge.pw_coverroll_k58_whole_a_loss_in_pieces.main.body.getD i (.Pass ⟨0,0,0,0⟩)
abbrev Ic:bM:=Au (top 4) 3
abbrev El:bM:=Au (top 43) 0
abbrev En:bM:=Au (top 43) 1
abbrev Gu:bM:=Au (top 43) 2
abbrev Fe:bM:=Au (top 43) 3
abbrev Rg:bM:=Au (top 44) 1
abbrev Ll:bM:=Au (top 45) 1
abbrev Lv:bM:=Au (top 46) 1
abbrev Oj:bM:=top 49
abbrev Il:bM:=Au (top 67) 0
abbrev Mj:bM:=Au (top 67) 1
abbrev Mr:bM:=Au (top 67) 2
abbrev Oe:bM:=Au (top 67) 3
abbrev Gn:bM:=Au (top 75) 0
abbrev Im:bM:=Au (top 76) 1
abbrev Ip:bM:=Au (top 77) 1
abbrev Jd:bM:=Au (top 78) 1
abbrev Ml:bM:=Au (top 79) 1
abbrev Nx:bM:=Au (top 80) 1
abbrev Op:bM:=Au (top 81) 1
abbrev Mn:bM:=Au (top 82) 1
abbrev Ey:bM:=Au (top 98) 0
abbrev Lw:bM:=Au (top 98) 1
abbrev He:bM:=top 109
abbrev Oq:bM:=top 111
abbrev Ms:bM:=top 112
abbrev Gs:bM:=top 116
abbrev DW:bM:=top 117
def Do:ZF:=663
def Dw:ZF:=705
def Dv:ZF:=745
def Ee:ZF:=785
def Ik:ZF:=825
def Mt:ZF:=865
def Km:ZF:=912
def Hb:ZF:=959
def CC:ZF:=342
def CO:ZF:=377
def CL:ZF:=410
def CM:ZF:=443
def Gh:ZF:=1026
def CV:ZF:=1098
def CB:ZF:=621
def CN:ZF:=59
def CD:ZF:=99
def CR:ZF:=595
def TT:ZF:=93
abbrev κ:A8:=A8.mk Do Dw Dv Ee Ik Mt Km Hb
structure Pk (K:zAa):Prop where
 d0:Fm K "is_whole" (top 16)
 d1:Fm K "has_letters_alone" (top 31)
 d2:Fm K "is_name" (top 32)
 d3:Fm K "is_event" (top 33)
 d4:Fm K "is_number" (top 34)
 d5:Fm K "is_day" (top 35)
 d6:Fm K "is_amount" (top 36)
 d7:Fm K "year_of" (top 37)
 d8:Fm K "loss_of" (top 38)
 d9:Fm K "checked_amount" (top 41)
 p8:Fm K "cent_at" (top 42)
 p9:Fm K "cut_within" (top 48)
 pf:Fm K "lowest_of" Oj
 ph:Fm K "left_of_run" (top 50)
 pj:Fm K "cut_out" (top 51)
 pq:Fm K "numbers_of" (top 53)
 px:Fm K "asked_of" (top 54)
 qb:Fm K "paid_runs" (top 55)
 qc:Fm K "borne_strips" (top 56)
 qd:Fm K "strips_of" (top 57)
 qe:Fm K "paid_by" (top 58)
 qf:Fm K "count_for" (top 59)
 qg:Fm K "settle" (top 60)
 qh:Fm K "check_open" (top 63)
 qi:Fm K "check_free" (top 64)
 qj:Fm K "opens_close" (top 65)
 qk:Fm K "check_told" (top 66)
 ql:Fm K "are_weights" (top 86)
 qm:Fm K "may_have" (top 87)
 qo:Fm K "due_by" (top 88)
 qp:Fm K "place_of_turn" (top 89)
 qq:Fm K "turns" (top 90)
 qr:Fm K "check_houses" (top 95)
 qt:Fm K "first_without" (top 96)
 qu:Fm K "bounds_of" (top 97)
 qv:Fm K "_law_cell" (top 100)
 qw:Fm K "_law_mix" (top 102)
 qx:Fm K "_law_names" (top 103)
 qy:Fm K "_law_start" (top 104)
 qz:Fm K "_law_cond" (top 105)
 r6:Fm K "_law_clause_by" (top 106)
 r9:Fm K "_law_covers" (top 107)
 re:Fm K "_law_losses" (top 108)
 oq:Fm K "_law_condition" He
 rh:Fm K "_law_clause" (top 110)
 rj:Fm K "_law_book" Oq
 rk:Fm K "_law_enter" Ms
 rn:Fm K "_law_without" (top 114)
 rp:Fm K "_law_rolled" (top 115)
 rq:Fm K "_law_joined" Gs
 sd:Fm K "law" DW
 ce:Fg K Do "holds" "Condition.holds" Gn
 ja:Fg K Dw "__init__" "CauseIs.__init__" (Au (top 76) 0)
 cz:Fg K Dw "holds" "CauseIs.holds" Im
 jb:Fg K Dv "__init__" "ThingIs.__init__" (Au (top 77) 0)
 da:Fg K Dv "holds" "ThingIs.holds" Ip
 jf:Fg K Ee "__init__" "DaysIn.__init__" (Au (top 78) 0)
 f9:Fg K Ee "holds" "DaysIn.holds" Jd
 jm:Fg K Ik "__init__" "Over.__init__" (Au (top 79) 0)
 gy:Fg K Ik "holds" "Over.holds" Ml
 jy:Fg K Mt "__init__" "Not.__init__" (Au (top 80) 0)
 io:Fg K Mt "holds" "Not.holds" Nx
 ka:Fg K Km "__init__" "All.__init__" (Au (top 81) 0)
 iq:Fg K Km "holds" "All.holds" Op
 jn:Fg K Hb "__init__" "Some.__init__" (Au (top 82) 0)
 i6:Fg K Hb "holds" "Some.holds" Mn
 si:Fg K CC "__init__" "Clause.__init__" El
 km:Fg K CC "span" "Clause.span" Gu
 ko:Fg K CC "room" "Clause.room" Fe
 m5:Fg K CC "key" "Clause.key" En
 kc:Fg K CO "__init__" "Own.__init__" (Au (top 44) 0)
 oa:Fg K CO "span" "Own.span" Rg
 ji:Fg K CL "__init__" "Layer.__init__" (Au (top 45) 0)
 m7:Fg K CL "span" "Layer.span" Ll
 jj:Fg K CM "__init__" "Limit.__init__" (Au (top 46) 0)
 m8:Fg K CM "room" "Limit.room" Lv
 jo:Fg K Gh "__init__" "Deal.__init__" (Au (top 91) 0)
 m9:Fg K CV "asks" "Cover.asks" Lw
 ku:Fg K CV "spans" "Cover.spans" (Au (top 98) 2)
 ke:Fg K CV "window" "Cover.window" (Au (top 98) 3)
 kz:Fg K CV "parts" "Cover.parts" (Au (top 98) 4)
 mf:Fg K CV "rest" "Cover.rest" (Au (top 98) 5)
 jp:Fg K CB "__init__" "Book.__init__" (Au (top 70) 0)
 jg:Fg K CN "__init__" "Counts.__init__" (Au (top 2) 0)
 l6:Fg K CN "have" "Counts.have" (Au (top 2) 1)
 mh:Fg K CN "add" "Counts.add" (Au (top 2) 2)
 jq:Fg K CD "__init__" "Days.__init__" (Au (top 4) 0)
 og:Fg K CD "put" "Days.put" (Au (top 4) 1)
 jh:Fg K CD "has_number" "Days.has_number" (Au (top 4) 2)
 jr:Fg K CR "__init__" "Roll.__init__" Il
 mq:Fg K CR "enter" "Roll.enter" Mj
 mr:Fg K CR "close" "Roll.close" Mr
 ir:Fg K CR "told" "Roll.told" Oe
 sj:Fg K CR "settled" "Roll.settled" (Au (top 67) 4)
 oh:Fg K CO "room" "Clause.room" Fe
 ol:Fg K CO "key" "Clause.key" En
 mv:Fg K CL "room" "Clause.room" Fe
 nq:Fg K CL "key" "Clause.key" En
 mw:Fg K CM "span" "Clause.span" Gu
 o0:Fg K CM "key" "Clause.key" En
 bn:XJ K "Condition" Do
 bq:XJ K "CauseIs" Dw
 dg:Gw K Dw "name"
 br:XJ K "ThingIs" Dv
 dh:Gw K Dv "name"
 bc:XJ K "DaysIn" Ee
 dk:Gw K Ee "first"
 fe:Gw K Ee "last"
 dq:XJ K "Over" Ik
 gh:Gw K Ik "cents"
 gt:XJ K "Not" Mt
 iu:Gw K Mt "part"
 gu:XJ K "All" Km
 fg:Gw K Km "several"
 dt:XJ K "Some" Hb
 dz:Gw K Hb "several"
 bf:XJ K "Clause" CC
 i7:Gw K CC "by"
 bu:XJ K "Own" CO
 i8:Gw K CO "cents"
 jc:Gw K CO "by"
 aq:XJ K "Layer" CL
 fh:Gw K CL "first"
 gj:Gw K CL "upto"
 iy:Gw K CL "by"
 ax:XJ K "Limit" CM
 gk:Gw K CM "most"
 j3:Gw K CM "by"
 jd:XJ K "Deal" Gh
 lh:Gw K Gh "wheel"
 jt:Gw K Gh "weights"
 aa:XJ K "Cover" CV
 am:Gw K CV "name"
 c9:Gw K CV "condition"
 ag:Gw K CV "clauses"
 f6:Gw K CV "houses"
 lw:Gw K CV "deal"
 bx:Gw K CV "waits"
 i9:XJ K "Book" CB
 kf:Gw K CB "covers"
 fm:Gw K CB "asking"
 bo:XJ K "Counts" CN
 bz:Gw K CN "kept"
 au:XJ K "Days" CD
 ar:Gw K CD "waiting"
 bw:Gw K CD "numbers"
 ae:XJ K "Roll" CR
 ie:Gw K CR "book"
 ft:Gw K CR "counts"
 bp:Gw K CR "days"
 bj:Gw K CR "closed"
 cf:Gw K CR "loss_rows"
 ay:Gw K CR "outcomes"
 ju:zBm K (.ref CC) (.ref CM)=ZC ZK
 my:zBm K (.ref CO) (.ref CM)=ZC ZK
 kg:zBm K (.ref CL) (.ref CM)=ZC ZK
 kh:zBm K (.ref CM) (.ref CM)=ZC ZI
 n9:zAM K (.ref Do) "__init__"=ZC (ZC (.builtin "object.__init__"))
 ki:Ii K "CAUSE" 4
 g8:Ii K "CENTS" 5
 gl:JS K "COVERED_ONE" "self"
 jv:Ii K "DAY" 1
 g9:Ii K "DAYS_OF_YEAR" 365
 kj:Ii K "EVENT" 2
 j7:Ii K "LAST_DAY" 1000000
 gm:Ii K "LAST_NUMBER" 1000000000
 je:JS K "LETTERS" "abcdefghijklmnopqrstuvwxyz"
 gb:Ii K "LONGEST_NAME" 8
 j5:Ii K "LOSS_RANK" 0
 ig:Ii K "MOST_CENTS" 999999999999
 gc:Ii K "MOST_CLAUSES" 8
 gq:Ii K "MOST_COVERS" 8
 ii:Ii K "MOST_NAMES" 4
 gr:Ii K "MOST_PLACES" 8
 ik:Ii K "MOST_TURNS" 100
 cg:Ii K "NUMBER" 0
 j6:Ii K "THING" 3
 ng:zAL K zCJ "bool"=ZC ZD
 ao:zAL K zCJ "enumerate"=ZC ZD
 jw:zAL K zCJ "int"=ZC ZD
 ah:zAL K zCJ "isinstance"=ZC ZD
 b7:zAL K zCJ "len"=ZC ZD
 ba:zAL K zCJ "list"=ZC ZD
 cb:zAL K zCJ "max"=ZC ZD
 f7:zAL K zCJ "min"=ZC ZD
 az:zAL K zCJ "range"=ZC ZD
 jx:zAL K zCJ "set"=ZC ZD
 cm:zAL K zCJ "sorted"=ZC ZD
 j8:zAL K zCJ "str"=ZC ZD
 gx:zAL K zCJ "sum"=ZC ZD
 oo:zAL K zCJ "tuple"=ZC ZD
 oy:zAL K zCJ "zip"=ZC ZD
 se:MtD K CV "__init__" "Cover.__init__" Ey #[.none,.none,.bool ZK]
 sf:BsE K CC "__init__" "Clause.__init__" El
 sg:MtC K CD "up_to" "Days.up_to" Ic TT
 cq:SV K CC
 j9:SV K CO
 gf:SV K CL
 gg:SV K CM
 ou:NT4 K "WAYS" "event" "thing" "year" "loss"
structure Pm (P:ZO) (w:ZX) (K:zAa) (mg:ZM->Option ZE) (base:aB):Prop extends Pk K where
 z:Zy P w K mg base
 kb:K.In base
 bi:BI mg base
abbrev Jc {P:ZO} {w:ZX} {K:zAa} {mg:ZM->Option ZE} {base:aB} (_:Pm P w K mg base):=MW P w K mg base
abbrev Jm {P:ZO} {w:ZX} {K:zAa} {mg:ZM->Option ZE} {base:aB} (_:Pm P w K mg base):=G0 P w K mg base
abbrev Jk {P:ZO} {w:ZX} {K:zAa} {mg:ZM->Option ZE} {base:aB} (_:Pm P w K mg base):=U5 P w K mg base
abbrev Jf {P:ZO} {w:ZX} {K:zAa} {mg:ZM->Option ZE} {base:aB} (_:Pm P w K mg base):=W8 P w K mg base
def WN:([Do,Dw,Dv,Ee,Ik,Mt,Km,Hb,CC,CO,CL,CM,Gh,CV,CB,CN,CD,CR]:List ZF).Nodup:=by lk
def dT {c A B:Prop} [Decidable c] (h:c) (q:A):if decide c=ZI then A else B:=by rw[ZN h,ZJ rfl];exact q
def dF {c A B:Prop} [Decidable c] (h:¬ c) (q:B):if decide c=ZI then A else B:=by rw[ZQ h,ZH zAt];exact q
def nT {c A B:Prop} [Decidable c] (h:¬ c) (q:A):if (!decide c)=ZI then A else B:=by rw[ZQ h];exact q
def nF {c A B:Prop} [Decidable c] (h:c) (q:B):if (!decide c)=ZI then A else B:=by rw[ZN h];exact q
def bT {c:Bool} {A B:Prop} (h:c=ZI) (q:A):if c=ZI then A else B:=by rw[ZJ h];exact q
def bF {c:Bool} {A B:Prop} (h:c=ZK) (q:B):if c=ZI then A else B:=by rw[ZH (by rw[h];exact zAt)];exact q
def EE:V->Bool
 |.int _=>ZI
 |_=>ZK
def Q5 {K:zAa} {x:V} {T:String} (h:Ho K H x (.type T)):∃ j g,zBm K (.type T) (.type "int")=ZC j/\zBm K (.type T) (.type "bool")=ZC g/\EE x=(j && !g):=by
 cases h with
 |non=>exact⟨ZK,ZK,by kernel_rfl,by kernel_rfl,rfl⟩
 |bl b=>exact⟨ZI,ZI,by kernel_rfl,by kernel_rfl,rfl⟩
 |int i=>exact⟨ZI,ZK,by kernel_rfl,by kernel_rfl,rfl⟩
 |str i=>exact⟨ZK,ZK,by kernel_rfl,by kernel_rfl,rfl⟩
 |flt i=>exact⟨ZK,ZK,by kernel_rfl,by kernel_rfl,rfl⟩
 |lst e=>exact⟨ZK,ZK,by kernel_rfl,by kernel_rfl,rfl⟩
 |frz e=>exact⟨ZK,ZK,by kernel_rfl,by kernel_rfl,rfl⟩
 |tup e=>exact⟨ZK,ZK,by kernel_rfl,by kernel_rfl,rfl⟩
 |dK e=>exact⟨ZK,ZK,by kernel_rfl,by kernel_rfl,rfl⟩
 |dT e=>exact⟨ZK,ZK,by kernel_rfl,by kernel_rfl,rfl⟩
def JR {K:zAa}:zBm K (.type "list") (.type "list")=ZC ZI:=by kernel_rfl
inductive HH (K:zAa) (vs:List V) (H:Hp) (Q:VK) (E:XK):Prop
 |mk (x T:_) (z0:vs=[x]) (z1:Ho K H x (.type T)) (z2:Q (.bl (EE x)) H)
inductive MS (K:zAa) (vs:List V) (H:Hp) (Q:VK) (E:XK):Prop
 |mk (a ns:_) (k:Int) (z0:vs=[.ref a,.int k]) (z1:Dp K H a (bI V.int ns)) (z2:0<=k) (z3:ns.length<=63) (z4:Q (.int (ns.getD k.toNat 0)) H)
section
variable {P:ZO} {w:ZX} {K:zAa} {mg:ZM->Option ZE} {base:aB}
def Fa (J:Pm P w K mg base):Jc J 1 "_law_cell" ["_law_script","_law_k"] (MS K):=Gj J.z J.qv ["_law_script","_law_k"] df λsc H Q hr h=>by
 obtain⟨a,ns,k,rfl,g,B,z,q⟩:=h;refine⟨_,(Ab (Ax (Al Hd (pv 1) (Ec (Ds (K:=K) rfl) rfl (J.z.nn J.b7) (show zCI _=ZC (.builtin "len") from rfl) (Bn (pv 0))) (Ap _))
    (Ae (Aj (Le K (pv 0) (pv 1))))
    Am)
   (Ae (Aj Af))),?_⟩
 let hl:(bI V.int ns).length=ns.length:=zAc _;refine (vE rfl (vE rfl ⟨a,_,rfl,.inl g,vF rfl rfl (vE rfl ?_)⟩));rw[hl];refine Rx (λc=>?_) (λc=>?_)
 .have j:k<(ns.length:Int):=ZY c
  exact (vE rfl (vE rfl ⟨a,_,_,_,rfl,rfl,g,K7 B j,q⟩))
 .have j:¬ k<(ns.length:Int):=bL (zBs.mpr c)
  let e:ns.getD k.toNat 0=0:=by
   rw[zAr,zCn (by lia)];rfl
  rw[e] at q;exact q
def Jx (J:Pm P w K mg base):Jc J 1 "is_whole" ["thing"] (HH K):=Gj J.z J.d0 ["thing"] df λsc H Q hr h=>by
 obtain⟨x,ty,rfl,g,q⟩:=h;refine⟨_,(Ae (Aj (Rc (Pg Dl J.z J.ah (Bi (pv 0) (Th "int" rfl (J.z.nn J.jw) rfl))) (Nd (AZ (Pg Dl J.z J.ah (Bi (pv 0) (Th "bool" rfl (J.z.nn J.ng) rfl)))))))),?_⟩;obtain⟨B,F,j,z,e⟩:=Q5 g;rw[e] at q;refine (vE rfl ⟨_,_,_,_,_,rfl,Tg,g,j,_,rfl,?_⟩);cases B with
 |false=>exact q
 |true=>exact⟨_,rfl,_,_,_,_,_,rfl,Tg,g,z,_,rfl,q⟩
end
def R0 (m:Int):V->Bool
 |.int i=>decide (0<=i/\i<=m)
 |_=>ZK
inductive AI (K:zAa) (m:Int) (vs:List V) (H:Hp) (Q:VK) (E:XK):Prop
 |mk (x T:_) (z0:vs=[x]) (z1:Ho K H x (.type T)) (z2:Q (.bl (R0 m x)) H)
section
variable {P:ZO} {w:ZX} {K:zAa} {mg:ZM->Option ZE} {base:aB}
def Qp (J:Pm P w K mg base):Jc J 2 "is_amount" ["thing"] (AI K 999999999999):=Gj J.z J.d6 ["thing"] df λsc H Q hr h=>by
 obtain⟨x,ty,rfl,z,q⟩:=h;refine⟨_,(Ae (Aj (Rc (Cm (Jx J) hr (Bn (pv 0))) (Nd (Jo Hr Hr Af (pv 0) (Qq J.z J.ig)))))),?_⟩;refine (vE rfl ⟨_,_,rfl,z,_,rfl,?_⟩);cases x with
 |int i=>
  refine Jb (vE rfl (vF rfl rfl (vE rfl ?_)));by_cases j:(0:Int)<=i
  .refine dT j (vF rfl rfl ?_)
   show Q (.bl (decide (i<=999999999999))) H;let e:decide (0<=i/\i<=999999999999)=decide (i<=999999999999):=by
    by_cases g:i<=999999999999
    .rw[ZN g,ZN ⟨j,g⟩]
    .rw[ZQ g,ZQ (λy=>g y.2)]
   rw[<- e];exact q
  .refine dF j ?_
   rw[show R0 999999999999 (.int i)=ZK from ZQ (λy=>j y.1)] at q;exact q
 |_=>exact Du q
end
def Gx (c:Nat):Prop:=97<=c/\c<=122
instance:DecidablePred Gx:=λc=>by unfold Gx;exact inferInstance
def Iu (l:List Nat):Prop:=∀ c∈l,Gx c
instance (l:List Nat):Decidable (Iu l):=by unfold Iu;exact inferInstance
def Go (l:List Nat):Prop:=(1<=l.length/\l.length<=8)/\Iu l
instance (l:List Nat):Decidable (Go l):=by unfold Go;exact inferInstance
def YY {c:Nat}:(c∈(aK "abcdefghijklmnopqrstuvwxyz").cps.toList)↔Gx c:=by
 let e:(aK "abcdefghijklmnopqrstuvwxyz").cps.toList=(zAS 26).map (97 + ·):=by ac_nf
 rw[e,zAv];unfold Gx;constructor
 .rintro ⟨k,g,rfl⟩
  let:=zBD.mp g
  lia
 .intro h
  exact⟨c-97,zBD.mpr (by lia),by lia⟩
def KS:V->Bool
 |.str _=>ZI
 |_=>ZK
def Gr:V->Bool
 |.str z=>decide (Go z.cps.toList)
 |_=>ZK
def VJ (x:V):Prop:=∀ z,x=.str z->z.length<=900
def O9 {K:zAa} {x:V} {T:String} (h:Ho K H x (.type T)):zBm K (.type T) (.type "str")=ZC (KS x):=by
 cases h with
 |non=>kernel_rfl
 |bl b=>kernel_rfl
 |int i=>kernel_rfl
 |str i=>kernel_rfl
 |flt i=>kernel_rfl
 |lst e=>kernel_rfl
 |frz e=>kernel_rfl
 |tup e=>kernel_rfl
 |dK e=>kernel_rfl
 |dT e=>kernel_rfl
inductive QM (vs:List V) (H:Hp) (Q:VK) (E:XK):Prop
 |mk (l:_) (z0:vs=[.str (tx l)]) (z1:Q (.bl (decide (Iu l))) H)
inductive LQ (K:zAa) (vs:List V) (H:Hp) (Q:VK) (E:XK):Prop
 |mk (x T:_) (z0:vs=[x]) (z1:Ho K H x (.type T)) (z2:VJ x) (z3:Q (.bl (Gr x)) H)
def C2 {l:List Nat} (h:l.length<=900):VJ (.str (tx l)):=λz e=>by cases e;rw[Es];exact h
section
seal L2.PS L2.PSs L2.PE
variable {P:ZO} {w:ZX} {K:zAa} {mg:ZM->Option ZE} {base:aB} (J:Pm P w K mg base)
def Ko:Jc J 1 "has_letters_alone" ["text"] QM:=Gj J.z J.d1 ["text","sign"] df λsc H Q hr h=>by
 obtain⟨l,rfl,q⟩:=h;refine⟨_,(Ab (Bq ZV rfl (NJ (pv 0)) (Et sc 1)
    (Ae (Ax (Al Y2 (pv 1) (O6 (J.z.gs J.je) rfl) rfl)
    (Ae (Aj Em))
    Am)))
   (Ae (Aj Em))),?_⟩
 refine (vE rfl (vE rfl (GU (l:=l) (λi σ F=>((∃ o,σ=[oS (tx l),o])/\F=H)/\∀ j c,j<i->l[j]?=ZC c->Gx c) ⟨⟨⟨ZD,rfl⟩,rfl⟩,λ_ _ z=>ZR z (zBA _)⟩ ?_ ?_)))
 .rintro i c σ F hi ⟨⟨⟨o,rfl⟩,rfl⟩,g⟩
  refine (vE rfl ⟨c,_,rfl,rfl,vE rfl ?_⟩);by_cases B:Gx c
  .refine nF (YY.mpr B) ⟨⟨⟨_,rfl⟩,rfl⟩,λj d M L=>?_⟩
   by_cases e:j=i
   .subst e
    rw[hi] at L;cases L;exact B
   .exact g j d (by lia) L
  .refine nT (λz=>B (YY.mp z)) ?_
   let n:¬ Iu l:=λz=>B (z c (zAz hi));rw[ZQ n] at q;exact q
 .rintro σ F ⟨⟨⟨o,rfl⟩,rfl⟩,g⟩
  let all:Iu l:=λc B=>by
   obtain⟨j,M,e⟩:=zAG B;exact g j c M (by rw[zAe M,e])
  rw[ZN all] at q;exact q
def Jg:Jc J 2 "is_name" ["thing"] (LQ K):=Gj J.z J.d2 ["thing"] df λsc H Q hr h=>by
 obtain⟨x,ty,rfl,g,ok,q⟩:=h;refine⟨_,(Ab (Ax (Cg (Bv (Pg Dl J.z J.ah (Bi (pv 0) (Th "str" rfl (J.z.nn J.j8) rfl)))))
    (Ae (Aj Em))
    Am)
   (Ae (Aj (Rc (Jo Hr Hr Af (Pg Ww J.z J.b7 (Bn (pv 0))) (Qq J.z J.gb)) (Nd (Cm (Ko J) hr (Bn (pv 0)))))))),?_⟩
 refine (vE rfl ⟨_,_,_,_,_,rfl,Tg,g,O9 g,_,rfl,?_⟩);cases x with
 |str z=>
  let M:=ok z rfl;let F:tx z.cps.toList=z:=Kj z;refine Du (vE rfl (vE rfl ⟨Dq (by lia),?_⟩));let L:(z.length:Int)=(z.cps.toList.length:Int):=by rw[<- Es,F]
  refine (vF rfl rfl (vE rfl ?_));by_cases j:1<=(z.length:Int)
  .refine dT j (vF rfl rfl (vE rfl ?_))
   by_cases B:(z.length:Int)<=8
   .refine dT B (vE rfl ⟨z.cps.toList,by rw[F];rfl,?_⟩)
    let e:decide (Go z.cps.toList)=decide (Iu z.cps.toList):=by
     by_cases a:Iu z.cps.toList
     .rw[ZN a,ZN (show Go _ from ⟨⟨by lia,by lia⟩,a⟩)]
     .rw[ZQ a,ZQ (λy=>a y.2)]
    rw[<- e];exact q
   .refine dF B ?_
    rw[show Gr (.str z)=ZK from ZQ (λy=>B (by let:=y.1.2;lia))] at q;exact q
  .refine dF j (vE rfl (Du ?_))
   rw[show Gr (.str z)=ZK from ZQ (λy=>j (by let:=y.1.1;lia))] at q;exact q
 |_=>exact Jb q
end
def Fx {C:ZF} {x dx:ZF} (nx:H x=ZD) (g:H dx=ZD) (j:∀ b o,(upd (upd H dx (.own x)) x (.ins C dx [])) b=ZC o->b≠x->H2 b=ZC o):Dg H H2:=λb o e=>
 j b o (by rw[Ag (Ad e nx),Ag (Ad e g)];exact e) (Ad e nx)
def KB (p:ZF) (H H':Hp):Prop:=∀ b o,H b=ZC o->b≠p->H' b=ZC o
def KB.upd {p:ZF} {H H':Hp} (k:KB p H H') (o:HO):KB p H (upd H' p o):=λb u e n=>by rw[Ag n];exact k b u e n
def KB.same {p:ZF} {H H' H'':Hp} (k:KB p H H') (s:Dg H' H''):KB p H H'':=λb u e n=>s _ _ (k b u e n)
def KB.free {p:ZF} {H H':Hp} {b:ZF} (k:KB p H H') (n:b≠p) (h:H' b=ZD):H b=ZD:=by
 cases z:H b with
 |none=>rfl
 |some o=>
  let:=k _ _ z n;rw[h] at this;cases this
def Gi {i:Nat} {v:V} {nx:St->Hp->Prop} (g:St) (e:σ.set i (ZC v)=g) (h:nx g H):Cp i v σ H nx:=by
 unfold Cp;rw[e];exact h
def Ia {t u} {D} {σ} {H} (h:∀ N:St->Hp->Prop,N=u D->t { D with nx:=N } σ H):BZ t u D σ H:=h _ rfl
def Fv {i:Nat} {v} {N:St->Hp->Prop} {σ} {H} {t u} {D} (j:N=BZ t u D) (g:St) (e:σ.set i (ZC v)=g) (h:∀ N:St->Hp->Prop,N=u D->t { D with nx:=N } g H):Cp i v σ H N:=by
 subst j;exact Gi g e (h _ rfl)
def Qu {N:St->Hp->Prop} {σ} {H} {t u} {D} (g:N=BZ t u D) (h:∀ N:St->Hp->Prop,N=u D->t { D with nx:=N } σ H):N σ H:=by
 subst g;exact h _ rfl
def x2 {j q:Type} {P:j->q->Prop} (g:j) (a1:q) (h:P g a1):∃ g a1,P g a1:=⟨g,a1,h⟩
def x3 {z B q:Type} {P:z->B->q->Prop} (j:z) (g:B) (a2:q) (h:P j g a2):∃ j g a2,P j g a2:=⟨j,g,a2,h⟩
def x4 {F L z B:Type} {P:F->L->z->B->Prop} (q:F) (j:L) (g:z) (a3:B) (h:P q j g a3):∃ q j g a3,P q j g a3:=⟨q,j,g,a3,h⟩
def x5 {L S B F M:Type} {P:L->S->B->F->M->Prop} (z:L) (q:S) (g:B) (j:F) (a4:M) (h:P z q g j a4):∃ z q g j a4,P z q g j a4:=⟨z,q,g,j,a4,h⟩
def c3 {g j p2:Prop} (q:g) (h1:j) (z:p2):g/\j/\p2:=⟨q,h1,z⟩
def c4 {g j p2 p3:Prop} (B:g) (h1:j) (z:p2) (q:p3):g/\j/\p2/\p3:=⟨B,h1,z,q⟩
def c5 {g j p2 q p4:Prop} (L:g) (h1:j) (F:p2) (B:q) (z:p4):g/\j/\p2/\q/\p4:=⟨L,h1,F,B,z⟩
def c6 {g q p2 z j p5:Prop} (S:g) (h1:q) (M:p2) (L:z) (B:j) (F:p5):g/\q/\p2/\z/\j/\p5:=⟨S,h1,M,L,B,F⟩
def c7 {g z p2 q j B p6:Prop} (M:g) (h1:z) (U:p2) (S:q) (F:j) (L:B) (Y:p6):g/\z/\p2/\q/\j/\B/\p6:=⟨M,h1,U,S,F,L,Y⟩
def c8 {g z p2 q j B F p7:Prop} (S:g) (h1:z) (Y:p2) (U:q) (L:j) (M:B) (h6:F) (Z:p7):g/\z/\p2/\q/\j/\B/\F/\p7:=⟨S,h1,Y,U,L,M,h6,Z⟩
def Bb {α:Type} {l:List α} {i:Nat} {x:α} (h:l[i]?=ZC x):l.take (i+1)=l.take i++[x]:=by
 rw[zBz,h];rfl
def f1 {f g:ZM} {v:V} {fs:List (ZM×V)} (h:¬ g=f):(Ar f v fs).lookup g=fs.lookup g:=by rw[Ak,ZH h]
def f0 {f:ZM} {v:V} {fs:List (ZM×V)}:(Ar f v fs).lookup f=ZC v:=by rw[Ak,ZJ rfl]
theorem Fl (f:ZM) (v:V):∀ fs:List (ZM×V),(Ar f v fs).length<=fs.length+1
 |[]=>zAl _
 |(g,u)::fs=>by
  unfold Ar
  split
  .simp
  .have:=Fl f v fs
   simp only [zAf]
   lia
def YL (fs:List (ZM×V)):Prop:=fs.lookup ("asks" : ZM)=ZD/\fs.lookup ("spans" : ZM)=ZD/\fs.lookup ("window" : ZM)=ZD/\fs.lookup ("parts" : ZM)=ZD/\fs.lookup ("rest" : ZM)=ZD
def YL.put {f:ZM} {v:V} {fs:List (ZM×V)} (h:YL fs) (z:¬ ("asks" : ZM)=f) (q:¬ ("spans" : ZM)=f) (g:¬ ("window" : ZM)=f) (j:¬ ("parts" : ZM)=f) (B:¬ ("rest" : ZM)=f):YL (Ar f v fs):=
 ⟨by rw[f1 z];exact h.1,by rw[f1 q];exact h.2.1,by rw[f1 g];exact h.2.2.1,by rw[f1 j];exact h.2.2.2.1,by rw[f1 B];exact h.2.2.2.2⟩
def Wi:List V:=[.int 1]
inductive QI (vs:List V) (H:Hp) (Q:VK) (E:XK):Prop
 |mk (a:_) (z0:vs=[.ref a]) (z1:H a=oL Wi) (z2:Q (.bl ZI) H)
def NG:Sp:=λvs H Q _=>vs=[.int 1,.int 0,.int 1,.int 0]/\Q (.bl ZI) H
def MC:Sp:=λvs H Q _=>vs=[.int 1,.int 0,.int 1]/\Q (.int 1) H
inductive QR (vs:List V) (H:Hp) (Q:VK) (E:XK):Prop
 |mk (a b:_) (z0:vs=[.ref a,.ref b,.int 0]) (z1:H a=oL Wi) (z2:H b=oL [.int 0]) (z3:∀ H',Dg H H'->Q (.int 0) H')
inductive OK (vs:List V) (H:Hp) (Q:VK) (E:XK):Prop
 |mk (a:_) (z0:vs=[.ref a]) (z1:H a=oL Wi) (z2:∀ r H',Dg H H'->Q (.ref r) H')
inductive RT (C:ZF) (vs:List V) (H:Hp) (Q:VK) (E:XK):Prop
 |mk (p dx a:_) (z0:vs=[.ref p,.ref a]) (z1:H p=oI C dx []) (z2:H a=oL Wi) (z3:∀ H',KB p H H'->Q .non H')
inductive OQ (vs:List V) (H:Hp) (Q:VK) (E:XK):Prop
 |mk (a nm:_) (z0:vs=[.ref a]) (z1:H a=oL [.str nm]) (z2:Gr (.str nm)=ZI) (z3:nm.length<=8) (z4:∀ H',Dg H H'->Q .non H')
section
seal L2.PS L2.PSs L2.PE L2.PA
variable {P:ZO} {w:ZX} {K:zAa} {mg:ZM->Option ZE} {base:aB} (J:Pm P w K mg base)
def Wm:Jc J 2 "are_weights" ["thing"] QI:=Gj J.z J.ql ["thing","weight"] df λsc H Q hr h=>by
 obtain⟨a,rfl,g,q⟩:=h;refine⟨_,(Ab (Ax (Cg (Bv (Pg Dl J.z J.ah (Bi (pv 0) (Th "list" rfl (J.z.nn J.ba) rfl)))))
    (Ae (Aj Em))
    Am)
   (Ab (Ax (PW.pt (Kf (Al Hd (Ec (Ds (K:=K) rfl) rfl (J.z.nn J.b7) (show zCI _=ZC (.builtin "len") from rfl) (Bn (pv 0))) Af (Ap _)) (Gv (Al Oa (Ec (Ds (K:=K) rfl) rfl (J.z.nn J.b7) (show zCI _=ZC (.builtin "len") from rfl) (Bn (pv 0))) (Qq J.z J.gr) (Ap _)))))
    (Ae (Aj Em))
    Am)
   (Ab (Bq ZV rfl (Hc K (pv 0)) (Et sc 1)
    (Ae (Ax (PW.pt (Kf (Cg (Bv (Cm (Jx J) hr (Bn (pv 1))))) (Gv (Al Hd (pv 1) Af (Ap _)))))
    (Ae (Aj Em))
    Am)))
   (Ae (Aj (Ft Hr (Pg (Lh rfl) J.z J.gx (Bn (pv 0))) (Qq J.z J.ik) (Ap _))))))),?_⟩
 refine Ia λN j=>?_;refine (vE rfl (x5 _ _ _ _ _ ⟨rfl,Tg,.lst g,JR,_,rfl,Du ?_⟩));refine Qu j λN j=>?_;refine (vE rfl (x2 a _ (c3 rfl (.inl (Dp.of g)) (vF rfl rfl (vE rfl (dF (by lk) (vE rfl (x2 a _ (c3 rfl (.inl (Dp.of g)) (vF rfl rfl (vE rfl (dF (by lk) ?_))))))))))));refine Qu j λN j=>?_;refine (vE rfl ⟨a,rfl,⟨_,Dp.of g⟩,?_⟩);refine Hs (K:=K) (a:=a) (xs:=Wi) (λi σ z=>(∃ o,σ=[oR a,o])/\z=H) ⟨⟨ZD,rfl⟩,rfl⟩ (λi σ z _ B=>by rw[B.2];exact Dp.of g) ?_ ?_
 .rintro i x σ z hi ⟨⟨o,rfl⟩,rfl⟩
  obtain rfl:x=.int 1:=by
   match i,hi with
   |0,h=>cases h;rfl
   |i+1,h=>simp [Wi] at h
  subst j;refine Gi [oR a,oN 1] rfl ?_;exact (vE rfl ⟨_,_,rfl,.int 1,_,rfl,Du (vE rfl (vF rfl rfl (vE rfl (dF (by lk) ⟨⟨_,rfl⟩,rfl⟩))))⟩)
 .rintro σ z ⟨⟨o,rfl⟩,rfl⟩
  subst j;exact (vE rfl ⟨a,[1],rfl,Dp.of g,vF rfl rfl q⟩)
def U1:Jc J 1 "may_have" ["weight","dealt","total","turn"] NG:=Gj J.z J.qm ["weight","dealt","total","turn"] df λsc H Q hr h=>by
 obtain⟨rfl,q⟩:=h;refine⟨_,(Ae (Aj (Ft Hd (Ai Eb (pv 1) (pv 2)) (Ai Eb (pv 0) (Ai Bf (pv 3) Af)) (Ap _)))),?_⟩;exact (vE rfl (vE rfl (vF rfl rfl ⟨.inl ⟨by lk,by lk⟩,vE rfl (vE rfl (vF rfl rfl (vF rfl rfl ⟨.inl ⟨by lk,by lk⟩,vF rfl rfl q⟩)))⟩)))
def N3:Jc J 1 "due_by" ["weight","dealt","total"] MC:=Gj J.z J.qo ["weight","dealt","total"] df λsc H Q hr h=>by
 obtain⟨rfl,q⟩:=h;refine⟨_,(Ae (Aj (Ai Bz (Ai Kt (Ai Bf (Ai Eb (Ai Bf (pv 1) Af) (pv 2)) (pv 0)) Af) (pv 0)))),?_⟩;exact (vE rfl (vF rfl rfl (vE rfl (vF rfl rfl ⟨.inl ⟨by lk,by lk⟩,vE rfl (vF rfl rfl (vF rfl rfl (vE rfl (vF rfl rfl ⟨⟨by lk,by lk⟩,q⟩))))⟩))))
def Ro:Jc J 2 "place_of_turn" ["weights","dealt","turn"] QR:=Gj J.z J.qp ["weights","dealt","turn","total","places","best","place"] df λsc H Q hr h=>by
 obtain⟨a,b,rfl,Y,Z,q⟩:=h;refine⟨_,(Ab (Nf (i:=3) sc.nd rfl (Or.inr rfl) (Pg (Lh rfl) J.z J.gx (Bn (pv 0))))
   (Ab (Ff (NC:=["k","total","turn","weights","dealt"]) (own:=["k"]) (cs:=["total","turn","weights","dealt"]) (ix:=[3,2,0,1]) (j:=4) sc.nd rfl rfl rfl (Dr.of rfl) rfl ⟨⟨rfl,.inl rfl,rfl⟩,⟨⟨rfl,.inl rfl,rfl⟩,⟨⟨rfl,.inl rfl,rfl⟩,⟨⟨rfl,.inl rfl,rfl⟩,trivial⟩⟩⟩⟩ (Ei rfl (J.z.nn J.az) (Bn (Ec (Ds (K:=K) rfl) rfl (J.z.nn J.b7) (show zCI _=ZC (.builtin "len") from rfl) (Bn (pv 0))))) (λ_ _ _=>(Ke 0)) (λ_ _ _=>(Gq (Bv (Cm (U1 J) hr (Ah (Le K (pv 3) (pv 0)) (Ah (Le K (pv 4) (pv 0)) (Bi (pv 1) (pv 2)))))))) (λ_ _ _=>(pv 0)))
   (Ab (Cn sc 5 (Le K (pv 4) Af))
   (Ab (Bq ZV rfl (Hc K (pv 4)) (Et sc 6)
    (Ae (Ax (Al Hd (Cm (N3 J) hr (Ah (Le K (pv 0) (pv 6)) (Bi (Le K (pv 1) (pv 6)) (pv 3)))) (Cm (N3 J) hr (Ah (Le K (pv 0) (pv 5)) (Bi (Le K (pv 1) (pv 5)) (pv 3)))) (Ap _))
    (Ae (Cn sc 5 (pv 6)))
    Am)))
   (Ae (Aj (pv 5))))))),?_⟩
 refine Ia λN g=>?_;refine (vE rfl ⟨a,[1],rfl,Dp.of Y,?_⟩);refine Fv g [oR a,oR b,oN 0,oN 1,ZD,ZD,ZD] rfl λN g=>?_;refine (vE rfl (x2 a _ (c3 rfl (.inl (Dp.of Y)) (vE rfl ⟨by lk,by lk,λF S=>?_⟩))));refine Hv (lo:=0) (n:=1) (λi ys M=>ys=(if i=0 then [] else [V.int 0])/\M F=oL ys/\Dg H M) ⟨rfl,Aa,Ac S _⟩ (λi ys M hi ⟨e,h1,_⟩=>⟨h1,by rw[e];split <;> simp;lia⟩) (by rw[zCH];decide) (λi ys M hi ⟨e,h1,L⟩=>?_) (λys M ⟨e,h1,L⟩=>?_)
 .obtain rfl:i=0:=by lia
  rw[ZJ rfl] at e;subst e;exact (vE rfl (vE rfl (vI rfl rfl (Dp.of (L _ _ Y)) rfl (vE rfl (vE rfl (vI rfl rfl (Dp.of (L _ _ Z)) rfl (vE rfl (vE rfl ⟨rfl,vE rfl (Jb (vE rfl ⟨h1,rfl,rfl,Aa,λc o z=>by rw[Ag (Ad z S)];exact L c o z⟩))⟩))))))))
 rw[ZH (by lk)] at e;subst e;refine Fv g [oR a,oR b,oN 0,oN 1,oR F,ZD,ZD] rfl λN g=>?_;refine (vE rfl (vI rfl rfl (Dp.of h1) rfl ?_));refine Fv g [oR a,oR b,oN 0,oN 1,oR F,oN 0,ZD] rfl λN g=>?_;refine (vE rfl ⟨F,rfl,⟨_,Dp.of h1⟩,?_⟩);refine Hs (K:=K) (a:=F) (xs:=[V.int 0]) (λi σ U=>(∃ o,σ=[oR a,oR b,oN 0,oN 1,oR F,oN 0,o])/\U=M) ⟨⟨ZD,rfl⟩,rfl⟩ (λi σ U _ hh=>by rw[hh.2];exact Dp.of h1) ?_ ?_
 .rintro i x σ U hi ⟨⟨o,rfl⟩,rfl⟩
  obtain rfl:x=.int 0:=by
   match i,hi with
   |0,h=>cases h;rfl
   |i+1,h=>simp at h
  subst g;refine Gi [oR a,oR b,oN 0,oN 1,oR F,oN 0,oN 0] rfl ?_;let A:=Dp.of (K:=K) (L _ _ Y);let B:=Dp.of (K:=K) (L _ _ Z);exact (vE rfl (vE rfl (x4 a _ _ _ (c5 rfl rfl A rfl (vE rfl (vE rfl (x4 b _ _ _ (c5 rfl rfl B rfl (vE rfl ⟨rfl,vE rfl (vE rfl (x4 a _ _ _ (c5 rfl rfl A rfl (vE rfl (vE rfl (x4 b _ _ _ (c5 rfl rfl B rfl (vE rfl ⟨rfl,vF rfl rfl (vE rfl (dF (by lk) ⟨⟨_,rfl⟩,rfl⟩))⟩))))))))⟩)))))))))
 .rintro σ U ⟨⟨o,rfl⟩,rfl⟩
  subst g;exact (vE rfl (q _ L))
def LG:Jc J 3 "turns" ["weights"] OK:=Gj J.z J.qq ["weights","dealt","wheel","turn","place"] df λsc H Q hr h=>by
 obtain⟨a,rfl,ha,q⟩:=h;refine⟨_,(Ab (Ax (Cg (Bv (Cm (Wm J) hr (Bn (pv 0)))))
    (Ae Bu)
    Am)
   (Ab (Ff (NC:=["weight"]) (own:=["weight"]) (cs:=[]) (ix:=[]) (j:=1) sc.nd rfl rfl rfl (Dr.of rfl) rfl trivial (Hc K (pv 0)) (λ_ _ _=>(Ke 0)) (λ_ _ _=>Ca) (λ_ _ _=>Af))
   (Ab (Cn sc 2 (Bh Cs))
   (Ab (Bq ZV rfl (Ei rfl (J.z.nn J.az) (Bn (Pg (Lh rfl) J.z J.gx (Bn (pv 0))))) (Et sc 3)
    (Ab (Cn sc 4 (Cm (Ro J) hr (Ah (pv 0) (Bi (pv 1) (pv 3)))))
   (Ab (D0 (Ai Bf (Le K (pv 1) (pv 4)) Af) (DB (pv 1) (pv 4) Xs))
   (Ae (Bg (Cr (K:=K) rfl ZT aA ZZ Bw (pv 2) (Bn (pv 4))))))))
   (Ae (Aj (pv 2))))))),?_⟩
 refine Ia λN B=>?_;refine (vE rfl ⟨a,rfl,ha,_,rfl,Du ?_⟩);refine Qu B λN B=>?_;refine (vE rfl ⟨a,rfl,⟨_,Dp.of ha⟩,λg M=>?_⟩);refine Bk (K:=K) (a:=a) (xs:=Wi) (λi ys F=>ys=(if i=0 then [] else [V.int 0])/\F g=oL ys/\Dg H F) ⟨rfl,Aa,Ac M _⟩ (λi ys F hi ⟨e,h1,S⟩=>⟨h1,by rw[e];split <;> simp;lia,Dp.of (S _ _ ha)⟩) (by rw[zCH];decide) (λi x ys F hi ⟨e,h1,S⟩=>?_) (λys F ⟨e,h1,S⟩=>?_)
 .have il:=(zAk.mp hi).1
  obtain rfl:i=0:=by let:i<1:=il;lia
  rw[ZJ rfl] at e;subst e;exact⟨h1,rfl,rfl,Aa,λc o z=>by rw[Ag (Ad z M)];exact S c o z⟩
 rw[ZH (by lk)] at e;subst e;refine Fv B [oR a,oR g,ZD,ZD,ZD] rfl λN B=>?_;refine⟨zAw _,λwh L=>?_⟩;let s3:=Ac L (.lst []);let h3:upd F wh (.lst []) wh=oL []:=Aa;let ab:g≠wh:=Ad h1 L;generalize upd F wh (.lst [])=H3 at s3 h3;refine Fv B [oR a,oR g,oR wh,ZD,ZD] rfl λN B=>?_;let S3:=S.trans s3;refine (vE rfl ⟨a,[1],rfl,Dp.of (S3 _ _ ha),vE rfl ⟨by lk,by lk,?_⟩⟩);refine Ua (lo:=0) (n:=1) (λi σ Z=>(∃ o3 o4,σ=[oR a,oR g,oR wh,o3,o4])/\(i=0->Z=H3)/\Dg H Z) ⟨⟨ZD,ZD,rfl⟩,λ_=>rfl,S3⟩ ?_ ?_
 .rintro i σ Z hi ⟨⟨o3,o4,rfl⟩,e4,s4⟩
  obtain rfl:i=0:=by lia
  obtain rfl:=e4 rfl;subst B;refine Gi [oR a,oR g,oR wh,oN 0,o4] rfl ?_;refine (vE rfl (vE rfl (vE rfl ⟨a,g,rfl,(S3 _ _ ha),(s3 _ _ h1),(λH5 s5=>?_)⟩)));subst B;refine Gi [oR a,oR g,oR wh,oN 0,oN 0] rfl ?_;let U:=s5 _ _ (s3 _ _ h1);refine (vE rfl (vE rfl (vI rfl rfl (Dp.of U) rfl (vF rfl rfl (vE rfl (vE rfl (x4 g _ _ 0 (c5 rfl rfl U rfl ?_))))))));let Y:∀ o,upd H5 g o wh=oL []:=λo=>by rw[Ag ab.symm];exact s5 _ _ h3
  refine (vE rfl ⟨.inl ⟨rfl,_,Dp.of (Y _)⟩,vE rfl (x3 wh _ _ (c7 rfl rfl (Y _) (by rw[zCH];decide) ⟨_,_,rfl⟩ (λe=>by lia) (λc o z=>?_)))⟩);let aa:H g=ZD:=M;rw[Ag (Ad z (S.free L)),Ag (Ad z aa)];exact s5 _ _ (S3 c o z)
 .rintro σ Z ⟨⟨o3,o4,rfl⟩,_,s4⟩
  subst B;exact (vE rfl (q wh Z s4))
def OX:Jk J 4 "Deal" Gh ["self","weights"] (RT Gh):=N4 J.z J.jd J.jo ["self","weights"] df λsc H Q hr h=>by
 obtain⟨p,dx,a,rfl,L,B,q⟩:=h;refine⟨_,(Ab (Bj (pv 0) (Cm (LG J) hr (Bn (pv 1))) rfl)
   (Ae (Bj (pv 0) (Dt (Ce (K:=K) rfl) rfl (J.z.nn J.ba) (show zCI _=ZC (.type "list") from rfl) (Bn (pv 1))) rfl))),?_⟩
 let F:a≠p:=At B L (by intro z;cases z);let U:KB p H H:=λ_ _ e _=>e;refine (vE rfl ⟨a,rfl,B,λY H1 M=>?_⟩);refine (vE rfl ⟨p,Gh,dx,[],rfl,M _ _ L,J.jd.cl,J.lh,(by show 0<1000;decide),?_⟩);let S:=(U.same M).upd (.ins Gh dx (Ar "wheel" (.ref Y) []));refine (vE rfl (x2 a _ (c3 rfl (.inl (Dp.of (S _ _ B F))) (λwt g=>?_))));let j:p≠wt:=λz=>by rw[<- z,Aa] at g;cases g
 refine (vE rfl (x4 p Gh dx _ (c6 rfl (by rw[Ag j,Aa]) J.jd.cl J.jt (by show 1<1000;decide) ?_)));exact q _ ((S.same (Ac g _)).upd _)
def Sn:Jc J 3 "check_houses" ["houses"] OQ:=Gj J.z J.qr ["houses","k","house"] df λsc H Q hr h=>by
 obtain⟨a,nm,rfl,L,hn,M,q⟩:=h;refine⟨_,(Ae (Bq ZV rfl (Hy rfl (J.z.nn J.ao) (Bn (pv 0))) (Cz (K:=K) (n:=2) rfl rfl (Ao (Et sc 1) (Ao (Et sc 2) Ct)))
    (Ae (Ax (PW.pt (Kf (Cg (Bv (Cm (Jg J) hr (Bn (pv 2))))) (Gv (Al T9 (pv 2) (Cu (Gg (K:=K) rfl) (pv 0) Fc (Ci (pv 1))) rfl))))
    (Ae Bu)
    Am)))),?_⟩
 refine (vE rfl ⟨a,rfl,⟨_,Dp.of L⟩,Zi (K:=K) (a:=a) (xs:=[V.str nm]) (λi σ g=>(∃ j B,σ=[oR a,j,B])/\Dg H g) ⟨⟨ZD,ZD,rfl⟩,λ_ _ z=>z⟩ (λi σ g _ Z=>Dp.of (Z.2 _ _ L)) ?_ ?_⟩)
 .rintro i x σ g t hi ⟨⟨j,B,rfl⟩,S⟩ Y
  let il:=(zAk.mp hi).1;obtain rfl:i=0:=by let:i<1:=il;lia
  obtain rfl:x=.str nm:=by cases hi;rfl
  let U:=S.trans (Ac Y (.tup [V.int 0,.str nm]));let q3:Gr (.str nm)=ZI:=hn;refine (vE rfl ⟨_,_,rfl,.str _,(λy e=>by cases e;exact zAD M (by lk)),_,rfl,?_⟩);rw[q3];refine Du (vE rfl (vE rfl (vE rfl (vE rfl ⟨a,_,rfl,(Dp.of (U _ _ L)),(λm F=>⟨m,[],rfl,.inl (Dp.of Aa),rfl,rfl,vE rfl (Du ⟨⟨_,_,rfl⟩,U.trans (Ac F _)⟩)⟩)⟩))))
 .rintro σ g ⟨⟨j,B,rfl⟩,S⟩
  exact q _ S
end
inductive BR (C:ZF) (vs:List V) (H:Hp) (Q:VK) (E:XK):Prop
 |mk (p dx nm cd c0 cs h0 t hn:_) (wv:Bool) (z0:vs=[.ref p,.str nm,cd,.ref c0,.ref h0,.bl wv]) (z1:H p=oI C dx []) (z2:(Gr (.str nm)=ZI/\nm.length<=8/\nm ≠ "self")) (z3:H c0=oL cs) (z4:cs.length<=8) (z5:H h0=oL [.ref t]) (z6:H t=oT [.str hn,.int 1]) (z7:(Gr (.str hn)=ZI/\hn.length<=8)) (z8:∀ H' cl h1 d0 fs,KB p H H'->H' p=oI C d0 fs->fs.lookup ("name" : ZM)=ZC (.str nm)->fs.lookup ("condition" : ZM)=ZC cd->fs.lookup ("clauses" : ZM)=ZC (.ref cl)->fs.lookup ("houses" : ZM)=ZC (.ref h1)->fs.lookup ("waits" : ZM)=ZC (.bl wv)->YL fs->H' cl=oL cs->H cl=ZD->H' h1=oL [.str hn]->H h1=ZD->Q .non H')
section
variable {P:ZO} {w:ZX} {K:zAa} {mg:ZM->Option ZE} {base:aB}
def Mb:By ["self","name","condition","clauses","houses","waits","pairs"] ["self","name","condition","clauses","houses","waits"] (Aq Ey):=⟨rfl,rfl,rfl,by ac_nf,rfl,by ac_nf,by ac_nf⟩
seal L2.PS L2.PSs L2.PE L2.PA
def Ma (J:Pm P w K mg base) {f:ZF} (F:YZ K "__init__" "Cover.__init__" Ey f fd):XB P w K mg base Ew 6 f fd ["self","name","condition","clauses","houses","waits"] (BR CV):=by
 let sc:=Mb;refine F.ok sc (λvs H Q E h=>?_) (λcdv A outer s H vs Q E hr h=>?_)
 .obtain⟨_,_,_,_,_,_,_,_,_,_,rfl,_⟩:=h
  rfl
 obtain⟨p,dx,L,cd,c0,cs,h0,t,hn,wv,rfl,hp,⟨nx,n8,ns⟩,hc,l8,hh,ht,⟨al,ao⟩,q⟩:=h;refine⟨_,(Ab (Ax (PW.pt (Kf (Cg (Bv (Cm (Jg J) hr (Bn (pv 1))))) (Gv (Al Cc (pv 1) (O6 (J.z.gs J.gl) rfl) (Ap _)))))
    (Ae Bu)
    Am)
   (Ab (Bj (pv 0) (pv 1) rfl)
   (Ab (Bj (pv 0) (pv 2) rfl)
   (Ab (Bj (pv 0) (Hj (Al Nj (pv 3) Fb (Ap _)) (Bh Cs) (Dt (Ce (K:=K) rfl) rfl (J.z.nn J.ba) (show zCI _=ZC (.type "list") from rfl) (Bn (pv 3)))) rfl)
   (Ab (Ax (Al Oa (Ec (Ds (K:=K) rfl) rfl (J.z.nn J.b7) (show zCI _=ZC (.builtin "len") from rfl) (Bn (Bc (pv 0) rfl))) (Qq J.z J.gc) (Ap _))
    (Ae Bu)
    Am)
   (Ab (Cn sc 6 (Hj (Al Nj (pv 4) Fb (Ap _)) (Bh (Bn (Az (Bi (pv 1) Af)))) (pv 4)))
   (Ab (Bj (pv 0) (Cj (NC:=["pair"]) (own:=["pair"]) (cs:=[]) (ix:=[]) rfl (Dr.of rfl) rfl trivial (Hc K (pv 6)) (λ_ _ _=>(Ke 0)) (λ_ _ _=>Ca) (λ_ _ _=>(Ea K (pv 0) Af))) rfl)
   (Ab (Bg (Cm (Sn J) hr (Bn (Bc (pv 0) rfl))))
   (Ab (Bj (pv 0) (Cy (OX J) (hr.mono (by lk)) rfl (Bn (Cj (NC:=["pair"]) (own:=["pair"]) (cs:=[]) (ix:=[]) rfl (Dr.of rfl) rfl trivial (Hc K (pv 6)) (λ_ _ _=>(Ke 0)) (λ_ _ _=>Ca) (λ_ _ _=>(Ea K (pv 0) Af))))) rfl)
   (Ae (Bj (pv 0) (pv 5) rfl))))))))))),?_⟩
 refine Ia λN B=>?_;let k0:KB p H H:=λ_ _ e _=>e;let ai:c0≠p:=At hc hp (by intro z;cases z);let ae:h0≠p:=At hh hp (by intro z;cases z);let nt:t≠p:=At ht hp (by intro z;cases z);refine (vE rfl ⟨_,_,rfl,.str L,(λy e=>by cases e;exact zAD n8 (by lk)),_,rfl,?_⟩);rw[nx];refine Du (vE rfl ⟨rfl,vE rfl (dF (λe=>ns (V.str.inj e)) ?_)⟩);refine Qu B λN B=>?_;refine (vE rfl (vE rfl ⟨p,CV,dx,[],rfl,hp,J.aa.cl,J.am,by lk,?_⟩));refine Qu B λN B=>?_;refine (vE rfl (vE rfl ⟨p,CV,dx,_,rfl,Aa,J.aa.cl,J.c9,zBW (Fl _ _ _) (by lk),?_⟩));let k2:KB p H (upd (upd H p (.ins CV dx (Ar "name" (.str L) []))) p (.ins CV dx (Ar "condition" cd (Ar "name" (.str L) [])))):=KB.upd (KB.upd k0 _) _;let e2:upd (upd H p (.ins CV dx (Ar "name" (.str L) []))) p (.ins CV dx (Ar "condition" cd (Ar "name" (.str L) []))) p=oI CV dx (Ar "condition" cd (Ar "name" (.str L) [])):=Aa;let g2:(Ar "condition" cd (Ar "name" (.str L) [])).length<=2:=zAD (Fl _ _ _) (zBU (Fl _ _ _));let n2:(Ar "condition" cd (Ar "name" (.str L) [])).lookup ("name" : ZM)=ZC (.str L)/\(Ar "condition" cd (Ar "name" (.str L) [])).lookup ("condition" : ZM)=ZC cd:=⟨by rw[f1 (by ac_nf),f0],f0⟩;let a2:YL (Ar "condition" cd (Ar "name" (.str L) [])):=YL.put (YL.put ⟨rfl,rfl,rfl,rfl,rfl⟩ (by ac_nf) (by ac_nf) (by ac_nf) (by ac_nf) (by ac_nf)) (by ac_nf) (by ac_nf) (by ac_nf) (by ac_nf) (by ac_nf)
 generalize Ar "condition" cd (Ar "name" (.str L) [])=j at k2 e2 g2 n2 a2;generalize upd (upd H p (.ins CV dx (Ar "name" (.str L) []))) p (.ins CV dx j)=H2 at k2 e2;refine Qu B λN B=>?_;refine (vE rfl ⟨rfl,vE rfl (dF (λe=>by cases e) (vE rfl ⟨c0,_,rfl,.inl (Dp.of (k2 _ _ hc ai)),λcl ac=>?_⟩))⟩);let s3:=Ac ac (.lst cs);let S:cl≠p:=(Ad e2 ac).symm;let aq:H cl=ZD:=k2.free S ac;refine (vE rfl ⟨p,CV,dx,j,rfl,s3 _ _ e2,J.aa.cl,J.ag,by lia,?_⟩);let k3:=(k2.same s3).upd (.ins CV dx (Ar "clauses" (.ref cl) j));let e3:upd (upd H2 cl (.lst cs)) p (.ins CV dx (Ar "clauses" (.ref cl) j)) p=oI CV dx (Ar "clauses" (.ref cl) j):=Aa;let c3:upd (upd H2 cl (.lst cs)) p (.ins CV dx (Ar "clauses" (.ref cl) j)) cl=oL cs:=by rw[Ag S,Aa]
 let g3:(Ar "clauses" (.ref cl) j).length<=3:=zAD (Fl _ _ _) (by lia);let n3:(Ar "clauses" (.ref cl) j).lookup ("name" : ZM)=ZC (.str L)/\(Ar "clauses" (.ref cl) j).lookup ("condition" : ZM)=ZC cd/\(Ar "clauses" (.ref cl) j).lookup ("clauses" : ZM)=ZC (.ref cl):=⟨by rw[f1 (by ac_nf)];exact n2.1,by rw[f1 (by ac_nf)];exact n2.2,f0⟩;let a3:YL (Ar "clauses" (.ref cl) j):=a2.put (by ac_nf) (by ac_nf) (by ac_nf) (by ac_nf) (by ac_nf);generalize Ar "clauses" (.ref cl) j=g at k3 e3 c3 g3 n3 a3;generalize upd (upd H2 cl (.lst cs)) p (.ins CV dx g)=H3 at k3 e3 c3;refine Qu B λN B=>?_;refine (vE rfl ⟨p,CV,dx,g,_,rfl,e3,J.aa.cl,J.ag,n3.2.2,cl,_,rfl,.inl (Dp.of c3),vF rfl rfl (vE rfl (dF (by lia) ?_))⟩);refine Qu B λN B=>?_;refine (vE rfl ⟨rfl,vE rfl (dF (λe=>by cases e) (vE rfl ?_))⟩);refine Fv B [oR p,oS L,ZC cd,oR c0,oR h0,ZC (.bl wv),oR h0] rfl λN B=>?_;let af:=k3 _ _ hh ae;let ak:=k3 _ _ ht nt;let ab:∀ {i:Nat} {x:V},[V.ref t][i]?=ZC x->i=0/\x=.ref t:=λ{i x} h=>by
  match i,h with
  |0,h=>cases h;exact⟨rfl,rfl⟩
  |i+1,h=>simp at h
 refine (vE rfl ⟨h0,rfl,⟨_,Dp.of af⟩,λh1 nh=>?_⟩);refine Bk (K:=K) (a:=h0) (xs:=[V.ref t]) (λi zs Z=>zs=(if i=0 then [] else [V.str hn])/\Z h1=oL zs/\Dg H3 Z) ⟨rfl,Aa,Ac nh _⟩ (λi zs Z hi ⟨e,U,s5⟩=>⟨U,by rw[e];split <;> simp;lia,Dp.of (s5 _ _ af)⟩) (by rw[zCH];show 1<=16777216;decide) (λi x zs Z hi ⟨e,U,s5⟩=>?_) (λzs Z ⟨e,U,s5⟩=>?_)
 .obtain⟨rfl,rfl⟩:=ab hi
  rw[ZJ rfl] at e;subst e;exact (vE rfl (vI rfl rfl (Hx.of (s5 _ _ ak)) rfl ⟨U,rfl,rfl,Aa,λb o z=>by rw[Ag (Ad z nh)];exact s5 b o z⟩))
 rw[ZH (by show ¬ 1=0;decide)] at e;subst e;let e5:=s5 _ _ e3;let aa:h1≠p:=(Ad e3 nh).symm;let aj:H h1=ZD:=k3.free aa nh;refine (vE rfl ⟨p,CV,dx,g,rfl,e5,J.aa.cl,J.f6,by lia,?_⟩);let k6:=(k3.same s5).upd (.ins CV dx (Ar "houses" (.ref h1) g));let e6:upd Z p (.ins CV dx (Ar "houses" (.ref h1) g)) p=oI CV dx (Ar "houses" (.ref h1) g):=Aa;let h6:upd Z p (.ins CV dx (Ar "houses" (.ref h1) g)) h1=oL [.str hn]:=by rw[Ag aa];exact U
 let c6:upd Z p (.ins CV dx (Ar "houses" (.ref h1) g)) cl=oL cs:=by rw[Ag S];exact s5 _ _ c3
 let g6:(Ar "houses" (.ref h1) g).length<=4:=zAD (Fl _ _ _) (by lia);let n6:(Ar "houses" (.ref h1) g).lookup ("name" : ZM)=ZC (.str L)/\(Ar "houses" (.ref h1) g).lookup ("condition" : ZM)=ZC cd/\(Ar "houses" (.ref h1) g).lookup ("clauses" : ZM)=ZC (.ref cl)/\(Ar "houses" (.ref h1) g).lookup ("houses" : ZM)=ZC (.ref h1):=⟨by rw[f1 (by ac_nf)];exact n3.1,by rw[f1 (by ac_nf)];exact n3.2.1,by rw[f1 (by ac_nf)];exact n3.2.2,f0⟩;let a6:YL (Ar "houses" (.ref h1) g):=a3.put (by ac_nf) (by ac_nf) (by ac_nf) (by ac_nf) (by ac_nf);generalize Ar "houses" (.ref h1) g=M at e6 h6 c6 k6 g6 n6 a6;generalize upd Z p (.ins CV dx M)=H6 at e6 h6 c6 k6;refine Qu B λN B=>?_;refine (vE rfl ⟨p,CV,dx,M,_,rfl,e6,J.aa.cl,J.f6,n6.2.2.2,h1,hn,rfl,h6,al,ao,λH7 s7=>?_⟩);let k7:=k6.same s7;let ag:=k7 _ _ hh ae;let an:=k7 _ _ ht nt;refine Qu B λN B=>?_;refine (vE rfl ⟨h0,rfl,⟨_,Dp.of ag⟩,λwl ad=>?_⟩);refine Bk (K:=K) (a:=h0) (xs:=[V.ref t]) (λi zs H8=>zs=(if i=0 then [] else Wi)/\H8 wl=oL zs/\Dg H7 H8) ⟨rfl,Aa,Ac ad _⟩ (λi zs H8 hi ⟨e,h2,s8⟩=>⟨h2,by rw[e];split <;> simp [Wi];lia,Dp.of (s8 _ _ ag)⟩) (by rw[zCH];show 1<=16777216;decide) (λi x zs H8 hi ⟨e,h2,s8⟩=>?_) (λzs H8 ⟨e,h2,s8⟩=>?_)
 .obtain⟨rfl,rfl⟩:=ab hi
  rw[ZJ rfl] at e;subst e;exact (vE rfl (vI rfl rfl (Hx.of (s8 _ _ an)) rfl ⟨h2,rfl,rfl,Aa,λb o z=>by rw[Ag (Ad z ad)];exact s8 b o z⟩))
 rw[ZH (by show ¬ 1=0;decide)] at e;subst e;intro d dd nd ah ap;let s9:Dg H8 (upd (upd H8 dd (.own d)) d (.ins Gh dd [])):=(Ac ah _).trans (Ac (by rw[Ag (aR ap)];exact nd) _);refine⟨d,dd,wl,rfl,Aa,s9 _ _ h2,λH9 am=>⟨rfl,?_⟩⟩;let Y:Dg H6 H9:=s7.trans (s8.trans (Fx nd ah am));refine (vE rfl ⟨p,CV,dx,M,rfl,Y _ _ e6,J.aa.cl,J.lw,by lia,?_⟩);let ar:(Ar "deal" (.ref d) M).length<=5:=zAD (Fl _ _ _) (by lia);subst B;refine (vE rfl (vE rfl ⟨p,CV,dx,_,rfl,Aa,J.aa.cl,J.bx,by lia,?_⟩));let lk:∀ {f:ZM} {v:V},M.lookup f=ZC v->¬ f="deal"->¬ f="waits"->(Ar "waits" (.bl wv) (Ar "deal" (.ref d) M)).lookup f=ZC v:=λh n1 n2=>by rw[f1 n2,f1 n1];exact h
 refine q _ cl h1 dx _ (((k6.same Y).upd _).upd _) Aa (lk n6.1 (by ac_nf) (by ac_nf)) (lk n6.2.1 (by ac_nf) (by ac_nf)) (lk n6.2.2.1 (by ac_nf) (by ac_nf)) (lk n6.2.2.2 (by ac_nf) (by ac_nf)) f0 (YL.put (a6.put (by ac_nf) (by ac_nf) (by ac_nf) (by ac_nf) (by ac_nf)) (by ac_nf) (by ac_nf) (by ac_nf) (by ac_nf) (by ac_nf)) ?_ aq ?_ aj
 .rw[Ag S,Ag S];exact Y _ _ c6
 .rw[Ag aa,Ag aa];exact Y _ _ h6
def LH (J:Pm P w K mg base):Jk J 6 "Cover" CV ["self","name","condition","clauses","houses","waits"] (BR CV):=by
 refine WQ J.z J.aa J.se (λf fd F=>Ma J F) λ_ _ _ _ _ _ _ _ j s g X hl=>?_;rw[zAY] at hl ⊢
 match g,hl with|[_,_,_,_,_,_],_=>exact BindsTo.of_defaults rfl (X _ _ j) rfl rfl rfl
end
def WE (fs:List (ZM×V)):Prop:=fs.lookup ("spans" : ZM)=ZD/\fs.lookup ("window" : ZM)=ZD/\fs.lookup ("parts" : ZM)=ZD/\fs.lookup ("rest" : ZM)=ZD
def YV (C:ZF) (H:Hp) (p cl:ZF):Prop:=∃ dx fs,H p=oI C dx fs/\fs.lookup ("clauses" : ZM)=ZC (.ref cl)/\WE fs
def YV.same {C:ZF} {H H':Hp} {p cl:ZF} (h:YV C H p cl) (s:Dg H H'):YV C H' p cl:=by
 obtain⟨dx,fs,e,r⟩:=h;exact⟨dx,fs,s _ _ e,r⟩
def L5 {α:Type} {l:List α} {i:Nat} {x:α} (h:l[i]?=ZC x):l.drop i=x::l.drop (i+1):=by
 rw[zBt (zAk.mp h).1]
 congr 1
 exact (zAk.mp h).2
inductive N7 (C:ZF) (f:ZM) (vs:List V) (H:Hp) (Q:VK) (E:XK):Prop
 |mk (p dx v:_) (z0:vs=[.ref p,v]) (z1:H p=oI C dx []) (z2:Q .non (upd H p (.ins C dx (Ar f v []))))
inductive QX (C:ZF) (vs:List V) (H:Hp) (Q:VK) (E:XK):Prop
 |mk (p dx v w:_) (z0:vs=[.ref p,v,w]) (z1:H p=oI C dx []) (z2:∀ H',(∀ b,b≠p->H' b=H b)->H' p=oI C dx (Ar "last" w (Ar "first" v []))->Q .non H')
inductive JE (C:ZF) (vs:List V) (H:Hp) (Q:VK) (E:XK):Prop
 |mk (p dx a xs:_) (z0:vs=[.ref p,.ref a]) (z1:H p=oI C dx []) (z2:H a=oL xs) (z3:∀ l H',H l=ZD->(∀ b,b≠p->b≠l->H' b=H b)->H' p=oI C dx (Ar "several" (.ref l) [])->H' l=oL xs->Q .non H')
inductive Df (m:Nat) (C:ZF) (vs:List V) (H:Hp) (Q:VK) (E:XK):Prop
 |mk (p t l x:_) (z0:vs=[.ref p,.ref l]) (z1:XA κ H (.ref p) t) (z2:κ.of t=C) (z3:Nc t<m) (z4:PH H l x) (z5:Q (.bl (hT t x)) H)
section
variable {P:ZO} {w:ZX} {K:zAa} {mg:ZM->Option ZE} {base:aB} (J:Pm P w K mg base)
def IK:κ.l.Nodup:=by lk
def Fj {C:ZF} {vs:List V} {Q:VK} {E:XK} (h:Df 0 C vs H Q E):False:=by
 obtain⟨_,_,_,_,_,_,_,h,_⟩:=h;exact ZR h (zBA _)
def AA:Jk J 1 "CauseIs" Dw ["self","name"] (N7 Dw "name"):=N4 J.z J.bq J.ja ["self","name"] df λsc H Q hr h=>by
 obtain⟨p,dx,n,rfl,g,q⟩:=h;refine⟨_,(Ae (Bj (pv 0) (pv 1) rfl)),?_⟩;exact (vE rfl (vE rfl ⟨p,_,dx,_,rfl,g,J.bq.cl,J.dg,(by show 0<1000;decide),q⟩))
def AU:Jk J 1 "ThingIs" Dv ["self","name"] (N7 Dv "name"):=N4 J.z J.br J.jb ["self","name"] df λsc H Q hr h=>by
 obtain⟨p,dx,n,rfl,g,q⟩:=h;refine⟨_,(Ae (Bj (pv 0) (pv 1) rfl)),?_⟩;exact (vE rfl (vE rfl ⟨p,_,dx,_,rfl,g,J.br.cl,J.dh,(by show 0<1000;decide),q⟩))
def SN:Jk J 1 "Over" Ik ["self","cents"] (N7 Ik "cents"):=N4 J.z J.dq J.jm ["self","cents"] df λsc H Q hr h=>by
 obtain⟨p,dx,n,rfl,g,q⟩:=h;refine⟨_,(Ae (Bj (pv 0) (pv 1) rfl)),?_⟩;exact (vE rfl (vE rfl ⟨p,_,dx,_,rfl,g,J.dq.cl,J.gh,(by show 0<1000;decide),q⟩))
def TJ:Jk J 1 "Not" Mt ["self","part"] (N7 Mt "part"):=N4 J.z J.gt J.jy ["self","part"] df λsc H Q hr h=>by
 obtain⟨p,dx,n,rfl,g,q⟩:=h;refine⟨_,(Ae (Bj (pv 0) (pv 1) rfl)),?_⟩;exact (vE rfl (vE rfl ⟨p,_,dx,_,rfl,g,J.gt.cl,J.iu,(by show 0<1000;decide),q⟩))
def FA:Jk J 1 "DaysIn" Ee ["self","first","last"] (QX Ee):=N4 J.z J.bc J.jf ["self","first","last"] df λsc H Q hr h=>by
 obtain⟨p,dx,a,b,rfl,g,q⟩:=h;refine⟨_,(Ab (Bj (pv 0) (pv 1) rfl)
   (Ae (Bj (pv 0) (pv 2) rfl))),?_⟩
 refine (vE rfl (vE rfl ⟨p,_,dx,_,rfl,g,J.bc.cl,J.dk,(by show 0<1000;decide),?_⟩));exact (vE rfl (vE rfl ⟨p,_,dx,_,rfl,Aa,J.bc.cl,J.fe,(by show 1<1000;decide),q _ (λb n=>by rw[Ag n,Ag n]) Aa⟩))
def TC:Jk J 1 "All" Km ["self","several"] (JE Km):=N4 J.z J.gu J.ka ["self","several"] df λsc H Q hr h=>by
 obtain⟨p,dx,a,xs,rfl,j,z,q⟩:=h;refine⟨_,(Ae (Bj (pv 0) (Dt (Ce (K:=K) rfl) rfl (J.z.nn J.ba) (show zCI _=ZC (.type "list") from rfl) (Bn (pv 1))) rfl)),?_⟩;refine (vE rfl ⟨a,_,rfl,.inl (Dp.of z),λl hl=>?_⟩);let g:p≠l:=Ad j hl;exact (vE rfl ⟨p,_,dx,_,rfl,(by rw[Ag g];exact j),J.gu.cl,J.fg,(by show 0<1000;decide),q l _ hl (λb F B=>by rw[Ag F,Ag B]) Aa (by rw[Ag g.symm,Aa])⟩)
def OS:Jk J 1 "Some" Hb ["self","several"] (JE Hb):=N4 J.z J.dt J.jn ["self","several"] df λsc H Q hr h=>by
 obtain⟨p,dx,a,xs,rfl,j,z,q⟩:=h;refine⟨_,(Ae (Bj (pv 0) (Dt (Ce (K:=K) rfl) rfl (J.z.nn J.ba) (show zCI _=ZC (.type "list") from rfl) (Bn (pv 1))) rfl)),?_⟩;refine (vE rfl ⟨a,_,rfl,.inl (Dp.of z),λl hl=>?_⟩);let g:p≠l:=Ad j hl;exact (vE rfl ⟨p,_,dx,_,rfl,(by rw[Ag g];exact j),J.dt.cl,J.dz,(by show 0<1000;decide),q l _ hl (λb F B=>by rw[Ag F,Ag B]) Aa (by rw[Ag g.symm,Aa])⟩)
def Kx (J:Pm P w K mg base) {f:ZF} (F:XS K "holds" "Condition.holds" Gn f fd) {m:Nat}:XB P w K mg base Ew 1 f fd ["self","loss"] (Df m Do):=Os F ["self","loss"] df λsc H Q hr h=>by
 obtain⟨p,t,l,x,rfl,z,g,j,hl,q⟩:=h;obtain rfl:=WO IK g;unfold hT at q;exact⟨_,(Ae (Aj Em)),q⟩
def Np (J:Pm P w K mg base) {f:ZF} (F:XS K "holds" "CauseIs.holds" Im f fd) {m:Nat}:XB P w K mg base Ew 1 f fd ["self","loss"] (Df m Dw):=Os F ["self","loss"] df λsc H Q hr h=>by
 obtain⟨p,t,l,x,rfl,g,z,M,⟨L,n,j⟩,q⟩:=h;obtain⟨B,rfl⟩:=WI IK z;unfold hT at q;unfold XA at g;obtain⟨_,dx,e,g⟩:=g;cases e;refine⟨_,(Ae (Aj (Ft Cc (Ea K (pv 1) (Qq J.z J.ki)) (Bc (pv 0) rfl) (Ap _)))),?_⟩;exact (vE rfl (vI rfl rfl (Hx.of j) rfl (vE rfl ⟨p,_,dx,_,_,rfl,g,J.bq.cl,J.dg,AB B,rfl,q⟩)))
def Nl (J:Pm P w K mg base) {f:ZF} (F:XS K "holds" "ThingIs.holds" Ip f fd) {m:Nat}:XB P w K mg base Ew 1 f fd ["self","loss"] (Df m Dv):=Os F ["self","loss"] df λsc H Q hr h=>by
 obtain⟨p,t,l,x,rfl,g,z,M,⟨L,n,j⟩,q⟩:=h;obtain⟨B,rfl⟩:=WS IK z;unfold hT at q;unfold XA at g;obtain⟨_,dx,e,g⟩:=g;cases e;refine⟨_,(Ae (Aj (Ft Cc (Ea K (pv 1) (Qq J.z J.j6)) (Bc (pv 0) rfl) (Ap _)))),?_⟩;exact (vE rfl (vI rfl rfl (Hx.of j) rfl (vE rfl ⟨p,_,dx,_,_,rfl,g,J.br.cl,J.dh,BQ B,rfl,q⟩)))
def Pb (J:Pm P w K mg base) {f:ZF} (F:XS K "holds" "DaysIn.holds" Jd f fd) {m:Nat}:XB P w K mg base Ew 1 f fd ["self","loss"] (Df m Ee):=Os F ["self","loss"] df λsc H Q hr h=>by
 obtain⟨p,t,l,x,rfl,g,B,M,⟨L,n,z⟩,q⟩:=h;obtain⟨a,b,rfl⟩:=WF IK B;unfold hT at q;unfold XA at g;obtain⟨_,dx,e,g⟩:=g;cases e;refine⟨_,(Ae (Aj (Jo Hr Hr (Bc (pv 0) rfl) (Ea K (pv 1) (Qq J.z J.jv)) (Bc (pv 0) rfl)))),?_⟩;let j:Q (.bl (decide (a<=x.d)&&decide (x.d<=b))) H:=q;refine (vE rfl ⟨p,_,dx,_,_,rfl,g,J.bc.cl,J.dk,EM a b,_,rfl,vI rfl rfl (Hx.of z) rfl (vF rfl rfl (vE rfl (Rx (λe=>?_) (λe=>?_))))⟩)
 .rw[e,kN] at j
  exact (vE rfl ⟨p,_,dx,_,_,rfl,g,J.bc.cl,J.fe,GZ a b,_,_,rfl,rfl,j⟩)
 .rw[zBs.mpr e,zCj] at j
  exact j
def Tb (J:Pm P w K mg base) {f:ZF} (F:XS K "holds" "Over.holds" Ml f fd) {m:Nat}:XB P w K mg base Ew 1 f fd ["self","loss"] (Df m Ik):=Os F ["self","loss"] df λsc H Q hr h=>by
 obtain⟨p,t,l,x,rfl,g,z,L,⟨B,n,j⟩,q⟩:=h;obtain⟨c,rfl⟩:=GE IK z;unfold hT at q;unfold XA at g;obtain⟨_,dx,e,g⟩:=g;cases e;refine⟨_,(Ae (Aj (Ft Oa (Ea K (pv 1) (Qq J.z J.g8)) (Bc (pv 0) rfl) (Ap _)))),?_⟩;exact (vE rfl (vI rfl rfl (Hx.of j) rfl (vE rfl ⟨p,_,dx,_,_,rfl,g,J.dq.cl,J.gh,BK c,_,_,rfl,rfl,q⟩)))
def Vw (J:Pm P w K mg base) {f:ZF} (F:XS K "holds" "Not.holds" Nx f fd) {m:Nat} (Mholds:W8 P w K mg base m (A8.Fam κ) "holds" ["self","loss"] (Df m)):XB P w K mg base Ew (m+1) f fd ["self","loss"] (Df (m+1) Mt):=Os F ["self","loss"] df λsc H Q hr h=>by
 obtain⟨p,t,l,x,rfl,g,S,M,hl,q⟩:=h;obtain⟨u,rfl⟩:=WT IK S;unfold hT at q;unfold Nc at M;unfold XA at g;obtain⟨_,dx,v,e,g,z⟩:=g;cases e;obtain⟨j,L,B,rfl,U,Y,_⟩:=z.obj;refine⟨_,(Ae (Aj (AZ (Fh Mholds (hr.mono (by lia)) (Bc (pv 0) rfl) (Bn (pv 1)))))),?_⟩;refine (vE rfl ⟨p,_,dx,_,_,rfl,g,J.gt.cl,J.iu,E9 _ _,j,_,L,B,rfl,U,A8.fam _ u,Y,_,rfl,j,u,l,x,rfl,z,rfl,by lia,hl,?_⟩);exact (vE rfl q)
def Vk (J:Pm P w K mg base) {f:ZF} (F:XS K "holds" "All.holds" Op f fd) {m:Nat} (Mholds:W8 P w K mg base m (A8.Fam κ) "holds" ["self","loss"] (Df m)):XB P w K mg base Ew (m+1) f fd ["self","loss"] (Df (m+1) Km):=Os F ["self","loss","part"] df λsc H Q hr h=>by
 obtain⟨p,t,l,x,rfl,z,hc,hg,hl,q⟩:=h;obtain⟨Z,rfl⟩:=WY IK hc;unfold hT at q;unfold Nc at hg;unfold XA at z;obtain⟨_,dx,a,vs,e,z,L,B⟩:=z;cases e;refine⟨_,(Ab (Bq ZV rfl (Hc K (Bc (pv 0) rfl)) (Et sc 2)
    (Ae (Ax (Cg (Bv (Fh Mholds (hr.mono (by lia)) (pv 2) (Bn (pv 1)))))
    (Ae (Aj Em))
    Am)))
   (Ae (Aj Em))),?_⟩
 let g:=B.len;refine (vE rfl ⟨p,_,dx,_,_,rfl,z,J.gu.cl,J.fg,E9 _ _,a,rfl,⟨_,Dp.of L⟩,?_⟩);refine Hs (K:=K) (a:=a) (xs:=vs) (λi σ j=>(∃ o,σ=[oR p,oR l,o])/\j=H/\hAll Z x=hAll (Z.drop i) x) ⟨⟨ZD,rfl⟩,rfl,rfl⟩ (λi σ j _ ⟨_,e,_⟩=>by rw[e];exact Dp.of L) ?_ ?_
 .rintro i v σ j hi ⟨⟨o,rfl⟩,rfl,e⟩
  obtain⟨u,Y,U⟩:=B.get hi;rw[X9 Y] at e;obtain⟨S,du,fu,rfl,ob,n1,_⟩:=U.obj;refine (vE rfl ⟨S,_,du,fu,rfl,ob,A8.fam _ u,n1,_,rfl,S,u,l,x,rfl,U,rfl,Ph (by lia) i Y,hl,?_⟩);cases M:hT u x with
  |true=>
   rw[M,kN] at e;exact (vE rfl (Du ⟨⟨_,rfl⟩,rfl,e⟩))
  |false=>
   rw[M,zCj] at e;rw[e] at q;exact (vE rfl (Jb q))
 .rintro σ j ⟨⟨o,rfl⟩,rfl,e⟩
  rw[g,zBK] at e;rw[e] at q;unfold hAll at q;exact q
def Ta (J:Pm P w K mg base) {f:ZF} (F:XS K "holds" "Some.holds" Mn f fd) {m:Nat} (Mholds:W8 P w K mg base m (A8.Fam κ) "holds" ["self","loss"] (Df m)):XB P w K mg base Ew (m+1) f fd ["self","loss"] (Df (m+1) Hb):=Os F ["self","loss","part"] df λsc H Q hr h=>by
 obtain⟨p,t,l,x,rfl,z,hc,hg,hl,q⟩:=h;obtain⟨Z,rfl⟩:=WR IK hc;unfold hT at q;unfold Nc at hg;unfold XA at z;obtain⟨_,dx,a,vs,e,z,L,B⟩:=z;cases e;refine⟨_,(Ab (Bq ZV rfl (Hc K (Bc (pv 0) rfl)) (Et sc 2)
    (Ae (Ax (Bv (Fh Mholds (hr.mono (by lia)) (pv 2) (Bn (pv 1))))
    (Ae (Aj Em))
    Am)))
   (Ae (Aj Em))),?_⟩
 let g:=B.len;refine (vE rfl ⟨p,_,dx,_,_,rfl,z,J.dt.cl,J.dz,E9 _ _,a,rfl,⟨_,Dp.of L⟩,?_⟩);refine Hs (K:=K) (a:=a) (xs:=vs) (λi σ j=>(∃ o,σ=[oR p,oR l,o])/\j=H/\hSom Z x=hSom (Z.drop i) x) ⟨⟨ZD,rfl⟩,rfl,rfl⟩ (λi σ j _ ⟨_,e,_⟩=>by rw[e];exact Dp.of L) ?_ ?_
 .rintro i v σ j hi ⟨⟨o,rfl⟩,rfl,e⟩
  obtain⟨u,Y,U⟩:=B.get hi;rw[R7 Y] at e;obtain⟨S,du,fu,rfl,ob,n1,_⟩:=U.obj;refine (vE rfl ⟨S,_,du,fu,rfl,ob,A8.fam _ u,n1,_,rfl,S,u,l,x,rfl,U,rfl,Ph (by lia) i Y,hl,?_⟩);cases M:hT u x with
  |false=>
   rw[M,gU] at e;exact (vE rfl (Du ⟨⟨_,rfl⟩,rfl,e⟩))
  |true=>
   rw[M,Bool.true_or] at e;rw[e] at q;exact (vE rfl (Jb q))
 .rintro σ j ⟨⟨o,rfl⟩,rfl,e⟩
  rw[g,zBK] at e;rw[e] at q;unfold hSom at q;exact q
def Mholds:∀ m,Jf J m (A8.Fam κ) "holds" ["self","loss"] (Df m):=by
  intro m
  induction m with
  |zero=>
   refine⟨λC j=>?_⟩;rcases j with rfl|rfl|rfl|rfl|rfl|rfl|rfl|rfl
   .exact Jw J.z J.ce J.bn.cl bd λf fd F=>GA λ_ _ _ _=>Fj
   .exact Jw J.z J.cz J.bq.cl bd λf fd F=>GA λ_ _ _ _=>Fj
   .exact Jw J.z J.da J.br.cl bd λf fd F=>GA λ_ _ _ _=>Fj
   .exact Jw J.z J.f9 J.bc.cl bd λf fd F=>GA λ_ _ _ _=>Fj
   .exact Jw J.z J.gy J.dq.cl bd λf fd F=>GA λ_ _ _ _=>Fj
   .exact Jw J.z J.io J.gt.cl bd λf fd F=>GA λ_ _ _ _=>Fj
   .exact Jw J.z J.iq J.gu.cl bd λf fd F=>GA λ_ _ _ _=>Fj
   .exact Jw J.z J.i6 J.dt.cl bd λf fd F=>GA λ_ _ _ _=>Fj
  |succ m ih=>
   refine⟨λC j=>?_⟩;let g:1<=m+1:=zBU (zAw _);rcases j with rfl|rfl|rfl|rfl|rfl|rfl|rfl|rfl
   .exact Jw J.z J.ce J.bn.cl bd λf fd F=>(Kx J F).mono g
   .exact Jw J.z J.cz J.bq.cl bd λf fd F=>(Np J F).mono g
   .exact Jw J.z J.da J.br.cl bd λf fd F=>(Nl J F).mono g
   .exact Jw J.z J.f9 J.bc.cl bd λf fd F=>(Pb J F).mono g
   .exact Jw J.z J.gy J.dq.cl bd λf fd F=>(Tb J F).mono g
   .exact Jw J.z J.io J.gt.cl bd λf fd F=>Vw J F ih
   .exact Jw J.z J.iq J.gu.cl bd λf fd F=>Vk J F ih
   .exact Jw J.z J.i6 J.dt.cl bd λf fd F=>Ta J F ih
end
inductive Cl where
 |own (y:ZM) (d:Int)|lay (y:ZM) (a b:Int)|lim (y:ZM) (m:Int)|any (y:ZM)
def Cl.way:Cl->ZM
 |.own y _=>y
 |.lay y _ _=>y
 |.lim y _=>y
 |.any y=>y
def Gk:Cl->List (ZM×V)
 |.own y d=>Ar "cents" (.int d) (Ar "by" (.str y) [])
 |.lay y a b=>Ar "upto" (.int b) (Ar "first" (.int a) (Ar "by" (.str y) []))
 |.lim y m=>Ar "most" (.int m) (Ar "by" (.str y) [])
 |.any y=>Ar "by" (.str y) []
def Ov (y:ZM):Prop:=y="event" \/ y="thing" \/ y="year" \/ y="loss"
def QV (d:Int):Prop:=0<=d/\d<=999999999999
def Ht:Cl->ZF
 |.own _ _=>CO
 |.lay _ _ _=>CL
 |.lim _ _=>CM
 |.any _=>CC
def YB (H:Hp) (p:ZF) (c:Cl):Prop:=∃ dx,H p=oI (Ht c) dx (Gk c)
def Fam (C:ZF):Prop:=C=CC\/C=CO\/C=CL\/C=CM
def YB.same {H H':Hp} {p:ZF} {c:Cl} (h:YB H p c) (s:Dg H H'):YB H' p c:=by
 obtain⟨dx,e⟩:=h;exact⟨dx,s _ _ e⟩
def Vc (c:Cl):Fam (Ht c):=by
 cases c with
 |own _ _=>exact .inr (.inl rfl)
 |lay _ _ _=>exact .inr (.inr (.inl rfl))
 |lim _ _=>exact .inr (.inr (.inr rfl))
 |any _=>exact .inl rfl
def MZ {y:ZM} (h:Ov y):SW (.str y) [.str "event",.str "thing",.str "year",.str "loss"]=ZI:=by
 rcases h with rfl|rfl|rfl|rfl <;> decide +kernel
def TX:¬ (("by" : ZM)="cents"):=by ac_nf
def UF:¬ (("by" : ZM)="upto"):=by ac_nf
def VL:¬ (("by" : ZM)="first"):=by ac_nf
def US:¬ (("by" : ZM)="most"):=by ac_nf
def UG:¬ (("first" : ZM)="upto"):=by ac_nf
def Z2 (c:Cl):(Gk c).lookup ("by" : ZM)=ZC (.str c.way):=by
 cases c with
 |own y d=>unfold Gk;rw[Ak,ZH TX,Ak,ZJ rfl];rfl
 |lay y a b=>unfold Gk;rw[Ak,ZH UF,Ak,ZH VL,Ak,ZJ rfl];rfl
 |lim y m=>unfold Gk;rw[Ak,ZH US,Ak,ZJ rfl];rfl
 |any y=>unfold Gk;rw[Ak,ZJ rfl];rfl
def DM (y:ZM) (d:Int):(Gk (.own y d)).lookup ("cents" : ZM)=ZC (.int d):=by unfold Gk;rw[Ak,ZJ rfl]
def FF (y:ZM) (a b:Int):(Gk (.lay y a b)).lookup ("upto" : ZM)=ZC (.int b):=by unfold Gk;rw[Ak,ZJ rfl]
def BD (y:ZM) (a b:Int):(Gk (.lay y a b)).lookup ("first" : ZM)=ZC (.int a):=by unfold Gk;rw[Ak,ZH UG,Ak,ZJ rfl]
def FZ (y:ZM) (m:Int):(Gk (.lim y m)).lookup ("most" : ZM)=ZC (.int m):=by unfold Gk;rw[Ak,ZJ rfl]
def DN (c:Cl) {m:ZM} (h1:¬ m="by") (z:¬ m="cents") (g:¬ m="first") (j:¬ m="upto") (q:¬ m="most"):(Gk c).lookup m=ZD:=by
 cases c with
 |own y d=>unfold Gk;rw[Ak,ZH z,Ak,ZH h1];rfl
 |lay y a b=>unfold Gk;rw[Ak,ZH j,Ak,ZH g,Ak,ZH h1];rfl
 |lim y n=>unfold Gk;rw[Ak,ZH q,Ak,ZH h1];rfl
 |any y=>unfold Gk;rw[Ak,ZH h1];rfl
def FJ (c:Cl):(Gk c).lookup ("span" : ZM)=ZD:=DN c (by ac_nf) (by ac_nf) (by ac_nf) (by ac_nf) (by ac_nf)
def HQ (c:Cl):(Gk c).lookup ("room" : ZM)=ZD:=DN c (by ac_nf) (by ac_nf) (by ac_nf) (by ac_nf) (by ac_nf)
def Nq (b n k:Int):Int:=CR.minI (CR.maxI (b-n) 0) k
def Y3:Cl->Int->Int->Int
 |.own _ d,n,k=>Nq d n k
 |.lay _ a _,n,k=>Nq a n k
 |_,_,_=>0
def F0:Cl->Int->Int->Int
 |.lay _ _ b,n,k=>Nq b n k
 |_,_,k=>k
def Kg:Cl->Int->V
 |.lim _ m,n=>.int (CR.maxI (m-n) 0)
 |_,_=>.non
inductive OV (vs:List V) (H:Hp) (Q:VK) (E:XK):Prop
 |mk (n:Int) (z0:vs=[.int n]) (z1:QV n) (z2:Q (.int n) H)
inductive NB (vs:List V) (H:Hp) (Q:VK) (E:XK):Prop
 |mk (b n k:Int) (z0:vs=[.int b,.int n,.int k]) (z1:Q (.int (Nq b n k)) H)
inductive PF (vs:List V) (H:Hp) (Q:VK) (E:XK):Prop
 |mk (p C dx fs y:_) (z0:vs=[.ref p,.str y]) (z1:H p=oI C dx fs) (z2:Fam C) (z3:fs.length<1000) (z4:Ov y) (z5:Q .non (upd H p (.ins C dx (Ar "by" (.str y) fs))))
inductive OD (vs:List V) (H:Hp) (Q:VK) (E:XK):Prop
 |mk (p dx y:_) (d:Int) (z0:vs=[.ref p,.str y,.int d]) (z1:H p=oI CO dx []) (z2:Ov y) (z3:QV d) (z4:∀ H',(∀ b o,H b=ZC o->b≠p->H' b=ZC o)->YB H' p (.own y d)->Q .non H')
inductive OI (vs:List V) (H:Hp) (Q:VK) (E:XK):Prop
 |mk (p dx y:_) (a b:Int) (z0:vs=[.ref p,.str y,.int a,.int b]) (z1:H p=oI CL dx []) (z2:Ov y) (z3:QV a) (z4:QV b) (z5:a<b) (z6:∀ H',(∀ b o,H b=ZC o->b≠p->H' b=ZC o)->YB H' p (.lay y a b)->Q .non H')
inductive RJ (vs:List V) (H:Hp) (Q:VK) (E:XK):Prop
 |mk (p dx y:_) (d:Int) (z0:vs=[.ref p,.str y,.int d]) (z1:H p=oI CM dx []) (z2:Ov y) (z3:QV d) (z4:∀ H',(∀ b o,H b=ZC o->b≠p->H' b=ZC o)->YB H' p (.lim y d)->Q .non H')
inductive Wz (C:ZF) (vs:List V) (H:Hp) (Q:VK) (E:XK):Prop
 |mk (p c:_) (n k:Int) (z0:vs=[.ref p,.int n,.int k]) (z1:YB H p c) (z2:Ht c=C) (z3:∀ t H',Dg H H'->H' t=oT [.int (Y3 c n k),.int (F0 c n k)]->Q (.ref t) H')
inductive I9 (C:ZF) (vs:List V) (H:Hp) (Q:VK) (E:XK):Prop
 |mk (p c:_) (n:Int) (z0:vs=[.ref p,.int n]) (z1:YB H p c) (z2:Ht c=C) (z3:Q (Kg c n) H)
def MO {K:zAa}:zBm K (.type "str") (.type "str")=ZC ZI:=by kernel_rfl
section
variable {P:ZO} {w:ZX} {K:zAa} {mg:ZM->Option ZE} {base:aB} (J:Pm P w K mg base)
def M5 {c:Cl} (h:Ht c=CC):∃ y,c=.any y:=by
 cases c <;> first|exact⟨_,rfl⟩|cases h
def QZ (J:Pm P w K mg base):PB K mg "WAYS" [.str "event",.str "thing",.str "year",.str "loss"]:=by
 obtain⟨_,_,_,_,_,_,a,b⟩:=J.ou;exact⟨_,J.z.nv a,λH=>.inr ⟨_,_,_,b,rfl,rfl,by show 4<=sizeLine;rw[zCH];decide,.cons ⟨_,rfl⟩ (.cons ⟨_,rfl⟩ (.cons ⟨_,rfl⟩ (.cons ⟨_,rfl⟩ (.nil))))⟩⟩
def O7 {c:Cl} (h:Ht c=CO):∃ y d,c=.own y d:=by
 cases c <;> first|exact⟨_,_,rfl⟩|cases h
def M4 {c:Cl} (h:Ht c=CL):∃ y a b,c=.lay y a b:=by
 cases c <;> first|exact⟨_,_,_,rfl⟩|cases h
def L7 {c:Cl} (h:Ht c=CM):∃ y m,c=.lim y m:=by
 cases c <;> first|exact⟨_,_,rfl⟩|cases h
def Ef:Jc J 3 "checked_amount" ["thing"] OV:=Gj J.z J.d9 ["thing"] df λsc H Q hr h=>by
 obtain⟨n,rfl,⟨g,h1⟩,q⟩:=h;refine⟨_,(Ab (Ax (Cg (Bv (Cm (Qp J) hr (Bn (pv 0)))))
    (Ae Bu)
    Am)
   (Ae (Aj (pv 0)))),?_⟩
 refine (vE rfl ⟨_,_,rfl,.int n,_,rfl,?_⟩);rw[show R0 999999999999 (.int n)=ZI from ZN ⟨g,h1⟩];exact Du (vE rfl q)
def Lb (J:Pm P w K mg base) {f:ZF} (F:XS K "__init__" "Clause.__init__" El f fd):XB P w K mg base Ew 2 f fd ["self","by"] (PF):=Os F ["self","by"] df λsc H Q hr h=>by
 obtain⟨p,C,dx,fs,y,rfl,z,fam,hl,B,q⟩:=h;refine⟨_,(Ab (Ax (PW.pt (Kf (Cg (Bv (Pg Dl J.z J.ah (Bi (pv 1) (Th "str" rfl (J.z.nn J.j8) rfl))))) (Gv (Al Wb (pv 1) (FK (QZ J) rfl) rfl))))
    (Ae Bu)
    Am)
   (Ae (Bj (pv 0) (pv 1) rfl))),?_⟩
 refine (vE rfl (x5 _ _ _ _ _ ⟨rfl,Tg,.str y,MO,_,rfl,Du ?_⟩));refine (vE rfl (λa g=>(x2 a _ (c5 rfl (.inr g) rfl rfl (vE rfl ?_)))));show if (!SW (.str y) [.str "event",.str "thing",.str "year",.str "loss"])=ZI then _ else _;rw[MZ B];refine Du ?_;let cl:YU K C:=by
  rcases fam with rfl|rfl|rfl|rfl
  .exact J.bf.cl
  .exact J.bu.cl
  .exact J.aq.cl
  .exact J.ax.cl
 let j:Gw K C "by":=by
  rcases fam with rfl|rfl|rfl|rfl
  .exact J.i7
  .exact J.jc
  .exact J.iy
  .exact J.j3
 exact (vE rfl (vE rfl (x4 p C dx fs (c6 rfl z cl j hl q))))
def Ez (J:Pm P w K mg base):NS P w K mg base 2 "Clause" "__init__" ["self","by"] PF:=WP J.z J.bf J.sf (λf fd F=>Lb J F) bd
def UY:Jk J 4 "Own" CO ["self","by","cents"] (OD):=N4 J.z J.bu J.kc ["self","by","cents"] df λsc H Q hr h=>by
 obtain⟨p,dx,y,d,rfl,j,B,g,q⟩:=h;refine⟨_,(Ab (Bg (Qf (Ez J) (hr.mono (by lk)) rfl (Bi (pv 0) (pv 1))))
   (Ae (Bj (pv 0) (Cm (Ef J) hr (Bn (pv 2))) rfl))),?_⟩
 refine (vE rfl (vE rfl ⟨p,_,dx,[],y,rfl,j,.inr (.inl rfl),by lk,B,?_⟩));exact (vE rfl ⟨d,rfl,g,_,rfl,p,_,dx,_,rfl,Aa,J.bu.cl,J.i8,(by show 1<1000;decide),q _ (λb o z n=>by rw[Ag n,Ag n];exact z) ⟨dx,Aa⟩⟩)
def JW:Jk J 4 "Layer" CL ["self","by","first","upto"] (OI):=N4 J.z J.aq J.ji ["self","by","first","upto"] df λsc H Q hr h=>by
 obtain⟨p,dx,y,a,b,rfl,j,L,B,F,g,q⟩:=h;refine⟨_,(Ab (Bg (Qf (Ez J) (hr.mono (by lk)) rfl (Bi (pv 0) (pv 1))))
   (Ab (Bj (pv 0) (Cm (Ef J) hr (Bn (pv 2))) rfl)
   (Ab (Bj (pv 0) (Cm (Ef J) hr (Bn (pv 3))) rfl)
   (Ae (Ax (Cg (Al Hd (pv 2) (pv 3) (Ap _)))
    (Ae Bu)
    Am))))),?_⟩
 refine (vE rfl (vE rfl ⟨p,_,dx,[],y,rfl,j,.inr (.inr (.inl rfl)),by lk,L,?_⟩));refine (vE rfl ⟨a,rfl,B,_,rfl,p,_,dx,_,rfl,Aa,J.aq.cl,J.fh,(by show 1<1000;decide),?_⟩);refine (vE rfl ⟨b,rfl,F,_,rfl,p,_,dx,_,rfl,Aa,J.aq.cl,J.gj,(by show 2<1000;decide),?_⟩);refine (vE rfl (vE rfl (vF rfl rfl (vE rfl (nF g ?_)))));exact q _ (λb o z n=>by rw[Ag n,Ag n,Ag n];exact z) ⟨dx,Aa⟩
def LB:Jk J 4 "Limit" CM ["self","by","most"] (RJ):=N4 J.z J.ax J.jj ["self","by","most"] df λsc H Q hr h=>by
 obtain⟨p,dx,y,d,rfl,j,B,g,q⟩:=h;refine⟨_,(Ab (Bg (Qf (Ez J) (hr.mono (by lk)) rfl (Bi (pv 0) (pv 1))))
   (Ae (Bj (pv 0) (Cm (Ef J) hr (Bn (pv 2))) rfl))),?_⟩
 refine (vE rfl (vE rfl ⟨p,_,dx,[],y,rfl,j,.inr (.inr (.inr rfl)),by lk,B,?_⟩));exact (vE rfl ⟨d,rfl,g,_,rfl,p,_,dx,_,rfl,Aa,J.ax.cl,J.gk,(by show 1<1000;decide),q _ (λb o z n=>by rw[Ag n,Ag n];exact z) ⟨dx,Aa⟩⟩)
end
def EY (y:ZM) (n d:Int) (ev th:ZM):V:=if y="event" then .str ev else if y="thing" then .str th else if y="year" then .int (d/365) else .int n
def BN (c:Cl):(Gk c).lookup ("key" : ZM)=ZD:=DN c (by ac_nf) (by ac_nf) (by ac_nf) (by ac_nf) (by ac_nf)
inductive IM (C:ZF) (vs:List V) (H:Hp) (Q:VK) (E:XK):Prop
 |mk (p c t ev th ca:_) (n d ct:Int) (z0:vs=[.ref p,.ref t]) (z1:YB H p c) (z2:Ht c=C) (z3:H t=oT [.int n,.int d,.str ev,.str th,.str ca,.int ct]) (z4:Q (EY c.way n d ev th) H)
inductive JZ (vs:List V) (H:Hp) (Q:VK) (E:XK):Prop
 |mk (d:Int) (z0:vs=[.int d]) (z1:Q (.int (d/365)) H)
section
variable {P:ZO} {w:ZX} {K:zAa} {mg:ZM->Option ZE} {base:aB} (J:Pm P w K mg base)
def GJ (J:Pm P w K mg base) (c:Cl):YU K (Ht c)/\Gw K (Ht c) "by":=by
 cases c with
 |own _ _=>exact⟨J.bu.cl,J.jc⟩
 |lay _ _ _=>exact⟨J.aq.cl,J.iy⟩
 |lim _ _=>exact⟨J.ax.cl,J.j3⟩
 |any _=>exact⟨J.bf.cl,J.i7⟩
def BY:Jc J 1 "year_of" ["day"] JZ:=Gj J.z J.d7 ["day"] df λsc H Q hr h=>by
 obtain⟨d,rfl,q⟩:=h;refine⟨_,(Ae (Aj (Ai Bz (pv 0) (Qq J.z J.g9)))),?_⟩;exact (vE rfl (vF rfl rfl ⟨⟨by lk,by lk⟩,q⟩))
def Fd (J:Pm P w K mg base) {f:ZF} (F:XS K "key" "Clause.key" En f fd) {C:ZF}:XB P w K mg base Ew 2 f fd ["self","loss"] (IM C):=Os F ["self","loss"] df λsc H Q hr h=>by
 obtain⟨p,c,t,Y,th,ca,n,d,ct,rfl,⟨dx,S⟩,Z,j,q⟩:=h;obtain⟨cl,L⟩:=GJ J c;refine⟨_,(Ab (Ax (Al Cc (Bc (pv 0) rfl) Be (Ap _))
    (Ae (Aj (Ea K (pv 1) (Qq J.z J.kj))))
    Am)
   (Ab (Ax (Al Cc (Bc (pv 0) rfl) Be (Ap _))
    (Ae (Aj (Ea K (pv 1) (Qq J.z J.j6))))
    Am)
   (Ab (Ax (Al Cc (Bc (pv 0) rfl) Be (Ap _))
    (Ae (Aj (Cm (BY J) hr (Bn (Ea K (pv 1) (Qq J.z J.jv))))))
    Am)
   (Ae (Aj (Ea K (pv 1) (Qq J.z J.cg))))))),?_⟩
 unfold EY at q;refine (vE rfl (x5 p _ dx _ _ (c7 rfl S cl L (Z2 c) rfl (vE rfl (Rx (λe=>?_) (λe=>?_))))))
 .have U:c.way="event":=by injection ZY e
  rw[ZJ U] at q;exact (vE rfl (vI rfl rfl (Hx.of j) rfl q))
 .have U:¬ c.way="event":=λz=>e (ZN (by rw[z]))
  rw[ZH U] at q;refine (vE rfl (x5 p _ dx _ _ (c7 rfl S cl L (Z2 c) rfl (vE rfl (Rx (λf=>?_) (λf=>?_))))))
  .have M:c.way="thing":=by injection ZY f
   rw[ZJ M] at q;exact (vE rfl (vI rfl rfl (Hx.of j) rfl q))
  .have M:¬ c.way="thing":=λz=>f (ZN (by rw[z]))
   rw[ZH M] at q;refine (vE rfl (x5 p _ dx _ _ (c7 rfl S cl L (Z2 c) rfl (vE rfl (Rx (λg=>?_) (λg=>?_))))))
   .have B:c.way="year":=by injection ZY g
    rw[ZJ B] at q;exact (vE rfl (vI rfl rfl (Hx.of j) rfl ⟨d,rfl,q⟩))
   .have B:¬ c.way="year":=λz=>g (ZN (by rw[z]))
    rw[ZH B] at q;exact (vE rfl (vI rfl rfl (Hx.of j) rfl q))
def SF:Jf J 2 (Fam) "key" ["self","loss"] (IM):=⟨λC g=>by
  rcases g with rfl|rfl|rfl|rfl
  .exact Jw J.z J.m5 J.bf.cl bd λf fd F=>Fd J F
  .exact Jw J.z J.ol J.bu.cl bd λf fd F=>Fd J F
  .exact Jw J.z J.nq J.aq.cl bd λf fd F=>Fd J F
  .exact Jw J.z J.o0 J.ax.cl bd λf fd F=>Fd J F⟩
def Rr:Jc J 1 "cent_at" ["bound","count","cents"] NB:=Gj J.z J.p8 ["bound","count","cents"] df λsc H Q hr h=>by
 obtain⟨b,n,k,rfl,q⟩:=h;refine⟨_,(Ae (Aj (Pg (Jy rfl) J.z J.f7 (Bi (Pg (Hn rfl) J.z J.cb (Bi (Ai Kt (pv 0) (pv 1)) Af)) (pv 2))))),?_⟩;exact (vE rfl (vE rfl (vF rfl rfl (x2 _ _ ⟨rfl,vE rfl (x2 _ _ ⟨rfl,q⟩)⟩))))
def Ir (J:Pm P w K mg base) {f:ZF} (F:XS K "span" "Clause.span" Gu f fd) {C:ZF} (L:∀ c,Ht c=C->∀ n k,Y3 c n k=0/\F0 c n k=k):XB P w K mg base Ew 2 f fd ["self","count","cents"] (Wz C):=Os F ["self","count","cents"] df λsc H Q hr h=>by
 obtain⟨p,c,n,k,rfl,M,j,q⟩:=h;refine⟨_,(Ae (Aj (Az (Bi Af (pv 2))))),?_⟩;obtain⟨B,z⟩:=L c j n k;rw[B,z] at q;exact (vE rfl ⟨by show 2<=sizeLine;rw[zCH];decide,λt g=>q t _ (Ac g _) Aa⟩)
def Ym (J:Pm P w K mg base) {f:ZF} (F:XS K "span" "Own.span" Rg f fd):XB P w K mg base Ew 2 f fd ["self","count","cents"] (Wz CO):=Os F ["self","count","cents"] df λsc H Q hr h=>by
 obtain⟨p,c,n,k,rfl,⟨dx,g⟩,z,q⟩:=h;obtain⟨y,d,rfl⟩:=O7 z;refine⟨_,(Ae (Aj (Az (Bi (Cm (Rr J) hr (Ah (Bc (pv 0) rfl) (Bi (pv 1) (pv 2)))) (pv 2))))),?_⟩;exact (vE rfl ⟨p,_,dx,_,_,rfl,g,J.bu.cl,J.i8,DM y d,_,rfl,vE rfl ⟨d,n,k,rfl,vE rfl ⟨by show 2<=sizeLine;rw[zCH];decide,λt j=>q t _ (Ac j _) Aa⟩⟩⟩)
def Sg (J:Pm P w K mg base) {f:ZF} (F:XS K "span" "Layer.span" Ll f fd):XB P w K mg base Ew 2 f fd ["self","count","cents"] (Wz CL):=Os F ["self","count","cents"] df λsc H Q hr h=>by
 obtain⟨p,c,n,k,rfl,⟨dx,g⟩,z,q⟩:=h;obtain⟨y,a,b,rfl⟩:=M4 z;refine⟨_,(Ae (Aj (Az (Bi (Cm (Rr J) hr (Ah (Bc (pv 0) rfl) (Bi (pv 1) (pv 2)))) (Cm (Rr J) hr (Ah (Bc (pv 0) rfl) (Bi (pv 1) (pv 2)))))))),?_⟩;exact (vE rfl ⟨p,_,dx,_,_,rfl,g,J.aq.cl,J.fh,BD y a b,_,rfl,vE rfl ⟨a,n,k,rfl,vE rfl ⟨p,_,dx,_,_,rfl,g,J.aq.cl,J.gj,FF y a b,_,rfl,vE rfl ⟨b,n,k,rfl,(by show 2<=sizeLine;rw[zCH];decide),(λt j=>q t _ (Ac j _) Aa)⟩⟩⟩⟩)
def QB:Jf J 2 (Fam) "span" ["self","count","cents"] (Wz):=⟨λC g=>by
  rcases g with rfl|rfl|rfl|rfl
  .exact Jw J.z J.km J.bf.cl bd λf fd F=>Ir J F (λc h n k=>by obtain⟨y,rfl⟩:=M5 h;exact⟨rfl,rfl⟩)
  .exact Jw J.z J.oa J.bu.cl bd λf fd F=>Ym J F
  .exact Jw J.z J.m7 J.aq.cl bd λf fd F=>Sg J F
  .exact Jw J.z J.mw J.ax.cl bd λf fd F=>Ir J F (λc h n k=>by obtain⟨y,m,rfl⟩:=L7 h;exact⟨rfl,rfl⟩)⟩
end
section
variable {P:ZO} {w:ZX} {K:zAa} {mg:ZM->Option ZE} {base:aB}
def Gc (J:Pm P w K mg base) {f:ZF} (F:XS K "room" "Clause.room" Fe f fd) {C:ZF} (g:∀ c,Ht c=C->∀ n,Kg c n=.non):XB P w K mg base Ew 1 f fd ["self","paid"] (I9 C):=Os F ["self","paid"] df λsc H Q hr h=>by
 obtain⟨p,c,n,rfl,z,j,q⟩:=h;refine⟨_,(Ae (Aj Fb)),?_⟩;rw[g c j n] at q;exact q
def Sk (J:Pm P w K mg base) {f:ZF} (F:XS K "room" "Limit.room" Lv f fd):XB P w K mg base Ew 1 f fd ["self","paid"] (I9 CM):=Os F ["self","paid"] df λsc H Q hr h=>by
 obtain⟨p,c,n,rfl,⟨dx,g⟩,j,q⟩:=h;obtain⟨y,m,rfl⟩:=L7 j;refine⟨_,(Ae (Aj (Pg (Hn rfl) J.z J.cb (Bi (Ai Kt (Bc (pv 0) rfl) (pv 1)) Af)))),?_⟩;exact (vE rfl (x5 p _ dx _ _ ⟨rfl,g,J.ax.cl,J.gk,FZ y m,_,rfl,vF rfl rfl (x2 _ _ ⟨rfl,q⟩)⟩))
def PN (J:Pm P w K mg base):Jf J 1 (Fam) "room" ["self","paid"] (I9):=⟨λC g=>by
  rcases g with rfl|rfl|rfl|rfl
  .exact Jw J.z J.ko J.bf.cl bd λf fd F=>Gc J F (λc h n=>by obtain⟨y,rfl⟩:=M5 h;rfl)
  .exact Jw J.z J.oh J.bu.cl bd λf fd F=>Gc J F (λc h n=>by obtain⟨y,d,rfl⟩:=O7 h;rfl)
  .exact Jw J.z J.mv J.aq.cl bd λf fd F=>Gc J F (λc h n=>by obtain⟨y,a,b,rfl⟩:=M4 h;rfl)
  .exact Jw J.z J.m8 J.ax.cl bd λf fd F=>Sk J F⟩
end
def YI (H:Hp):List V->List CR.Rn->Prop
 |[],[]=>True
 |x::xs,p::ps=>(∃ t,x=.ref t/\H t=oT [.int p.1,.int p.2])/\YI H xs ps
 |_,_=>False
def LP (H:Hp) (a:ZF) (ps:List CR.Rn):Prop:=∃ xs,H a=oL xs/\YI H xs ps
theorem YI.len:∀ {xs} {ps},YI H xs ps->xs.length=ps.length
 |[],[],_=>rfl
 |[],_::_,h=>h.elim
 |_::_,[],h=>h.elim
 |x::xs,p::ps,h=>by rw[zAf,zAf,YI.len h.2]
theorem YI.mono {H H':Hp} (s:Z7 H H'):∀ {xs} {ps},YI H xs ps->YI H' xs ps
 |[],[],_=>trivial
 |[],_::_,h=>h.elim
 |_::_,[],h=>h.elim
 |x::xs,p::ps,⟨⟨t,e,h⟩,r⟩=>⟨⟨t,e,s _ _ h⟩,YI.mono s r⟩
theorem YI.get:∀ {xs} {ps} {i:Nat} {x},YI H xs ps->xs[i]?=ZC x->∃ t p,ps[i]?=ZC p/\x=.ref t/\H t=oT [.int p.1,.int p.2]
 |[],[],_,_,_,e=>by simp at e
 |[],_::_,_,_,h,_=>h.elim
 |_::_,[],_,_,h,_=>h.elim
 |x::xs,p::ps,0,y,⟨⟨t,e,h⟩,r⟩,q=>by
  simp at q;subst q;exact (x2 t p (c3 rfl e h))
 |x::xs,p::ps,i+1,y,⟨_,r⟩,q=>by
  obtain⟨t,j,h1,g⟩:=YI.get (i:=i) r (by simpa using q);exact⟨t,j,by simpa using h1,g⟩
theorem YI.app:∀ {xs} {ps} {ys} {qs},YI H xs ps->YI H ys qs->YI H (xs++ys) (ps++qs)
 |[],[],_,_,_,h=>h
 |[],_::_,_,_,h,_=>h.elim
 |_::_,[],_,_,h,_=>h.elim
 |x::xs,p::ps,_,_,⟨h,r⟩,q=>⟨h,YI.app r q⟩
def YI.one {t:ZF} {a b:Int} (h:H t=oT [.int a,.int b]):YI H [.ref t] [(a,b)]:=⟨⟨t,rfl,h⟩,trivial⟩
def YI.snoc {xs:List V} {ps:List CR.Rn} {t:ZF} {a b:Int} (r:YI H xs ps) (h:H t=oT [.int a,.int b]):YI H (xs++[.ref t]) (ps++[(a,b)]):=r.app (YI.one h)
def LP.same {H H':Hp} {a:ZF} {ps:List CR.Rn} (s:Dg H H') (h:LP H a ps):LP H' a ps:=by
 obtain⟨xs,h1,r⟩:=h;exact⟨xs,s _ _ h1,r.mono (An s)⟩
inductive QN (vs:List V) (H:Hp) (Q:VK) (E:XK):Prop
 |mk (a ps:_) (lo hi:Int) (z0:vs=[.ref a,.int lo,.int hi]) (z1:LP H a ps) (z2:ps.length<=1000) (z3:∀ r H',Dg H H'->H r=ZD->LP H' r (CR.cutW ps lo hi)->Q (.ref r) H')
inductive SC (vs:List V) (H:Hp) (Q:VK) (E:XK):Prop
 |mk (a ps:_) (n:Int) (z0:vs=[.ref a,.int n]) (z1:LP H a ps) (z2:ps.length<=1000) (z3:∀ r H',Dg H H'->H r=ZD->LP H' r (CR.lowW ps n)->Q (.ref r) H')
inductive JT (vs:List V) (H:Hp) (Q:VK) (E:XK):Prop
 |mk (a ps:_) (z0:vs=[.ref a,.non]) (z1:LP H a ps) (z2:∀ r H',Dg H H'->H r=ZD->LP H' r ps->Q (.ref r) H')
def EK:Sp:=λvs H Q E=>SC vs H Q E\/JT vs H Q E
inductive KH (vs:List V) (H:Hp) (Q:VK) (E:XK):Prop
 |mk (t b qs:_) (p:CR.Rn) (z0:vs=[.ref t,.ref b]) (z1:H t=oT [.int p.1,.int p.2]) (z2:LP H b qs) (z3:qs.length<=1000) (z4:∀ r H',Dg H H'->H r=ZD->LP H' r (CR.leftW p.2 p.1 qs)->Q (.ref r) H')
inductive RW (vs:List V) (H:Hp) (Q:VK) (E:XK):Prop
 |mk (a b ps qs:_) (z0:vs=[.ref a,.ref b]) (z1:LP H a ps) (z2:LP H b qs) (z3:ps.length<=1000) (z4:qs.length<=1000) (z5:∀ r H',Dg H H'->H r=ZD->LP H' r (CR.outW ps qs)->Q (.ref r) H')
section
variable {P:ZO} {w:ZX} {K:zAa} {mg:ZM->Option ZE} {base:aB} (J:Pm P w K mg base)
def Nv:Jc J 1 "cut_within" ["runs","lo","hi"] QN:=Gj J.z J.p9 ["runs","lo","hi","cut"] df λsc H Q hr h=>by
 obtain⟨a,ps,lo,hi,rfl,⟨xs,ha,pr⟩,hl,q⟩:=h;refine⟨_,(Ab (Ff (NC:=["run","lo","hi"]) (own:=["run"]) (cs:=["lo","hi"]) (ix:=[1,2]) (j:=3) sc.nd rfl rfl rfl (Dr.of rfl) rfl ⟨⟨rfl,.inl rfl,rfl⟩,⟨⟨rfl,.inl rfl,rfl⟩,trivial⟩⟩ (Hc K (pv 0)) (λ_ _ _=>(Ke 0)) (λ_ _ _=>Ca) (λ_ _ _=>(Az (Bi (Pg (Hn rfl) J.z J.cb (Bi (Ea K (pv 0) Af) (pv 1))) (Pg (Jy rfl) J.z J.f7 (Bi (Ea K (pv 0) Af) (pv 2)))))))
   (Ae (Aj (Cj (NC:=["run"]) (own:=["run"]) (cs:=[]) (ix:=[]) rfl (Dr.of rfl) rfl trivial (Hc K (pv 3)) (λ_ _ _=>(Ke 0)) (λ_ _ _=>(Gq (Al Hd (Ea K (pv 0) Af) (Ea K (pv 0) Af) (Ap _)))) (λ_ _ _=>(pv 0)))))),?_⟩
 let lx:=pr.len;refine (vE rfl ⟨a,rfl,⟨_,Dp.of ha⟩,λc hc=>?_⟩);refine Bk (K:=K) (a:=a) (xs:=xs) (λi ys M=>YI M ys ((ps.take i).map (CR.cutM lo hi))/\M c=oL ys/\Dg H M) ⟨trivial,Aa,Ac hc _⟩
  (λi ys M _ ⟨e,h1,Z⟩=>⟨h1,by rw[e.len,zAc,zAn];lia,Dp.of (Z _ _ ha)⟩) (by rw[lx,zCH];lia) (λi x ys M S ⟨e,h1,Z⟩=>?_) (λys M ⟨e,h1,Z⟩=>?_)
 .obtain⟨t,p,hp,rfl,ht⟩:=pr.get S
  let aa:=Z _ _ ht;refine (vE rfl (vI rfl rfl (Hx.of aa) rfl (vE rfl (x2 _ _ ⟨rfl,vE rfl (vI rfl rfl (Hx.of aa) rfl (vE rfl (x2 _ _ (c3 rfl (by show 2<=sizeLine;rw[zCH];decide) (λu hu=>?_)))))⟩))));let s2:=Ac hu (.tup [.int (CR.cutM lo hi p).1,.int (CR.cutM lo hi p).2]);refine⟨s2 _ _ h1,rfl,?_,Aa,λx o z=>?_⟩
  .rw[Bb hp,zAq]
   exact ((e.mono (An s2)).snoc (a:=(CR.cutM lo hi p).1) (b:=(CR.cutM lo hi p).2) Aa).mono (Cd (s2 _ _ h1) _)
  .rw[Ag (Ad z hc)]
   exact s2 _ _ (Z x o z)
 let et:ps.take xs.length=ps:=by rw[lx];exact zAB
 rw[et] at e;refine (vE rfl ⟨c,rfl,⟨_,Dp.of h1⟩,λr Y=>?_⟩);let ly:ys.length=ps.length:=by rw[e.len,zAc]
 refine Bk (K:=K) (a:=c) (xs:=ys) (λi zs F=>YI F zs (((ps.map (CR.cutM lo hi)).take i).filter λp=>decide (p.1<p.2))/\F r=oL zs/\Dg M F) ⟨trivial,Aa,Ac Y _⟩
  (λi zs F _ ⟨U,g,B⟩=>⟨g,?_,Dp.of (B _ _ h1)⟩) (by rw[ly,zCH];lia) (λi x zs F S ⟨U,g,B⟩=>?_) (λzs F ⟨U,g,B⟩=>?_)
 .rw[U.len]
  refine zAD (zAO _ _) ?_;rw[zAn]
  lia
 .obtain⟨t,p,hp,rfl,ht⟩:=e.get S
  let L:=B _ _ ht;refine (vE rfl (vI rfl rfl (Hx.of L) rfl (vE rfl (vI rfl rfl (Hx.of L) rfl (vF rfl rfl (vE rfl ?_))))));rw[Bb hp,zBN];refine Rx (λc'=>?_) (λc'=>?_)
  .have c2:p.1<p.2:=ZY c'
   refine (vE rfl ⟨g,rfl,?_,Aa,λx o z=>?_⟩)
   .rw[oO,ZJ (ZN c2),zBF]
    exact (U.snoc (a:=p.1) (b:=p.2) L).mono (Cd g _)
   .rw[Ag (Ad z Y)]
    exact B x o z
  .have c2:¬ p.1<p.2:=bL (zBs.mpr c')
   rw[oO,ZH (by rw[ZQ c2];exact zAt),zBF,zAY];exact⟨rfl,U,g,B⟩
 .have ab:(ps.map (CR.cutM lo hi)).take ys.length=ps.map (CR.cutM lo hi):=by rw[ly,<- zAc (f:=CR.cutM lo hi)];exact zAB
  rw[ab] at U;exact q r F (Z.trans B) (Z.free Y) ⟨zs,g,U⟩
def Vi:By ["runs","n","kept","left","lo","hi"] ["runs","n"] (Aq Oj):=⟨rfl,rfl,rfl,by ac_nf,rfl,by ac_nf,by ac_nf⟩
def I0:Jc J 1 "lowest_of" ["runs","n"] EK:=JQ J.z J.pf bd λf fd F=>by
 let sc:=Vi;refine F.ok sc (λvs H Q E h=>?_) (λcdv A outer s H vs Q E hr h=>?_)
 .rcases h with ⟨_,_,_,rfl,_⟩|⟨_,_,rfl,_⟩ <;> rfl
 refine⟨_,(Ab (Ax (Al Nj (pv 1) Fb (Ap _))
    (Ae (Aj (Dt (Ce (K:=K) rfl) rfl (J.z.nn J.ba) (show zCI _=ZC (.type "list") from rfl) (Bn (pv 0)))))
    Am)
   (Ab (Cn sc 2 (Bh Cs))
   (Ab (Cn sc 3 (pv 1))
   (Ab (Bq ZV rfl (Hc K (pv 0)) (Cz (K:=K) (n:=2) rfl rfl (Ao (Et sc 4) (Ao (Et sc 5) Ct)))
    (Ab (Ax (Al Oa (pv 3) Af (Ap _))
    (Ae (Bg (Cr (K:=K) rfl ZT aA ZZ Bw (pv 2) (Bn (Az (Bi (pv 4) (Pg (Jy rfl) J.z J.f7 (Bi (pv 5) (Ai Bf (pv 4) (pv 3))))))))))
    Am)
   (Ae (Cn sc 3 (Ai Kt (pv 3) (Ai Kt (pv 5) (pv 4)))))))
   (Ae (Aj (pv 2))))))),?_⟩
 rcases h with ⟨a,ps,n,rfl,⟨xs,ha,Z⟩,hl,q⟩|⟨a,ps,rfl,⟨xs,ha,Z⟩,q⟩
 .have lx:=Z.len
  refine (vE rfl ⟨rfl,vE rfl (dF (λz=>nomatch z) ?_)⟩);refine⟨zAw _,λr g=>?_⟩;let S:Dg H (upd H r (.lst [])):=Ac g _;refine (vE rfl ?_);refine⟨_,rfl,a,rfl,⟨_,Dp.of (S _ _ ha)⟩,Bx (K:=K) (a:=a) (xs:=xs)
   (λi σ B=>(∃ o1 o2 ys,∃ left:Int,σ=[oR a,oN n,oR r,oN left,o1,o2]/\B r=oL ys/\ys.length<=i/\∃ Y,YI B ys Y/\CR.lowW ps n=Y++CR.lowW (ps.drop i) left)/\Dg H B)
   ⟨⟨ZD,ZD,[],n,rfl,Aa,zAl _,[],trivial,rfl⟩,S⟩ (λi σ B _ ⟨_,e⟩=>Dp.of (e _ _ ha)) ?_ ?_⟩
  .rintro i x σ B hi ⟨⟨o1,o2,ys,left,rfl,h1,ly,Y,pk,j⟩,L⟩ N9 M
   obtain⟨t,p,hp,rfl,ht⟩:=Z.get hi;let ab:=L _ _ ht;let aa:i<ps.length:=(zAk.mp hp).1;let ed:ps.drop i=p::ps.drop (i+1):=by
    rw[zBt aa]
    congr 1
    exact (zAk.mp hp).2
   rw[ed,CR.lowW_cons] at j;refine (x2 t _ (c4 rfl (Hx.of ab) rfl (vC rfl (vC rfl (⟨rfl,?_⟩)))));refine (vE rfl (vF rfl rfl (vE rfl (Rx (λc=>?_) (λc=>?_)))))
   .have c':0<left:=ZY c
    rw[ZJ c'] at j;refine (vE rfl ⟨.inl ⟨rfl,_,Dp.of h1⟩,vE rfl (vE rfl (vE rfl (vE rfl (vF rfl rfl (x2 _ _ (c3 rfl (by show 2<=sizeLine;rw[zCH];decide) (λu hu=>?_)))))))⟩);let U:=Ac hu (.tup [.int p.1,.int (if p.1+left<p.2 then p.1+left else p.2)]);refine (x3 r _ _ (c5 rfl rfl (U _ _ h1) (by rw[zCH];lia) ?_));refine (vE rfl (vE rfl (vE rfl (vF rfl rfl (vF rfl rfl (M _ _ ⟨(x4 _ _ _ _ ⟨rfl,Aa,by rw[zAm];exact Nat.add_le_add ly (zAl 1),_,((pk.mono (An U)).snoc Aa).mono (Cd (U _ _ h1) _),?_⟩),λx o z=>?_⟩))))))
    .rw[j,zAZ]
    .rw[Ag (Ad z g)]
     exact U _ _ (L x o z)
   .have c':¬ 0<left:=bL (zBs.mpr c)
    rw[ZH c'] at j;refine (vE rfl (vE rfl (vE rfl (vF rfl rfl (vF rfl rfl (M _ _ ⟨(x4 _ _ _ _ ⟨rfl,h1,by lia,_,pk,?_⟩),L⟩))))));rw[j];rfl
  .rintro σ B ⟨⟨o1,o2,ys,left,rfl,h1,ly,Y,pk,j⟩,L⟩
   refine (vE rfl (q r B L g ⟨ys,h1,?_⟩));rw[lx,zBK] at j;rw[j,CR.lowW_nil,zAY];exact pk
 .refine (vE rfl ⟨rfl,vE rfl (dT rfl ?_)⟩)
  refine (vE rfl (x2 a _ (c3 rfl (.inl (Dp.of ha)) (λr g=>?_))));let S:=Ac g (.lst xs);exact q r _ S g ⟨xs,Aa,Z.mono (An S)⟩
def Vs:Jc J 1 "left_of_run" ["run","others"] KH:=Gj J.z J.ph ["run","others","left","begin","lo","hi","end"] df λsc H Q hr h=>by
 obtain⟨t0,b,Y,p,rfl,M,⟨xs,hb,pr⟩,hl,q⟩:=h;refine⟨_,(Ab (Cn sc 2 (Bh Cs))
   (Ab (Cn sc 3 (Ea K (pv 0) Af))
   (Ab (Bq ZV rfl (Hc K (pv 1)) (Cz (K:=K) (n:=2) rfl rfl (Ao (Et sc 4) (Ao (Et sc 5) Ct)))
    (Ab (Cn sc 6 (Pg (Jy rfl) J.z J.f7 (Bi (pv 4) (Ea K (pv 0) Af))))
   (Ab (Ax (Al Hd (pv 3) (pv 6) (Ap _))
    (Ae (Bg (Cr (K:=K) rfl ZT aA ZZ Bw (pv 2) (Bn (Az (Bi (pv 3) (pv 6)))))))
    Am)
   (Ae (Cn sc 3 (Pg (Hn rfl) J.z J.cb (Bi (pv 3) (pv 5))))))))
   (Ab (Ax (Al Hd (pv 3) (Ea K (pv 0) Af) (Ap _))
    (Ae (Bg (Cr (K:=K) rfl ZT aA ZZ Bw (pv 2) (Bn (Az (Bi (pv 3) (Ea K (pv 0) Af)))))))
    Am)
   (Ae (Aj (pv 2))))))),?_⟩
 let lx:=pr.len;refine⟨zAw _,λr j=>?_⟩;let s1:Dg H (upd H r (.lst [])):=Ac j _;refine (vE rfl (vI rfl rfl (Hx.of (s1 _ _ M)) rfl ?_));refine⟨_,rfl,b,rfl,⟨_,Dp.of (s1 _ _ hb)⟩,Bx (K:=K) (a:=b) (xs:=xs)
  (λi σ U=>(∃ o1 o2 o3 ys,∃ g:Int,σ=[oR t0,oR b,oR r,oN g,o1,o2,o3]/\U r=oL ys/\ys.length<=i/\∃ ks,YI U ys ks/\CR.leftW p.2 p.1 Y=ks++CR.leftW p.2 g (Y.drop i))/\Dg H U)
  ⟨⟨ZD,ZD,ZD,[],p.1,rfl,Aa,zAl _,[],trivial,rfl⟩,s1⟩ (λi σ U _ ⟨_,e⟩=>Dp.of (e _ _ hb)) ?_ ?_⟩
 .rintro i x σ U hi ⟨⟨o1,o2,o3,ys,g,rfl,h1,ly,ks,pk,B⟩,F⟩ N9 Z
  obtain⟨t,p',hp,rfl,ht⟩:=pr.get hi;let ab:=F _ _ ht;let aa:i<Y.length:=(zAk.mp hp).1;let ed:Y.drop i=p'::Y.drop (i+1):=by
   rw[zBt aa]
   congr 1
   exact (zAk.mp hp).2
  rw[ed,CR.leftW_cons] at B;refine (x2 t _ (c4 rfl (Hx.of ab) rfl (vC rfl (vC rfl (⟨rfl,?_⟩)))));refine (vE rfl (vE rfl (vI rfl rfl (Hx.of (F _ _ M)) rfl (x2 _ _ ⟨rfl,?_⟩))));refine (vE rfl (vE rfl (vF rfl rfl (vE rfl (Rx (λc=>?_) (λc=>?_))))))
  .have S:g<CR.minI p'.1 p.2:=ZY c
   rw[ZJ S] at B;refine (vE rfl ⟨.inl ⟨rfl,_,Dp.of h1⟩,vE rfl (vE rfl ⟨by show 2<=sizeLine;rw[zCH];decide,λu hu=>?_⟩)⟩);let L:=Ac hu (.tup [.int g,.int (CR.minI p'.1 p.2)]);refine (x3 r _ _ (c5 rfl rfl (L _ _ h1) (by rw[zCH];lia) ?_));refine (vE rfl (vE rfl (x2 _ _ ⟨rfl,Z _ _ ⟨(x5 _ _ _ _ _ ⟨rfl,Aa,by rw[zAm];exact Nat.add_le_add ly (zAl 1),_,((pk.mono (An L)).snoc Aa).mono (Cd (L _ _ h1) _),?_⟩),(λx o z=>?_)⟩⟩)))
   .rw[B,zAZ]
    rfl
   .rw[Ag (Ad z j)]
    exact L _ _ (F x o z)
  .have S:¬ g<CR.minI p'.1 p.2:=bL (zBs.mpr c)
   rw[ZH S] at B;refine (vE rfl (vE rfl (x2 _ _ ⟨rfl,Z _ _ ⟨(x5 _ _ _ _ _ ⟨rfl,h1,by lia,_,pk,?_⟩),F⟩⟩)));rw[B];rfl
 .rintro σ U ⟨⟨o1,o2,o3,ys,g,rfl,h1,ly,ks,pk,B⟩,F⟩
  rw[lx,zBK,CR.leftW_nil] at B;refine (vE rfl (vE rfl (vI rfl rfl (Hx.of (F _ _ M)) rfl (vF rfl rfl (vE rfl (Rx (λc=>?_) (λc=>?_)))))))
  .have S:g<p.2:=ZY c
   rw[ZJ S] at B;refine (vE rfl ⟨.inl ⟨rfl,_,Dp.of h1⟩,vE rfl (vE rfl (vI rfl rfl (Hx.of (F _ _ M)) rfl ⟨by show 2<=sizeLine;rw[zCH];decide,λu hu=>?_⟩))⟩);let L:=Ac hu (.tup [.int g,.int p.2]);refine (x3 r _ _ (c5 rfl rfl (L _ _ h1) (by rw[zCH];lia) ?_));refine (vE rfl (q r _ (λx o z=>?_) j ⟨_,Aa,?_⟩))
   .rw[Ag (Ad z j)]
    exact L _ _ (F x o z)
   .rw[B]
    exact ((pk.mono (An L)).snoc Aa).mono (Cd (L _ _ h1) _)
  .have S:¬ g<p.2:=bL (zBs.mpr c)
   rw[ZH S,zAY] at B;refine (vE rfl (q r _ F j ⟨_,h1,?_⟩));rw[B];exact pk
def AR:Jc J 2 "cut_out" ["runs","others"] RW:=Gj J.z J.pj ["runs","others","left","run"] df λsc H Q hr h=>by
 obtain⟨a,b,ps,qs,rfl,⟨xs,ha,pr⟩,lq,hl,U,q⟩:=h;refine⟨_,(Ab (Cn sc 2 (Bh Cs))
   (Ab (Bq ZV rfl (Hc K (pv 0)) (Et sc 3)
    (Ae (Bg (Cr (K:=K) rfl ZT bG bE Hh (pv 2) (Bn (Cm (Vs J) hr (Bi (pv 3) (pv 1))))))))
   (Ae (Aj (pv 2))))),?_⟩
 let lx:=pr.len;refine⟨zAw _,λr j=>?_⟩;let s1:Dg H (upd H r (.lst [])):=Ac j _;refine⟨_,rfl,a,rfl,⟨_,Dp.of (s1 _ _ ha)⟩,Bx (K:=K) (a:=a) (xs:=xs)
  (λi σ g=>(∃ M ys,σ=[oR a,oR b,oR r,M]/\g r=oL ys/\YI g ys (CR.outW (ps.take i) qs))/\Dg H g)
  ⟨⟨ZD,[],rfl,Aa,trivial⟩,s1⟩ (λi σ g _ ⟨_,e⟩=>Dp.of (e _ _ ha)) ?_ ?_⟩
 .rintro i x σ g hi ⟨⟨M,ys,rfl,h1,F⟩,B⟩ N9 S
  obtain⟨t,p,Y,rfl,ht⟩:=pr.get hi;let aa:i<ps.length:=(zAk.mp Y).1;refine (vE rfl ⟨.inl ⟨rfl,_,Dp.of h1⟩,vE rfl (vE rfl ⟨t,b,qs,p,rfl,(B _ _ ht),(lq.same B),U,(λu H3 L hu ⟨zs,hz,Z⟩=>?_)⟩)⟩);let e1:(CR.outW (ps.take i) qs).length<=1000*1001:=zAD (CR.outW_len _ _) (Nat.mul_le_mul (by rw[zAn];lia) (by lia));let e2:(CR.leftW p.2 p.1 qs).length<=1001:=zAD (CR.leftW_len _ _ _) (by lia);refine (x4 r u _ _ (c6 rfl rfl (L _ _ h1) hz (by rw[F.len,Z.len,zCH];lia) (S _ _ ⟨(x2 _ _ (c3 rfl Aa ?_)),(λx o z=>?_)⟩)))
  .have e:CR.outW (ps.take (i+1)) qs=CR.outW (ps.take i) qs++CR.leftW p.2 p.1 qs:=by
    rw[Bb Y];unfold CR.outW;rw[zAq,nA,List.map_singleton,List.flatten_singleton]
   rw[e];exact ((F.mono (An L)).app Z).mono (Cd (L _ _ h1) _)
  .rw[Ag (Ad z j)]
   exact L _ _ (B x o z)
 .rintro σ g ⟨⟨M,ys,rfl,h1,F⟩,B⟩
  rw[lx,zAB] at F;exact (vE rfl (q r g B j ⟨ys,h1,F⟩))
end
theorem YO.last:∀ {xs} {ps} {p},YO H xs (ps++[p])->∃ ys t,xs=ys++[.ref t]/\H t=oT [.int p.1,.int p.2.1,.int p.2.2]/\YO H ys ps
 |[],[],_,h=>h.elim
 |[x],[],_,⟨⟨t,e,h⟩,_⟩=>⟨[],t,by rw[e];rfl,h,trivial⟩
 |x::y::xs,[],_,⟨_,h⟩=>h.elim
 |[],q::ps,_,h=>h.elim
 |x::xs,q::ps,p,⟨z,r⟩=>by
  obtain⟨ys,t,e,h,g⟩:=YO.last (ps:=ps) r;exact⟨x::ys,t,by rw[e];rfl,h,z,g⟩
abbrev EX:=Int×Int
def YR (H:Hp):List V->List EX->Prop
 |[],[]=>True
 |x::xs,p::ps=>(∃ t,x=.ref t/\H t=oT [.int p.1,.int p.2])/\YR H xs ps
 |_,_=>False
theorem YR.len:∀ {xs} {ps},YR H xs ps->xs.length=ps.length
 |[],[],_=>rfl
 |[],_::_,h=>h.elim
 |_::_,[],h=>h.elim
 |x::xs,p::ps,h=>by rw[zAf,zAf,YR.len h.2]
theorem YR.mono {H H':Hp} (s:Z7 H H'):∀ {xs} {ps},YR H xs ps->YR H' xs ps
 |[],[],_=>trivial
 |[],_::_,h=>h.elim
 |_::_,[],h=>h.elim
 |x::xs,p::ps,⟨⟨t,e,h⟩,r⟩=>⟨⟨t,e,s _ _ h⟩,YR.mono s r⟩
theorem YR.get:∀ {xs} {ps} {i:Nat} {x},YR H xs ps->xs[i]?=ZC x->∃ t p,ps[i]?=ZC p/\x=.ref t/\H t=oT [.int p.1,.int p.2]
 |[],[],_,_,_,e=>by simp at e
 |[],_::_,_,_,h,_=>h.elim
 |_::_,[],_,_,h,_=>h.elim
 |x::xs,p::ps,0,y,⟨⟨t,e,h⟩,r⟩,q=>by
  simp at q;subst q;exact (x2 t p (c3 rfl e h))
 |x::xs,p::ps,i+1,y,⟨_,r⟩,q=>by
  obtain⟨t,j,h1,g⟩:=YR.get (i:=i) r (by simpa using q);exact⟨t,j,by simpa using h1,g⟩
theorem YR.snoc:∀ {xs} {ps} {t} {a b:Int},YR H xs ps->H t=oT [.int a,.int b]->YR H (xs++[.ref t]) (ps++[(a,b)])
 |[],[],t,_,_,_,h=>⟨⟨t,rfl,h⟩,trivial⟩
 |[],_::_,_,_,_,r,_=>r.elim
 |_::_,[],_,_,_,r,_=>r.elim
 |x::xs,p::ps,_,_,_,⟨z,r⟩,h=>⟨z,YR.snoc r h⟩
def XT (H:Hp):List V->List Cl->Prop
 |[],[]=>True
 |x::xs,c::cs=>(∃ p,x=.ref p/\YB H p c)/\XT H xs cs
 |_,_=>False
theorem XT.len:∀ {xs} {cs},XT H xs cs->xs.length=cs.length
 |[],[],_=>rfl
 |[],_::_,h=>h.elim
 |_::_,[],h=>h.elim
 |x::xs,c::cs,h=>by rw[zAf,zAf,XT.len h.2]
theorem XT.get:∀ {xs} {cs} {i:Nat} {x},XT H xs cs->xs[i]?=ZC x->∃ p c,cs[i]?=ZC c/\x=.ref p/\YB H p c
 |[],[],_,_,_,e=>by simp at e
 |[],_::_,_,_,h,_=>h.elim
 |_::_,[],_,_,h,_=>h.elim
 |x::xs,c::cs,0,y,⟨⟨p,e,h⟩,r⟩,q=>by
  simp at q;subst q;exact (x2 p c (c3 rfl e h))
 |x::xs,c::cs,i+1,y,⟨_,r⟩,q=>by
  obtain⟨p,j,h1,g⟩:=XT.get (i:=i) r (by simpa using q);exact⟨p,j,by simpa using h1,g⟩
def VS (H H':Hp):Prop:=∀ t C dx fs,H t=oI C dx fs->H' t=oI C dx fs
def Pw {H H':Hp} (s:Dg H H'):VS H H':=λt _ _ _ h=>s t _ h
theorem XT.mono {H H':Hp} (s:VS H H'):∀ {xs} {ps},XT H xs ps->XT H' xs ps
 |[],[],_=>trivial
 |[],_::_,h=>h.elim
 |_::_,[],h=>h.elim
 |x::xs,p::ps,⟨⟨t,e,dx,h⟩,r⟩=>⟨⟨t,e,dx,s _ _ _ _ h⟩,XT.mono s r⟩
theorem XT.snoc:∀ {xs} {cs} {p} {c},XT H xs cs->YB H p c->XT H (xs++[.ref p]) (cs++[c])
 |[],[],p,_,_,h=>⟨⟨p,rfl,h⟩,trivial⟩
 |[],_::_,_,_,z,_=>z.elim
 |_::_,[],_,_,z,_=>z.elim
 |x::xs,c::cs,_,_,⟨z,r⟩,h=>⟨z,XT.snoc r h⟩
def CJ (k:Int) (c:Cl) (n:Int):EX:=(Y3 c n k,F0 c n k)
def As (k:Int) (cs:List Cl) (ns:List Int):List EX:=lF (CJ k) cs ns
def B4 {k:Int} {cs:List Cl} {ns:List Int} {i:Nat} {c:Cl} {n:Int} (h1:cs[i]?=ZC c) (g:ns[i]?=ZC n):As k (cs.take (i+1)) (ns.take (i+1))=As k (cs.take i) (ns.take i)++[CJ k c n]:=by
 unfold As;rw[Bb h1,Bb g,List.zipWith_append (by
  let:=(zAk.mp h1).1;let:=(zAk.mp g).1;rw[zAn,zAn]
  lia)]
 rfl
def Nu {k:Int} {cs:List Cl} {ns:List Int} (h:ns.length=cs.length):(As k cs ns).length=cs.length:=by unfold As;rw[mX];lia
inductive VD (vs:List V) (H:Hp) (Q:VK) (E:XK):Prop
 |mk (a xs sp:_) (c:Int) (z0:vs=[.ref a,.int c]) (z1:H a=oL xs) (z2:YR H xs sp) (z3:sp.length<=60) (z4:∀ H',Dg H H'->Q (.int (CRP.fw sp c)) H')
def SX (sp:List EX) (cents y:Int):Prop:=y=0\/y=cents\/∃ p∈sp,y=p.1\/y=p.2
inductive OM (vs:List V) (H:Hp) (Q:VK) (E:XK):Prop
 |mk (a xs sp:_) (cents:Int) (z0:vs=[.ref a,.int cents]) (z1:H a=oL xs) (z2:YR H xs sp) (z3:sp.length<=8) (z4:∀ (l:ZF) (ms:List Int) (H':Hp),Dg H H'->H l=ZD->H' l=oL (ms.map V.int)->ms.Pairwise (· < ·)->(∀ y,y∈ms↔SX sp cents y)->ms.length<=20->Q (.ref l) H')
theorem AE:∀ {g ns:List Int},g.Nodup->(∀ y∈g,y∈ns)->g.length<=ns.length
 |[],_,_,_=>zAw _
 |x::g,ns,j,h=>by
  rw[zAT] at j;let q:=h x zAd;let ih:=AE (ns:=ns.erase x) j.2 λy B=>(zCq (λz:y=x=>j.1 (by rw[<- z];exact B))).mpr (h y (zAb _ B));rw[zBT q] at ih;let:0<ns.length:=zCd q;rw[zAf]
  lia
def MU {g ns:List Int} (h:g.Pairwise (· < ·)) (m:∀ y∈g,y∈ns):g.length<=ns.length:=by
 let j:g.Nodup:=h.imp λ{a b} z=>by lia
 exact AE j m
section
variable {P:ZO} {w:ZX} {K:zAa} {mg:ZM->Option ZE} {base:aB} (J:Pm P w K mg base)
def Sa:Jc J 1 "first_without" ["spans","cent"] VD:=Gj J.z J.qt ["spans","cent","k","span"] df λsc H Q hr h=>by
 obtain⟨a,xs,sp,c,rfl,ha,ps,aa,q⟩:=h;refine⟨_,(Ab (Bq ZV rfl (Hy rfl (J.z.nn J.ao) (Bn (pv 0))) (Cz (K:=K) (n:=2) rfl rfl (Ao (Et sc 2) (Ao (Et sc 3) Ct)))
    (Ae (Ax (PW.pt (Kf (Al Hd (pv 1) (Ea K (pv 3) Af) (Ap _)) (Gv (Al PD (pv 1) (Ea K (pv 3) Af) (Ap _)))))
    (Ae (Aj (pv 2)))
    Am)))
   (Ae (Aj (Oo Ji Af)))),?_⟩
 let lx:=ps.len;refine (vE rfl ⟨a,rfl,⟨_,Dp.of ha⟩,Js (K:=K) (a:=a) (xs:=xs) (λi σ F=>((∃ M S,σ=[oR a,oN c,M,S])/\CRP.fw sp c=CRP.fwFrom (sp.drop i) i c)/\Dg H F) ⟨⟨⟨ZD,ZD,rfl⟩,rfl⟩,λ_ _ z=>z⟩ (λi σ F _ ⟨_,e⟩=>Dp.of (e _ _ ha)) ?_ ?_⟩)
 .rintro i x σ F t hi ⟨⟨⟨M,S,rfl⟩,e⟩,Z⟩ nt N9 L
  obtain⟨u,p,hp,rfl,hu⟩:=ps.get hi;let B:=Z.trans (Ac nt (.tup [.int i,.ref u]));let j:=B _ _ hu;rw[L5 hp] at e;let g:CRP.fw sp c=if c<p.1\/p.2<=c then (i:Int) else CRP.fwFrom (sp.drop (i+1)) ((i:Int)+1) c:=e;refine (vE rfl (vE rfl (vI rfl rfl (Hx.of j) rfl (vF rfl rfl (vE rfl ?_)))));by_cases U:c<p.1
  .rw[ZJ (.inl U)] at g
   refine dT U (Jb (vE rfl ?_));let:=q _ B;rw[g] at this;exact this
  refine dF U (vE rfl (vE rfl (vI rfl rfl (Hx.of j) rfl (vF rfl rfl (vE rfl ?_)))));by_cases Y:p.2<=c
  .rw[ZJ (.inr Y)] at g
   refine dT Y (vE rfl ?_);let:=q _ B;rw[g] at this;exact this
  .rw[ZH (by lia)] at g
   exact dF Y (L _ _ ⟨⟨⟨_,_,rfl⟩,by rw[g];rfl⟩,B⟩)
 .rintro σ F ⟨⟨⟨M,S,rfl⟩,e⟩,Z⟩
  rw[lx,zBK] at e;let:=q _ Z;rw[e] at this;exact (vE rfl this)
def D3:Jc J 1 "bounds_of" ["spans","cents"] OM:=Gj J.z J.qu ["spans","cents","bounds","span"] df λsc H Q hr h=>by
 obtain⟨a,xs,sp,g,rfl,Z,ps,l8,q⟩:=h;refine⟨_,(Ab (Cn sc 2 (Bh (Bi Af (pv 1))))
   (Ab (Bq ZV rfl (Hc K (pv 0)) (Et sc 3)
    (Ae (Bg (Cr (K:=K) rfl ZT bG bE G6 (pv 2) (Bn (pv 3))))))
   (Ae (Aj (B5 (pv 2) rfl rfl (J.z.nn J.cm) rfl (J.z.nn J.jx)))))),?_⟩
 let lx:=ps.len;refine (vE rfl ⟨Dq (by show 2<=1000;decide),λb M=>?_⟩);let ab:a≠b:=Ad Z M;refine⟨_,rfl,a,rfl,⟨_,Dp.of (Ac M _ _ _ Z)⟩,Bx (K:=K) (a:=a) (xs:=xs) (λi σ F=>(∃ o,σ=[oR a,oN g,oR b,o])/\F b=oL ((0::g::(sp.take i).flatMap λp=>[p.1,p.2]).map V.int)/\Dg H F) ⟨⟨ZD,rfl⟩,Aa,Ac M _⟩
  (λi σ F _ ⟨_,_,e⟩=>Dp.of (e _ _ Z)) ?_ ?_⟩
 .rintro i x σ F hi ⟨⟨o,rfl⟩,L,B⟩ N9 Y
  obtain⟨u,p,j,rfl,hu⟩:=ps.get hi;let il:i<sp.length:=(zAk.mp j).1;let U:∀ l:List EX,(l.flatMap λp=>[p.1,p.2]).length=2*l.length:=λl=>by
   induction l with
   |nil=>rfl
   |cons y l ih=>simp only [oF,zAm,zAf,zBZ,ih];lia
  refine (vE rfl ⟨.inl ⟨rfl,_,Dp.of L⟩,vE rfl (x4 b u _ _ (c6 rfl rfl L (B _ _ hu) ?_ (Y _ _ ⟨⟨_,rfl⟩,?_,λy o z=>?_⟩)))⟩)
  .rw[zAc,zAf,zAf,U,zAn,zCH]
   show _+2<=_
   lia
  .rw[Aa,Bb j,List.flatMap_append]
   congr 2
   show bI V.int _++[V.int p.1,V.int p.2]=bI V.int (0::g::(_++_));rw[<- zCC,<- zCC,zAq];rfl
  .rw[Ag (Ad z M)]
   exact B y o z
 .rintro σ F ⟨⟨o,rfl⟩,L,B⟩
  rw[lx,zAB] at L;let U:∀ l:List EX,(l.flatMap λp=>[p.1,p.2]).length=2*l.length:=λl=>by
   induction l with
   |nil=>rfl
   |cons y l ih=>simp only [oF,zAm,zAf,zBZ,ih];lia
  let ln:(0::g::sp.flatMap λp=>[p.1,p.2]).length<=20:=by rw[zAf,zAf,U];lia
  refine (vE rfl (x2 b _ (c4 rfl (Dp.of L) (by lia) (λl ms nl up mem=>q l ms _ (B.trans (Ac nl _)) (B.free nl) Aa up (λy=>?_) ?_))))
  .rw[mem y]
   unfold SX;constructor
   .intro S
    rcases zAj.mp S with z|z
    .exact .inl z
    rcases zAj.mp z with z|z
    .exact .inr (.inl z)
    .obtain⟨p,j,aa⟩:=List.mem_flatMap.mp z
     refine .inr (.inr ⟨p,j,?_⟩)
     simpa using aa
   .rintro (z|z|⟨p,j,z⟩)
    .rw[z];exact zAd
    .rw[z];exact zAb _ zAd
    .refine zAb _ (zAb _ (List.mem_flatMap.mpr ⟨p,j,?_⟩))
     simpa using z
  .exact zAD (MU up λy S=>(mem y).mp S) ln
end
def Cf:List (Option Int)->Int->Option (Int×Int)->Option (Int×Int)
 |[],_,o=>o
 |none::r,k,o=>Cf r (k+1) o
 |some n::r,k,ZD=>Cf r (k+1) (ZC (n,k))
 |some n::r,k,ZC (m,j)=>Cf r (k+1) (if n<m then ZC (n,k) else ZC (m,j))
def Ye:V->Option Int
 |.int n=>ZC n
 |_=>ZD
def RV (H:Hp) (v:V):Option (Int×Int)->Prop
 |none=>v=.non
 |some (n,k)=>∃ t,v=.ref t/\H t=oT [.int n,.int k]
theorem RV.same {H H':Hp} {v:V} (s:Dg H H'):∀ {o},RV H v o->RV H' v o
 |none,h=>h
 |some (n,k),⟨t,e,h⟩=>⟨t,e,s _ _ h⟩
def Ay (cs:List Cl) (ns:List Int):List (Option Int):=lF (λc n=>Ye (Kg c n)) cs ns
inductive MF (vs:List V) (H:Hp) (Q:VK) (E:XK):Prop
 |mk (p cl ct xs cs ns:_) (z0:vs=[.ref p,.ref ct]) (z1:YV CV H p cl) (z2:H cl=oL xs) (z3:XT H xs cs) (z4:H ct=oL (bI V.int ns)) (z5:ns.length=cs.length) (z6:∀ v H',Dg H H'->RV H' v (Cf (Ay cs ns) 0 ZD)->Q v H')
def AH (c:Cl) (n:Int):Kg c n=.non\/∃ m:Int,Kg c n=.int m:=by
 cases c with
 |own y d=>exact .inl rfl
 |lay y a b=>exact .inl rfl
 |lim y m=>exact .inr ⟨_,rfl⟩
 |any y=>exact .inl rfl
section
variable {P:ZO} {w:ZX} {K:zAa} {mg:ZM->Option ZE} {base:aB}
def IP (J:Pm P w K mg base):Jm J 2 CV "rest" ["self","counts"] (MF):=JF J.z J.mf J.aa.cl ["self","counts","least","k","clause","room"] df λsc H Q hr h=>by
 obtain⟨p,cl,ct,xs,j,ns,rfl,⟨dx,fs,hp,ah,_⟩,Y,C4,ae,ln,q⟩:=h;refine⟨_,(Ab (Cn sc 2 Fb)
   (Ab (Bq ZV rfl (Hy rfl (J.z.nn J.ao) (Bn (Bc (pv 0) rfl))) (Cz (K:=K) (n:=2) rfl rfl (Ao (Et sc 3) (Ao (Et sc 4) Ct)))
    (Ab (Cn sc 5 (Fh (PN J) (hr.mono (by lk)) (pv 4) (Bn (Le K (pv 1) (pv 3)))))
   (Ae (Ax (PW.pt (Ng (Al Wv (pv 5) Fb (Ap _)) (Ju (PW.pt (Kf (Al Nj (pv 2) Fb (Ap _)) (Gv (Al Hd (pv 5) (Ea K (pv 2) Af) (Ap _))))))))
    (Ae (Cn sc 2 (Az (Bi (pv 5) (pv 3)))))
    Am))))
   (Ae (Aj (pv 2))))),?_⟩
 let lx:=C4.len;let ac:2<=sizeLine:=by rw[zCH];decide
 refine⟨_,rfl,p,CV,dx,fs,_,rfl,hp,J.aa.cl,J.ag,ah,cl,rfl,⟨_,Dp.of Y⟩,Js (K:=K) (a:=cl) (xs:=xs)
  (λi σ S=>(∃ v o3 o4 o5 o,σ=[oR p,oR ct,ZC v,o3,o4,o5]/\RV S v o/\Cf (Ay j ns) 0 ZD=Cf ((Ay j ns).drop i) i o)/\Dg H S) ⟨⟨.non,ZD,ZD,ZD,ZD,rfl,rfl,rfl⟩,λ_ _ z=>z⟩ (λi σ S _ ⟨_,e⟩=>Dp.of (e _ _ Y)) ?_ ?_⟩
 .rintro i x σ S t hi ⟨⟨v,o3,o4,o5,o,rfl,rv,F⟩,s2⟩ nt N9 M
  obtain⟨pc,c,hc,rfl,⟨dc,aa⟩⟩:=C4.get hi;let s3:=Ac nt (.tup [.int i,.ref pc]);let g:=s2.trans s3;let ic:i<j.length:=(zAk.mp hc).1;let ai:j[i]'ic=c:=(zAk.mp hc).2;let af:ns.getD i 0=ns[i]'(by lia):=by rw[zAr,zAe (by lia)];rfl
  let ag:(Ay j ns)[i]?=ZC (Ye (Kg c (ns.getD i 0))):=by
   unfold Ay;rw[l5,hc,zAe (show i<ns.length by lia),<- af]
  rw[L5 ag] at F;let U:=rv.same s3;refine (vE rfl ⟨pc,_,dc,_,rfl,g _ _ aa,Vc c,HQ c,_,rfl,vE rfl (vI rfl rfl (Dp.of (g _ _ ae)) (K7 (by lia) (by lia)) ⟨pc,c,_,rfl,⟨dc,g _ _ aa⟩,rfl,?_⟩)⟩);let ei:((i:Int)).toNat=i:=oV i;rw[ei];generalize hR:Kg c (ns.getD i 0)=rm at F;let ad:rm=.non\/∃ m:Int,rm=.int m:=by rw[<- hR];exact AH c _
  rcases ad with rfl|⟨m,rfl⟩
  .refine (vE rfl ⟨rfl,vE rfl (nF rfl (Du ?_))⟩)
   exact M _ _ ⟨(x5 v _ _ _ o (c3 rfl U F)),g⟩
  .refine (vE rfl ⟨rfl,vE rfl (nT (λz=>nomatch z) ?_)⟩)
   let done:∀ (H4:Hp) (u:ZF) Z,Dg H H4->H4 u=ZD->Cf (Ay j ns) 0 ZD=Cf ((Ay j ns).drop (i+1)) ((i:Int)+1) (ZC (m,(i:Int))) ->
     N9 [oR p,oR ct,oR u,oN i,oR pc,Z] (upd H4 u (.tup [.int m,.int i])):=λH4 u Z s4 nu e=>by
    exact M _ _ ⟨⟨.ref u,_,_,_,ZC (m,i),rfl,⟨u,rfl,Aa⟩,by rw[e];rfl⟩,s4.trans (Ac nu _)⟩
   cases o with
   |none=>
    let v0:v=.non:=rv;subst v0;refine (vE rfl ⟨rfl,vE rfl (dT rfl (Jb ?_))⟩);exact (vE rfl (vE rfl ⟨ac,λu nu=>done _ u _ g nu F⟩))
   |some mj=>
    obtain⟨n0,j0⟩:=mj;obtain⟨tv,rfl,ab⟩:=U;refine (vE rfl ⟨rfl,vE rfl (dF (λz=>nomatch z) ?_)⟩);refine (vE rfl (vE rfl (vI rfl rfl (Hx.of ab) rfl (vF rfl rfl (vE rfl (Rx (λc1=>?_) (λc1=>?_)))))))
    .have L:m<n0:=ZY c1
     let B:Cf (Ay j ns) 0 ZD=Cf ((Ay j ns).drop (i+1)) ((i:Int)+1) (if m<n0 then ZC (m,(i:Int)) else ZC (n0,j0)):=F;rw[ZJ L] at B;exact (vE rfl (vE rfl ⟨ac,λu nu=>done _ u _ g nu B⟩))
    .have L:¬ m<n0:=bL (zBs.mpr c1)
     let B:Cf (Ay j ns) 0 ZD=Cf ((Ay j ns).drop (i+1)) ((i:Int)+1) (if m<n0 then ZC (m,(i:Int)) else ZC (n0,j0)):=F;rw[ZH L] at B;exact M _ _ ⟨⟨.ref tv,_,_,_,ZC (n0,j0),rfl,⟨tv,rfl,ab⟩,by rw[B];rfl⟩,g⟩
 .rintro σ S ⟨⟨v,o3,o4,o5,o,rfl,rv,F⟩,s2⟩
  let lr:(Ay j ns).length=xs.length:=by unfold Ay;rw[mX];lia
  rw[<- lr,zBK] at F;exact (vE rfl (q v S s2 (by rw[F];exact rv)))
end
def DA {K K':zAa} {a b:ZF} {xs ys:List V} {q j:Nat} {tb:TS} {D:Lm} {σ:St} {H:Hp} (g:Nat->St->Hp->Prop) (Z:g 0 σ H) (hl:∀ i σ H,i<=min xs.length ys.length->g i σ H->Dp K H a xs/\Dp K H b ys)
  (M:∀ i x y σ H t,xs[i]?=ZC x->ys[i]?=ZC y->g i σ H->H t=ZD->∀ N:St->Hp->Prop,(∀ σ H,g (i+1) σ H->N σ H)->tb { D with nx:=N,ct:=N,bk:=D.nx } ((σ.set q (ZC x)).set j (ZC y)) (upd H t (.tup [x,y]))) (hd:∀ σ H,g (min xs.length ys.length) σ H->D.nx σ H) :
  ∃ W:Nat->Nat->St->Hp->Prop,(∃ m,W 0 m σ H)/\∀ i m σ H,W i m σ H ->
   ((JH K a b).stop i H/\D.nx σ H)\/((JH K a b).go i H/\∃ N:St->Hp->Prop,(∀ B H',N B H'->∃ F,F<m/\W (i+1) F B H')/\∀ x H',(JH K a b).yld i H x H'->Yv K' 2 (Ge (Cp q) (Ge (Cp j) K1)) x σ H' λY L=>tb { D with nx:=N,ct:=N,bk:=D.nx } Y L):=
 HA g Z hl (λi x y σ H t S U p n=>M i x y σ H t S U p n _ λ_ _ z=>z) hd
def EU {nx:St->Hp->Prop} (g:St) (e:σ=g) (h:nx g H):nx σ H:=e▸h
def UC (H:Hp) (p cl ct:ZF) (cs:List Cl) (ns:List Int):Prop:=YV CV H p cl/\(∃ xs,H cl=oL xs/\XT H xs cs)/\H ct=oL (ns.map V.int)/\ns.length=cs.length/\cs.length<=8
def Zb (m:Int) (l:List Int):Prop:=m∈l/\∀ k∈l,k<=m
def Zf (m:Int) (l:List Int):Prop:=m∈l/\∀ k∈l,m<=k
inductive HC (vs:List V) (H:Hp) (Q:VK) (E:XK):Prop
 |mk (p cl ct cs ns:_) (k:Int) (z0:vs=[.ref p,.ref ct,.int k]) (z1:UC H p cl ct cs ns) (z2:∀ r ys H',Dg H H'->H r=ZD->H' r=oL ys->YR H' ys (As k cs ns)->Q (.ref r) H')
inductive SJ (vs:List V) (H:Hp) (Q:VK) (E:XK):Prop
 |mk (p cl ct cs ns:_) (k:Int) (z0:vs=[.ref p,.ref ct,.int k]) (z1:UC H p cl ct cs ns) (z2:∀ (t:ZF) (lo hi:Int) (H':Hp),Dg H H'->H' t=oT [.int lo,.int (if hi>lo then hi else lo)]->Zb lo (0::(As k cs ns).map (·.1))->Zf hi (k::(As k cs ns).map (·.2))->Q (.ref t) H')
inductive ON (vs:List V) (H:Hp) (Q:VK) (E:XK):Prop
 |mk (p cl ct cs ns:_) (k:Int) (z0:vs=[.ref p,.ref ct,.int k]) (z1:UC H p cl ct cs ns) (z2:∀ (r:ZF) (xs:List V) (ms:List Int) (H':Hp),Dg H H'->H r=ZD->H' r=oL xs->ms.Pairwise (· < ·)->(∀ y,y∈ms↔SX (As k cs ns) k y)->ms.length<=20->YO H' xs (CRP.foldP (As k cs ns) ms (ms.length-1))->Q (.ref r) H')
section
variable {P:ZO} {w:ZX} {K:zAa} {mg:ZM->Option ZE} {base:aB} (J:Pm P w K mg base)
def AL:Jm J 3 CV "spans" ["self","counts","cents"] (HC):=JF J.z J.ku J.aa.cl ["self","counts","cents"] df λsc H Q hr h=>by
 obtain⟨p,cl,ct,cs,ns,k,rfl,⟨⟨dx,fs,e1,fc,nm⟩,⟨xs,B,cc⟩,Y,ln,l8⟩,q⟩:=h;refine⟨_,(Ae (Aj (Cj (NC:=["k","clause","cents","counts"]) (own:=["k","clause"]) (cs:=["cents","counts"]) (ix:=[2,1]) rfl (Dr.of rfl) rfl ⟨⟨rfl,.inl rfl,rfl⟩,⟨⟨rfl,.inl rfl,rfl⟩,trivial⟩⟩ (Hy rfl (J.z.nn J.ao) (Bn (Bc (pv 0) rfl))) (λ_ _ _=>(Cz (K:=K) (n:=2) rfl rfl (Ao (Ke 0) (Ao (Ke 1) Ct)))) (λ_ _ _=>Ca) (λ_ _ _=>(Fh (QB J) (hr.mono (by lk)) (pv 1) (Bi (Le K (pv 3) (pv 0)) (pv 2))))))),?_⟩;let lx:=cc.len;refine (vE rfl ⟨p,CV,dx,fs,_,rfl,e1,J.aa.cl,J.ag,fc,cl,rfl,⟨_,Dp.of B⟩,λb Z=>?_⟩);refine Uv (K:=K) (a:=cl) (xs:=xs) (λi ys g=>YR g ys (As k (cs.take i) (ns.take i))/\g b=oL ys/\Dg H g) ⟨trivial,Aa,Ac Z _⟩
  (λi ys g _ ⟨e,j,x2⟩=>⟨j,by rw[e.len,Nu (by rw[zAn,zAn,ln]),zAn];lia,Dp.of (x2 _ _ B)⟩) (by rw[zCH];lia) (λi x ys g t hi ⟨e,j,x2⟩ M=>?_) (λys g ⟨e,j,x2⟩=>?_)
 .obtain⟨o,c,hc,rfl,ho⟩:=cc.get hi
  let il:i<cs.length:=(zAk.mp hc).1;let hn:ns[i]?=ZC (ns[i]'(by lia)):=zAe (by lia);let U:=x2.trans (Ac M (.tup [.int i,.ref o]));let F:=ho.same U;obtain⟨od,aa⟩:=id F;let S:Pa (ns.map V.int) (i:Int)=ZC (.int (ns[i]'(by lia))):=Fw (by rw[zAx,hn];rfl);refine (vE rfl ⟨o,_,od,_,rfl,aa,Vc c,FJ c,_,rfl,vE rfl (vI rfl rfl (Dp.of (U _ _ Y)) S (vE rfl ⟨o,c,_,k,rfl,F,rfl,(λu H4 L hu=>⟨L _ _ (Ac M _ _ _ j),rfl,?_,Aa,λy ob z=>?_⟩)⟩))⟩)
  .rw[B4 hc hn]
   let h1:=L _ _ (Ac M (.tup [.int i,.ref o]) _ _ j);exact (((e.mono (An (Ac M _))).mono (An L)).snoc hu).mono (Cd h1 _)
  .rw[Ag (Ad z Z)]
   exact L _ _ (U y ob z)
 rw[lx,zAB,<- ln,zAB] at e;exact q b ys g x2 Z j e
def FD:Jm J 4 CV "window" ["self","counts","cents"] (SJ):=JF J.z J.ke J.aa.cl ["self","counts","cents","spans","lo","hi"] df λsc H Q hr h=>by
 obtain⟨p,cl,ct,cs,ns,k,rfl,CV,q⟩:=h;refine⟨_,(Ab (Cn sc 3 (Bt (AL J) (hr.mono (by lk)) (pv 0) (Bi (pv 1) (pv 2))))
   (Ab (Cn sc 4 (Pg (Q6 rfl) J.z J.cb (Bn (Ai Kz (Bh (Bn Af)) (Cj (NC:=["span"]) (own:=["span"]) (cs:=[]) (ix:=[]) rfl (Dr.of rfl) rfl trivial (Hc K (pv 3)) (λ_ _ _=>(Ke 0)) (λ_ _ _=>Ca) (λ_ _ _=>(Ea K (pv 0) Af)))))))
   (Ab (Cn sc 5 (Pg (X3 rfl) J.z J.f7 (Bn (Ai Kz (Bh (Bn (pv 2))) (Cj (NC:=["span"]) (own:=["span"]) (cs:=[]) (ix:=[]) rfl (Dr.of rfl) rfl trivial (Hc K (pv 3)) (λ_ _ _=>(Ke 0)) (λ_ _ _=>Ca) (λ_ _ _=>(Ea K (pv 0) Af)))))))
   (Ae (Aj (Az (Bi (pv 4) (Pg (Hn rfl) J.z J.cb (Bi (pv 4) (pv 5)))))))))),?_⟩
 refine Ia λN Y=>?_;let one:1<=sizeLine:=by rw[zCH];decide
 let ai:2<=sizeLine:=by rw[zCH];decide
 obtain⟨⟨dx,fs,e1,fc,nm⟩,_,_,ln,l8⟩:=id CV;refine (vE rfl ⟨p,dx,fs,rfl,e1,nm.1,_,rfl,vE rfl ⟨p,cl,ct,cs,ns,k,rfl,CV,λr ys H1 s1 nr M ps=>?_⟩⟩);let af:(As k cs ns).length<=8:=by rw[Nu ln];exact l8
 generalize As k cs ns=sp at ps q af;let ly:=ps.len;refine Fv Y [oR p,oR ct,oN k,oR r,ZD,ZD] rfl λN Y=>?_;refine⟨one,λF n1=>?_⟩;let j:=Ac n1 (.lst [V.int 0]);refine (vE rfl ⟨r,rfl,⟨_,Dp.of (j _ _ M)⟩,λb L=>?_⟩);let g:upd H1 F (.lst [V.int 0]) F=oL [V.int 0]:=Aa;generalize upd H1 F (.lst [V.int 0])=H2 at j g L;let ab:=j _ _ M;let ac:=ps.mono (An j);refine Bk (K:=K) (a:=r) (xs:=ys) (λi zs S=>zs=((sp.take i).map (·.1)).map V.int/\S b=oL zs/\Dg H2 S) ⟨rfl,Aa,Ac L _⟩
  (λi zs S _ ⟨e,B,x2⟩=>⟨B,by rw[e,zAc,zAc,zAn];lia,Dp.of (x2 _ _ ab)⟩) (by rw[zCH];lia) (λi x zs S hi ⟨e,B,x2⟩=>?_) (λzs S ⟨e,B,x2⟩=>?_)
 .obtain⟨t,pp,hp,rfl,ht⟩:=ac.get hi
  refine (vE rfl (vI rfl rfl (Hx.of (x2 _ _ ht)) rfl ⟨B,rfl,?_,Aa,λy o z=>?_⟩))
  .rw[Bb hp,zAq,zAq,e]
   rfl
  .rw[Ag (Ad z L)]
   exact x2 y o z
 rw[ly,zAB] at e;subst e;refine (x4 F b _ _ (c6 rfl rfl (x2 _ _ g) B (by rw[zAc,zAc,zCH];show 1+_<=_;lia) (λZ n2=>?_)));let t3:=Ac n2 (.lst ([V.int 0]++(sp.map (·.1)).map V.int));refine⟨Z,0::sp.map (·.1),rfl,Dp.of Aa,by simp,λlo aj ag=>?_⟩;let S3:=j.trans (x2.trans t3);generalize upd S Z (.lst ([V.int 0]++(sp.map (·.1)).map V.int))=H4 at S3;let aa:=S3 _ _ M;let al:=ps.mono (An S3);clear B x2 t3 j g ab ac n2 L n1;refine Fv Y [oR p,oR ct,oN k,oR r,oN lo,ZD] rfl λN Y=>?_;refine (vE rfl ⟨one,λF n1=>?_⟩);let j:=Ac n1 (.lst [V.int k]);refine (vE rfl ⟨r,rfl,⟨_,Dp.of (j _ _ aa)⟩,λb L=>?_⟩);let g:upd H4 F (.lst [V.int k]) F=oL [V.int k]:=Aa;generalize upd H4 F (.lst [V.int k])=H5 at j g L;let ah:=j _ _ aa;let ad:=al.mono (An j);refine Bk (K:=K) (a:=r) (xs:=ys) (λi zs U=>zs=((sp.take i).map (·.2)).map V.int/\U b=oL zs/\Dg H5 U) ⟨rfl,Aa,Ac L _⟩
  (λi zs U _ ⟨e,B,x2⟩=>⟨B,by rw[e,zAc,zAc,zAn];lia,Dp.of (x2 _ _ ah)⟩) (by rw[zCH];lia) (λi x zs U hi ⟨e,B,x2⟩=>?_) (λzs U ⟨e,B,x2⟩=>?_)
 .obtain⟨t,pp,hp,rfl,ht⟩:=ad.get hi
  refine (vE rfl (vI rfl rfl (Hx.of (x2 _ _ ht)) rfl ⟨B,rfl,?_,Aa,λy o z=>?_⟩))
  .rw[Bb hp,zAq,zAq,e]
   rfl
  .rw[Ag (Ad z L)]
   exact x2 y o z
 rw[ly,zAB] at e;subst e;refine⟨F,b,_,_,rfl,rfl,x2 _ _ g,B,by rw[zAc,zAc,zCH];show 1+_<=_;lia,λZ n2=>?_⟩;let t3:=Ac n2 (.lst ([V.int k]++(sp.map (·.2)).map V.int));refine⟨Z,k::sp.map (·.2),rfl,Dp.of Aa,by simp,λhi ae ak=>?_⟩;let S6:=s1.trans (S3.trans (j.trans (x2.trans t3)));generalize upd U Z (.lst ([V.int k]++(sp.map (·.2)).map V.int))=H7 at S6;subst Y;refine Gi [oR p,oR ct,oN k,oR r,oN lo,oN hi] rfl ?_;refine (vE rfl (vE rfl (vE rfl ⟨_,_,rfl,ai,λt nt=>?_⟩)));exact q t lo hi _ (S6.trans (Ac nt _)) Aa ⟨aj,ag⟩ ⟨ae,ak⟩
end
def FG (xs:List V):Kd xs (ZC 1) ZD=xs.drop 1:=by
 unfold Kd;rw[HT.sIx_none,show (ZC (1:Int))=ZC ((1:Nat):Int) from rfl,HT.sIx_nat];cases xs with
 |nil=>rfl
 |cons x xs=>
  rw[show min 1 (x::xs).length=1 by rw[zAf];lia,zCb];rw[zBa];exact zAl _
section
variable {P:ZO} {w:ZX} {K:zAa} {mg:ZM->Option ZE} {base:aB}
def LV (J:Pm P w K mg base):Jm J 4 CV "parts" ["self","counts","cents"] (ON):=JF J.z J.kz J.aa.cl ["self","counts","cents","spans","bounds","told","lo","hi","k"] df λsc H Q hr h=>by
 obtain⟨p,cl,ct,cs,ns,k,rfl,CV,q⟩:=h;refine⟨_,(Ab (Cn sc 3 (Bt (AL J) (hr.mono (by lk)) (pv 0) (Bi (pv 1) (pv 2))))
   (Ab (Cn sc 4 (Cm (D3 J) hr (Bi (pv 3) (pv 2))))
   (Ab (Cn sc 5 (Bh Cs))
   (Ab (Bq ZV rfl (KD rfl (J.z.nn J.oy) (Bi (pv 4) (Cu (Gg (K:=K) rfl) (pv 4) (Ci Af) Fc))) (Cz (K:=K) (n:=2) rfl rfl (Ao (Et sc 6) (Ao (Et sc 7) Ct)))
    (Ab (Cn sc 8 (Cm (Sa J) hr (Bi (pv 3) (pv 6))))
   (Ab (Ax (PW.pt (Ng (CP (pv 5)) (Ju (Al Cc (Ea K (Le K (pv 5) (Oo Ji Af)) Af) (pv 8) (Ap _)))))
    (Ae (Cn sc 6 (Ea K (KM ZT PySem.F.slot_list_pop PySem.F.type_list_pop MG (pv 5)) Af)))
    Am)
   (Ae (Bg (Cr (K:=K) rfl ZT aA ZZ Bw (pv 5) (Bn (Az (Ah (pv 6) (Bi (pv 7) (pv 8)))))))))))
   (Ae (Aj (pv 5))))))),?_⟩
 let three:3<=sizeLine:=by rw[zCH];decide
 obtain⟨⟨dx,fs,e1,fc,nm⟩,_,_,ln,l8⟩:=id CV;refine (vE rfl ⟨p,dx,fs,rfl,e1,nm.1,_,rfl,vE rfl ⟨p,cl,ct,cs,ns,k,rfl,CV,(λa ys H1 s1 na ha ps=>?_)⟩⟩);let lsp:(As k cs ns).length<=8:=by rw[Nu ln];exact l8
 generalize As k cs ns=sp at ps q lsp;let ly:=ps.len;refine (vE rfl (vE rfl ⟨a,ys,sp,k,rfl,ha,ps,lsp,(λl ms H2 s2 nl hl up mem l20=>?_)⟩));refine⟨zAw _,λr nr=>?_⟩;let ha2:=s2 _ _ ha;let ps2:=ps.mono (An s2);let S2:=s1.trans s2;refine Gi [oR p,oR ct,oN k,oR a,oR l,oR r,ZD,ZD,ZD] rfl ?_;let t1:=Ac nr (.lst []);refine (vE rfl (vE rfl (vE rfl (x2 l _ (c3 rfl (Dp.of (t1 _ _ hl)) (λm nm'=>?_))))));rw[FG,<- List.map_drop];let t2:=Ac nm' (.lst ((ms.drop 1).map V.int));let lrm:r≠m:=Ad Aa nm';let hr3:upd (upd H2 r (.lst [])) m (.lst ((ms.drop 1).map V.int)) r=oL []:=by rw[Ag lrm,Aa]
 let hm3:upd (upd H2 r (.lst [])) m (.lst ((ms.drop 1).map V.int)) m=oL ((ms.drop 1).map V.int):=Aa;let s3:=t1.trans t2;let nm2:H2 m=ZD:=t1.free nm';generalize upd (upd H2 r (.lst [])) m (.lst ((ms.drop 1).map V.int))=H3 at hr3 hm3 s3;let sm:∀ (H4:Hp) (o:HO),Dg H2 H4->Dg H2 (upd H4 r o):=λH4 o s4 b u z=>by rw[Ag (Ad z nr)];exact s4 b u z
 refine⟨l,m,rfl,⟨_,Dp.of (s3 _ _ hl)⟩,⟨_,Dp.of hm3⟩,DA (K:=K) (K':=K) (a:=l) (b:=m) (xs:=ms.map V.int) (ys:=(ms.drop 1).map V.int)
  (λi σ H4=>(∃ o6 o7 o8 zs,σ=[oR p,oR ct,oN k,oR a,oR l,oR r,o6,o7,o8]/\H4 r=oL zs/\YO H4 zs (CRP.foldP sp ms i))/\H4 m=oL ((ms.drop 1).map V.int)/\Dg H2 H4)
  ⟨⟨ZD,ZD,ZD,[],rfl,hr3,trivial⟩,hm3,s3⟩ (λi σ H4 _ ⟨_,e,s4⟩=>⟨Dp.of (s4 _ _ hl),Dp.of e⟩) ?_ ?_⟩
 .rintro i x y σ H4 t hx hy ⟨⟨o6,o7,o8,zs,rfl,hr4,pk⟩,hm4,s4⟩ nt N9 nx9
  rw[zAx] at hx hy;obtain⟨lo,hlo,rfl⟩:=zAQ.mp hx;obtain⟨hi,hhi,rfl⟩:=zAQ.mp hy;rw[List.getElem?_drop] at hhi;let elo:ms.getD i 0=lo:=by rw[zAr,hlo];rfl
  let ehi:ms.getD (i+1) 0=hi:=by rw[zAr,show i+1=1+i by lia,hhi];rfl
  let nx:=CRP.foldP_succ sp ms i;rw[elo,ehi] at nx;let il:i<ms.length:=(zAk.mp hlo).1;let lz:=pk.len;let lf:=CRP.foldP_len sp ms i;let u1:=Ac nt (.tup [V.int lo,.int hi]);let hr5:=u1 _ _ hr4;let hm5:=u1 _ _ hm4;let pk5:=pk.mono (An u1);let s5:=s4.trans u1;generalize upd H4 t (.tup [V.int lo,.int hi])=H5 at u1 hr5 hm5 pk5 s5;refine EU [oR p,oR ct,oN k,oR a,oR l,oR r,oN lo,oN hi,o8] rfl ?_;refine (vE rfl (vE rfl ⟨a,ys,sp,lo,rfl,(s5 _ _ ha2),(ps2.mono (An s5)),(by lia),(λH6 u2=>?_)⟩));let hr6:=u2 _ _ hr5;let hm6:=u2 _ _ hm5;let pk6:=pk5.mono (An u2);let s6:=s5.trans u2;generalize CRP.fw sp lo=kk at nx;refine Gi [oR p,oR ct,oN k,oR a,oR l,oR r,oN lo,oN hi,oN kk] rfl ?_;let put:∀ (H7:Hp) (vs:List V) (ks:List Tr) (u:ZF) (lo':Int),H7 r=oL vs->YO H7 vs ks->H7 u=ZD->H7 m=oL ((ms.drop 1).map V.int)->Dg H2 H7->CRP.foldP sp ms (i+1)=ks++[(lo',hi,kk)] ->
    N9 [oR p,oR ct,oN k,oR a,oR l,oR r,oN lo',oN hi,oN kk] (upd (upd H7 u (.tup [.int lo',.int hi,.int kk])) r (.lst (vs++[.ref u]))):=λH7 vs ks u lo' e1 e2 e3 e4 e5 e6=>by
   let su:=Ac e3 (.tup [.int lo',.int hi,.int kk]);refine nx9 _ _ ⟨(x4 _ _ _ _ (c3 rfl Aa ?_)),by rw[Ag lrm.symm];exact su _ _ e4,sm _ _ (e5.trans su)⟩;rw[e6];exact ((e2.mono (An su)).snoc Aa).mono (Cd (su _ _ e1) _)
  generalize hks:CRP.foldP sp ms i=ks at pk6 nx lz lf;rcases fQ ks with rfl|⟨kr,⟨l0,h0,k0⟩,rfl⟩
  .have zs0:zs=[]:=iW lz
   subst zs0;refine (vE rfl ⟨_,.inl ⟨[],Dp.of hr6,rfl⟩,bF rfl (Du ?_)⟩);refine (vE rfl ⟨.inl ⟨rfl,_,Dp.of hr6⟩,vE rfl (vE rfl (vE rfl ⟨three,λu nu=>?_⟩))⟩);exact (x3 r _ _ (c5 rfl rfl (Ac nu _ _ _ hr6) (by rw[zCH];decide) (put H6 [] [] u lo hr6 trivial nu hm6 s6 nx)))
  .rw[fR] at pk6 nx lz lf
   obtain⟨vs,tl,rfl,htl,pv⟩:=pk6.last;rw[CRP.stepP_snoc] at nx;rw[zAm] at lz;let lv:vs.length<=20:=by rw[zAm] at lf;let z:vs.length+1=_:=lz;rw[zAm] at z;lia
   refine (vE rfl ⟨_,.inl ⟨_,Dp.of hr6,rfl⟩,bT (by simp) ?_⟩);refine (vE rfl (vE rfl (vI rfl rfl (Dp.of hr6) (YG _ _) (vI rfl rfl (Hx.of htl) rfl (vE rfl ⟨rfl,vE rfl (Rx (λc=>?_) (λc=>?_))⟩)))))
   .have c':k0=kk:=V.int.inj (ZY c)
    rw[ZJ c'] at nx;refine (vE rfl ⟨.inl ⟨rfl,_,Dp.of hr6⟩,r,_,.ref tl,rfl,rfl,hr6,by simp,?_⟩);rw[List.dropLast_concat];let t3:Z7 H6 (upd H6 r (.lst vs)):=Cd hr6 _;let htl7:=t3 _ _ htl;let pv7:=pv.mono t3;let hr7:upd H6 r (.lst vs) r=oL vs:=Aa;let hm7:upd H6 r (.lst vs) m=oL ((ms.drop 1).map V.int):=by rw[Ag lrm.symm];exact hm6
    let s7:=sm H6 (.lst vs) s6;generalize upd H6 r (.lst vs)=H7 at t3 htl7 pv7 hr7 hm7 s7;refine (vI rfl rfl (Hx.of htl7) rfl ?_);refine Gi [oR p,oR ct,oN k,oR a,oR l,oR r,oN l0,oN hi,oN kk] rfl ?_;refine (vE rfl ⟨.inl ⟨rfl,_,Dp.of hr7⟩,vE rfl (vE rfl (vE rfl ⟨three,λu nu=>?_⟩))⟩);exact (x3 r _ _ (c5 rfl rfl (Ac nu _ _ _ hr7) (by rw[zCH];lia) (put H7 vs kr u l0 hr7 pv7 nu hm7 s7 nx)))
   .have c':¬ k0=kk:=λz=>c (ZN (by rw[z]))
    rw[ZH c'] at nx;refine (vE rfl ⟨.inl ⟨rfl,_,Dp.of hr6⟩,vE rfl (vE rfl (vE rfl ⟨three,λu nu=>?_⟩))⟩);exact (x3 r _ _ (c5 rfl rfl (Ac nu _ _ _ hr6) (by rw[zAm,zCH];show vs.length+1<_;lia) (put H6 _ _ u lo hr6 pk6 nu hm6 s6 nx)))
 .rintro σ H4 ⟨⟨o6,o7,o8,zs,rfl,hr4,pk⟩,hm4,s4⟩
  let le:min (ms.map V.int).length ((ms.drop 1).map V.int).length=ms.length-1:=by rw[zAc,zAc,zBa];lia
  rw[le] at pk;exact (vE rfl (q r zs ms H4 (S2.trans s4) (S2.free nr) hr4 up mem l20 pk))
end
abbrev Cv:=ZF×ZM×Bool
def Sw (c:Cv):V:=.ref c.1
def XU (C:ZF) (H:Hp) (cs:List Cv):Prop:=∀ c∈cs,∃ dx fs,H c.1=oI C dx fs/\fs.lookup ("name" : ZM)=ZC (.str c.2.1)/\fs.lookup ("waits" : ZM)=ZC (.bl c.2.2)
def XU.same {C:ZF} {H H':Hp} {cs:List Cv} (h:XU C H cs) (s:Dg H H'):XU C H' cs:=λc g=>by
 obtain⟨dx,fs,e,r⟩:=h c g;exact⟨dx,fs,s _ _ e,r⟩
def XU.get {C:ZF} {cs:List Cv} {i:Nat} {x:V} (h:XU C H cs) (e:(cs.map Sw)[i]?=ZC x):∃ c dx fs,cs[i]?=ZC c/\x=.ref c.1/\c∈cs/\H c.1=oI C dx fs/\fs.lookup ("name" : ZM)=ZC (.str c.2.1)/\fs.lookup ("waits" : ZM)=ZC (.bl c.2.2):=by
 rw[zAx] at e;obtain⟨c,g,rfl⟩:=zAQ.mp e;let m:=zAz g;obtain⟨dx,fs,r⟩:=h c m;exact⟨c,dx,fs,g,rfl,m,r⟩
def XU.ne {cs:List Cv} {p dx:ZF} (h:XU CV H cs) (g:H p=oI CB dx []):∀ c∈cs,c.1≠p:=λc j z=>by
 obtain⟨q,fs,e,n,_⟩:=h c j;rw[z,g] at e;injection e with e;injection e with _ _ e;subst e;cases n
def XU.kb {H H':Hp} {cs:List Cv} {p dx:ZF} (h:XU CV H cs) (q:H p=oI CB dx []) (k:KB p H H'):XU CV H' cs:=λc g=>by
 obtain⟨j,fs,e,r⟩:=h c g;exact⟨j,fs,k _ _ e (h.ne q c g),r⟩
def KG (cs:List Cv):List Cv:=cs.filter (λc => !c.2.2)++cs.filter (λc=>c.2.2)
structure HP (CB:ZF) (H:Hp) (p cl ak:ZF) (cs:List Cv):Prop where
 ob:∃ dx fs,H p=oI CB dx fs/\fs.lookup ("covers" : ZM)=ZC (.ref cl)/\fs.lookup ("asking" : ZM)=ZC (.ref ak)/\fs.lookup ("named" : ZM)=ZD
 hc:H cl=oL (cs.map Sw)
 ha:H ak=oL ((KG cs).map Sw)
inductive JU (vs:List V) (H:Hp) (Q:VK) (E:XK):Prop
 |mk (p dx a cs:_) (z0:vs=[.ref p,.ref a]) (z1:H p=oI CB dx []) (z2:H a=oL (cs.map Sw)) (z3:XU CV H cs) (z4:cs.length<=8) (z5:(cs.map (·.2.1)).Nodup) (z6:∀ cl ak H',KB p H H'->HP CB H' p cl ak cs->H cl=ZD->H ak=ZD->Q .non H')
def Tu {α:Type} {l:List α} {f:α->Bool} {i:Nat} {x:α} (h:l[i]?=ZC x):(l.take (i+1)).filter f=(l.take i).filter f++if f x=ZI then [x] else []:=by
 rw[Bb h,zBN];by_cases c:f x=ZI
 .rw[ZJ c,zBh c,zBF]
 .rw[ZH c,zBo c,zBF]
section
variable {P:ZO} {w:ZX} {K:zAa} {mg:ZM->Option ZE} {base:aB}
def RN (J:Pm P w K mg base):Jk J 1 "Book" CB ["self","covers"] (JU):=N4 J.z J.i9 J.jp ["self","covers","names","firm","waiting"] df λsc H Q hr h=>by
 obtain⟨p,dx,a,cs,rfl,hp,ha,Z,l8,nd,q⟩:=h;let an:cs.length<60:=by lia
 refine⟨_,(Ab (Ax (Al Oa (Ec (Ds (K:=K) rfl) rfl (J.z.nn J.b7) (show zCI _=ZC (.builtin "len") from rfl) (Bn (pv 1))) (Qq J.z J.gq) (Ap _))
    (Ae Bu)
    Am)
   (Ab (Ff (NC:=["cover"]) (own:=["cover"]) (cs:=[]) (ix:=[]) (j:=2) sc.nd rfl rfl rfl (Dr.of rfl) rfl trivial (Hc K (pv 1)) (λ_ _ _=>(Ke 0)) (λ_ _ _=>Ca) (λ_ _ _=>(Jz (K:=K) (pv 0) rfl)))
   (Ab (Ax (Al Hd (T4 (pv 2) rfl rfl (J.z.nn J.b7) rfl (J.z.nn J.jx)) (Ec (Ds (K:=K) rfl) rfl (J.z.nn J.b7) (show zCI _=ZC (.builtin "len") from rfl) (Bn (pv 2))) (Ap _))
    (Ae Bu)
    Am)
   (Ab (Bj (pv 0) (Dt (Ce (K:=K) rfl) rfl (J.z.nn J.ba) (show zCI _=ZC (.type "list") from rfl) (Bn (pv 1))) rfl)
   (Ab (Ff (NC:=["cover"]) (own:=["cover"]) (cs:=[]) (ix:=[]) (j:=3) sc.nd rfl rfl rfl (Dr.of rfl) rfl trivial (Hc K (pv 1)) (λ_ _ _=>(Ke 0)) (λ_ _ _=>(Gq (Cg (Bv (Jz (K:=K) (pv 0) rfl))))) (λ_ _ _=>(pv 0)))
   (Ab (Ff (NC:=["cover"]) (own:=["cover"]) (cs:=[]) (ix:=[]) (j:=4) sc.nd rfl rfl rfl (Dr.of rfl) rfl trivial (Hc K (pv 1)) (λ_ _ _=>(Ke 0)) (λ_ _ _=>(Gq (Bv (Jz (K:=K) (pv 0) rfl)))) (λ_ _ _=>(pv 0)))
   (Ae (Bj (pv 0) (Ai Kz (pv 3) (pv 4)) rfl)))))))),?_⟩
 refine Ia λN F=>?_;let one:1<=sizeLine:=by rw[zCH];decide
 let k0:KB p H H:=λ_ _ e _=>e;let lm:(cs.map Sw).length=cs.length:=zAc _;let aj:a≠p:=At ha hp (by intro z;cases z);refine (vE rfl ⟨a,_,rfl,(.inl (Dp.of ha)),(vF rfl rfl (vE rfl ?_))⟩);refine dF (by rw[lm];lia) ?_;refine Qu F λN F=>?_;refine (vE rfl ⟨a,rfl,⟨_,Dp.of ha⟩,λn nn=>?_⟩);refine Bk (K:=K) (a:=a) (xs:=cs.map Sw) (λi ys H2=>ys=((cs.take i).map (·.2.1)).map V.str/\H2 n=oL ys/\Dg H H2) ⟨rfl,Aa,Ac nn _⟩
  (λi ys H2 _ ⟨e,h1,S⟩=>⟨h1,by rw[e,zAc,zAc,zAn];lia,Dp.of (S _ _ ha)⟩) (by rw[zCH];lia) (λi x ys H2 hi ⟨e,h1,S⟩=>?_) (λys H2 ⟨e,h1,S⟩=>?_)
 .obtain⟨c,dc,fc,ec,rfl,mc,hc,n1,w1⟩:=Z.get hi
  refine (vE rfl ⟨c.1,CV,dc,fc,_,rfl,(S _ _ hc),J.aa.cl,J.am,n1,h1,rfl,?_,Aa,(λb o z=>?_)⟩)
  .rw[Bb ec,zAq,zAq,e]
   rfl
  .rw[Ag (Ad z nn)]
   exact S b o z
 rw[lm,zAB] at e;subst e;refine Fv F [oR p,oR a,oR n,ZD,ZD] rfl λN F=>?_;let af:=S _ _ hp;let ai:=S _ _ ha;let k2:KB p H H2:=k0.same S;let ap:=Z.same S;refine (vE rfl ⟨n,cs.map (·.2.1),rfl,Dp.of h1,by rw[zAc];exact an,λm m1 m2=>?_⟩);refine (vE rfl ⟨n,_,rfl,(.inl (Dp.of h1)),(vF rfl rfl (vE rfl ?_))⟩);let:=m1 nd;refine dF (by rw[zAc];lia) ?_;clear m1 m2 this;refine Qu F λN F=>?_;refine (vE rfl ⟨a,_,rfl,(.inl (Dp.of ai)),(λcl aa=>?_)⟩);let s3:=Ac aa (.lst (cs.map Sw));let U:cl≠p:=(Ad af aa).symm;refine (vE rfl ⟨p,CB,dx,[],rfl,s3 _ _ af,J.i9.cl,J.kf,by lk,?_⟩);let k3:KB p H (upd (upd H2 cl (.lst (cs.map Sw))) p (.ins CB dx (Ar "covers" (.ref cl) []))):=(k2.same s3).upd _;let e3:upd (upd H2 cl (.lst (cs.map Sw))) p (.ins CB dx (Ar "covers" (.ref cl) [])) p=oI CB dx (Ar "covers" (.ref cl) []):=Aa;let c3:upd (upd H2 cl (.lst (cs.map Sw))) p (.ins CB dx (Ar "covers" (.ref cl) [])) cl=oL (cs.map Sw):=by rw[Ag U,Aa]
 let ao:H cl=ZD:=k2.free U aa;let B:=Z.kb hp k3;let M:=k3 _ _ ha aj;generalize upd (upd H2 cl (.lst (cs.map Sw))) p (.ins CB dx (Ar "covers" (.ref cl) []))=H3 at k3 e3 c3 B M;refine Qu F λN F=>?_;refine (vE rfl ⟨a,rfl,⟨_,Dp.of M⟩,λfi ag=>?_⟩);refine Bk (K:=K) (a:=a) (xs:=cs.map Sw) (λi ys H4=>ys=((cs.take i).filter (λc => !c.2.2)).map Sw/\H4 fi=oL ys/\Dg H3 H4) ⟨rfl,Aa,Ac ag _⟩
  (λi ys H4 _ ⟨e,h1,g⟩=>⟨h1,by rw[e,zAc];exact zAD (zAO _ _) (by rw[zAn];lia),Dp.of (g _ _ M)⟩) (by rw[zCH];lia) (λi x ys H4 hi ⟨e,h1,g⟩=>?_) (λys H4 ⟨e,ah,g⟩=>?_)
 .obtain⟨c,dc,fc,ec,rfl,mc,hc,n1,w1⟩:=B.get hi
  refine (vE rfl ⟨c.1,CV,dc,fc,_,rfl,g _ _ hc,J.aa.cl,J.bx,w1,_,rfl,?_⟩);let es:=Tu (f:=λc:Cv => !c.2.2) ec;cases cw:c.2.2 with
  |true=>
   refine Du ⟨rfl,?_,h1,g⟩;rw[es,e,cw];simp
  |false=>
   refine Jb (vE rfl ⟨h1,rfl,?_,Aa,λb o z=>?_⟩)
   .rw[es,e,cw]
    simp [Sw]
   .rw[Ag (Ad z ag)]
    exact g b o z
 rw[lm,zAB] at e;subst e;refine Fv F [oR p,oR a,oR n,oR fi,ZD] rfl λN F=>?_;let ac:=g _ _ M;let ab:=B.same g;refine (vE rfl ⟨a,rfl,⟨_,Dp.of ac⟩,λwa ae=>?_⟩);refine Bk (K:=K) (a:=a) (xs:=cs.map Sw) (λi ys H5=>ys=((cs.take i).filter (λc=>c.2.2)).map Sw/\H5 wa=oL ys/\Dg H4 H5) ⟨rfl,Aa,Ac ae _⟩
  (λi ys H5 _ ⟨e,h1,L⟩=>⟨h1,by rw[e,zAc];exact zAD (zAO _ _) (by rw[zAn];lia),Dp.of (L _ _ ac)⟩) (by rw[zCH];lia) (λi x ys H5 hi ⟨e,h1,L⟩=>?_) (λys H5 ⟨e,am,L⟩=>?_)
 .obtain⟨c,dc,fc,ec,rfl,mc,hc,n1,w1⟩:=ab.get hi
  refine (vE rfl ⟨c.1,CV,dc,fc,_,rfl,L _ _ hc,J.aa.cl,J.bx,w1,_,rfl,?_⟩);let es:=Tu (f:=λc:Cv=>c.2.2) ec;cases cw:c.2.2 with
  |false=>
   refine Du ⟨rfl,?_,h1,L⟩;rw[es,e,cw];simp
  |true=>
   refine Jb (vE rfl ⟨h1,rfl,?_,Aa,λb o z=>?_⟩)
   .rw[es,e,cw]
    simp [Sw]
   .rw[Ag (Ad z ae)]
    exact L b o z
 rw[lm,zAB] at e;subst e;subst F;refine Gi [oR p,oR a,oR n,oR fi,oR wa] rfl ?_;let al:=L _ _ ah;let e5:=L _ _ (g _ _ e3);let c5:=L _ _ (g _ _ c3);let k5:=(k3.same g).same L;refine (vE rfl (vE rfl ⟨fi,wa,_,_,rfl,rfl,al,am,?_,(λak Y=>?_)⟩))
 .rw[zAc,zAc]
  let:=zAO (λc:Cv => !c.2.2) cs;let:=zAO (λc:Cv=>c.2.2) cs;rw[zCH]
  lia
 let ad:ak≠p:=(Ad e5 Y).symm;let s6:=Ac Y (.lst ((cs.filter (λc => !c.2.2)).map Sw++(cs.filter (λc=>c.2.2)).map Sw));let g3:(Ar "covers" (.ref cl) []).length<=1:=Fl _ _ _;refine (vE rfl ⟨p,CB,dx,_,rfl,(s6 _ _ e5),J.i9.cl,J.fm,(zBW g3 (by lk)),?_⟩);refine q cl ak _ ((k5.same s6).upd _) ⟨⟨dx,_,Aa,by rw[f1 (by ac_nf),f0],f0,by rw[f1 (by ac_nf),f1 (by ac_nf)];rfl⟩,?_,?_⟩ ao (k5.free ad Y)
 .rw[Ag U]
  exact s6 _ _ c5
 .rw[Ag ad,Aa]
  unfold KG;rw[zAq]
end
abbrev Ej:=List (List Ev×V)
def Pz (nm:ZM) (k:Int) (y:Ev):List Ev:=[.inr nm,.inl k,y]
structure XO (CC:ZF) (H:Hp) (p kp:ZF) (kvs:Ej):Prop where
 ob:∃ dx fs,H p=oI CC dx fs/\fs.lookup ("kept" : ZM)=ZC (.ref kp)/\fs.lookup ("have" : ZM)=ZD/\fs.lookup ("add" : ZM)=ZD
 hk:H kp=ZC (.dT kvs)
def XO.same {CC:ZF} {H H':Hp} {p g:ZF} {kvs:Ej} (h:XO CC H p g kvs) (s:Dg H H'):XO CC H' p g kvs:=by
 obtain⟨⟨dx,fs,e,r⟩,h1⟩:=h;exact⟨⟨dx,fs,s _ _ e,r⟩,s _ _ h1⟩
def XO.ne {CC:ZF} {p kp:ZF} {kvs:Ej} (h:XO CC H p kp kvs):p≠kp:=by
 obtain⟨⟨dx,fs,e,r⟩,h1⟩:=h;exact At e h1 (by intro z;cases z)
def XO.put {CC:ZF} {p g:ZF} {kvs:Ej} (h:XO CC H p g kvs) (kvs':Ej):XO CC (upd H g (.dT kvs')) p g kvs':=by
 let n:=h.ne;obtain⟨⟨dx,fs,e,r⟩,h1⟩:=h;exact⟨⟨dx,fs,by rw[Ag n];exact e,r⟩,Aa⟩
def Bo (kvs:Ej) (nm:ZM) (k:Int) (y:Ev):V:=(Dx kvs (Pz nm k y)).getD (.int 0)
inductive QW (CC:ZF) (vs:List V) (H:Hp) (Q:VK) (E:XK):Prop
 |mk (p dx:_) (z0:vs=[.ref p]) (z1:H p=oI CC dx []) (z2:∀ kp H',KB p H H'->XO CC H' p kp []->H kp=ZD->Q .non H')
inductive KC (CC:ZF) (vs:List V) (H:Hp) (Q:VK) (E:XK):Prop
 |mk (p kp kvs nm k y:_) (z0:vs=[.ref p,.str nm,.int k,kV y]) (z1:XO CC H p kp kvs) (z2:∀ H',Dg H H'->Q (Bo kvs nm k y) H')
inductive QC (CC:ZF) (vs:List V) (H:Hp) (Q:VK) (E:XK):Prop
 |mk (p kp kvs nm k y:_) (c n:Int) (z0:vs=[.ref p,.str nm,.int k,kV y,.int c]) (z1:XO CC H p kp kvs) (z2:Bo kvs nm k y=.int n) (z3:kvs.length<900) (z4:∀ H',Dg H H'->Q .non (upd H' kp (.dT (Dz kvs (Pz nm k y) (.int (n+c))))))
section
variable {P:ZO} {w:ZX} {K:zAa} {mg:ZM->Option ZE} {base:aB} (J:Pm P w K mg base)
def HW:Jk J 1 "Counts" CN ["self"] (QW CN):=N4 J.z J.bo J.jg ["self"] df λsc H Q hr h=>by
 obtain⟨p,dx,rfl,z,q⟩:=h;refine⟨_,(Ae (Bj (pv 0) Y9 rfl)),?_⟩;intro j g;let B:=Ac g (.dT []);let L:j≠p:=(Ad z g).symm;let F:KB p H H:=λ_ _ e _=>e;refine (vE rfl ⟨p,CN,dx,[],rfl,B _ _ z,J.bo.cl,J.bz,by lk,?_⟩);refine q j _ ((F.same B).upd _) ⟨⟨dx,_,Aa,f0,by rw[f1 (by ac_nf)];rfl,by rw[f1 (by ac_nf)];rfl⟩,?_⟩ g;rw[Ag L,Aa]
def JJ:Jm J 1 CN "have" ["self","name","k","key"] (KC CN):=JF J.z J.l6 J.bo.cl ["self","name","k","key"] df λsc H Q hr h=>by
 obtain⟨p,M,g,z,k,y,rfl,U,q⟩:=h;let j:=Rh hr;refine⟨_,(Ae (Aj (AF j (Bc (pv 0) rfl) (Az (Ah (pv 1) (Bi (pv 2) (pv 3)))) Af ⟨rfl,rfl,rfl,rfl⟩))),?_⟩;obtain⟨⟨dx,fs,S,Y,_,_⟩,F⟩:=U;refine (vE rfl ⟨p,CN,dx,fs,_,rfl,S,J.bo.cl,J.bz,Y,M,rfl,.inr ⟨g,.inl F⟩,vE rfl (vE rfl (vE rfl ⟨Dq (by show 3<=1000;decide),λt L=>?_⟩))⟩);let B:=Ac L (.tup [V.str z,.int k,kV y]);exact⟨_,XX.t (k:=Pz z k y) (B _ _ F) Aa,q _ B⟩
def TQ:Jm J 2 CN "add" ["self","name","k","key","cents"] (QC CN):=JF J.z J.mh J.bo.cl ["self","name","k","key","cents"] df λsc H Q hr h=>by
 obtain⟨p,F,g,j,k,y,c,n,rfl,M,Z,l9,q⟩:=h;let z:=Rh hr;refine⟨_,(Ae (Vv z (Bc (pv 0) rfl) (Az (Ah (pv 1) (Bi (pv 2) (pv 3)))) (Ai Bf (Bt (JJ J) (hr.mono (by lk)) (pv 0) (Ah (pv 1) (Bi (pv 2) (pv 3)))) (pv 4)) rfl)),?_⟩;obtain⟨⟨dx,fs,L,b1,Y,b3⟩,hk⟩:=id M;refine (vE rfl ⟨p,dx,fs,rfl,L,Y,_,rfl,vE rfl (vE rfl ⟨p,F,g,j,k,y,rfl,M,(λH1 B=>?_)⟩)⟩);rw[Z];refine (vE rfl (vF rfl rfl ?_));refine (vE rfl ⟨p,CN,dx,fs,_,rfl,B _ _ L,J.bo.cl,J.bz,b1,_,rfl,vE rfl (vE rfl ⟨Dq (by show 3<=1000;decide),λt U=>?_⟩)⟩);let S:=Ac U (.tup [V.str j,.int k,kV y]);exact⟨F,_,rfl,(YT.t (k:=Pz j k y) (S _ _ (B _ _ hk)) Aa (by rw[zCH];lia)),(q _ (B.trans S))⟩
end
structure LF where
 n:Int
 d:Int
 ev:ZM
 th:ZM
 ca:ZM
 ct:Int
def LF.vs (z:LF):List V:=[.int z.n,.int z.d,.str z.ev,.str z.th,.str z.ca,.int z.ct]
def LF.ls (z:LF):LS:=⟨z.d,z.th,z.ca,z.ct⟩
def OF {H:Hp} {l:ZF} {z:LF} (h:H l=oT z.vs):PH H l z.ls:=⟨z.ev,z.n,h⟩
structure XC where
 p:ZF
 nm:ZM
 t:Gf
 cs:List Cl
 wt:Bool
def xV (x:XC):V:=.ref x.p
def XG (H:Hp) (x:XC):Prop:=∃ dx fs cv cl xs,H x.p=oI CV dx fs/\fs.lookup ("name" : ZM)=ZC (.str x.nm)/\fs.lookup ("condition" : ZM)=ZC cv/\fs.lookup ("clauses" : ZM)=ZC (.ref cl)/\fs.lookup ("waits" : ZM)=ZC (.bl x.wt)/\YL fs /\
 XA κ H cv x.t/\H cl=oL xs/\XT H xs x.cs/\x.cs.length<=8
def XG.same {H H':Hp} {x:XC} (h:XG H x) (s:Dg H H'):XG H' x:=by
 obtain⟨dx,fs,F,cl,xs,e,U,B,S,j,q,M,L,z,g⟩:=h;exact⟨dx,fs,F,cl,xs,s _ _ e,U,B,S,j,q,XA.same s _ M,s _ _ L,z.mono (Pw s),g⟩
def Dc (y:ZM) (z:LF):Ev:=if y="event" then .inr z.ev else if y="thing" then .inr z.th else if y="year" then .inl (z.d/365) else .inl z.n
def CK (y:ZM) (z:LF):EY y z.n z.d z.ev z.th=kV (Dc y z):=by
 unfold EY Dc;by_cases j:y="event"
 .rw[ZJ j,ZJ j];rfl
 rw[ZH j,ZH j];by_cases g:y="thing"
 .rw[ZJ g,ZJ g];rfl
 rw[ZH g,ZH g];by_cases c3:y="year"
 .rw[ZJ c3,ZJ c3];rfl
 rw[ZH c3,ZH c3];rfl
def YD (kvs:Ej):Prop:=∀ k v,Dx kvs k=ZC v->∃ n:Int,v=.int n
def YD.have {kvs:Ej} (h:YD kvs) (nm:ZM) (k:Int) (y:Ev):∃ n:Int,Bo kvs nm k y=.int n:=by
 unfold Bo;cases z:Dx kvs (Pz nm k y) with
 |none=>exact⟨0,rfl⟩
 |some v=>
  obtain⟨n,rfl⟩:=h _ _ z;exact⟨n,rfl⟩
def Dd:V->Int
 |.int n=>n
 |_=>0
def Gz (kvs:Ej) (nm:ZM) (z:LF) (cs:List Cl) (i:Nat):List Int:=(zAS i).map λ(j:Nat)=>Dd (Bo kvs nm (j:Int) (Dc ((cs[j]?).getD (.any "")).way z))
def numsOf (kvs:Ej) (z:LF) (x:XC):List Int:=Gz kvs x.nm z x.cs x.cs.length
def A2 (kvs:Ej) (z:LF) (x:XC):(numsOf kvs z x).length=x.cs.length:=by unfold numsOf Gz;rw[zAc,zBb]
inductive DS (m:Nat) (vs:List V) (H:Hp) (Q:VK) (E:XK):Prop
 |mk (x l:_) (z:LF) (z0:vs=[.ref x.p,.ref l]) (z1:XG H x) (z2:Nc x.t<m) (z3:H l=oT z.vs) (z4:Q (.bl (hT x.t z.ls)) H)
inductive KI (vs:List V) (H:Hp) (Q:VK) (E:XK):Prop
 |mk (x cp kp kvs l z:_) (z0:vs=[.ref x.p,.ref cp,.ref l]) (z1:XG H x) (z2:XO CN H cp kp kvs) (z3:YD kvs) (z4:H l=oT (LF.vs z)) (z5:∀ r H',Dg H H'->H r=ZD->H' r=oL ((numsOf kvs z x).map V.int)->Q (.ref r) H')
def Kk (H:Hp) (b:ZF) (bs:List XC):Prop:=∃ dx fs ak,H b=oI CB dx fs/\fs.lookup ("asking" : ZM)=ZC (.ref ak)/\H ak=oL (bs.map xV)/\∀ x∈bs,XG H x
def Aw (z:LF) (bs:List XC):List XC:=bs.filter λx=>hT x.t z.ls
inductive FC (m:Nat) (vs:List V) (H:Hp) (Q:VK) (E:XK):Prop
 |mk (b l bs z:_) (z0:vs=[.ref b,.ref l]) (z1:Kk H b bs) (z2:(∀ x∈bs,Nc x.t<m)) (z3:bs.length<=60) (z4:H l=oT (LF.vs z)) (z5:∀ r H',Dg H H'->H r=ZD->H' r=oL ((Aw z bs).map xV)->Q (.ref r) H')
section
variable {P:ZO} {w:ZX} {K:zAa} {mg:ZM->Option ZE} {base:aB} (J:Pm P w K mg base)
def Tc (J:Pm P w K mg base) {f} {fd} (F:XS K "asks" "Cover.asks" Lw f fd) {m:Nat} (Mholds:W8 P w K mg base m (A8.Fam κ) "holds" ["self","loss"] (Df m)):XB P w K mg base Ew (m+1) f fd ["self","loss"] (DS m):=Os F ["self","loss"] df λsc H Q hr h=>by
 obtain⟨x,l,z,rfl,⟨dx,fs,cv,cl,xs,e,a1,S,a3,Z,a5,j,_⟩,B,hl,q⟩:=h;refine⟨_,(Ae (Aj (Fh Mholds (hr.mono (by omega)) (Bc (pv 0) rfl) (Bn (pv 1))))),?_⟩;obtain⟨g,L,M,rfl,U,Y,_⟩:=j.obj;exact (vE rfl (x5 x.p CV dx fs _ ⟨rfl,e,J.aa.cl,J.c9,S,g,_,L,M,rfl,U,A8.fam _ x.t,Y,_,rfl,g,x.t,l,z.ls,rfl,j,rfl,B,OF hl,q⟩))
def SI:Jm J 5 CV "asks" ["self","loss"] (DS 4):=Jw J.z J.m9 J.aa.cl bd λf fd F=>Tc J F (Mholds J 4)
def Oh:Jc J 3 "numbers_of" ["cover","counts","loss"] (KI):=Gj J.z J.pq ["cover","counts","loss"] df λsc H Q hr h=>by
 obtain⟨x,cp,kp,g,l,z,rfl,cx,ct,iv,hl,q⟩:=h;refine⟨_,(Ae (Aj (Cj (NC:=["k","clause","counts","cover","loss"]) (own:=["k","clause"]) (cs:=["counts","cover","loss"]) (ix:=[1,0,2]) rfl (Dr.of rfl) rfl ⟨⟨rfl,.inl rfl,rfl⟩,⟨⟨rfl,.inl rfl,rfl⟩,⟨⟨rfl,.inl rfl,rfl⟩,trivial⟩⟩⟩ (Hy rfl (J.z.nn J.ao) (Bn (Bc (pv 0) rfl))) (λ_ _ _=>(Cz (K:=K) (n:=2) rfl rfl (Ao (Ke 0) (Ao (Ke 1) Ct)))) (λ_ _ _=>Ca) (λ_ _ _=>(Bt (JJ J) (hr.mono (by lk)) (pv 2) (Ah (Jz (K:=K) (pv 3) rfl) (Bi (pv 0) (Fh (SF J) (hr.mono (by lk)) (pv 1) (Bn (pv 4)))))))))),?_⟩;obtain⟨dx,fs,cv,cl,xs,e,a1,a2,a3,a4,a5,a6,L,cc,l8⟩:=id cx;let lx:=cc.len;refine (vE rfl ⟨x.p,CV,dx,fs,_,rfl,e,J.aa.cl,J.ag,a3,cl,rfl,⟨_,Dp.of L⟩,λb Y=>?_⟩);refine Uv (K:=K) (a:=cl) (xs:=xs) (λi ys j=>ys=(Gz g x.nm z x.cs i).map V.int/\j b=oL ys/\Dg H j) ⟨rfl,Aa,Ac Y _⟩
  (λi ys j _ ⟨e,S,x2⟩=>⟨S,by rw[e,zAc];unfold Gz;rw[zAc,zBb];exact zAl _,Dp.of (x2 _ _ L)⟩) (by rw[zCH];lia) (λi v ys j t hi ⟨U,S,x2⟩ ht=>?_) (λys j ⟨U,S,x2⟩=>?_)
 .obtain⟨o,c,hc,rfl,ho⟩:=cc.get hi
  let F:=x2.trans (Ac ht (.tup [.int i,.ref o]));let M:=ho.same F;obtain⟨od,Z⟩:=id M;let B:=ct.same F;obtain⟨⟨dc,fc,aa,b1,b2,b3⟩,_⟩:=id B;obtain⟨n,en⟩:=iv.have x.nm (i:Int) (Dc c.way z);refine (vE rfl (x3 cp dc fc ⟨rfl,aa,b2,_,rfl,x.p,CV,dx,fs,_,rfl,F _ _ e,J.aa.cl,J.am,a1,_,rfl,vE rfl (x4 o _ od _ ⟨rfl,Z,Vc c,BN c,_,rfl,o,c,l,z.ev,z.th,z.ca,z.n,z.d,z.ct,rfl,M,rfl,F _ _ hl,cp,kp,g,x.nm,(i:Int),Dc c.way z,by rw[CK];rfl,B,λH4 s4=>?_⟩)⟩));rw[en];refine⟨s4 _ _ (Ac ht _ _ _ S),rfl,?_,Aa,λy ob w=>?_⟩
  .have em:Gz g x.nm z x.cs (i+1)=Gz g x.nm z x.cs i++[n]:=by
    unfold Gz;rw[fH,zAq];simp [hc,en,Dd]
   rw[em,zAq,U];rfl
  .rw[Ag (Ad w Y)]
   exact s4 _ _ (F y ob w)
 rw[lx] at U;subst U;exact q b j x2 Y S
def Uo:Jc J 6 "asked_of" ["book","loss"] (FC 4):=Gj J.z J.px ["book","loss"] df λsc H Q hr h=>by
 obtain⟨b,l,bs,z,rfl,⟨dx,fs,U,e,a1,F,all⟩,hm,aa,hl,q⟩:=h;refine⟨_,(Ae (Aj (Cj (NC:=["cover","loss"]) (own:=["cover"]) (cs:=["loss"]) (ix:=[1]) rfl (Dr.of rfl) rfl ⟨⟨rfl,.inl rfl,rfl⟩,trivial⟩ (Hc K (Bc (pv 0) rfl)) (λ_ _ _=>(Ke 0)) (λ_ _ _=>(Gq (Bv (Bt (SI J) (hr.mono (by lk)) (pv 0) (Bn (pv 1)))))) (λ_ _ _=>(pv 0))))),?_⟩;let lm:(bs.map xV).length=bs.length:=zAc _;refine (vE rfl ⟨b,CB,dx,fs,_,rfl,e,J.i9.cl,J.fm,a1,U,rfl,⟨_,Dp.of F⟩,λr L=>?_⟩);refine Bk (K:=K) (a:=U) (xs:=bs.map xV) (λi ys B=>ys=((bs.take i).filter λx=>hT x.t z.ls).map xV/\B r=oL ys/\Dg H B) ⟨rfl,Aa,Ac L _⟩
  (λi ys B _ ⟨j,h1,g⟩=>⟨h1,by rw[j,zAc];exact zAD (zAO _ _) (by rw[zAn];lia),Dp.of (g _ _ F)⟩) (by rw[zCH];lia) (λi v ys B hi ⟨j,h1,g⟩=>?_) (λys B ⟨j,h1,g⟩=>?_)
 .rw[zAx] at hi
  obtain⟨x,Y,rfl⟩:=zAQ.mp hi;let M:=zAz Y;let S:=(all x M).same g;obtain⟨d2,f2,_,_,_,e3,_,_,_,_,n5,_⟩:=id S;refine (vE rfl (x3 x.p d2 f2 ⟨rfl,e3,n5.1,_,rfl,x,l,z,rfl,S,hm x M,g _ _ hl,_,rfl,?_⟩));let es:(bs.take (i+1)).filter (λx=>hT x.t z.ls)=(bs.take i).filter (λx=>hT x.t z.ls)++if hT x.t z.ls=ZI then [x] else []:=by
   rw[Bb Y,zBN];by_cases c:hT x.t z.ls=ZI
   .rw[ZJ c,zBh (by exact c),zBF]
   .rw[ZH c,zBo (by exact c),zBF]
  cases Z:hT x.t z.ls with
  |false=>
   refine Du ⟨rfl,?_,h1,g⟩;rw[es,j,Z];simp
  |true=>
   refine Jb (vE rfl ⟨h1,rfl,?_,Aa,λb o w=>?_⟩)
   .rw[es,j,Z]
    simp
   .rw[Ag (Ad w L)]
    exact g b o w
 rw[lm,zAB] at j;subst j;exact q r B g L h1
end
def Q0 (k:Int) (cs:List Cl) (ns:List Int) (W:Int×Int):Prop:=∃ lo hi:Int,Zb lo (0::(As k cs ns).map (·.1))/\Zf hi (k::(As k cs ns).map (·.2))/\W=(lo,if hi>lo then hi else lo)
def Ba (cs:List Cl) (ns:List Int):Option (Int×Int):=Cf (Ay cs ns) 0 ZD
inductive NL (vs:List V) (H:Hp) (Q:VK) (E:XK):Prop
 |mk (x ct u un ns:_) (k:Int) (z0:vs=[.ref x.p,.ref ct,.int k,.ref u]) (z1:XG H x) (z2:H ct=oL (bI V.int ns)) (z3:ns.length=x.cs.length) (z4:LP H u un) (z5:un.length<=1000) (z6:∀ r W H',Dg H H'->H r=ZD->Q0 k x.cs ns W->LP H' r (CRT.payW (x.nm,W,(Ba x.cs ns).map (·.1)) un)->Q (.ref r) H')
section
variable {P:ZO} {w:ZX} {K:zAa} {mg:ZM->Option ZE} {base:aB}
def D9 (J:Pm P w K mg base):Jc J 5 "paid_runs" ["cover","numbers","cents","unpaid"] (NL):=Gj J.z J.qb ["cover","numbers","cents","unpaid","window","rest","most"] df λsc H Q hr h=>by
 obtain⟨x,B,u,un,ns,k,rfl,cx,aa,ln,lu,l9,q⟩:=h;refine⟨_,(Ab (Cn sc 4 (Bt (FD J) (hr.mono (by lk)) (pv 0) (Bi (pv 1) (pv 2))))
   (Ab (Cn sc 5 (Bt (IP J) (hr.mono (by lk)) (pv 0) (Bn (pv 1))))
   (Ab (Cn sc 6 (Hj (Al Nj (pv 5) Fb (Ap _)) Fb (Ea K (pv 5) Af)))
   (Ae (Aj (Cm (I0 J) hr (Bi (Cm (Nv J) hr (Ah (pv 3) (Bi (Ea K (pv 4) Af) (Ea K (pv 4) Af)))) (pv 6)))))))),?_⟩
 refine Ia λN F=>?_;obtain⟨dx,fs,cv,cl,xs,e,a1,a2,a3,a4,n5,a6,Z,cc,l8⟩:=id cx;let U:YV CV H x.p cl:=⟨dx,fs,e,a3,n5.2⟩;refine (vE rfl ⟨x.p,dx,fs,rfl,e,n5.2.2.1,_,rfl,vE rfl ⟨x.p,cl,B,x.cs,ns,k,rfl,⟨U,⟨xs,Z,cc⟩,aa,ln,l8⟩,(λt lo hi H1 L ht mx mn=>?_)⟩⟩);refine Fv F [oR x.p,oR B,oN k,oR u,oR t,ZD,ZD] rfl λN F=>?_;refine (vE rfl (x3 x.p dx fs ⟨rfl,L _ _ e,n5.2.2.2.2,_,rfl,x.p,cl,B,xs,x.cs,ns,rfl,U.same L,L _ _ Z,cc.mono (Pw L),L _ _ aa,ln,λv H2 s2 rv=>?_⟩));refine Fv F [oR x.p,oR B,oN k,oR u,oR t,ZC v,ZD] rfl λN F=>?_;let g:=s2 _ _ ht;let Y:=L.trans s2;let M:LP H2 u un:=LP.same Y lu;let wa:Q0 k x.cs ns (lo,if hi>lo then hi else lo):=⟨lo,hi,mx,mn,rfl⟩;let lc:=CR.cutW_len un lo (if hi>lo then hi else lo);cases ro:Cf (Ay x.cs ns) 0 ZD with
 |none=>
  rw[ro] at rv;let ab:v=.non:=rv;subst ab;refine (vE rfl ⟨rfl,vE rfl (dT rfl ?_)⟩);subst F;refine Gi [oR x.p,oR B,oN k,oR u,oR t,ZC .non,ZC .non] rfl ?_;refine (vE rfl (vE rfl (vI rfl rfl (Hx.of g) rfl (vE rfl (vI rfl rfl (Hx.of g) rfl ⟨u,un,lo,_,rfl,M,l9,(λr1 H3 S ac lp=>(vE rfl (.inr ⟨r1,_,rfl,lp,(λr H4 s4 nr z=>?_)⟩)))⟩)))));refine q r _ H4 (Y.trans (S.trans s4)) (Y.free (S.free nr)) wa ?_;unfold Ba;rw[ro];exact z
 |some nj=>
  obtain⟨n,j⟩:=nj;rw[ro] at rv;obtain⟨t2,rfl,ad⟩:=rv;refine (vE rfl ⟨rfl,vE rfl (dF (λy=>by cases y) (vE rfl (vI rfl rfl (Hx.of ad) rfl ?_)))⟩);subst F;refine Gi [oR x.p,oR B,oN k,oR u,oR t,oR t2,oN n] rfl ?_;refine (vE rfl (vE rfl (vI rfl rfl (Hx.of g) rfl (vE rfl (vI rfl rfl (Hx.of g) rfl ⟨u,un,lo,_,rfl,M,l9,(λr1 H3 S ac lp=>(vE rfl (.inl ⟨r1,_,n,rfl,lp,(by omega),(λr H4 s4 nr z=>?_)⟩)))⟩)))));refine q r _ H4 (Y.trans (S.trans s4)) (Y.free (S.free nr)) wa ?_;unfold Ba;rw[ro];exact z
end
abbrev Eu:=CRT.Sx ZM
def B0 (s:Eu):List V:=[.int s.1,.int s.2.1,.str s.2.2.1,.int s.2.2.2]
def XI (H:Hp):List V->List Eu->Prop
 |[],[]=>True
 |x::xs,p::ps=>(∃ t,x=.ref t/\H t=oT (B0 p))/\XI H xs ps
 |_,_=>False
theorem XI.len:∀ {xs} {ps},XI H xs ps->xs.length=ps.length
 |[],[],_=>rfl
 |[],_::_,h=>h.elim
 |_::_,[],h=>h.elim
 |x::xs,p::ps,h=>by rw[zAf,zAf,XI.len h.2]
theorem XI.mono {H H':Hp} (s:Z7 H H'):∀ {xs} {ps},XI H xs ps->XI H' xs ps
 |[],[],_=>trivial
 |[],_::_,h=>h.elim
 |_::_,[],h=>h.elim
 |x::xs,p::ps,⟨⟨t,e,h⟩,r⟩=>⟨⟨t,e,s _ _ h⟩,XI.mono s r⟩
theorem XI.app:∀ {xs} {ps} {ys} {qs},XI H xs ps->XI H ys qs->XI H (xs++ys) (ps++qs)
 |[],[],_,_,_,h=>h
 |[],_::_,_,_,r,_=>r.elim
 |_::_,[],_,_,r,_=>r.elim
 |x::xs,p::ps,_,_,⟨z,r⟩,h=>⟨z,XI.app r h⟩
def XI.one {t:ZF} {p:Eu} (h:H t=oT (B0 p)):XI H [.ref t] [p]:=⟨⟨t,rfl,h⟩,trivial⟩
theorem XI.get:∀ {xs} {ps} {i:Nat} {x},XI H xs ps->xs[i]?=ZC x->∃ t p,ps[i]?=ZC p/\x=.ref t/\H t=oT (B0 p)
 |[],[],_,_,_,e=>by simp at e
 |[],_::_,_,_,h,_=>h.elim
 |_::_,[],_,_,h,_=>h.elim
 |x::xs,p::ps,0,y,⟨⟨t,e,h⟩,r⟩,q=>by
  simp at q;subst q;exact (x2 t p (c3 rfl e h))
 |x::xs,p::ps,i+1,y,⟨_,r⟩,q=>by
  obtain⟨t,j,h1,g⟩:=XI.get (i:=i) r (by simpa using q);exact⟨t,j,by simpa using h1,g⟩
def Zn {nm:ZM} {k:Int} {ps:List CR.Rn} {i:Nat} {p:CR.Rn} (h:ps[i]?=ZC p):CRT.tag nm k (ps.take (i+1))=CRT.tag nm k (ps.take i)++[(p.1,p.2,nm,k)]:=by
 unfold CRT.tag;rw[Bb h,zAq];rfl
def Wr {b n k:Int} (g:0<=k):0<=Nq b n k/\Nq b n k<=k:=by
 unfold Nq CR.minI CR.maxI
 repeat' split
 all_goals lia
def GT {k:Int} (g:0<=k) (c:Cl) (n:Int):(0<=Y3 c n k/\Y3 c n k<=k)/\0<=F0 c n k/\F0 c n k<=k:=by
 cases c with
 |own y d=>exact⟨Wr g,g,aD _⟩
 |lay y a b=>exact⟨Wr g,Wr g⟩
 |lim y m=>exact⟨⟨aD _,g⟩,g,aD _⟩
 |any y=>exact⟨⟨aD _,g⟩,g,aD _⟩
theorem Xx {k:Int} (k0:0<=k):∀ (cs:List Cl) (ns:List Int),∀ p∈As k cs ns,(0<=p.1/\p.1<=k)/\0<=p.2/\p.2<=k
 |[],_,p,h=>by unfold As at h;simp at h
 |_::_,[],p,h=>by unfold As at h;simp at h
 |c::cs,n::ns,p,h=>by
  unfold As at h;rw[zBL] at h;rcases zAj.mp h with z|z
  .rw[z];exact GT k0 c n
  .exact Xx k0 cs ns p z
def Z9 {k:Int} (M:0<=k) {sp:List (Int×Int)} (bd:∀ p∈sp,(0<=p.1/\p.1<=k)/\0<=p.2/\p.2<=k) {ms:List Int} (up:ms.Pairwise (· < ·)) (mem:∀ y,y∈ms↔SX sp k y):CRP.Ch (CRP.fw sp) 0 ZD (CRP.foldP sp ms (ms.length-1)) k:=by
 let F:∀ y∈ms,∃ j,j<ms.length/\ms.getD j 0=y:=λy hy=>by
  obtain⟨j,B,e⟩:=zAG hy;exact⟨j,B,by rw[zAr,zAe B];exact e⟩
 let q:∀ j,j<ms.length->0<=ms.getD j 0/\ms.getD j 0<=k:=λj B=>by
  let m:ms.getD j 0∈ms:=by
   rw[zAr,zAe B];exact zBj B
  rcases (mem _).mp m with z|z|⟨p,g,z|z⟩
  .rw[z];exact⟨aD _,M⟩
  .rw[z];exact⟨M,aD _⟩
  .rw[z];exact (bd p g).1
  .rw[z];exact (bd p g).2
 obtain⟨j0,h0,S⟩:=F 0 ((mem 0).mpr (.inl rfl));obtain⟨L,hk,Z⟩:=F k ((mem k).mpr (.inr (.inl rfl)));let Y:ms.getD 0 0=0:=by
  rcases oC j0 with z|z
  .rw[z] at S;exact S
  .have:=CRP.get_lt up z h0
   let:=q 0 (by lia)
   lia
 let U:ms.getD (ms.length-1) 0=k:=by
  by_cases z:L=ms.length-1
  .rw[<- z];exact Z
  .have:=CRP.get_lt up (show L<ms.length-1 by lia) (by lia)
   let:=q (ms.length-1) (by lia)
   lia
 let c:=CRP.fold_ch up (sp:=sp) (λp g=>⟨(mem _).mpr (.inr (.inr ⟨p,g,.inl rfl⟩)),(mem _).mpr (.inr (.inr ⟨p,g,.inr rfl⟩))⟩) (ms.length-1) (by lia) Y;rw[U] at c;exact c
def Nn (ro:Option (Int×Int)) (k:Int):Int:=match ro with
 |none=>k
 |some (_,j)=>if k = -1 then j else k
def C8 {nm:ZM} {g:Int->Int} {un:List CR.Rn} {ps:List CRP.Tr3} {i:Nat} {p:CRP.Tr3} (h:ps[i]?=ZC p):CRT.borneS nm g (ps.take (i+1)) un=CRT.borneS nm g (ps.take i) un++CRT.tag nm (g p.2.2) (CR.cutW un p.1 p.2.1):=by
 unfold CRT.borneS;rw[Bb h,zAq,nA];simp
def Y7 {te} {i:Nat} {j} {D} {σ} {H} (v:V) (h:∀ g:VK,g v H->te σ H g) (k:j D (σ.set i (ZC v)) H):BZ (Z3 te (Cp i)) j D σ H:=h _ k
inductive EZ (vs:List V) (H:Hp) (Q:VK) (E:XK):Prop
 |mk (x ct u un ns:_) (k:Int) (z0:vs=[.ref x.p,.ref ct,.int k,.ref u]) (z1:XG H x) (z2:H ct=oL (bI V.int ns)) (z3:ns.length=x.cs.length) (z4:LP H u un) (z5:un.length<=60) (z6:0<=k) (z7:∀ r ys parts H',Dg H H'->H r=ZD->H' r=oL ys->CRP.Ch (CRP.fw (As k x.cs ns)) 0 ZD parts k->parts.length<=20->XI H' ys (CRT.borneS x.nm (Nn (Ba x.cs ns)) parts un)->ys.length<=1200->Q (.ref r) H')
section
variable {P:ZO} {w:ZX} {K:zAa} {mg:ZM->Option ZE} {base:aB}
def Su (J:Pm P w K mg base):Jc J 5 "borne_strips" ["cover","numbers","cents","unpaid"] (EZ):=Gj J.z J.qc ["cover","numbers","cents","unpaid","rest","strips","lo","hi","k","clause"] df λsc H Q hr h=>by
 obtain⟨x,ct,u,un,ns,k,rfl,cx,hct,ln,lu,l60,k0,q⟩:=h;refine⟨_,(Ab (Cn sc 4 (Bt (IP J) (hr.mono (by lk)) (pv 0) (Bn (pv 1))))
   (Ab (Cn sc 5 (Bh Cs))
   (Ab (Bq ZV rfl (Hc K (Bt (LV J) (hr.mono (by lk)) (pv 0) (Bi (pv 1) (pv 2)))) (Cz (K:=K) (n:=3) rfl rfl (Ao (Et sc 6) (Ao (Et sc 7) (Ao (Et sc 8) Ct))))
    (Ab (Nf (i:=9) sc.nd rfl (Or.inr rfl) (Hj (PW.pt (Ng (Al Cc (pv 8) (Oo Ji Af) (Ap _)) (Ju (Al Wv (pv 4) Fb (Ap _))))) (Ea K (pv 4) Af) (pv 8)))
   (Ae (Bg (Cr (K:=K) rfl ZT bG bE Hh (pv 5) (Bn (Cj (NC:=["run","clause","cover"]) (own:=["run"]) (cs:=["clause","cover"]) (ix:=[9,0]) rfl (Dr.of rfl) rfl ⟨⟨rfl,.inl rfl,rfl⟩,⟨⟨rfl,.inl rfl,rfl⟩,trivial⟩⟩ (Hc K (Cm (Nv J) hr (Ah (pv 3) (Bi (pv 6) (pv 7))))) (λ_ _ _=>(Ke 0)) (λ_ _ _=>Ca) (λ_ _ _=>(Az (Ah (Ea K (pv 0) Af) (Ah (Ea K (pv 0) Af) (Bi (Jz (K:=K) (pv 2) rfl) (pv 1)))))))))))))
   (Ae (Aj (pv 5)))))),?_⟩
 refine Ia λN eN=>?_;obtain⟨dx,fs,cv,cl,xs,e,a1,a2,a3,a4,n5,a6,hcl,cc,l8⟩:=id cx;let cva:YV CV H x.p cl:=⟨dx,fs,e,a3,n5.2⟩;refine (vE rfl (x3 x.p dx fs ⟨rfl,e,n5.2.2.2.2,_,rfl,x.p,cl,ct,xs,x.cs,ns,rfl,cva,hcl,cc,hct,ln,λv H1 s1 rv=>?_⟩));refine Fv eN [oR x.p,oR ct,oN k,oR u,ZC v,ZD,ZD,ZD,ZD,ZD] rfl λN eN=>?_;refine⟨zAw _,λst nst=>?_⟩;let s2:=s1.trans (Ac nst (.lst []));let rv2:=rv.same (Ac nst (.lst []));let hst:upd H1 st (.lst []) st=oL []:=Aa;let fst:=s1.free nst;generalize upd H1 st (.lst [])=H2 at s2 rv2 hst;refine Fv eN [oR x.p,oR ct,oN k,oR u,ZC v,oR st,ZD,ZD,ZD,ZD] rfl λN eN=>?_;refine (vE rfl ⟨x.p,dx,fs,rfl,s2 _ _ e,n5.2.2.2.1,_,rfl,vE rfl ⟨x.p,cl,ct,x.cs,ns,k,rfl,⟨cva.same s2,⟨xs,s2 _ _ hcl,cc.mono (Pw s2)⟩,s2 _ _ hct,ln,l8⟩,(λpl pxs ms H3 s3 npl hpl up mem l20 tr=>?_)⟩⟩);let ch:=Z9 k0 (Xx k0 x.cs ns) up mem;let lpt:(CRP.foldP (As k x.cs ns) ms (ms.length-1)).length<=20:=zAD (CRP.foldP_len _ _ _) (by lia);generalize CRP.foldP (As k x.cs ns) ms (ms.length-1)=parts at tr ch lpt;let lpx:=tr.len;let S3:=s2.trans s3;let rv3:=rv2.same s3;let hst3:=s3 _ _ hst;let npst:pl≠st:=(Ad hst npl).symm;refine⟨pl,rfl,⟨_,Dp.of hpl⟩,?_⟩;refine Bx (K:=K) (a:=pl) (xs:=pxs) (λi σ H4=>(∃ o6 o7 o8 o9,σ=[oR x.p,oR ct,oN k,oR u,ZC v,oR st,o6,o7,o8,o9])/\(∃ ys,H4 st=oL ys/\XI H4 ys (CRT.borneS x.nm (Nn (Ba x.cs ns)) (parts.take i) un)/\ys.length<=60*i)/\(∀ b o,H3 b=ZC o->b≠st->H4 b=ZC o))
  ⟨⟨ZD,ZD,ZD,ZD,rfl⟩,⟨[],hst3,trivial,zAl _⟩,λb o z _=>z⟩ (λi σ H4 _ hh=>Dp.of (hh.2.2 _ _ hpl npst)) ?_ ?_
 .rintro i y σ H4 hi ⟨⟨o6,o7,o8,o9,rfl⟩,⟨ys,h4,sy,ly⟩,kp⟩ N9 nx9
  obtain⟨t,p,hp,rfl,ht⟩:=tr.get hi;let il:i<parts.length:=(zAk.mp hp).1;let tst:∀ {b:ZF} {zs:List V},H3 b=oT zs->H4 b=oT zs:=λz=>kp _ _ z (At z hst3 (by intro y;cases y));refine (x2 t _ (c4 rfl (Hx.of (tst ht)) rfl (vC rfl (vC rfl (vC rfl (⟨rfl,?_⟩))))));refine Y7 (.int (Nn (Ba x.cs ns) p.2.2)) (λQ' kq=>?_) ?_
  .by_cases c:p.2.2 = -1
   .refine (vE rfl (vE rfl ⟨rfl,vE rfl (dT (by rw[c]) ?_)⟩))
    cases ro:Cf (Ay x.cs ns) 0 ZD with
    |none=>
     rw[ro] at rv3;let rv':v=.non:=rv3;subst rv';refine (vE rfl ⟨rfl,vE rfl (nF rfl (vE rfl ?_))⟩);unfold Ba at kq;rw[ro] at kq;exact kq
    |some nj=>
     obtain⟨n,j⟩:=nj;rw[ro] at rv3;obtain⟨t2,rfl,ht3⟩:=rv3;refine (vE rfl ⟨rfl,vE rfl (nT (λy=>by cases y) (vE rfl (vI rfl rfl (Hx.of (tst ht3)) rfl ?_)))⟩);unfold Ba Nn at kq;rw[ro] at kq
     dsimp only at kq
     rw[ZJ c] at kq;exact kq
   .refine (vE rfl (vE rfl ⟨rfl,vE rfl (dF (λy=>c (V.int.inj y)) (vE rfl ?_))⟩))
    let eg:Nn (Ba x.cs ns) p.2.2=p.2.2:=by
     unfold Nn
     split
     .rfl
     .rw[ZH c]
    rw[eg] at kq;exact kq
  refine EU [oR x.p,oR ct,oN k,oR u,ZC v,oR st,oN p.1,oN p.2.1,oN p.2.2,oN (Nn (Ba x.cs ns) p.2.2)] rfl ?_;generalize Nn (Ba x.cs ns)=g at sy nx9 ⊢;obtain⟨us,hu0,pu0⟩:=id lu;let lu4:LP H4 u un:=⟨us,kp _ _ (S3 _ _ hu0) (Ad hu0 fst),(pu0.mono (An S3)).mono λb ws y=>tst y⟩;let e4:=kp _ _ (S3 _ _ e) (Ad e fst);refine (vE rfl ⟨.inl ⟨rfl,_,Dp.of h4⟩,vE rfl (vE rfl (vE rfl ⟨u,un,p.1,p.2.1,rfl,lu4,(by lia),(λr1 H5 s5 nr1 lp=>?_)⟩))⟩);obtain⟨rs,hr1,pr⟩:=id lp;let lr:=pr.len;let lc:=CR.cutW_len un p.1 p.2.1;refine⟨r1,rfl,⟨_,Dp.of hr1⟩,λc1 nc1=>?_⟩;refine Bk (K:=K) (a:=r1) (xs:=rs) (λj zs H6=>XI H6 zs (CRT.tag x.nm (g p.2.2) ((CR.cutW un p.1 p.2.1).take j))/\H6 c1=oL zs/\Dg H5 H6) ⟨trivial,Aa,Ac nc1 _⟩
   (λj zs H6 _ ⟨e6,x1,x2⟩=>⟨x1,by rw[e6.len];unfold CRT.tag;rw[zAc,zAn];lia,Dp.of (x2 _ _ hr1)⟩) (by rw[zCH];lia) (λj w zs H6 hj ⟨e6,x1,x2⟩=>?_) (λzs H6 ⟨e6,x1,x2⟩=>?_)
  .obtain⟨t',p',hp',rfl,ht'⟩:=pr.get hj
   refine (vE rfl (vI rfl rfl (Hx.of (x2 _ _ ht')) rfl (vE rfl (vI rfl rfl (Hx.of (x2 _ _ ht')) rfl (vE rfl (x5 x.p CV dx fs _ ⟨rfl,x2 _ _ (s5 _ _ e4),J.aa.cl,J.am,a1,_,rfl,Dq (by show 4<=1000;decide),λv1 nv1=>?_⟩))))));let s7:=Ac nv1 (.tup [.int p'.1,.int p'.2,.str x.nm,.int (g p.2.2)]);refine⟨s7 _ _ x1,rfl,?_,Aa,λb o z=>?_⟩
   .rw[Zn hp']
    exact ((e6.mono (An s7)).app (XI.one (p:=(p'.1,p'.2,x.nm,g p.2.2)) Aa)).mono (Cd (s7 _ _ x1) _)
   .rw[Ag (Ad z nc1)]
    exact s7 _ _ (x2 b o z)
  rw[lr,zAB] at e6;let s6:=s5.trans x2;let h6:=s6 _ _ h4;let lz:=e6.len;let lt:(CRT.tag x.nm (g p.2.2) (CR.cutW un p.1 p.2.1)).length=(CR.cutW un p.1 p.2.1).length:=by unfold CRT.tag;rw[zAc]
  refine (x4 st c1 ys zs (c6 rfl rfl h6 x1 (by rw[zCH];lia) ?_));refine nx9 _ _ ⟨⟨_,_,_,_,rfl⟩,⟨_,Aa,?_,by rw[zAm];lia⟩,λb o z nb=>?_⟩
  .rw[C8 hp]
   exact ((sy.mono (An s6)).app e6).mono (Cd h6 _)
  .rw[Ag nb]
   exact s6 _ _ (kp b o z nb)
 .rintro σ H4 ⟨⟨o6,o7,o8,o9,rfl⟩,⟨ys,h4,sy,ly⟩,kp⟩
  rw[lpx,zAB] at sy;subst eN;refine (vE rfl (q st ys parts H4 (λb o z=>kp b o (S3 _ _ z) (Ad z fst)) fst h4 ch lpt sy (by lia)))
end
theorem Ga:∀ {B} {k:Int} {o} {n j:Int},Cf B k o=ZC (n,j)->o=ZC (n,j)\/∃ i:Nat,B[i]?=ZC (ZC n)/\j=k+i
 |[],k,o,n,j,h=>.inl h
 |none::r,k,o,n,j,h=>by
  unfold Cf at h;rcases Ga h with z|⟨i,g,q⟩
  .exact .inl z
  .exact .inr ⟨i+1,by simpa using g,by lia⟩
 |some m::r,k,ZD,n,j,h=>by
  unfold Cf at h;rcases Ga h with z|⟨i,g,q⟩
  .cases z
   exact .inr ⟨0,rfl,by simp⟩
  .exact .inr ⟨i+1,by simpa using g,by lia⟩
 |some m::r,k,ZC (L,F),n,j,h=>by
  unfold Cf at h;rcases Ga h with z|⟨i,g,q⟩
  .split at z
   .cases z
    exact .inr ⟨0,rfl,by simp⟩
   .exact .inl z
  .exact .inr ⟨i+1,by simpa using g,by lia⟩
theorem Ul:∀ {cs} {ns:List Int} {i:Nat} {n:Int} (k:Int),(Ay cs ns)[i]?=ZC (ZC n)->(As k cs ns)[i]?=ZC (0,k)
 |[],_,i,n,k,h=>by unfold Ay at h;simp at h
 |_::_,[],i,n,k,h=>by unfold Ay at h;simp at h
 |c::cs,m::ns,0,n,k,h=>by
  unfold Ay at h;unfold As;rw[zBL] at h ⊢;simp at h;cases c with
  |lim y a=>rfl
  |own y d=>cases h
  |lay y a b=>cases h
  |any y=>cases h
 |c::cs,m::ns,i+1,n,k,h=>by
  unfold Ay at h;unfold As;rw[zBL] at h ⊢;simp only [zBI] at h ⊢;exact Ul (cs:=cs) (ns:=ns) k h
theorem E1:∀ {sp} {k c:Int},CRP.fwFrom sp k c = -1\/∃ i:Nat,∃ q,sp[i]?=ZC q/\CRP.fwFrom sp k c=k+i/\(c<q.1\/q.2<=c)
 |[],k,c=>.inl rfl
 |(a,b)::r,k,c=>by
  unfold CRP.fwFrom;by_cases z:c<a\/b<=c
  .rw[ZJ z]
   exact .inr (x2 0 (a,b) (c3 rfl (by simp) z))
  .rw[ZH z]
   rcases E1 (sp:=r) (k:=k+1) (c:=c) with y|⟨i,q,g,j,B⟩
   .exact .inl y
   .exact .inr ⟨i+1,q,by simpa using g,by rw[j];lia,B⟩
theorem IL:∀ {sp} {k c:Int},0<=k->CRP.fwFrom sp k c = -1->∀ q∈sp,q.1<=c/\c<q.2
 |[],_,_,_,_,q,h=>nomatch h
 |(a,b)::r,k,c,g,h,q,hq=>by
  unfold CRP.fwFrom at h;by_cases z:c<a\/b<=c
  .rw[ZJ z] at h
   lia
  .rw[ZH z] at h
   rcases zAj.mp hq with y|y
   .rw[y]
    exact⟨by show a<=c;lia,by show c<b;lia⟩
   .exact IL (by lia) h q y
def AV {sp:List (Int×Int)} {k:Int} (ch:CRP.Ch (CRP.fw sp) 0 ZD parts k) {p:CRP.Tr3} (j:p∈parts):∃ c,0<=c/\c<k/\CRP.fw sp c=p.2.2:=by
 obtain⟨i,hi,e⟩:=zAG j;let g:=CRP.Ch.get (i:=i) (p:=p) ch (by rw[zAe hi,e]);exact⟨p.1,g.2.2.2.1,by let:=g.1;let:=g.2.2.2.2;omega,g.2.1 p.1 (aD _) g.1⟩
def Vh {cs:List Cl} {ns:List Int} {k n j:Int} (F:Ba cs ns=ZC (n,j)) (ch:CRP.Ch (CRP.fw (As k cs ns)) 0 ZD g k):0<=j/\∀ p∈g,p.2.2≠j:=by
 unfold Ba at F;rcases Ga F with z|⟨i,S,z2⟩
 .cases z
 refine⟨by lia,λp M e=>?_⟩;obtain⟨c,Z,ck,U⟩:=AV ch M;let sp:=Ul k S;unfold CRP.fw at U;rcases E1 (sp:=As k cs ns) (k:=0) (c:=c) with y|⟨Y,q,B,y2,L⟩
 .lia
 .have:Y=i:=by lia
  subst this;rw[sp] at B;cases B
  dsimp only at L
  lia
def IF {cs:List Cl} {ns:List Int} {k:Int} (ch:CRP.Ch (CRP.fw (As k cs ns)) 0 ZD g k):∀ p∈g,∀ q∈g,Nn (Ba cs ns) p.2.2=Nn (Ba cs ns) q.2.2->p.2.2=q.2.2:=by
 intro p U q hq e;cases F:Ba cs ns with
 |none=>
  rw[F] at e;exact e
 |some S=>
  obtain⟨n,j⟩:=S;obtain⟨j0,M⟩:=Vh F ch;rw[F] at e;let z:(if p.2.2 = -1 then j else p.2.2)=if q.2.2 = -1 then j else q.2.2:=e;let Z:=M p U;let Y:=M q hq;by_cases L:p.2.2 = -1
  .by_cases B:q.2.2 = -1
   .lia
   .rw[ZJ L,ZH B] at z
    exact ZR z.symm Y
  .by_cases B:q.2.2 = -1
   .rw[ZH L,ZJ B] at z
    exact ZR z Z
   .rw[ZH L,ZH B] at z
    exact z
def HJ (kvs:Ej) (z:LF) (x:XC) (a:CRT.Av ZM):Prop:=∃ W,Q0 z.ct x.cs (numsOf kvs z x) W/\a=(x.nm,W,(Ba x.cs (numsOf kvs z x)).map (·.1))
def XW (kvs:Ej) (z:LF):List XC->List (CRT.Av ZM)->Prop
 |[],[]=>True
 |x::xs,a::as=>HJ kvs z x a/\XW kvs z xs as
 |_,_=>False
theorem XW.names {kvs:Ej} {z:LF}:∀ {xs} {as},XW kvs z xs as->as.map (·.1)=xs.map (·.nm)
 |[],[],_=>rfl
 |[],_::_,h=>h.elim
 |_::_,[],h=>h.elim
 |x::xs,a::as,⟨⟨W,_,e⟩,r⟩=>by rw[zAp,zAp,XW.names r,e]
theorem XW.snoc {kvs:Ej} {z:LF}:∀ {xs} {as} {x} {a},XW kvs z xs as->HJ kvs z x a->XW kvs z (xs++[x]) (as++[a])
 |[],[],_,_,_,h=>⟨h,trivial⟩
 |[],_::_,_,_,r,_=>r.elim
 |_::_,[],_,_,r,_=>r.elim
 |x::xs,a::as,_,_,⟨h,r⟩,g=>⟨h,XW.snoc r g⟩
def XW.len {kvs:Ej} {z:LF} {xs:List XC} {as:List (CRT.Av ZM)} (h:XW kvs z xs as):as.length=xs.length:=by
 let:=aC bS h.names
 rwa [zAc,zAc] at this
def D5 {kvs:Ej} {z:LF} {x:XC} {xs:List XC} {as:List (CRT.Av ZM)} (av:XW kvs z (x::xs) as) (c0:0<z.ct) (ch:CRP.Ch (CRP.fw (As z.ct x.cs (numsOf kvs z x))) 0 ZD B z.ct) :
  ∀ p∈B,Nn (Ba x.cs (numsOf kvs z x)) p.2.2 = -1->∀ n,p.1<=n->n<p.2.1->CR.inR (CRT.leftS as [(0,z.ct)]) n=ZK:=by
 intro p hp L n n1 n2
 match as,av with
 |a::as,⟨⟨W,hw,ea⟩,r⟩=>
  obtain⟨i,hi,e⟩:=zAG hp;let g:=CRP.Ch.get (i:=i) (p:=p) ch (by rw[zAe hi,e]);let fn:=g.2.1 n n1 n2;let b0:=g.2.2.2.1;let b1:=g.2.2.2.2;cases ro:Ba x.cs (numsOf kvs z x) with
  |some nj=>
   obtain⟨m,j⟩:=nj;obtain⟨j0,no⟩:=Vh ro ch;rw[ro] at L;let U:(if p.2.2 = -1 then j else p.2.2) = -1:=L
   split at U
   .omega
   .contradiction
  |none=>
   rw[ro] at L ea;let k1:p.2.2 = -1:=L;rw[k1] at fn;let F:=IL (aD 0) fn;obtain⟨lo,hi',mx,mn,eW⟩:=hw;let l1:lo<=n:=by
    rcases zAj.mp mx.1 with y|y
    .omega
    .obtain⟨q,hq,Z⟩:=zAv.mp y
     let:=F q hq;let S:q.1=lo:=Z;omega
   let l2:n<hi':=by
    rcases zAj.mp mn.1 with y|y
    .omega
    .obtain⟨q,hq,Z⟩:=zAv.mp y
     let:=F q hq;let S:q.2=hi':=Z;omega
   cases zl:CR.inR (CRT.leftS (a::as) [(0,z.ct)]) n with
   |false=>rfl
   |true=>
    exfalso;let f1:=CRT.frm_one c0;let M:CR.inR (CRT.leftS as (CR.outW [(0,z.ct)] (CRT.payW a [(0,z.ct)]))) n=ZI:=zl;let:=CRT.leftS_sub (CR.outW_frm f1 (CRT.payW_frm f1)) M;rw[CR.outW_in (CRT.payW_frm f1),zAo,zBl] at this;let Y:CR.inR (CRT.payW a [(0,z.ct)]) n=ZI:=by
     rw[ea];show CR.inR (CR.cutW [(0,z.ct)] W.1 W.2) n=ZI;rw[CR.cutW_in,zAo,zAo,ZL,ZL,eW];refine⟨CRT.in_one.mpr ⟨by omega,by omega⟩,l1,?_⟩;show n<if hi'>lo then hi' else lo
     split <;> omega
    rw[Y] at this;cases this.2
def Bs (kvs:Ej) (z:LF) (as:List XC) (S:List Eu):Prop:=match as with
 |[]=>S=[((0:Int),z.ct,("" : ZM),(0:Int))]
 |x::_=>∃ avs parts,XW kvs z as avs/\CRP.Ch (CRP.fw (As z.ct x.cs (numsOf kvs z x))) 0 ZD parts z.ct/\S.Perm (CRT.allS avs x.nm (Nn (Ba x.cs (numsOf kvs z x))) parts z.ct)/\S.Pairwise (λs t=>s.1<t.1)
set_option tactic.hygienic true in
def Iv {kvs:Ej} {z:LF} {as:List XC} {S:List Eu} (h:Bs kvs z as S) (M:(as.map (·.nm)).Nodup) (g:0<z.ct):CRT.FormS 0 ZD S z.ct:=by
 unfold Bs at h
 split at h
 .rw[h]
  exact⟨rfl,g,(λy=>by cases y),rfl⟩
 .rename_i x _
  obtain⟨q,B,L,j,F,U⟩:=h;let sp:=CRT.all_sep (cs:=q) g (by rw[L.names];exact M) j (IF j) (D5 L g j) (nm:=x.nm);exact CRT.form_of (by lia) (sp.perm F) U (λn=>(CRT.inS_perm F).trans (CRT.all_in g j)) (λs _ _ y=>by cases y)
theorem Qo (a:CRT.Av ZM):∀ (as:List (CRT.Av ZM)) (un:List CR.Rn),CRT.paidS (as++[a]) un=CRT.paidS as un++CRT.tag a.1 (-1) (CRT.payW a (CRT.leftS as un))/\CRT.leftS (as++[a]) un=CR.outW (CRT.leftS as un) (CRT.payW a (CRT.leftS as un))
 |[],un=>⟨by show CRT.tag a.1 (-1) (CRT.payW a un)++[]=[]++CRT.tag a.1 (-1) (CRT.payW a un);simp,rfl⟩
 |c::as,un=>by
  let ih:=Qo a as (CR.outW un (CRT.payW c un));refine⟨?_,ih.2⟩;show CRT.tag c.1 (-1) (CRT.payW c un)++CRT.paidS (as++[a]) _=(CRT.tag c.1 (-1) (CRT.payW c un)++CRT.paidS as _)++_;rw[ih.1,zAZ];rfl
def GF {un:List CR.Rn} {B:List Int} (f:CR.Frm un) (e:CRT.EndsIn B un):un.length<=B.length:=by
 let F:(un.map (·.1)).Nodup:=by
  rw[zAW,zBH];refine f.pw.imp_of_mem λ{p q} g hq h z=>?_;let:=f.lt p g
  lia
 let:=CRT.few_of (m:=B) F λx j=>by
  obtain⟨p,g,rfl⟩:=zAv.mp j;exact (e p g).1
 rwa [zAc] at this
def Yx {c:Int} (g:0<c) (as:List (CRT.Av ZM)):(CRT.leftS as [(0,c)]).length<=2+3*as.length:=by
 obtain⟨B,z,F,q,L⟩:=CRT.paid_ends (cs:=as) (B:=[0,c]) (CRT.frm_one g) (λp j=>by rw[zAh.mp j];simp);let:=GF (CRT.leftS_frm (CRT.frm_one g)) q;rw[z] at this;exact this
def HD (a:CRT.Av ZM) (un:List CR.Rn):(CRT.payW a un).length<=un.length:=by
 unfold CRT.payW
 split
 .exact CR.cutW_len _ _ _
 .exact zAD (CR.lowW_len _ _) (CR.cutW_len _ _ _)
theorem XI.tupF {K:zAa}:∀ {xs} {S},XI H xs S->ZA K H xs (S.map (·.1))
 |[],[],_=>trivial
 |[],_::_,h=>h.elim
 |_::_,[],h=>h.elim
 |x::xs,p::ps,⟨⟨t,e,h⟩,r⟩=>⟨⟨t,_,e,Hx.of h,rfl⟩,XI.tupF r⟩
theorem XI.pick {xs:List V} {S:List Eu} (h:XI H xs S):∀ l:List Nat,(∀ i∈l,i<S.length)->XI H (l.map λi=>xs.getD i .non) (l.map λi=>S.getD i (0,0,"",0))
 |[],_=>trivial
 |i::l,hl=>by
  let hi:=hl i zAd;let F:=h.len;obtain⟨t,p,B,q,g⟩:=h.get (i:=i) (zAe (by lia));refine⟨⟨t,?_,?_⟩,XI.pick h l λj z=>hl j (zAb _ z)⟩
  .show xs.getD i .non=.ref t
   rw[zAr,zAe (by lia)];exact q
  .show H t=oT (B0 (S.getD i (0,0,"",0)))
   rw[zAr,B];exact g
inductive AK (vs:List V) (H:Hp) (Q:VK) (E:XK):Prop
 |mk (b cp kp kvs l z bs:_) (z0:vs=[.ref b,.ref cp,.ref l]) (z1:Kk H b bs) (z2:(∀ x∈bs,Nc x.t<4)) (z3:bs.length<=8) (z4:(bs.map (·.nm)).Nodup) (z5:XO CN H cp kp kvs) (z6:YD kvs) (z7:H l=oT (LF.vs z)) (z8:0<z.ct) (z9:∀ r ys S H',Dg H H'->H r=ZD->H' r=oL ys->XI H' ys S->Bs kvs z (Aw z bs) S->S.length<64->Q (.ref r) H')
section
seal L2.PS L2.PSs L2.PE L2.PA
variable {P:ZO} {w:ZX} {K:zAa} {mg:ZM->Option ZE} {base:aB}
def B7 (J:Pm P w K mg base):Jc J 7 "strips_of" ["book","counts","loss"] (AK):=Gj J.z J.qd ["book","counts","loss","cents","asked","unpaid","strips","cover","paid","first"] df λsc H Q hr h=>by
 obtain⟨b,cp,kp,kvs,l,z,bs,rfl,ask,hm,l8,nd,ct,iv,hl,c0,q⟩:=h;refine⟨_,(Ab (Cn sc 3 (Ea K (pv 2) (Qq J.z J.g8)))
   (Ab (Cn sc 4 (Cm (Uo J) hr (Bi (pv 0) (pv 2))))
   (Ab (Ax (Cg (CP (pv 4)))
    (Ae (Aj (Bh (Bn (Az (Ah Af (Ah (pv 3) (Bi Be Af))))))))
    Am)
   (Ab (Cn sc 5 (Bh (Bn (Az (Bi Af (pv 3))))))
   (Ab (Cn sc 6 (Bh Cs))
   (Ab (Bq ZV rfl (Hc K (pv 4)) (Wj (i:=7) sc.nd rfl (Or.inr rfl))
    (Ab (Cn sc 8 (Cm (D9 J) hr (Ah (pv 7) (Ah (Cm (Oh J) hr (Ah (pv 7) (Bi (pv 1) (pv 2)))) (Bi (pv 3) (pv 5))))))
   (Ab (Bg (Cr (K:=K) rfl ZT bG bE Hh (pv 6) (Bn (Cj (NC:=["run","cover"]) (own:=["run"]) (cs:=["cover"]) (ix:=[7]) rfl (Dr.of rfl) rfl ⟨⟨rfl,.inl rfl,rfl⟩,trivial⟩ (Hc K (pv 8)) (λ_ _ _=>(Ke 0)) (λ_ _ _=>Ca) (λ_ _ _=>(Az (Ah (Ea K (pv 0) Af) (Ah (Ea K (pv 0) Af) (Bi (Jz (K:=K) (pv 1) rfl) (Oo Ji Af))))))))))
   (Ae (Cn sc 5 (Cm (AR J) hr (Bi (pv 5) (pv 8))))))))
   (Ab (Cn sc 9 (Le K (pv 4) Af))
   (Ab (Bg (Cr (K:=K) rfl ZT bG bE Hh (pv 6) (Bn (Cm (Su J) hr (Ah (pv 9) (Ah (Cm (Oh J) hr (Ah (pv 9) (Bi (pv 1) (pv 2)))) (Bi (pv 3) (pv 5))))))))
   (Ae (Aj (Pg Vf J.z J.cm (Bn (pv 6))))))))))))),?_⟩
 refine Ia λN eN=>?_;let one:1<=sizeLine:=by rw[zCH];decide
 let two:2<=sizeLine:=by rw[zCH];decide
 refine (vE rfl (vI rfl rfl (Hx.of hl) rfl ?_));refine Fv eN [oR b,oR cp,oR l,oN z.ct,ZD,ZD,ZD,ZD,ZD,ZD] rfl λN eN=>?_;refine (vE rfl (vE rfl ⟨b,l,bs,z,rfl,ask,hm,(by lia),hl,(λak H1 s1 nak hak=>?_)⟩));refine Fv eN [oR b,oR cp,oR l,oN z.ct,oR ak,ZD,ZD,ZD,ZD,ZD] rfl λN eN=>?_;let sub:∀ x∈Aw z bs,x∈bs:=λx hx=>(zAR.mp hx).1;let la:(Aw z bs).length<=8:=zAD (zAO _ _) l8;let nda:((Aw z bs).map (·.nm)).Nodup:=nd.sublist (dU _ zCu);obtain⟨_,_,_,_,_,_,all⟩:=ask;let alla:∀ x∈Aw z bs,XG H1 x:=λx hx=>(all x (sub x hx)).same s1;let ct1:=ct.same s1;let hl1:=s1 _ _ hl;clear all ct hl hm l8 nd;generalize Aw z bs=as at hak sub la nda alla q;refine (vE rfl ⟨_,.inl ⟨_,Dp.of hak,rfl⟩,?_⟩);cases eas:as with
 |nil=>
  rw[eas] at q;refine Jb (vE rfl ⟨Dq (by show 4<=1000;decide),λt nt=>⟨one,λr nr=>?_⟩⟩);let s2:=Ac nt (.tup (B0 (0,z.ct,"",0)));let s3:=Ac nr (.lst [V.ref t]);exact q r [.ref t] [(0,z.ct,"",0)] _ (s1.trans (s2.trans s3)) (s1.free (s2.free nr)) Aa (XI.one (s3 _ _ Aa)) rfl (show 1<64 by lk)
 |cons x0 more=>
 refine Du ?_;let e0:as[0]?=ZC x0:=by rw[eas];rfl
 refine Qu eN λN eN=>?_;refine (vE rfl ⟨two,λt0 nt0=>⟨one,λu0 nu0=>?_⟩⟩);let s2:=(Ac nt0 (.tup [V.int 0,.int z.ct])).trans (Ac nu0 (.lst [V.ref t0]));let lu0:LP (upd (upd H1 t0 (.tup [V.int 0,.int z.ct])) u0 (.lst [V.ref t0])) u0 [(0,z.ct)]:=⟨_,Aa,⟨t0,rfl,Ac nu0 (.lst [V.ref t0]) _ _ Aa⟩,trivial⟩;generalize upd (upd H1 t0 (.tup [V.int 0,.int z.ct])) u0 (.lst [V.ref t0])=H2 at s2 lu0;refine Fv eN [oR b,oR cp,oR l,oN z.ct,oR ak,oR u0,ZD,ZD,ZD,ZD] rfl λN eN=>?_;refine⟨zAw _,λst nst=>?_⟩;let S3:=s2.trans (Ac nst (.lst []));let fst:=s2.free nst;let lu3:=LP.same (Ac nst (.lst [])) lu0;let hst3:upd H2 st (.lst []) st=oL []:=Aa;let nus:u0≠st:=by
  obtain⟨_,y,_⟩:=lu0;exact Ad y nst
 generalize upd H2 st (.lst [])=H3 at S3 lu3 hst3;refine Fv eN [oR b,oR cp,oR l,oN z.ct,oR ak,oR u0,oR st,ZD,ZD,ZD] rfl λN eN=>?_;let hak3:=S3 _ _ hak;let ncs:cp≠st/\kp≠st:=by
  obtain⟨⟨_,_,y,_⟩,y2⟩:=id ct1;exact⟨Ad y fst,Ad y2 fst⟩
 refine (vE rfl ⟨ak,rfl,⟨_,Dp.of hak3⟩,?_⟩);refine Bx (K:=K) (a:=ak) (xs:=as.map xV) (λi σ H4=>(∃ u o7 o8,σ=[oR b,oR cp,oR l,oN z.ct,oR ak,oR u,oR st,o7,o8,ZD]/\u≠st /\
   ∃ avs ys,XW kvs z (as.take i) avs/\LP H4 u (CRT.leftS avs [(0,z.ct)])/\H4 st=oL ys/\XI H4 ys (CRT.paidS avs [(0,z.ct)])/\ys.length<=60*i)/\Dg H1 H4)
  ⟨⟨u0,ZD,ZD,rfl,nus,[],[],trivial,lu3,hst3,trivial,zAl _⟩,S3⟩ (λi σ H4 _ hh=>Dp.of (hh.2 _ _ hak)) ?_ ?_
 .rintro i y σ H4 hi ⟨⟨u,o7,o8,rfl,nu,avs,ys,av,lu,h4,sy,ly⟩,S4⟩ N9 nx9
  rw[zAx] at hi;obtain⟨x,hx,rfl⟩:=zAQ.mp hi;let il:i<as.length:=(zAk.mp hx).1;let lav:avs.length<=8:=by rw[av.len,zAn];lia
  let lun:=Yx c0 avs;let cx:=(alla x (zAz hx)).same S4;generalize eun:CRT.leftS avs [(0,z.ct)]=un at lu lun;refine (vE rfl (vE rfl (vE rfl (vE rfl ⟨x,cp,kp,kvs,l,z,rfl,cx,(ct1.same S4),iv,(S4 _ _ hl1),(λnr H5 s5 nnr hnr=>(vE rfl (vE rfl ⟨x,nr,u,un,numsOf kvs z x,z.ct,rfl,cx.same s5,hnr,A2 kvs z x,LP.same s5 lu,by lia,λpd W H6 s6 npd wa lp6=>?_⟩)))⟩))));subst eN;refine Gi [oR b,oR cp,oR l,oN z.ct,oR ak,oR u,oR st,oR x.p,oR pd,ZD] rfl ?_;let s56:=s5.trans s6;let lpy:=HD (x.nm,W,(Ba x.cs (numsOf kvs z x)).map (·.1)) un;let av':HJ kvs z x (x.nm,W,(Ba x.cs (numsOf kvs z x)).map (·.1)):=⟨W,wa,rfl⟩;let sn:=Qo (x.nm,W,(Ba x.cs (numsOf kvs z x)).map (·.1)) avs [(0,z.ct)];rw[eun] at sn;generalize (x.nm,W,(Ba x.cs (numsOf kvs z x)).map (·.1))=av1 at lp6 lpy av' sn;let en:av1.1=x.nm:=by obtain⟨_,_,y⟩:=av';rw[y]
  rw[en] at sn;let h6:=s56 _ _ h4;obtain⟨rs,hpd,pr⟩:=id lp6;let lr:=pr.len;obtain⟨dx,fs,_,_,_,e,a1,_⟩:=cx.same s56;refine (vE rfl ⟨.inl ⟨rfl,_,Dp.of h6⟩,vE rfl ⟨pd,rfl,⟨_,Dp.of hpd⟩,λc1 nc1=>?_⟩⟩);refine Bk (K:=K) (a:=pd) (xs:=rs) (λj zs H7=>XI H7 zs (CRT.tag x.nm (-1) ((CRT.payW av1 un).take j))/\H7 c1=oL zs/\Dg H6 H7) ⟨trivial,Aa,Ac nc1 _⟩
   (λj zs H7 _ ⟨e6,x1,x2⟩=>⟨x1,by rw[e6.len];unfold CRT.tag;rw[zAc,zAn];lia,Dp.of (x2 _ _ hpd)⟩) (by rw[zCH];lia) (λj w zs H7 hj ⟨e6,x1,x2⟩=>?_) (λzs H7 ⟨e6,x1,x2⟩=>?_)
  .obtain⟨t',p',hp',rfl,ht'⟩:=pr.get hj
   refine (vE rfl (vI rfl rfl (Hx.of (x2 _ _ ht')) rfl (vE rfl (vI rfl rfl (Hx.of (x2 _ _ ht')) rfl (vE rfl (x5 x.p CV dx fs _ ⟨rfl,x2 _ _ e,J.aa.cl,J.am,a1,_,rfl,Dq (by show 4<=1000;decide),λv1 nv1=>?_⟩))))));let s7:=Ac nv1 (.tup [.int p'.1,.int p'.2,.str x.nm,.int (-1)]);refine⟨s7 _ _ x1,rfl,?_,Aa,λb o z=>?_⟩
   .rw[Zn hp']
    exact ((e6.mono (An s7)).app (XI.one (p:=(p'.1,p'.2,x.nm,-1)) Aa)).mono (Cd (s7 _ _ x1) _)
   .rw[Ag (Ad z nc1)]
    exact s7 _ _ (x2 b o z)
  rw[lr,zAB] at e6;let h7:=x2 _ _ h6;let lz:=e6.len;let lt:(CRT.tag x.nm (-1) (CRT.payW av1 un)).length=(CRT.payW av1 un).length:=by unfold CRT.tag;rw[zAc]
  refine (x4 st c1 ys zs (c6 rfl rfl h7 x1 (by rw[zCH];lia) ?_));let k7:Z7 H7 (upd H7 st (.lst (ys++zs))):=Cd h7 _;let sts8:=((sy.mono (An (s56.trans x2))).app e6).mono k7;rw[<- sn.1] at sts8;let S8:Dg H1 (upd H7 st (.lst (ys++zs))):=λb o z=>by rw[Ag (Ad z fst)];exact x2 _ _ (s56 _ _ (S4 _ _ z))
  let lpd8:LP (upd H7 st (.lst (ys++zs))) pd (CRT.payW av1 un):=by
   let npst:pd≠st:=(Ad (s5 _ _ h4) npd).symm;exact⟨rs,by rw[Ag npst];exact x2 _ _ hpd,(pr.mono (An x2)).mono k7⟩
  let lu8:LP (upd H7 st (.lst (ys++zs))) u un:=by
   obtain⟨us,y1,y2⟩:=lu;exact⟨us,by rw[Ag nu];exact x2 _ _ (s56 _ _ y1),(y2.mono (An (s56.trans x2))).mono k7⟩
  let h8:upd H7 st (.lst (ys++zs)) st=oL (ys++zs):=Aa;generalize upd H7 st (.lst (ys++zs))=H8 at sts8 S8 lpd8 lu8 h8;refine (vE rfl (vE rfl ⟨u,pd,un,CRT.payW av1 un,rfl,lu8,lpd8,by lia,by lia,λu2 H9 s9 nu2 lp9=>?_⟩));let nu2':u2≠st:=(Ad h8 nu2).symm;refine nx9 _ _ ⟨⟨u2,_,_,rfl,nu2',avs++[av1],ys++zs,?_,?_,s9 _ _ h8,sts8.mono (An s9),by rw[zAm];lia⟩,S8.trans s9⟩
  .rw[Bb hx]
   exact av.snoc av'
  .rw[sn.2]
   exact lp9
 .rintro σ H4 ⟨⟨u,o7,o8,rfl,nu,avs,ys,av,lu,h4,sy,ly⟩,S4⟩
  rw[zAc,zAB] at av;rw[zAc] at ly;let lav:avs.length<=8:=by rw[av.len];exact la
  let lun:=Yx c0 avs;let at0:Pa (as.map xV) 0=ZC (.ref x0.p):=Fw (by rw[zAx,e0];rfl);refine Qu eN λN eN=>?_;refine (vE rfl (vI rfl rfl (Dp.of (S4 _ _ hak)) at0 ?_));refine Fv eN [oR b,oR cp,oR l,oN z.ct,oR ak,oR u,oR st,o7,o8,oR x0.p] rfl λN eN=>?_;let cx:=(alla x0 (zAz e0)).same S4;refine (vE rfl ⟨.inl ⟨rfl,_,Dp.of h4⟩,vE rfl (vE rfl (vE rfl (vE rfl ⟨x0,cp,kp,kvs,l,z,rfl,cx,(ct1.same S4),iv,(S4 _ _ hl1),(λnr H5 s5 nnr hnr=>(vE rfl (vE rfl ⟨x0,nr,u,_,numsOf kvs z x0,z.ct,rfl,cx.same s5,hnr,A2 kvs z x0,LP.same s5 lu,by lia,by lia,λr1 ys1 parts H6 s6 nr1 hr1 ch lpt sb l12=>?_⟩)))⟩)))⟩);let s56:=s5.trans s6;let h6:=s56 _ _ h4;refine (x4 st r1 ys ys1 (c6 rfl rfl h6 hr1 (by rw[zCH];lia) ?_));let sts7:=((sy.mono (An s56)).app sb).mono (Cd h6 (.lst (ys++ys1)));let S7:Dg H1 (upd H6 st (.lst (ys++ys1))):=λb o z=>by rw[Ag (Ad z fst)];exact s56 _ _ (S4 _ _ z)
  let h7:upd H6 st (.lst (ys++ys1)) st=oL (ys++ys1):=Aa;generalize upd H6 st (.lst (ys++ys1))=H7 at sts7 S7 h7;rw[eas] at av nda;let sp:CRT.Sep (CRT.allS avs x0.nm (Nn (Ba x0.cs (numsOf kvs z x0))) parts z.ct):=CRT.all_sep c0 (by rw[av.names];exact nda) ch (IF ch) (D5 av c0 ch);let ln:=CRT.all_len (f:=CRP.fw (As z.ct x0.cs (numsOf kvs z x0))) c0 sp;let sts8:XI H7 (ys++ys1) (CRT.allS avs x0.nm (Nn (Ba x0.cs (numsOf kvs z x0))) parts z.ct):=sts7;generalize eS:CRT.allS avs x0.nm (Nn (Ba x0.cs (numsOf kvs z x0))) parts z.ct=S at sts8 sp ln;let lS:=sts8.len;subst eN;refine (vE rfl ⟨st,ys++ys1,S.map (·.1),rfl,Dp.of h7,?_,sts8.tupF,sp.starts,λr p nr pm up=>?_⟩)
  .lia
  rw[lS] at pm up;obtain⟨o1,o2⟩:=T7 (d:=((0:Int),(0:Int),("" : ZM),(0:Int))) (f:=λs:Eu=>s.1) pm up sp.starts;let s8:=Ac nr (.lst (p.toList.map λi=>(ys++ys1).getD i .non));refine q r _ (p.toList.map λi=>S.getD i (0,0,"",0)) _ (s1.trans (S7.trans s8)) (s1.free (S7.free nr)) Aa ((sts8.pick p.toList λi hi=>?_).mono (An s8)) ?_ (by rw[o1.length_eq];lia)
  .have pl:p.toList.Perm (zAS S.length):=by
    let:=zBC.mp pm
    simpa using this
   exact zBD.mp (pl.mem_iff.mp hi)
  .rw[eas]
   exact⟨avs,parts,av,ch,by rw[eS];exact o1,o2⟩
end
def Nb (nm:ZM) (s:Eu):Bool:=decide (s.2.2.1=nm)&&decide (s.2.2.2 = -1)
def Bm (nm:ZM) (S:List Eu):List Int:=(S.filter (Nb nm)).map λs=>s.2.1-s.1
inductive VE (vs:List V) (H:Hp) (Q:VK) (E:XK):Prop
 |mk (nm a ys S:_) (z0:vs=[.str nm,.ref a]) (z1:H a=oL ys) (z2:XI H ys S) (z3:S.length<=900) (z4:∀ H',Dg H H'->Q (.int (Bm nm S).sum) H')
section
variable {P:ZO} {w:ZX} {K:zAa} {mg:ZM->Option ZE} {base:aB}
def Z4 (J:Pm P w K mg base):Jc J 1 "paid_by" ["name","strips"] VE:=Gj J.z J.qe ["name","strips"] df λsc H Q hr h=>by
 obtain⟨g,a,ys,S,rfl,U,F,l9,q⟩:=h;refine⟨_,(Ae (Aj (Pg (Lh rfl) J.z J.gx (Bn (Cj (NC:=["lo","hi","payer","k","name"]) (own:=["lo","hi","payer","k"]) (cs:=["name"]) (ix:=[0]) rfl (Dr.of rfl) rfl ⟨⟨rfl,.inl rfl,rfl⟩,trivial⟩ (Hc K (pv 1)) (λ_ _ _=>(Cz (K:=K) (n:=4) rfl rfl (Ao (Ke 0) (Ao (Ke 1) (Ao (Ke 2) (Ao (Ke 3) Ct)))))) (λ_ _ _=>(Gq (PW.pt (Ng (Al Cc (pv 2) (pv 4) (Ap _)) (Ju (Al Cc (pv 3) (Oo Ji Af) (Ap _))))))) (λ_ _ _=>(Ai Kt (pv 1) (pv 0)))))))),?_⟩;let ly:=F.len;refine (vE rfl ⟨a,rfl,⟨_,Dp.of U⟩,λr Y=>?_⟩);refine C1 (K:=K) (a:=a) (xs:=ys) (λi zs B=>zs=(Bm g (S.take i)).map V.int/\B r=oL zs/\Dg H B) ⟨rfl,Aa,Ac Y _⟩
  (λi zs B _ ⟨e,h1,j⟩=>⟨h1,by rw[e,zAc];unfold Bm;rw[zAc];exact zAD (zAO _ _) (by rw[zAn];lia),Dp.of (j _ _ U)⟩) (by rw[zCH];lia) (λi x zs B hi ⟨e,h1,j⟩=>?_) (λzs B ⟨e,h1,j⟩=>?_)
 .obtain⟨t,p,hp,rfl,Z⟩:=F.get hi
  refine (x5 t _ _ _ _ (c3 rfl (Hx.of (j _ _ Z)) ?_));let es:Bm g (S.take (i+1))=Bm g (S.take i)++if Nb g p=ZI then [p.2.1-p.1] else []:=by
   unfold Bm;rw[Bb hp,zBN,zAq];by_cases c:Nb g p=ZI
   .rw[ZJ c,zBh c,zBF];rfl
   .rw[ZH c,zBo c,zBF];rfl
  by_cases L:p.2.2.1=g
  .refine (vE rfl (vE rfl ⟨rfl,vE rfl (dT (aC V.str L) (vE rfl (vE rfl ⟨rfl,vE rfl ?_⟩)))⟩))
   by_cases M:p.2.2.2 = -1
   .refine dT (aC V.int M) ?_
    let c:Nb g p=ZI:=by unfold Nb;rw[ZN L,ZN M];rfl
    refine (vE rfl (vE rfl (vF rfl rfl ⟨h1,rfl,?_,Aa,λb o z=>?_⟩)))
    .rw[es,ZJ c,zAq,e]
     rfl
    .rw[Ag (Ad z Y)]
     exact j b o z
   .refine dF (λy=>M (V.int.inj y)) ?_
    let c:¬ Nb g p=ZI:=by unfold Nb;rw[ZQ M,zCm];exact zAt
    refine⟨rfl,?_,h1,j⟩;rw[es,ZH c,zAY,e]
  .refine (vE rfl (vE rfl ⟨rfl,vE rfl (dF (λy=>L (V.str.inj y)) ?_)⟩))
   let c:¬ Nb g p=ZI:=by unfold Nb;rw[ZQ L,zCj];exact zAt
   refine Du ⟨rfl,?_,h1,j⟩;rw[es,ZH c,zAY,e]
 rw[ly,zAB] at e;subst e;exact (x2 r _ (c3 rfl (Dp.of h1) (q B j)))
end
def Dj:Cl->Bool
 |.lim _ _=>ZI
 |_=>ZK
def Ek (z:LF) (x:XC) (pd:Int) (kvs:Ej):Nat->Ej
 |0=>kvs
 |i+1=>Dz (Ek z x pd kvs i) (Pz x.nm (i:Int) (Dc ((x.cs[i]?).getD (.any "")).way z)) (.int (Dd (Bo (Ek z x pd kvs i) x.nm (i:Int) (Dc ((x.cs[i]?).getD (.any "")).way z))+if Dj ((x.cs[i]?).getD (.any ""))=ZI then pd else z.ct))
def YD.put {kvs:Ej} (h:YD kvs) (k:List Ev) (n:Int):YD (Dz kvs k (.int n)):=λj v e=>by
 rw[Iy] at e;by_cases c:j=k
 .rw[ZJ c] at e
  cases e
  exact⟨n,rfl⟩
 .rw[ZH c] at e
  exact h j v e
theorem Wa {z:LF} {x:XC} {pd:Int} {kvs:Ej} (h:YD kvs):∀ i,YD (Ek z x pd kvs i)
 |0=>h
 |i+1=>(Wa h i).put _ _
theorem Po {z:LF} {x:XC} {pd:Int} {kvs:Ej}:∀ i,(Ek z x pd kvs i).length<=kvs.length+i
 |0=>zAl _
 |i+1=>zAD (Fk _ _ _) (by let:=Po (z:=z) (x:=x) (pd:=pd) (kvs:=kvs) i;lia)
inductive KN (vs:List V) (H:Hp) (Q:VK) (E:XK):Prop
 |mk (x cp kp kvs l z:_) (pd:Int) (z0:vs=[.ref x.p,.ref cp,.ref l,.int pd]) (z1:XG H x) (z2:XO CN H cp kp kvs) (z3:YD kvs) (z4:kvs.length<=800) (z5:H l=oT (LF.vs z)) (z6:∀ H',(∀ b o,H b=ZC o->b≠kp->H' b=ZC o)->XO CN H' cp kp (Ek z x pd kvs x.cs.length)->Q .non H')
section
variable {P:ZO} {w:ZX} {K:zAa} {mg:ZM->Option ZE} {base:aB}
def FP (J:Pm P w K mg base) {o:ZF} {c:Cl} (h:YB H o c):∃ C,Ho K H (.ref o) (.ref C)/\zBm K (.ref C) (.ref CM)=ZC (Dj c):=by
 obtain⟨dx,e⟩:=h;cases c with
 |own y d=>exact⟨_,.ins e J.bu.cl J.j9.ha J.j9.gs J.j9.tk J.j9.hm,J.my⟩
 |lay y a b=>exact⟨_,.ins e J.aq.cl J.gf.ha J.gf.gs J.gf.tk J.gf.hm,J.kg⟩
 |lim y m=>exact⟨_,.ins e J.ax.cl J.gg.ha J.gg.gs J.gg.tk J.gg.hm,J.kh⟩
 |any y=>exact⟨_,.ins e J.bf.cl J.cq.ha J.cq.gs J.cq.tk J.cq.hm,J.ju⟩
def G3 (J:Pm P w K mg base):Jc J 3 "count_for" ["cover","counts","loss","paid"] (KN):=Gj J.z J.qf ["cover","counts","loss","paid","k","clause","counted"] df λsc H Q hr h=>by
 obtain⟨x,U,kp,kvs,l,z,pd,rfl,cx,ct,iv,l8,hl,q⟩:=h;refine⟨_,(Ae (Bq ZV rfl (Hy rfl (J.z.nn J.ao) (Bn (Bc (pv 0) rfl))) (Cz (K:=K) (n:=2) rfl rfl (Ao (Et sc 4) (Ao (Et sc 5) Ct)))
    (Ab (Cn sc 6 (Hj (Bv (Pg Dl J.z J.ah (Bi (pv 5) (MV rfl (J.z.nv J.ax.ns))))) (pv 3) (Ea K (pv 2) (Qq J.z J.g8))))
   (Ae (Bg (Bt (TQ J) (hr.mono (by lk)) (pv 1) (Ah (Bc (pv 0) rfl) (Ah (pv 4) (Bi (Fh (SF J) (hr.mono (by lk)) (pv 5) (Bn (pv 2))) (pv 6)))))))))),?_⟩
 obtain⟨dx,fs,cv,cl,xs,e,a1,a2,a3,a4,a5,a6,S,cc,c8⟩:=id cx;let lx:=cc.len;let hk:=ct.hk;let nk:∀ {b:ZF} {o:HO},H b=ZC o->(∀ m,o≠.dT m)->b≠kp:=λy n=>At y hk (n _);refine (vE rfl ⟨x.p,CV,dx,fs,_,rfl,e,J.aa.cl,J.ag,a3,cl,rfl,⟨_,Dp.of S⟩,?_⟩);refine Js (K:=K) (a:=cl) (xs:=xs) (λi σ j=>(∃ o4 o5 o6,σ=[oR x.p,oR U,oR l,oN pd,o4,o5,o6])/\XO CN j U kp (Ek z x pd kvs i)/\∀ b o,H b=ZC o->b≠kp->j b=ZC o)
  ⟨⟨ZD,ZD,ZD,rfl⟩,ct,λ_ _ y _=>y⟩ (λi σ j _ hh=>Dp.of (hh.2.2 _ _ S (nk S (λ_ y=>by cases y)))) ?_ ?_
 .rintro i v σ j t hi ⟨⟨o4,o5,o6,rfl⟩,L,F⟩ nt N9 aa
  obtain⟨o,c,hc,rfl,ho⟩:=cc.get hi;let il:i<x.cs.length:=(zAk.mp hc).1;let Z:=Ac nt (.tup [.int i,.ref o]);let k3:∀ {b:ZF} {ob:HO},H b=ZC ob->(∀ m,ob≠.dT m)->upd j t (.tup [.int i,.ref o]) b=ZC ob:=λy n=>Z _ _ (F _ _ y (nk y n));let B:YB (upd j t (.tup [.int i,.ref o])) o c:=by
   obtain⟨od,y⟩:=ho;exact⟨od,k3 y (λ_ y=>by cases y)⟩
  let e3:=k3 e (λ_ y=>by cases y);let M:=k3 hl (λ_ y=>by cases y);let g:=L.same Z;generalize upd j t (.tup [.int i,.ref o])=H3 at Z B e3 M g;obtain⟨ad,ty,kt⟩:=FP J B;obtain⟨od,ab⟩:=id B;obtain⟨⟨dc,fc,ac,b1,b2,b3⟩,_⟩:=id g;obtain⟨n,en⟩:=(Wa (z:=z) (x:=x) (pd:=pd) iv i).have x.nm (i:Int) (Dc c.way z);refine Y7 (.int (if Dj c=ZI then pd else z.ct)) (λQ' kq=>?_) ?_
  .refine (vE rfl (x5 _ _ _ _ _ ⟨rfl,MJ,ty,kt,_,rfl,?_⟩))
   cases Y:Dj c with
   |true=>
    rw[Y] at kq;exact Jb (vE rfl kq)
   |false=>
    rw[Y] at kq;exact Du (vE rfl (vI rfl rfl (Hx.of M) rfl kq))
  refine EU [oR x.p,oR U,oR l,oN pd,oN i,oR o,oN (if Dj c=ZI then pd else z.ct)] rfl ?_;refine (vE rfl (x3 U dc fc ⟨rfl,ac,b3,_,rfl,x.p,CV,dx,fs,_,rfl,e3,J.aa.cl,J.am,a1,_,rfl,vE rfl (x4 o _ od _ ⟨rfl,ab,Vc c,BN c,_,rfl,o,c,l,z.ev,z.th,z.ca,z.n,z.d,z.ct,rfl,B,rfl,M,_,rfl,U,kp,_,x.nm,(i:Int),Dc c.way z,_,n,by rw[CK];rfl,g,en,?_,λH4 s4=>?_⟩)⟩))
  .have:=Po (z:=z) (x:=x) (pd:=pd) (kvs:=kvs) i
   lia
  let ec:Ek z x pd kvs (i+1)=Dz (Ek z x pd kvs i) (Pz x.nm (i:Int) (Dc c.way z)) (.int (n+if Dj c=ZI then pd else z.ct)):=by
   show Dz _ _ _=_;rw[hc];show Dz _ (Pz x.nm (i:Int) (Dc c.way z)) (.int (Dd (Bo (Ek z x pd kvs i) x.nm (i:Int) (Dc c.way z))+_))=_;rw[en];rfl
  refine aa _ _ ⟨⟨_,_,_,rfl⟩,?_,λb ob y nb=>?_⟩
  .rw[ec]
   exact (g.same s4).put _
  .rw[Ag nb]
   exact s4 _ _ (Z _ _ (F b ob y nb))
 .rintro σ j ⟨⟨o4,o5,o6,rfl⟩,L,F⟩
  rw[lx] at L;exact q j F L
end
def K4 (H H':Hp):Prop:=∀ b o,H b=ZC o->(∀ m,o≠HO.dT m)->H' b=ZC o
def Zq {H H':Hp} {m:Ej} (g:H kp=ZC (.dT m)) (k:∀ b o,H b=ZC o->b≠kp->H' b=ZC o):K4 H H':=λb o h n=>k b o h (At h g (n _))
mutual
theorem XA.kd {H H':Hp} (s:K4 H H'):∀ {v} (t:Gf),XA κ H v t->XA κ H' v t
 |v,.at c,h=>by
  unfold XA at h ⊢;obtain⟨p,dx,e,h⟩:=h;exact⟨p,dx,e,s _ _ h (λ_ y=>by cases y)⟩
 |v,.no t,h=>by
  unfold XA at h ⊢;obtain⟨p,dx,w,e,h,r⟩:=h;exact⟨p,dx,w,e,s _ _ h (λ_ y=>by cases y),XA.kd s t r⟩
 |v,.al j,h=>by
  unfold XA at h ⊢;obtain⟨p,dx,l,vs,e,h,g,r⟩:=h;exact⟨p,dx,l,vs,e,s _ _ h (λ_ y=>by cases y),s _ _ g (λ_ y=>by cases y),CdsAt.kd s j r⟩
 |v,.so j,h=>by
  unfold XA at h ⊢;obtain⟨p,dx,l,vs,e,h,g,r⟩:=h;exact⟨p,dx,l,vs,e,s _ _ h (λ_ y=>by cases y),s _ _ g (λ_ y=>by cases y),CdsAt.kd s j r⟩
theorem CdsAt.kd {H H':Hp} (s:K4 H H'):∀ {vs} (g:List Gf),CdsAt κ H vs g->CdsAt κ H' vs g
 |[],[],_=>by unfold CdsAt;trivial
 |v::vs,t::g,h=>by
  unfold CdsAt at h ⊢;exact⟨XA.kd s t h.1,CdsAt.kd s g h.2⟩
 |[],_::_,h=>by unfold CdsAt at h;exact h.elim
 |_::_,[],h=>by unfold CdsAt at h;exact h.elim
end
def XG.kd {H H':Hp} {x:XC} (h:XG H x) (s:K4 H H'):XG H' x:=by
 obtain⟨dx,fs,F,cl,xs,e,U,B,S,j,q,M,L,z,g⟩:=h;exact⟨dx,fs,F,cl,xs,s _ _ e (λ_ y=>by cases y),U,B,S,j,q,XA.kd s _ M,s _ _ L (λ_ y=>by cases y),z.mono (λt _ _ _ y=>s _ _ y (λ_ y=>by cases y)),g⟩
def Cq (z:LF) (S:List Eu):List XC->Ej->Ej
 |[],k=>k
 |x::xs,k=>Cq z S xs (Ek z x (Bm x.nm S).sum k x.cs.length)
theorem Qy (z:LF) (S:List Eu) (x:XC):∀ (xs:List XC) (k:Ej),Cq z S (xs++[x]) k=Ek z x (Bm x.nm S).sum (Cq z S xs k) x.cs.length
 |[],k=>rfl
 |y::xs,k=>by
  rw[zCC];exact Qy z S x xs _
theorem Nk {z:LF} {S:List Eu}:∀ {xs} {k},YD k->YD (Cq z S xs k)
 |[],_,h=>h
 |x::xs,k,h=>Nk (xs:=xs) (Wa h _)
theorem Ue {z:LF} {S:List Eu}:∀ {xs} {k},(∀ x∈xs,x.cs.length<=8)->(Cq z S xs k).length<=k.length+8*xs.length
 |[],k,_=>zAl _
 |x::xs,k,h=>by
  let h1:=Ue (z:=z) (S:=S) (xs:=xs) (k:=Ek z x (Bm x.nm S).sum k x.cs.length) λy g=>h y (zAb _ g);let q:=Po (z:=z) (x:=x) (pd:=(Bm x.nm S).sum) (kvs:=k) x.cs.length;let j:=h x zAd;show (Cq z S xs _).length<=_;rw[zAf]
  lia
inductive AN (vs:List V) (H:Hp) (Q:VK) (E:XK):Prop
 |mk (b cp kp kvs l z bs:_) (z0:vs=[.ref b,.ref cp,.ref l]) (z1:Kk H b bs) (z2:(∀ x∈bs,Nc x.t<4)) (z3:bs.length<=8) (z4:(bs.map (·.nm)).Nodup) (z5:XO CN H cp kp kvs) (z6:YD kvs) (z7:kvs.length<=700) (z8:H l=oT (LF.vs z)) (z9:0<z.ct) (z10:∀ r ys S H',(∀ b o,H b=ZC o->b≠kp->H' b=ZC o)->H r=ZD->H' r=oL ys->XI H' ys S->Bs kvs z (Aw z bs) S->S.length<64->XO CN H' cp kp (Cq z S (Aw z bs) kvs)->Q (.ref r) H')
section
variable {P:ZO} {w:ZX} {K:zAa} {mg:ZM->Option ZE} {base:aB}
def FY (J:Pm P w K mg base):Jc J 8 "settle" ["book","counts","loss"] (AN):=Gj J.z J.qg ["book","counts","loss","strips","cover"] df λsc H Q hr h=>by
 obtain⟨b,cp,kp,kvs,l,z,bs,rfl,ask,hm,l8,nd,ct,iv,l7,hl,c0,q⟩:=h;refine⟨_,(Ab (Cn sc 3 (Cm (B7 J) hr (Ah (pv 0) (Bi (pv 1) (pv 2)))))
   (Ab (Bq ZV rfl (Hc K (Cm (Uo J) hr (Bi (pv 0) (pv 2)))) (Et sc 4)
    (Ae (Bg (Cm (G3 J) hr (Ah (pv 4) (Ah (pv 1) (Bi (pv 2) (Cm (Z4 J) hr (Bi (Bc (pv 4) rfl) (pv 3))))))))))
   (Ae (Aj (pv 3))))),?_⟩
 refine Ia λN eN=>?_;refine (vE rfl (vE rfl (vE rfl ⟨b,cp,kp,kvs,l,z,bs,rfl,ask,hm,l8,nd,ct,iv,hl,c0,(λr ys S H1 s1 nr hr1 sts so l64=>?_)⟩)));refine Fv eN [oR b,oR cp,oR l,oR r,ZD] rfl λN eN=>?_;obtain⟨d0,f0,ak0,eb,eb1,eb2,all⟩:=ask;refine (vE rfl (vE rfl ⟨b,l,bs,z,rfl,⟨d0,f0,ak0,s1 _ _ eb,eb1,s1 _ _ eb2,λx hx=>(all x hx).same s1⟩,hm,(by lia),(s1 _ _ hl),(λak H2 s2 nak hak=>?_)⟩));let S2:=s1.trans s2;let sub:∀ x∈Aw z bs,x∈bs:=λx hx=>(zAR.mp hx).1;let la:(Aw z bs).length<=8:=zAD (zAO _ _) l8;let all2:∀ x∈Aw z bs,XG H2 x:=λx hx=>(all x (sub x hx)).same S2;let ct2:=ct.same S2;let hk2:=ct2.hk;let hl2:=S2 _ _ hl;let hr2:=s2 _ _ hr1;let sts2:=sts.mono (An s2);generalize Aw z bs=as at hak la all2 so q;let c8:∀ x∈as,x.cs.length<=8:=λx hx=>by
  obtain⟨_,_,_,_,_,_,_,_,_,_,_,_,_,_,y⟩:=all2 x hx;exact y
 refine⟨ak,rfl,⟨_,Dp.of hak⟩,?_⟩;refine Bx (K:=K) (a:=ak) (xs:=as.map xV) (λi σ H4=>(∃ o,σ=[oR b,oR cp,oR l,oR r,o])/\XO CN H4 cp kp (Cq z S (as.take i) kvs)/\(∀ b o,H2 b=ZC o->b≠kp->H4 b=ZC o))
  ⟨⟨ZD,rfl⟩,ct2,λ_ _ y _=>y⟩ (λi σ H4 _ hh=>Dp.of (hh.2.2 _ _ hak (At hak hk2 (by intro y;cases y)))) ?_ ?_
 .rintro i y σ H4 hi ⟨⟨o,rfl⟩,ct4,kp4⟩ N9 nx9
  rw[zAx] at hi;obtain⟨x,hx,rfl⟩:=zAQ.mp hi;let mx:=zAz hx;let GE:=Zq hk2 kp4;let cx:=(all2 x mx).kd GE;obtain⟨dx,fs,_,_,_,e,a1,_⟩:=id cx;let hr4:=GE _ _ hr2 (λ_ y=>by cases y);let sts4:=sts2.mono λt ws y=>GE _ _ y (λ_ y=>by cases y);refine (vE rfl (vE rfl (vE rfl (vE rfl ⟨x.p,CV,dx,fs,_,rfl,e,J.aa.cl,J.am,a1,_,rfl,x.nm,r,ys,S,rfl,hr4,sts4,by lia,λH5 s5=>⟨x,cp,kp,_,l,z,_,rfl,(cx.same s5),(ct4.same s5),(Nk iv),?_,(s5 _ _ (GE _ _ hl2 (λ_ y=>by cases y))),(λH6 k6 ct6=>?_)⟩⟩))))
  .have:=Ue (z:=z) (S:=S) (xs:=as.take i) (k:=kvs) λx hx=>c8 x (zBx hx)
   let:(as.take i).length<=8:=by rw[zAn];lia
   lia
  .refine nx9 _ _ ⟨⟨_,rfl⟩,?_,λb o y n=>k6 _ _ (s5 _ _ (kp4 b o y n)) n⟩
   rw[Bb hx,Qy];exact ct6
 .rintro σ H4 ⟨⟨o,rfl⟩,ct4,kp4⟩
  rw[zAc,zAB] at ct4;let GE:=Zq hk2 kp4;subst eN;exact (vE rfl (q r ys S H4 (λb o y n=>kp4 _ _ (S2 _ _ y) n) nr (GE _ _ hr2 (λ_ y=>by cases y)) (sts2.mono λt ws y=>GE _ _ y (λ_ y=>by cases y)) so l64 ct4))
end
end CRL
namespace CRL
open PySem L2
def Io {i:Nat} {v:Int} {nx:St->Hp->Prop} (lo hi:Int) (g:lo<=v/\v<=hi) (h:∀ x:Int,lo<=x->x<=hi->Cp i (.int x) σ H nx):Cp i (.int v) σ H nx:=h v g.1 g.2
def md {a b:Int} (h:0<b):0<=a%b/\a%b<=b-1:=⟨Int.emod_nonneg _ (by lia),by let:=Int.emod_lt_of_pos a h;lia⟩
def BM:List Nat:=[115,101,108,102]
def GL:aK "self"=tx BM:=by ac_nf
def IW {l m:List Nat} (h:tx l=tx m):l=m:=by
 let:=aC (λz=>z.cps.toList) h
 simpa [tx] using this
structure BX (ns:List ZM):Prop where
 hi:ns.length<=8
 nd:ns.Nodup
 ok:∀ z∈ns,Gr (.str z)=ZI/\z.length<=8/\z ≠ "self"
def NQ (g:Nat->List Nat) {k:Nat} (L:k<=8) (nm:∀ i,i<k->Go (g i)) (ns:∀ i,i<k->g i≠BM) (inj:∀ i j,i<k->j<k->g i=g j->i=j):BX ((zAS k).map λi=>tx (g i)):=by
 refine⟨by rw[zAc,zBb];exact L,?_,λz F=>?_⟩
 .rw[zAW,zBH]
  refine List.Pairwise.imp_of_mem (R:=λa b=>a≠b) (λ{i j} hi B n e=>n ?_) (zAW.mp List.nodup_range);exact inj i j (zBD.mp hi) (zBD.mp B) (IW e)
 .obtain⟨i,hi,rfl⟩:=zAv.mp F
  let q:=zBD.mp hi;let n:=nm i q;refine⟨ZN n,by rw[Es];exact n.1.2,λh=>?_⟩;let h':tx (g i)=aK "self":=h;rw[GL] at h';exact ns i q (IW h')
def e9:(10:Int)^(9:Int).toNat=1000000000:=by ac_nf
inductive RQ (vs:List V) (H:Hp) (Q:VK) (E:XK):Prop
 |mk (n k:Int) (z0:vs=[.int n,.int k]) (z1:0<=k) (z2:k<=1000) (z3:∀ (i:Int) H',Dg H H'->0<=i->i<=100002->Q (.int i) H')
section
variable {P:ZO} {w:ZX} {K:zAa} {mg:ZM->Option ZE} {base:aB}
def Br (J:Pm P w K mg base):Jc J 1 "_law_mix" ["_law_cell_here","_law_k"] RQ:=Gj J.z J.qw ["_law_cell_here","_law_k","_law_primes","_law_number"] df λsc H Q hr h=>by
 obtain⟨n,k,rfl,h0,h1,q⟩:=h;refine⟨_,(Ab (Cn sc 2 (Bh (Ah Af (Ah Af (Ah Af (Ah Af (Ah Af (Ah Af (Bi Af Af)))))))))
   (Ab (Cn sc 3 (Ai Bd (Ai Eb (Ai Bf (Ai Bd (pv 0) (Ai Wf Af Af)) Af) Af) (Le K (pv 2) (Ai Bd (pv 1) Af))))
   (Ae (Aj (Ai Bd (Ai Bz (Ai Eb (pv 3) (Ai Bf (Ai Bf (pv 3) (Ai Eb Af (pv 1))) Af)) Af) Af))))),?_⟩
 refine⟨by show 8<=sizeLine;rw[zCH];decide,λp hp=>?_⟩;let s1:=Ac hp (.lst [.int 999983,.int 999979,.int 999961,.int 999959,.int 999953,.int 999931,.int 999917,.int 999907]);let e1:upd H p (.lst [.int 999983,.int 999979,.int 999961,.int 999959,.int 999953,.int 999931,.int 999917,.int 999907]) p=oL [.int 999983,.int 999979,.int 999961,.int 999959,.int 999953,.int 999931,.int 999917,.int 999907]:=Aa;generalize upd H p (.lst [.int 999983,.int 999979,.int 999961,.int 999959,.int 999953,.int 999931,.int 999917,.int 999907])=H1 at s1 e1;refine Gi [oN n,oN k,oR p,ZD] rfl ?_;let b9:=md (a:=n) (b:=(10:Int)^(9:Int).toNat) (by rw[e9];decide);rw[e9] at b9;let b8:=md (a:=k) (b:=8) (by lk);obtain⟨m,hm0,hm1,hm⟩:∃ m:Int,0<m/\m<=999983/\Pa [V.int 999983,.int 999979,.int 999961,.int 999959,.int 999953,.int 999931,.int 999917,.int 999907] (k%8)=ZC (.int m):=by
  generalize k%8=i at b8;let z:i=0\/i=1\/i=2\/i=3\/i=4\/i=5\/i=6\/i=7:=by lia
  rcases z with rfl|rfl|rfl|rfl|rfl|rfl|rfl|rfl
  .exact⟨_,by lk,by lk,rfl⟩
  .exact⟨_,by lk,by lk,rfl⟩
  .exact⟨_,by lk,by lk,rfl⟩
  .exact⟨_,by lk,by lk,rfl⟩
  .exact⟨_,by lk,by lk,rfl⟩
  .exact⟨_,by lk,by lk,rfl⟩
  .exact⟨_,by lk,by lk,rfl⟩
  .exact⟨_,by lk,by lk,rfl⟩
 refine⟨_,rfl,_,_,rfl,rfl,⟨by lk,by lk,by lk⟩,_,_,rfl,rfl,(by show (0:Int)<(10:Int)^(9:Int).toNat;rw[e9];decide),_,_,rfl,rfl,_,_,rfl,rfl,.inr ⟨by lk,by lk⟩,_,rfl,_,rfl,_,_,rfl,rfl,(by show (0:Int)<8;decide),p,_,_,_,rfl,rfl,Dp.of e1,hm,_,_,rfl,rfl,hm0,?_⟩;refine Io 0 999982 ⟨(md hm0).1,by let:=(md (a:=(n%(10:Int)^(9:Int).toNat+11)*48271) hm0).2;lia⟩ λx x0 x1=>?_;refine Gi [oN n,oN k,oR p,oN x] rfl ?_;refine⟨_,rfl,_,rfl,_,rfl,_,_,rfl,rfl,.inl ⟨by lk,by lk⟩,_,_,rfl,rfl,_,_,rfl,rfl,_,_,rfl,rfl,.inl ⟨by lia,by lia⟩,_,_,rfl,rfl,⟨by lk,by lk⟩,_,_,rfl,rfl,(by show (0:Int)<100003;decide),?_⟩;let b:=md (a:=x*(x+2*k+1)/7) (b:=100003) (by lk);exact q _ _ s1 b.1 b.2
end
abbrev Er:Pos:=⟨35,31,35,54⟩
def fW (g j:ZF):([("waiting",.ref g),("numbers",.ref j)]:List (ZM×V)).lookup ("waiting" : ZM)=ZC (.ref g):=rfl
def fN (j g:ZF):([("waiting",.ref j),("numbers",.ref g)]:List (ZM×V)).lookup ("numbers" : ZM)=ZC (.ref g):=rfl
def QA (g j:ZF):([("waiting",.ref g),("numbers",.ref j)]:List (ZM×V)).lookup ("put" : ZM)=ZD:=rfl
def QY (g j:ZF):([("waiting",.ref g),("numbers",.ref j)]:List (ZM×V)).lookup ("has_number" : ZM)=ZD:=rfl
def UB (g j:ZF):([("waiting",.ref g),("numbers",.ref j)]:List (ZM×V)).lookup ("up_to" : ZM)=ZD:=rfl
def pW (q g j:ZF):Ar ("waiting" : ZM) (.ref g) ([("waiting",.ref q),("numbers",.ref j)]:List (ZM×V))=([("waiting",.ref g),("numbers",.ref j)]:List (ZM×V)):=rfl
inductive OT (C:ZF) (vs:List V) (H:Hp) (Q:VK) (E:XK):Prop
 |mk (x dx:_) (z0:vs=[.ref x]) (z1:H x=oI C dx []) (z2:∀ wl nl H',(∀ b o,H b=ZC o->b≠x->H' b=ZC o)->H wl=ZD->H nl=ZD->H' x=oI C dx [("waiting",.ref wl),("numbers",.ref nl)]->H' wl=oL []->H' nl=ZC (.dK [])->Q .non H')
inductive QD (C:ZF) (vs:List V) (H:Hp) (Q:VK) (E:XK):Prop
 |mk (x wl nl kvs:_) (n:Int) (z0:vs=[.ref x,.int n]) (z1:Dy C H x wl nl) (z2:H nl=ZC (.dK kvs)) (z3:Q (.bl (Dx kvs (.inl n)).isSome) H)
def Sq (H:Hp) (t wl nl:ZF) (xs:List V) (kvs:List (Ev×V)) (d r n:Int) (v:V):Hp:=upd (upd (upd H t (.tup [.int d,.int r,.int n,v])) wl (.lst (xs++[.ref t]))) nl (.dK (Dz kvs (.inl n) (.bl ZI)))
inductive PQ (C:ZF) (vs:List V) (H:Hp) (Q:VK) (E:XK):Prop
 |mk (x wl nl xs kvs:_) (d r n:Int) (v:_) (z0:vs=[.ref x,.int d,.int r,.int n,v]) (z1:Dy C H x wl nl) (z2:H wl=oL xs) (z3:xs.length<1000) (z4:H nl=ZC (.dK kvs)) (z5:kvs.length<1000) (z6:∀ t,H t=ZD->Q .non (Sq H t wl nl xs kvs d r n v))
abbrev Wl:=ZF×LF
def EG (e:Wl):List V:=[.int e.2.d,.int 0,.int e.2.n,.ref e.1]
def AO (e:Wl):List Int:=[e.2.d,0,e.2.n]
def w0:Wl:=(0,⟨0,0,"","","",0⟩)
theorem ES {K:zAa}:∀ {xs} {es},TsAt EG H xs es->YQ K H xs (es.map AO)
 |[],[],_=>trivial
 |[],_::_,h=>h.elim
 |_::_,[],h=>h.elim
 |x::xs,e::es,⟨⟨t,ex,h⟩,r⟩=>⟨⟨t,e.2.d,0,e.2.n,.ref e.1,ex,Hx.of h,rfl⟩,ES r⟩
inductive QU (C T:ZF) (vs:List V) (H:Hp) (Q:VK) (E:XK):Prop
 |mk (x wl nl xs:_) (es:List Wl) (day:Int) (z0:vs=[.ref x,.int day]) (z1:Dy C H x wl nl) (z2:H wl=oL xs) (z3:TsAt EG H xs es) (z4:es.length<64) (z5:LamAt T Er Gp H) (z6:∀ wl' r ys zs es' H',(∀ b o,H b=ZC o->b≠T->b≠x->H' b=ZC o)->Dy C H' x wl' nl->H wl'=ZD->H r=ZD->wl'≠r->H' wl'=oL ys->TsAt EG H' ys (es.filter λe=>decide (day<e.2.d))->H' r=oL zs->TsAt EG H' zs es'->es'.Perm (es.filter λe=>decide (e.2.d<=day))->es'.Pairwise (OY AO)->LamAt T Er Gp H'->Q (.ref r) H')
section
variable {P:ZO} {w:ZX} {K:zAa} {mg:ZM->Option ZE} {base:aB} (J:Pm P w K mg base)
def QH:Jk J 1 "Days" CD ["self"] (OT CD):=N4 J.z J.au J.jq ["self"] df λsc H Q hr h=>by
 obtain⟨x,dx,rfl,hx,q⟩:=h;refine⟨_,(Ab (Bj (pv 0) (Bh Cs) rfl)
   (Ae (Bj (pv 0) Yj rfl))),?_⟩
 refine⟨zAw _,λj B=>?_⟩;let U:=Ac B (.lst []);let e1:upd H j (.lst []) j=oL []:=Aa;generalize upd H j (.lst [])=H1 at U e1;let L:j≠x:=(Ad hx B).symm;refine⟨_,rfl,x,CD,dx,_,rfl,U _ _ hx,J.au.cl,J.ar,by lk,?_⟩;let Z:upd H1 x (.ins CD dx (Ar "waiting" (.ref j) [])) x=oI CD dx [("waiting",.ref j)]:=Aa;let Y:∀ b o,H1 b=ZC o->b≠x->upd H1 x (.ins CD dx (Ar "waiting" (.ref j) [])) b=ZC o:=λb o z n=>by rw[Ag n];exact z
 generalize upd H1 x (.ins CD dx (Ar "waiting" (.ref j) []))=H2 at Z Y;intro F g;let S:=Ac g (.dK []);let e3:upd H2 F (.dK []) F=ZC (.dK []):=Aa;generalize upd H2 F (.dK [])=H3 at S e3;let M:F≠x:=(Ad Z g).symm;refine⟨_,rfl,x,CD,dx,_,rfl,S _ _ Z,J.au.cl,J.bw,by show 1<1000;decide,?_⟩;refine q j F _ (λb o z n=>?_) B ?_ ?_ ?_ ?_
 .rw[Ag n]
  exact S _ _ (Y _ _ (U _ _ z) n)
 .cases z:H F with
  |none=>rfl
  |some o=>rw[Y _ _ (U _ _ z) M] at g;cases g
 .rw[Aa];rfl
 .rw[Ag L]
  exact S _ _ (Y _ _ e1 L)
 .rw[Ag M]
  exact e3
def A1:Jm J 1 CD "has_number" ["self","number"] (QD CD):=JF J.z J.jh J.au.cl ["self","number"] df λsc H Q hr h=>by
 let g:=Rh hr;obtain⟨x,F,j,z,n,rfl,⟨dx,B⟩,L,q⟩:=h;refine⟨_,(Ae (Aj (NI (MP g (pv 1) (Bc (pv 0) rfl))))),?_⟩;exact⟨_,rfl,_,rfl,x,CD,dx,_,_,rfl,B,J.au.cl,J.bw,fN F j,j,_,rfl,XX.k (k:=.inl n) L,q⟩
def UQ:Jm J 1 CD "put" ["self","day","rank","number","row"] (PQ CD):=JF J.z J.og J.au.cl ["self","day","rank","number","row"] df λsc H Q hr h=>by
 let Y:=Rh hr;obtain⟨x,g,j,xs,S,d,r,n,v,rfl,⟨dx,Z⟩,F,lx,hn,lk,q⟩:=h;refine⟨_,(Ab (Bg (Cr (K:=K) rfl ZT aA ZZ Bw (Bc (pv 0) rfl) (Bn (Az (Ah (pv 1) (Ah (pv 2) (Bi (pv 3) (pv 4))))))))
   (Ae (Vv Y (Bc (pv 0) rfl) (pv 3) Em rfl))),?_⟩
 let B:4<=sizeLine:=by rw[zCH];decide
 refine⟨_,rfl,x,CD,dx,_,_,rfl,Z,J.au.cl,J.ar,fW g j,.inl ⟨rfl,_,Dp.of F⟩,_,rfl,_,rfl,_,rfl,_,rfl,B,λt ht=>?_⟩;let L:=Ac ht (.tup [.int d,.int r,.int n,v]);refine (x3 g xs _ (c5 rfl rfl (L _ _ F) (by rw[zCH];lia) ?_));let U:upd (upd H t (.tup [.int d,.int r,.int n,v])) g (.lst (xs++[.ref t])) x=oI CD dx [("waiting",.ref g),("numbers",.ref j)]:=by
  rw[Ag (At Z F (by intro z;cases z))];exact L _ _ Z
 let M:upd (upd H t (.tup [.int d,.int r,.int n,v])) g (.lst (xs++[.ref t])) j=ZC (.dK S):=NA (L _ _ hn) (L _ _ F) _;exact⟨_,rfl,x,CD,dx,_,_,rfl,U,J.au.cl,J.bw,fN g j,_,rfl,j,_,rfl,YT.k (k:=.inl n) M (by rw[zCH];lia),q t ht⟩
def Sj:By ["self","day","due"] ["self","day"] (Aq Ic):=⟨rfl,rfl,rfl,by ac_nf,rfl,by ac_nf,by ac_nf⟩
seal L2.PS L2.PSs L2.PE L2.PA
def Sl (J:Pm P w K mg base) {f c:ZF} (F:XS K "up_to" "Days.up_to" Ic f fd) (hc:fd.code=.ref c) (CH:PySem.W.CodeHd base c TT) (ab:BI mg base):XB P w K mg base Ew 5 f fd ["self","day"] (QU CD TT):=by
 let sc:=Sj;refine F.okC hc sc (λvs H Q E h=>?_) (λA outer s H vs Q E hr h=>?_)
 .obtain⟨_,_,_,_,_,_,rfl,_⟩:=h
  rfl
 obtain⟨x,wl,Y,xs,es,B,rfl,⟨dx,hx⟩,hw,en,le,ae,q⟩:=h;refine⟨_,(Ab (Ff (NC:=["entry","day"]) (own:=["entry"]) (cs:=["day"]) (ix:=[1]) (j:=2) sc.nd rfl rfl rfl (Dr.of rfl) rfl ⟨⟨rfl,.inl rfl,rfl⟩,trivial⟩ (Hc K (Bc (pv 0) rfl)) (λ_ _ _=>(Ke 0)) (λ_ _ _=>(Gq (Al Hr (Ea K (pv 0) Af) (pv 1) (Ap _)))) (λ_ _ _=>(pv 0)))
   (Ab (Bj (pv 0) (Cj (NC:=["entry","day"]) (own:=["entry"]) (cs:=["day"]) (ix:=[1]) rfl (Dr.of rfl) rfl ⟨⟨rfl,.inl rfl,rfl⟩,trivial⟩ (Hc K (Bc (pv 0) rfl)) (λ_ _ _=>(Ke 0)) (λ_ _ _=>(Gq (Al Oa (Ea K (pv 0) Af) (pv 1) (Ap _)))) (λ_ _ _=>(pv 0))) rfl)
   (Ae (Aj (V6 (pv 2) (QF ⟨rfl,rfl,rfl,by lk,rfl,by ac_nf,by ac_nf⟩ (λ_ _ _ _=>rfl)) (hr.mono (by lk)) rfl CH ab rfl rfl rfl rfl (J.z.nn J.cm)))))),?_⟩
 refine⟨_,rfl,x,CD,dx,_,_,rfl,hx,J.au.cl,J.ar,fW wl Y,wl,rfl,⟨_,Dp.of hw⟩,λp hp=>?_⟩;refine P6 (K:=K) (fv:=EG) (λe=>decide (e.2.d<=B)) hw hp en (by lia) (λt e L Q _ _ ht q=>?_) (λx L Q q=>⟨_,rfl,q⟩) (λzs ez=>?_)
 .exact⟨_,rfl,t,_,_,_,rfl,rfl,Hx.of ht,rfl,_,rfl,_,_,rfl,rfl,_,rfl,q⟩
 let Z:=Ac hp (.lst zs);let e1:upd H p (.lst zs) p=oL zs:=Aa;refine Gi [oR x,oN B,oR p] rfl ?_;generalize upd H p (.lst zs)=H1 at Z e1;refine⟨_,rfl,x,CD,dx,_,_,rfl,Z _ _ hx,J.au.cl,J.ar,fW wl Y,wl,rfl,⟨_,Dp.of (Z _ _ hw)⟩,λp2 S=>?_⟩;refine P6 (K:=K) (fv:=EG) (λe=>decide (B<e.2.d)) (Z _ _ hw) S (en.mono (An Z)) (by lia) (λt e L Q _ _ ht q=>?_) (λx L Q q=>⟨_,rfl,q⟩) (λys ey=>?_)
 .exact⟨_,rfl,t,_,_,_,rfl,rfl,Hx.of ht,rfl,_,rfl,_,_,rfl,rfl,_,rfl,q⟩
 let s2:=Ac S (.lst ys);let e2:upd H1 p2 (.lst ys) p2=oL ys:=Aa;generalize upd H1 p2 (.lst ys)=L at s2 e2;let g:=Z.trans s2;let ad:p≠x:=(Ad hx hp).symm;let M:p2≠x:=(Ad (Z _ _ hx) S).symm;let ag:p≠p2:=Ad e1 S;refine⟨_,rfl,x,CD,dx,_,rfl,g _ _ hx,J.au.cl,J.ar,by show 2<1000;decide,?_⟩;rw[pW];let e3:upd L x (.ins CD dx [("waiting",.ref p2),("numbers",.ref Y)]) x=oI CD dx [("waiting",.ref p2),("numbers",.ref Y)]:=Aa;let k3:∀ b o,L b=ZC o->b≠x->upd L x (.ins CD dx [("waiting",.ref p2),("numbers",.ref Y)]) b=ZC o:=λb o z n=>by rw[Ag n];exact z
 let U:LamAt TT Er Gp (upd L x (.ins CD dx [("waiting",.ref p2),("numbers",.ref Y)])):=(ae.same g).ins (g _ _ hx) _;let t3:Z7 L (upd L x (.ins CD dx [("waiting",.ref p2),("numbers",.ref Y)])):=λt zs z=>by
  rw[Ag (At z (g _ _ hx) (by intro y;cases y))];exact z
 generalize upd L x (.ins CD dx [("waiting",.ref p2),("numbers",.ref Y)])=H3 at e3 k3 U t3;let aa:TsAt EG H3 zs (es.filter λe=>decide (e.2.d<=B)):=(ez.mono (An g)).mono t3;let ac:TsAt EG H3 ys (es.filter λe=>decide (B<e.2.d)):=(ey.mono (An s2)).mono t3;let lz:=aa.len;let lf:(es.filter λe=>decide (e.2.d<=B)).length<=es.length:=zAO _ _;refine⟨_,rfl,p,zs,_,rfl,Dp.of (k3 _ _ (s2 _ _ e1) ad),ES aa,by lia,U,λpm a H4 na S4 L4 hp hu ha=>?_⟩;let hT:∃ ps,H3 TT=ZC (.tbl ps):=by
  rcases U with z|⟨_,z,_⟩
  .exact⟨_,z⟩
  .exact⟨_,z⟩
 obtain⟨ah,hT⟩:=hT;let nT:∀ b o,H3 b=ZC o->(∀ ps,o≠.tbl ps)->b≠TT:=λb o z n y=>by rw[y,hT] at z;cases z;exact n _ rfl
 let t4:Z7 H3 H4:=λt us z=>S4 _ _ z (nT _ _ z λ_ y=>by cases y);rw[lz] at hp hu;obtain⟨af,pw⟩:=XR w0 AO hp hu;refine q p2 a ys _ _ H4 (λb o z n1 n2=>S4 _ _ (k3 _ _ (g _ _ z) n2) n1) ⟨dx,S4 _ _ e3 (nT _ _ e3 λ_ y=>by cases y)⟩ (Z.free S) ?_ ?_ (S4 _ _ (k3 _ _ e2 M) (nT _ _ (k3 _ _ e2 M) λ_ y=>by cases y)) (ac.mono t4) ha ?_ af pw L4
 .cases z:H a with
  |none=>rfl
  |some o=>
   by_cases nx:a=x
   .rw[nx,e3] at na;cases na
   .rw[k3 _ _ (g _ _ z) nx] at na;cases na
 .intro z
  rw[<- z,k3 _ _ e2 M] at na;cases na
 .exact (TsAt.pick w0 aa _ λi hi=>by let:=QP hp i hi;lia).mono t4
def NM:Jm J 5 CD "up_to" ["self","day"] (QU CD TT):=WV J.kb J.sg J.au.cl (λf fd c F e h=>Sl J F e h J.bi) bd
end
def Fp (l:List Nat):Prop:=(Da 46 l).length<=4/\∀ p∈Da 46 l,Go p
instance (l:List Nat):Decidable (Fp l):=by unfold Fp;exact inferInstance
def F8:V->Bool
 |.str z=>decide (Fp z.cps.toList)
 |_=>ZK
set_option tactic.hygienic true in
def FU {c:Nat}:∀ {l p:List Nat},p∈Da c l->p.length<=l.length:=by
 intro l
 induction l with
 |nil=>
  intro p g;let e:p=[]:=by simpa [Da] using g
  rw[e];exact zAl _
 |cons a r ih=>
  intro p g;unfold Da at g
  split at g
  .rcases zAj.mp g with e|g
   .rw[e];exact zAw _
   .exact iL (ih g)
  .split at g
   .have e:p=[a]:=by simpa using g
    rw[e,zAf,zAf];exact zBU (zAw _)
   .rename_i q t z
    rcases zAj.mp g with e|g
    .rw[e,zAf,zAf]
     exact zBU (ih (by rw[z];exact zAd))
    .exact iL (ih (by rw[z];exact zAb _ g))
inductive FQ (K:zAa) (vs:List V) (H:Hp) (Q:VK) (E:XK):Prop
 |mk (x T:_) (z0:vs=[x]) (z1:Ho K H x (.type T)) (z2:VJ x) (z3:∀ H',Dg H H'->Q (.bl (F8 x)) H')
def IX (n d:Int) (ev th ca:List Nat) (c:Int):Prop:=R0 1000000000 (.int n)=ZI/\R0 1000000 (.int d)=ZI/\(Fp ev/\ev.length<=900)/\Go th/\Go ca/\R0 999999999999 (.int c)=ZI/\1<=c
inductive EL (vs:List V) (H:Hp) (Q:VK) (E:XK):Prop
 |mk (n d:Int) (ev th ca:List Nat) (c:Int) (z0:vs=[.int n,.int d,.str (tx ev),.str (tx th),.str (tx ca),.int c]) (z1:IX n d ev th ca c) (z2:∀ p H',Dg H H'->H p=ZD->H' p=oT [.int n,.int d,.str (tx ev),.str (tx th),.str (tx ca),.int c]->Q (.ref p) H')
def KQ {l:List Nat} (_:Fp l) (h:l.length<=900):l.length<=900:=h
section
seal L2.PS L2.PSs L2.PE
variable {P:ZO} {w:ZX} {K:zAa} {mg:ZM->Option ZE} {base:aB} (J:Pm P w K mg base)
def X4:Jc J 3 "is_event" ["thing"] (FQ K):=Gj J.z J.d3 ["thing","names","name"] df λsc H Q hr h=>by
 obtain⟨x,ty,rfl,B,ok,q⟩:=h;refine⟨_,(Ab (Ax (Cg (Bv (Pg Dl J.z J.ah (Bi (pv 0) (Th "str" rfl (J.z.nn J.j8) rfl)))))
    (Ae (Aj Em))
    Am)
   (Ab (Cn sc 1 (Cr (K:=K) rfl kB PySem.F.slot_str_split PySem.F.type_str_split DZ (pv 0) (Bn Be)))
   (Ab (Ax (Al Oa (Ec (Ds (K:=K) rfl) rfl (J.z.nn J.b7) (show zCI _=ZC (.builtin "len") from rfl) (Bn (pv 1))) (Qq J.z J.ii) (Ap _))
    (Ae (Aj Em))
    Am)
   (Ab (Bq ZV rfl (Hc K (pv 1)) (Et sc 2)
    (Ae (Ax (Cg (Bv (Cm (Jg J) hr (Bn (pv 2)))))
    (Ae (Aj Em))
    Am)))
   (Ae (Aj Em)))))),?_⟩
 refine⟨_,rfl,_,_,_,_,_,rfl,Tg,B,O9 B,_,rfl,?_⟩;cases x with
 |str z=>
  let hz:=ok z rfl;obtain⟨l,rfl⟩:∃ l,z=tx l:=⟨_,(Kj z).symm⟩;let hl:l.length<=900:=by rw[<- Es];exact hz
  let eq:F8 (.str (tx l))=decide (Fp l):=rfl;rw[eq] at q;refine Du ⟨_,rfl,rfl,_,_,rfl,rfl,rfl,by rw[zCH];omega,λp hp=>?_⟩;let ed:(aK ".")=tx [46]:=by ac_nf
  let es:iV (tx l) (aK ".")=(Da 46 l).map tx:=by rw[ed,W3]
  rw[es];let M:=Ac hp (.lst (bI V.str ((Da 46 l).map tx)));let h1:upd H p (.lst (bI V.str ((Da 46 l).map tx))) p=oL (bI V.str ((Da 46 l).map tx)):=Aa;generalize upd H p (.lst (bI V.str ((Da 46 l).map tx)))=H1 at M h1;let Y:(bI V.str ((Da 46 l).map tx)).length=(Da 46 l).length:=by rw[zAc,zAc]
  refine⟨_,rfl,p,_,rfl,.inl (Dp.of h1),_,_,rfl,rfl,_,rfl,?_⟩;by_cases c4:(4:Int)<(bI V.str ((Da 46 l).map tx)).length
  .refine dT c4 ?_
   rw[ZQ (λy:Fp l=>by let:=y.1;rw[Y] at c4;omega)] at q;exact q _ M
  refine dF c4 ⟨_,rfl,p,rfl,⟨_,Dp.of h1⟩,Hs (K:=K) (a:=p) (xs:=bI V.str ((Da 46 l).map tx)) (λi σ L=>((∃ o,σ=[oS (tx l),oR p,o])/\L=H1)/\∀ j y,j<i->(Da 46 l)[j]?=ZC y->Go y) ⟨⟨⟨ZD,rfl⟩,rfl⟩,λ_ _ z=>ZR z (zBA _)⟩ (λi σ L _ ⟨⟨_,e⟩,_⟩=>by rw[e];exact Dp.of h1) ?_ ?_⟩
  .rintro i y σ L hi ⟨⟨⟨o,rfl⟩,rfl⟩,g⟩
   rw[zAx,zAx] at hi;cases F:(Da 46 l)[i]? with
   |none=>rw[F] at hi;cases hi
   |some c=>
    rw[F] at hi;cases hi;let lc:c.length<=900:=zAD (FU (zAz F)) hl;refine⟨_,rfl,_,_,rfl,.str _,(λz e=>by cases e;rw[Es];exact lc),_,rfl,?_⟩;show if (!decide (Go c))=ZI then _ else _;by_cases S:Go c
    .refine nF S ⟨⟨⟨_,rfl⟩,rfl⟩,λj d Z U=>?_⟩
     by_cases e:j=i
     .subst e
      rw[F] at U;cases U;exact S
     .exact g j d (by omega) U
    .refine nT S ?_
     rw[ZQ (λy:Fp l=>S (y.2 _ (zAz F)))] at q;exact q _ M
  .rintro σ L ⟨⟨⟨o,rfl⟩,rfl⟩,g⟩
   rw[ZN (show Fp l from ⟨by rw[Y] at c4;omega,λy hy=>by obtain⟨j,Z,e⟩:=zAG hy;exact g j y (by rw[Y];exact Z) (by rw[zAe Z,e])⟩)] at q;exact q _ M
 |_=>exact Jb (q _ (Dg.refl _))
def Rj:Jc J 2 "is_number" ["thing"] (AI K 1000000000):=Gj J.z J.d4 ["thing"] df λsc H Q hr h=>by
 obtain⟨x,ty,rfl,z,q⟩:=h;refine⟨_,(Ae (Aj (Rc (Cm (Jx J) hr (Bn (pv 0))) (Nd (Jo Hr Hr Af (pv 0) (Qq J.z J.gm)))))),?_⟩;refine⟨_,rfl,_,_,rfl,z,_,rfl,?_⟩;cases x with
 |int i=>
  refine Jb ⟨_,rfl,_,_,rfl,rfl,_,rfl,?_⟩;by_cases j:(0:Int)<=i
  .refine dT j (x2 _ _ (c3 rfl rfl ?_))
   show Q (.bl (decide (i<=1000000000))) H;let e:decide (0<=i/\i<=1000000000)=decide (i<=1000000000):=by
    by_cases g:i<=1000000000
    .rw[ZN g,ZN ⟨j,g⟩]
    .rw[ZQ g,ZQ (λy=>g y.2)]
   rw[<- e];exact q
  .refine dF j ?_
   rw[show R0 1000000000 (.int i)=ZK from ZQ (λy=>j y.1)] at q;exact q
 |_=>exact Du q
def O1:Jc J 2 "is_day" ["thing"] (AI K 1000000):=Gj J.z J.d5 ["thing"] df λsc H Q hr h=>by
 obtain⟨x,ty,rfl,z,q⟩:=h;refine⟨_,(Ae (Aj (Rc (Cm (Jx J) hr (Bn (pv 0))) (Nd (Jo Hr Hr Af (pv 0) (Qq J.z J.j7)))))),?_⟩;refine⟨_,rfl,_,_,rfl,z,_,rfl,?_⟩;cases x with
 |int i=>
  refine Jb ⟨_,rfl,_,_,rfl,rfl,_,rfl,?_⟩;by_cases j:(0:Int)<=i
  .refine dT j (x2 _ _ (c3 rfl rfl ?_))
   show Q (.bl (decide (i<=1000000))) H;let e:decide (0<=i/\i<=1000000)=decide (i<=1000000):=by
    by_cases g:i<=1000000
    .rw[ZN g,ZN ⟨j,g⟩]
    .rw[ZQ g,ZQ (λy=>g y.2)]
   rw[<- e];exact q
  .refine dF j ?_
   rw[show R0 1000000 (.int i)=ZK from ZQ (λy=>j y.1)] at q;exact q
 |_=>exact Du q
def BE:Jc J 4 "loss_of" ["number","day","event","thing","cause","cents"] EL:=Gj J.z J.d8 ["number","day","event","thing","cause","cents"] df λsc H Q hr h=>by
 obtain⟨n,d,S,th,M,c,rfl,g,q⟩:=h;obtain⟨U,Y,j,B,L,g5,g6⟩:=g;refine⟨_,(Ab (Ax (Cg (Bv (Cm (Rj J) hr (Bn (pv 0)))))
    (Ae Bu)
    Am)
   (Ab (Ax (Cg (Bv (Cm (O1 J) hr (Bn (pv 1)))))
    (Ae Bu)
    Am)
   (Ab (Ax (Cg (Bv (Cm (X4 J) hr (Bn (pv 2)))))
    (Ae Bu)
    Am)
   (Ab (Ax (PW.pt (Kf (Cg (Bv (Cm (Jg J) hr (Bn (pv 3))))) (Gv (Cg (Bv (Cm (Jg J) hr (Bn (pv 4))))))))
    (Ae Bu)
    Am)
   (Ab (Ax (PW.pt (Kf (Cg (Bv (Cm (Qp J) hr (Bn (pv 5))))) (Gv (Al Hd (pv 5) Af (Ap _)))))
    (Ae Bu)
    Am)
   (Ae (Aj (Az (Ah (pv 0) (Ah (pv 1) (Ah (pv 2) (Ah (pv 3) (Bi (pv 4) (pv 5)))))))))))))),?_⟩
 refine⟨_,rfl,_,_,rfl,.int _,_,rfl,bF (by rw[show R0 1000000000 (.int n)=ZI from U];rfl) ?_⟩;refine⟨_,rfl,_,_,rfl,.int _,_,rfl,bF (by rw[show R0 1000000 (.int d)=ZI from Y];rfl) ?_⟩;refine⟨_,rfl,_,_,rfl,.str _,C2 (KQ j.1 j.2),λH1 F=>⟨_,rfl,bF (by rw[show F8 (.str (tx S))=ZI from ZN j.1];rfl) ?_⟩⟩;let l3:th.length<=900:=by let:=B.1.2;omega
 let Z:M.length<=900:=by let:=L.1.2;omega
 refine⟨_,rfl,_,_,rfl,.str _,C2 l3,_,rfl,bF (by rw[show Gr (.str (tx th))=ZI from ZN B];rfl) ⟨_,rfl,_,_,rfl,.str _,C2 Z,_,rfl,bF (by rw[show Gr (.str (tx M))=ZI from ZN L];rfl) ?_⟩⟩;refine⟨_,rfl,_,_,rfl,.int _,_,rfl,bF (by rw[show R0 999999999999 (.int c)=ZI from g5];rfl) ⟨_,rfl,_,_,rfl,rfl,_,rfl,dF (by omega) ?_⟩⟩;exact⟨_,rfl,_,rfl,_,rfl,_,rfl,_,rfl,_,rfl,Dq (by show 6<=1000;decide),λp z=>q p _ (F.trans (Ac z _)) (F.free z) Aa⟩
end
def GO (n:ZM):Prop:=∃ l,n=tx l/\Go l
def HG:Co->Prop
 |.alw=>True
 |.cau n=>GO n
 |.thi n=>GO n
 |.day a b=>0<=a/\a<=b/\b<=1000000
 |.ovr m=>0<=m/\m<=999999999999
def Qr {H H':Hp} {p:ZF} {o:HO} (h:H p=ZD) (s:Dg H H'):Dg H (upd H' p o):=λb u e=>by rw[Ag (Ad e h)];exact s _ _ e
def Qt {y d:ZF} (j:H y=ZD) (g:H d=ZD):Dg H (upd (upd H d o1) y o2):=λb o e=>by rw[Ag (Ad e j),Ag (Ad e g)];exact e
def Gb {y d:ZF} (g:H y=ZD) (j:H d=ZD):Dg H (upd (upd (upd H d o1) y o2) y o3):=λb o e=>by rw[Ag (Ad e g),Ag (Ad e g),Ag (Ad e j)];exact e
def XQ (p:ZF) (H:Hp):Hp:=λb=>if b=p then ZD else H b
def XQ.at {p b:ZF} {o:HO} (h:XQ p H b=ZC o):b≠p/\H b=ZC o:=by
 unfold XQ at h;by_cases e:b=p
 .rw[ZJ e] at h;cases h
 .rw[ZH e] at h;exact⟨e,h⟩
def XQ.of {p b:ZF} {o:HO} (n:b≠p) (h:H b=ZC o):XQ p H b=ZC o:=by
 unfold XQ;rw[ZH n];exact h
abbrev IN:=ZM×ZM×Int×Int
def Ly (r:IN):List V:=[.str r.1,.str r.2.1,.int r.2.2.1,.int r.2.2.2]
def okC (r:IN):Prop:=(r.1="own" \/ r.1="layer" \/ r.1="limit")/\Ov r.2.1/\(0<=r.2.2.1/\r.2.2.1<=120000000230)/\(r.1="layer"->r.2.2.1<r.2.2.2/\r.2.2.2<=240000000461)
def Hl (r:IN):Cl:=if r.1="own" then .own r.2.1 r.2.2.1 else if r.1="layer" then .lay r.2.1 r.2.2.1 r.2.2.2 else .lim r.2.1 r.2.2.1
inductive SA (vs:List V) (H:Hp) (Q:VK) (E:XK):Prop
 |mk (t r:_) (z0:vs=[.ref t]) (z1:H t=oT (Ly r)) (z2:okC r) (z3:∀ p H',Dg H H'->H p=ZD->YB H' p (Hl r)->Q (.ref p) H')
section
variable {P:ZO} {w:ZX} {K:zAa} {mg:ZM->Option ZE} {base:aB}
def Wu (J:Pm P w K mg base):Jc J 6 "_law_clause" ["_law_clause_here"] (SA):=Gj J.z J.rh ["_law_clause_here","_law_word","_law_by","_law_low","_law_high"] df λsc H Q hr h=>by
 obtain⟨t,⟨wd,y,lo,hi⟩,rfl,ht,⟨hw,Z,⟨z,m1⟩,U⟩,q⟩:=h;refine⟨_,(Ab (D0 (pv 0) (Cz (K:=K) (n:=4) rfl rfl (Ao (Et sc 1) (Ao (Et sc 2) (Ao (Et sc 3) (Ao (Et sc 4) Ct))))))
   (Ab (Ax (Al Cc (pv 1) Be (Ap _))
    (Ae (Aj (Cy (UY J) (hr.mono (by lk)) rfl (Bi (pv 2) (pv 3)))))
    Am)
   (Ab (Ax (Al Cc (pv 1) Be (Ap _))
    (Ae (Aj (Cy (JW J) (hr.mono (by lk)) rfl (Ah (pv 2) (Bi (pv 3) (pv 4))))))
    Am)
   (Ae (Aj (Cy (LB J) (hr.mono (by lk)) rfl (Bi (pv 2) (pv 3)))))))),?_⟩
 let z:0<=lo:=z;let m1:lo<=120000000230:=m1;refine (vE rfl (x2 t _ (c4 rfl (Hx.of ht) rfl (vC rfl (vC rfl (vC rfl (vC rfl (⟨rfl,?_⟩))))))));refine (vE rfl ⟨rfl,vE rfl ?_⟩);by_cases L:wd="own"
 .refine dT (aC V.str L) (vE rfl (vE rfl (λp dx j g M=>⟨p,dx,y,lo,rfl,Aa,Z,⟨z,by lia⟩,(λB F D=>⟨rfl,q p B (Fx j g F) j ?_⟩)⟩)))
  unfold Hl;rw[ZJ (by exact L)];exact D
 refine dF (λe=>L (V.str.inj e)) (vE rfl ⟨rfl,vE rfl ?_⟩);by_cases S:wd="layer"
 .obtain⟨Y,q2⟩:=U S
  let Y:lo<hi:=Y;let q2:hi<=240000000461:=q2;refine dT (aC V.str S) (vE rfl (vE rfl (vE rfl (λp dx j g M=>⟨p,dx,y,lo,hi,rfl,Aa,Z,⟨z,by lia⟩,⟨by lia,by lia⟩,Y,(λB F D=>⟨rfl,q p B (Fx j g F) j ?_⟩)⟩))));unfold Hl;rw[ZH (by exact L),ZJ (by exact S)];exact D
 .refine dF (λe=>S (V.str.inj e)) (vE rfl (vE rfl (λp dx j g M=>⟨p,dx,y,lo,rfl,Aa,Z,⟨z,by lia⟩,(λB F D=>⟨rfl,q p B (Fx j g F) j ?_⟩)⟩)))
  unfold Hl;rw[ZH (by exact L),ZH (by exact S)];exact D
end
inductive N0 (m:Nat) (vs:List V) (H:Hp) (Q:VK) (E:XK):Prop
 |mk (v t:_) (z0:vs=[v]) (z1:Lr H v t) (z2:Nc t<m) (z3:Xf HG t) (z4:∀ u H',Dg H H'->XA κ (Nw H H') u t->Q u H')
section
seal L2.PS L2.PSs L2.PE L2.PA
variable {P:ZO} {w:ZX} {K:zAa} {mg:ZM->Option ZE} {base:aB}
def Lf (J:Pm P w K mg base) {f:ZF} (F:XS K "_law_condition" "_law_condition" He f fd) {m:Nat} (C_law_condition:MW P w K mg base (m+2) "_law_condition" ["_law_cond_here"] (N0 m)) (U:VX K mg "Condition" Do):XB P w K mg base Ew (m+1+2) f fd ["_law_cond_here"] (N0 (m+1)):=Os F ["_law_cond_here"] df λsc H Q hr h=>by
 obtain⟨v,t,rfl,L,hg,ok,q⟩:=h;refine⟨_,(Ab (Ax (Al Cc (Ea K (pv 0) Af) Be (Ap _))
    (Ae (Aj (Cy (AA J) (hr.mono (by lia)) rfl (Bn (Ea K (pv 0) Af)))))
    Am)
   (Ab (Ax (Al Cc (Ea K (pv 0) Af) Be (Ap _))
    (Ae (Aj (Cy (AU J) (hr.mono (by lia)) rfl (Bn (Ea K (pv 0) Af)))))
    Am)
   (Ab (Ax (Al Cc (Ea K (pv 0) Af) Be (Ap _))
    (Ae (Aj (Cy (FA J) (hr.mono (by lia)) rfl (Bi (Ea K (pv 0) Af) (Ea K (pv 0) Af)))))
    Am)
   (Ab (Ax (Al Cc (Ea K (pv 0) Af) Be (Ap _))
    (Ae (Aj (Cy (SN J) (hr.mono (by lia)) rfl (Bn (Ea K (pv 0) Af)))))
    Am)
   (Ab (Ax (Al Cc (Ea K (pv 0) Af) Be (Ap _))
    (Ae (Aj (Cy (TJ J) (hr.mono (by lia)) rfl (Bn (Mm C_law_condition (hr.mono (by lia)) rfl (Bn (Ea K (pv 0) Af)))))))
    Am)
   (Ab (Ax (Al Cc (Ea K (pv 0) Af) Be (Ap _))
    (Ae (Aj (Cy (TC J) (hr.mono (by lia)) rfl (Bn (Cj (NC:=["_law_part"]) (own:=["_law_part"]) (cs:=[]) (ix:=[]) rfl (Dr.of rfl) rfl trivial (Hc K (Ea K (pv 0) Af)) (λ_ _ _=>(Ke 0)) (λ_ _ _=>Ca) (λ_ _ _=>(Mm C_law_condition (hr.mono (by lia)) rfl (Bn (pv 0)))))))))
    Am)
   (Ab (Ax (Al Cc (Ea K (pv 0) Af) Be (Ap _))
    (Ae (Aj (Cy (OS J) (hr.mono (by lia)) rfl (Bn (Cj (NC:=["_law_part"]) (own:=["_law_part"]) (cs:=[]) (ix:=[]) rfl (Dr.of rfl) rfl trivial (Hc K (Ea K (pv 0) Af)) (λ_ _ _=>(Ke 0)) (λ_ _ _=>Ca) (λ_ _ _=>(Mm C_law_condition (hr.mono (by lia)) rfl (Bn (pv 0)))))))))
    Am)
   (Ae (Aj (FS U rfl)))))))))),?_⟩
 let g:∀ {y z:ZM},y≠z->¬ V.str y=V.str z:=λh e=>h (V.str.inj e);cases t with
 |«at» c=>
  cases c with
  |alw=>
   unfold Lr at L;obtain⟨p,rfl,j⟩:=L;refine (vE rfl (vI rfl rfl (Hx.of j) rfl ⟨rfl,vE rfl (dF (g (by ac_nf)) ?_)⟩));refine (vE rfl (vI rfl rfl (Hx.of j) rfl ⟨rfl,vE rfl (dF (g (by ac_nf)) ?_)⟩));refine (vE rfl (vI rfl rfl (Hx.of j) rfl ⟨rfl,vE rfl (dF (g (by ac_nf)) ?_)⟩));refine (vE rfl (vI rfl rfl (Hx.of j) rfl ⟨rfl,vE rfl (dF (g (by ac_nf)) ?_)⟩));refine (vE rfl (vI rfl rfl (Hx.of j) rfl ⟨rfl,vE rfl (dF (g (by ac_nf)) ?_)⟩));refine (vE rfl (vI rfl rfl (Hx.of j) rfl ⟨rfl,vE rfl (dF (g (by ac_nf)) ?_)⟩));refine (vE rfl (vI rfl rfl (Hx.of j) rfl ⟨rfl,vE rfl (dF (g (by ac_nf)) ?_)⟩));refine λy dx B Y ne=>q _ _ (Qt B Y) ?_;unfold XA;exact (x2 y dx ⟨rfl,Nw.of B Aa⟩)
  |cau n=>
   unfold Lr at L;obtain⟨p,rfl,j⟩:=L;refine (vE rfl (vI rfl rfl (Hx.of j) rfl ⟨rfl,vE rfl (dT rfl (vE rfl (vI rfl rfl (Hx.of j) rfl (λy dx B Y ne=>⟨y,dx,_,rfl,Aa,rfl,(q _ _ (Gb B Y) ?_)⟩))))⟩));unfold XA;exact (x2 y dx ⟨rfl,Nw.of B Aa⟩)
  |thi n=>
   unfold Lr at L;obtain⟨p,rfl,j⟩:=L;refine (vE rfl (vI rfl rfl (Hx.of j) rfl ⟨rfl,vE rfl (dF (g (by ac_nf)) ?_)⟩));refine (vE rfl (vI rfl rfl (Hx.of j) rfl ⟨rfl,vE rfl (dT rfl (vE rfl (vI rfl rfl (Hx.of j) rfl (λy dx B Y ne=>⟨y,dx,_,rfl,Aa,rfl,(q _ _ (Gb B Y) ?_)⟩))))⟩));unfold XA;exact (x2 y dx ⟨rfl,Nw.of B Aa⟩)
  |day a b=>
   unfold Lr at L;obtain⟨p,rfl,j⟩:=L;refine (vE rfl (vI rfl rfl (Hx.of j) rfl ⟨rfl,vE rfl (dF (g (by ac_nf)) ?_)⟩));refine (vE rfl (vI rfl rfl (Hx.of j) rfl ⟨rfl,vE rfl (dF (g (by ac_nf)) ?_)⟩));refine (vE rfl (vI rfl rfl (Hx.of j) rfl ⟨rfl,vE rfl (dT rfl (vE rfl (vI rfl rfl (Hx.of j) rfl (vE rfl (vI rfl rfl (Hx.of j) rfl (λy dx B Y ne=>⟨y,dx,_,_,rfl,Aa,(λH' kp hy=>⟨rfl,q _ _ (λz o e=>?_) ?_⟩)⟩))))))⟩))
   .have n1:=Ad e B
    rw[kp z n1,Ag n1,Ag (Ad e Y)];exact e
   .unfold XA
    exact (x2 y dx ⟨rfl,Nw.of B hy⟩)
  |ovr c=>
   unfold Lr at L;obtain⟨p,rfl,j⟩:=L;refine (vE rfl (vI rfl rfl (Hx.of j) rfl ⟨rfl,vE rfl (dF (g (by ac_nf)) ?_)⟩));refine (vE rfl (vI rfl rfl (Hx.of j) rfl ⟨rfl,vE rfl (dF (g (by ac_nf)) ?_)⟩));refine (vE rfl (vI rfl rfl (Hx.of j) rfl ⟨rfl,vE rfl (dF (g (by ac_nf)) ?_)⟩));refine (vE rfl (vI rfl rfl (Hx.of j) rfl ⟨rfl,vE rfl (dT rfl (vE rfl (vI rfl rfl (Hx.of j) rfl (λy dx B Y ne=>⟨y,dx,_,rfl,Aa,rfl,(q _ _ (Gb B Y) ?_)⟩))))⟩));unfold XA;exact (x2 y dx ⟨rfl,Nw.of B Aa⟩)
 |no t=>
  unfold Lr at L;obtain⟨p,wt,rfl,j,L⟩:=L;unfold Nc at hg;unfold Xf at ok;refine (vE rfl (vI rfl rfl (Hx.of j) rfl ⟨rfl,vE rfl (dF (g (by ac_nf)) ?_)⟩));refine (vE rfl (vI rfl rfl (Hx.of j) rfl ⟨rfl,vE rfl (dF (g (by ac_nf)) ?_)⟩));refine (vE rfl (vI rfl rfl (Hx.of j) rfl ⟨rfl,vE rfl (dF (g (by ac_nf)) ?_)⟩));refine (vE rfl (vI rfl rfl (Hx.of j) rfl ⟨rfl,vE rfl (dF (g (by ac_nf)) ?_)⟩));refine (vE rfl (vI rfl rfl (Hx.of j) rfl ⟨rfl,vE rfl (dT rfl (vE rfl (vI rfl rfl (Hx.of j) rfl ⟨wt,t,rfl,L,(by lia),ok,(λu H1 s1 cd y dx B Y ne=>⟨y,dx,_,rfl,Aa,rfl,(q _ _ (s1.trans (Gb B Y)) ?_)⟩)⟩)))⟩));unfold XA;exact (x3 y dx u (c3 rfl (Nw.of (s1.free B) Aa) (cd.same (Nw.grow λb o _ e=>Gb B Y _ _ e))))
 |al ts=>
  unfold Lr at L;obtain⟨p,a,vs,rfl,j,ha,ac⟩:=L;unfold Nc at hg;let aa:=ac.len;unfold Xf at ok;obtain⟨_,ae,ad⟩:=ok;refine (vE rfl (vI rfl rfl (Hx.of j) rfl ⟨rfl,vE rfl (dF (g (by ac_nf)) ?_)⟩));refine (vE rfl (vI rfl rfl (Hx.of j) rfl ⟨rfl,vE rfl (dF (g (by ac_nf)) ?_)⟩));refine (vE rfl (vI rfl rfl (Hx.of j) rfl ⟨rfl,vE rfl (dF (g (by ac_nf)) ?_)⟩));refine (vE rfl (vI rfl rfl (Hx.of j) rfl ⟨rfl,vE rfl (dF (g (by ac_nf)) ?_)⟩));refine (vE rfl (vI rfl rfl (Hx.of j) rfl ⟨rfl,vE rfl (dF (g (by ac_nf)) ?_)⟩));refine (vE rfl (vI rfl rfl (Hx.of j) rfl ⟨rfl,vE rfl (dT rfl (vE rfl (vI rfl rfl (Hx.of j) rfl ⟨a,rfl,⟨_,Dp.of ha⟩,λpc ab=>?_⟩)))⟩));refine Bk (K:=K) (a:=a) (xs:=vs) (λi ys M=>M pc=oL ys/\ys.length=i/\Dg H M/\CdsAt κ (XQ pc (Nw H M)) ys (ts.take i)) ⟨Aa,rfl,Ac ab _,by rw[zBe];unfold CdsAt;trivial⟩ (λi ys M _ ⟨h1,h2,S,_⟩=>⟨h1,by lia,Dp.of (S _ _ ha)⟩) (by rw[zCH];lia) ?_ ?_
  .rintro i v ys M hi ⟨h1,h2,S,h4⟩
   obtain⟨t,et,L⟩:=ac.get hi;refine (vE rfl ⟨v,t,rfl,(L.same S),(Ph (by lia) i et),(Q3 ad t (zAz et)),(λu H6 s6 cd=>⟨s6 _ _ h1,rfl,Aa,by rw[zAm,h2];rfl,Qr ab (S.trans s6),?_⟩)⟩);rw[Bb et];refine CdsAt.snoc (h4.same λb o e=>?_) (cd.same λb o e=>?_)
   .obtain⟨n,e⟩:=XQ.at e
    obtain⟨Z,e⟩:=Nw.at e;exact XQ.of n (Nw.of Z (by rw[Ag n];exact s6 _ _ e))
   .obtain⟨Z,e⟩:=Nw.at e
    let n:b≠pc:=λz=>by rw[z,h1] at Z;cases Z
    exact XQ.of n (Nw.of (S.free Z) (by rw[Ag n];exact e))
  .rintro ys M ⟨h1,h2,S,h4⟩
   rw[aa,zAB] at h4;intro y dx B Y ne;let s3:Dg M (upd (upd M dx (.own y)) y (.ins Km dx [])):=Qt B Y;refine⟨y,dx,pc,ys,rfl,Aa,(s3 _ _ h1),(λl H4 nl kp hy hl=>⟨rfl,?_⟩)⟩;let k4:∀ b o,M b=ZC o->H4 b=ZC o:=λb o e=>by rw[kp b (Ad e B) (Ad (s3 _ _ e) nl)];exact s3 _ _ e
   refine q _ _ (λb o e=>k4 _ _ (S _ _ e)) ?_;unfold XA;refine (x4 y dx l ys (c4 rfl (Nw.of (S.free B) hy) (Nw.of (S.free (s3.free nl)) hl) (h4.same λb o e=>?_)));obtain⟨n,e⟩:=XQ.at e;obtain⟨Z,e⟩:=Nw.at e;exact Nw.of Z (k4 _ _ e)
 |so ts=>
  unfold Lr at L;obtain⟨p,a,vs,rfl,j,ha,ac⟩:=L;unfold Nc at hg;let aa:=ac.len;unfold Xf at ok;obtain⟨_,ae,ad⟩:=ok;refine (vE rfl (vI rfl rfl (Hx.of j) rfl ⟨rfl,vE rfl (dF (g (by ac_nf)) ?_)⟩));refine (vE rfl (vI rfl rfl (Hx.of j) rfl ⟨rfl,vE rfl (dF (g (by ac_nf)) ?_)⟩));refine (vE rfl (vI rfl rfl (Hx.of j) rfl ⟨rfl,vE rfl (dF (g (by ac_nf)) ?_)⟩));refine (vE rfl (vI rfl rfl (Hx.of j) rfl ⟨rfl,vE rfl (dF (g (by ac_nf)) ?_)⟩));refine (vE rfl (vI rfl rfl (Hx.of j) rfl ⟨rfl,vE rfl (dF (g (by ac_nf)) ?_)⟩));refine (vE rfl (vI rfl rfl (Hx.of j) rfl ⟨rfl,vE rfl (dF (g (by ac_nf)) ?_)⟩));refine (vE rfl (vI rfl rfl (Hx.of j) rfl ⟨rfl,vE rfl (dT rfl (vE rfl (vI rfl rfl (Hx.of j) rfl ⟨a,rfl,⟨_,Dp.of ha⟩,λpc ab=>?_⟩)))⟩));refine Bk (K:=K) (a:=a) (xs:=vs) (λi ys M=>M pc=oL ys/\ys.length=i/\Dg H M/\CdsAt κ (XQ pc (Nw H M)) ys (ts.take i)) ⟨Aa,rfl,Ac ab _,by rw[zBe];unfold CdsAt;trivial⟩ (λi ys M _ ⟨h1,h2,S,_⟩=>⟨h1,by lia,Dp.of (S _ _ ha)⟩) (by rw[zCH];lia) ?_ ?_
  .rintro i v ys M hi ⟨h1,h2,S,h4⟩
   obtain⟨t,et,L⟩:=ac.get hi;refine (vE rfl ⟨v,t,rfl,(L.same S),(Ph (by lia) i et),(Q3 ad t (zAz et)),(λu H6 s6 cd=>⟨s6 _ _ h1,rfl,Aa,by rw[zAm,h2];rfl,Qr ab (S.trans s6),?_⟩)⟩);rw[Bb et];refine CdsAt.snoc (h4.same λb o e=>?_) (cd.same λb o e=>?_)
   .obtain⟨n,e⟩:=XQ.at e
    obtain⟨Z,e⟩:=Nw.at e;exact XQ.of n (Nw.of Z (by rw[Ag n];exact s6 _ _ e))
   .obtain⟨Z,e⟩:=Nw.at e
    let n:b≠pc:=λz=>by rw[z,h1] at Z;cases Z
    exact XQ.of n (Nw.of (S.free Z) (by rw[Ag n];exact e))
  .rintro ys M ⟨h1,h2,S,h4⟩
   rw[aa,zAB] at h4;intro y dx B Y ne;let s3:Dg M (upd (upd M dx (.own y)) y (.ins Hb dx [])):=Qt B Y;refine⟨y,dx,pc,ys,rfl,Aa,(s3 _ _ h1),(λl H4 nl kp hy hl=>⟨rfl,?_⟩)⟩;let k4:∀ b o,M b=ZC o->H4 b=ZC o:=λb o e=>by rw[kp b (Ad e B) (Ad (s3 _ _ e) nl)];exact s3 _ _ e
   refine q _ _ (λb o e=>k4 _ _ (S _ _ e)) ?_;unfold XA;refine (x4 y dx l ys (c4 rfl (Nw.of (S.free B) hy) (Nw.of (S.free (s3.free nl)) hl) (h4.same λb o e=>?_)));obtain⟨n,e⟩:=XQ.at e;obtain⟨Z,e⟩:=Nw.at e;exact Nw.of Z (k4 _ _ e)
def C_law_condition (J:Pm P w K mg base):∀ m,Jc J (m+2) "_law_condition" ["_law_cond_here"] (N0 m):=by
  intro m
  induction m with
  |zero=>
   refine JQ J.z J.oq bd λf fd F=>GA λ_ _ _ _ z=>?_;obtain⟨_,_,_,_,z,_⟩:=z;exact zBA _ z
  |succ m ih=>exact JQ J.z J.oq bd λf fd F=>Lf J F ih ⟨J.bn.mi,J.n9,J.bn.kp,(J.z.nv J.bn.ns)⟩
end
mutual
def De:Gf->List Int
 |.at .alw=>[]
 |.at (.cau _)=>[]
 |.at (.thi _)=>[]
 |.at (.day _ _)=>[]
 |.at (.ovr m)=>[m]
 |.no t=>De t
 |.al ts=>marksOs ts
 |.so ts=>marksOs ts
def marksOs:List Gf->List Int
 |[]=>[]
 |t::ts=>De t++marksOs ts
end
def VW (t:Gf):Prop:=(∃ m,t=.at (.ovr m))\/De t=[]
structure YN where
 p:ZF
 nm:ZM
 t:Gf
 rs:List IN
 wt:Bool
def B3 (r:YN):V:=.ref r.p
def XN (H:Hp) (r:YN):Prop:=∃ tv cl hl ht xs hn,H r.p=oT [.str r.nm,tv,.ref cl,.ref hl,.bl r.wt]/\Lr H tv r.t/\H cl=oL xs/\TsAt Ly H xs r.rs/\H hl=oL [.ref ht]/\H ht=oT [.str hn,.int 1]/\(Gr (.str hn)=ZI/\hn.length<=8)
structure Mf (r:YN):Prop where
 hg:Nc r.t<3
 ok:Xf HG r.t
 l3:r.rs.length<=3
 oc:∀ c∈r.rs,okC c
 ov:VW r.t
def XN.same {H H':Hp} {r:YN} (h:XN H r) (s:Dg H H'):XN H' r:=by
 obtain⟨tv,cl,hl,j,xs,F,h1,B,z,g,q,M,L⟩:=h;exact⟨tv,cl,hl,j,xs,F,s _ _ h1,B.same s,s _ _ z,g.mono (An s),s _ _ q,s _ _ M,L⟩
def cu (r:YN):XC:=⟨r.p,r.nm,r.t,r.rs.map Hl,r.wt⟩
def un (x:XC):ZM×Gf×List Cl×Bool:=(x.nm,x.t,x.cs,x.wt)
def Fo (xs:List XC):List XC:=xs.filter (λx => !x.wt)++xs.filter (λx=>x.wt)
def Je {α β:Type} (f:α->β) (g:β->Bool) (xs:List α):((xs.map f).filter g)=(xs.filter (λx=>g (f x))).map f:=by
 rw[List.filter_map];rfl
theorem Xu {α:Type} (p:α->Bool):∀ xs:List α,(xs.filter (λx => !p x)++xs.filter p).Perm xs
 |[]=>.nil
 |x::xs=>by
  let ih:=Xu p xs;cases e:p x with
  |true=>
   rw[zBo (by rw[e];decide),zBh e];exact List.perm_middle.trans (ih.cons x)
  |false=>
   rw[zBh (by rw[e];rfl),zBo (by rw[e];decide)];exact ih.cons x
def Hf (xs:List XC):(Fo xs).Perm xs:=Xu (λx:XC=>x.wt) xs
def Lp (z:LF) (xs:List XC):(Aw z xs).map un=(xs.map un).filter (λy=>hT y.2.1 z.ls):=by
 unfold Aw;rw[Je];rfl
def Xb {bs:List XC} {rows:List YN} (h:bs.map un=(Fo (rows.map cu)).map un):∀ x∈bs,∃ r∈rows,un x=un (cu r):=λx g=>by
 let:un x∈(Fo (rows.map cu)).map un:=by rw[<- h];exact zAv.mpr ⟨x,g,rfl⟩
 obtain⟨y,j,e⟩:=zAv.mp this;obtain⟨r,hr,rfl⟩:=zAv.mp ((Hf _).mem_iff.mp j);exact⟨r,hr,e.symm⟩
def MH {bs:List XC} {rows:List YN} (h:bs.map un=(Fo (rows.map cu)).map un):bs.length=rows.length:=by
 let:=aC bS h;rw[zAc,zAc,(Hf _).length_eq,zAc] at this;exact this
def JI {bs:List XC} {rows:List YN} (h:bs.map un=(Fo (rows.map cu)).map un) (j:(rows.map (·.nm)).Nodup):(bs.map (·.nm)).Nodup:=by
 let e:=aC (bI (λy:ZM×Gf×List Cl×Bool=>y.1)) h;rw[zBw,zBw] at e;let g:bs.map (·.nm)=(Fo (rows.map cu)).map (·.nm):=e;rw[g,((Hf (rows.map cu)).map (·.nm)).nodup_iff,zBw];exact j
def PX {z:ZM} (h:Gr (.str z)=ZI):GO z:=⟨z.cps.toList,(Kj z).symm,ZY h⟩
theorem Ch.uniq {f:Int->Int}:∀ {ps qs} {s:Int} {lk B:Option Int} {e:Int},CRP.Ch f s lk ps e->CRP.Ch f s B qs e->ps=qs
 |[],[],_,_,_,_,_,_=>rfl
 |[],(l,h,k)::r,s,_,_,e,h1,j=>by
  let g:=CRP.Ch.get (i:=0) (p:=(l,h,k)) j rfl;let e1:s=e:=h1;let g1:l<h:=g.1;let L:h<=e:=g.2.2.2.2;let g3:s<=l:=g.2.2.2.1
  lia
 |(l,h,k)::r,[],s,_,_,e,h1,j=>by
  let g:=CRP.Ch.get (i:=0) (p:=(l,h,k)) h1 rfl;let e1:s=e:=j;let g1:l<h:=g.1;let L:h<=e:=g.2.2.2.2;let g3:s<=l:=g.2.2.2.1
  lia
 |(l,h,k)::r,(l',h',k')::Y,s,_,_,e,h1,j=>by
  let aa:h<=e:=(CRP.Ch.get (i:=0) (p:=(l,h,k)) h1 rfl).2.2.2.2;let Z:h'<=e:=(CRP.Ch.get (i:=0) (p:=(l',h',k')) j rfl).2.2.2.2;obtain⟨a1,a2,a3,S,q⟩:=h1;obtain⟨b1,b2,b3,U,M⟩:=j;let ek:k=k':=by
   let z1:=S s (by lia) (by lia);let z2:=U s (by lia) (by lia)
   lia
  let el:l=l':=by lia
  subst ek el;let eh:h=h':=by
   rcases oW h h' with z|z|z
   .cases r with
    |nil=>let:h=e:=q;lia
    |cons x r=>
     obtain⟨l2,L,F⟩:=x;obtain⟨c1,c2,c3,c4,c5⟩:=q;let:=c4 h (by lia) (by lia);let:=U h (by lia) z;exact ZR (aC ZC (show k=F by lia)) c3
   .exact z
   .cases Y with
    |nil=>let:h'=e:=M;lia
    |cons x Y=>
     obtain⟨l2,L,F⟩:=x;obtain⟨c1,c2,c3,c4,c5⟩:=M;let:=c4 h' (by lia) (by lia);let:=S h' (by lia) z;exact ZR (aC ZC (show k=F by lia)) c3
  subst eh;rw[Ch.uniq q M]
theorem Ud {α:Type} (f:α->Int):∀ {S T:List α},S.Perm T->S.Pairwise (λs t=>f s<f t)->T.Pairwise (λs t=>f s<f t)->S=T
 |[],T,p,_,_=>by rw[List.nil_perm.mp p]
 |a::S,[],p,_,_=>by simp at p
 |a::S,b::T,p,h,g=>by
  obtain⟨h1,L⟩:=zAJ.mp h;obtain⟨F,z⟩:=zAJ.mp g;let B:a∈b::T:=p.mem_iff.mp zAd;let q:b∈a::S:=p.mem_iff.mpr zAd;let e:a=b:=by
   rcases zAj.mp B with e|e
   .exact e
   .rcases zAj.mp q with j|j
    .exact j.symm
    .have:=F a e
     let:=h1 b j
     lia
  subst e;rw[Ud f (List.Perm.cons_inv p) L z]
def DK {m n:Int} {l:List Int} (h:Zb m l) (g:Zb n l):m=n:=by
 let:=h.2 n g.1;let:=g.2 m h.1
 lia
def Z6 {m n:Int} {l:List Int} (h:Zf m l) (g:Zf n l):m=n:=by
 let:=h.2 n g.1;let:=g.2 m h.1
 lia
theorem Jj {kvs:Ej} {z:LF}:∀ {xs ys} {as bs},xs.map un=ys.map un->XW kvs z xs as->XW kvs z ys bs->as=bs
 |[],[],[],[],_,_,_=>rfl
 |[],[],[],_::_,_,_,h=>h.elim
 |[],[],_::_,_,_,h,_=>h.elim
 |[],_::_,_,_,e,_,_=>by simp at e
 |_::_,[],_,_,e,_,_=>by simp at e
 |_::_,_::_,[],_,_,h,_=>h.elim
 |_::_,_::_,_::_,[],_,_,h=>h.elim
 |x::xs,y::ys,a::as,b::bs,e,⟨⟨W,F,g⟩,r⟩,⟨⟨W',B,Z⟩,r'⟩=>by
  rw[zAp,zAp] at e;injection e with S e2;let L:x.nm=y.nm:=aC (·.1) S;let M:x.cs=y.cs:=aC (·.2.2.1) S;let k3:numsOf kvs z x=numsOf kvs z y:=by unfold numsOf;rw[L,M]
  rw[M,k3] at F g;obtain⟨lo,hi,Y,m2,rfl⟩:=F;obtain⟨aa,U,j,q,rfl⟩:=B;rw[DK Y j,Z6 m2 q,L] at g;rw[Jj e2 r r',g,Z]
def Nz {kvs:Ej} {z:LF} {xs ys:List XC} {S T:List Eu} (e:xs.map un=ys.map un) (h:Bs kvs z xs S) (g:Bs kvs z ys T):S=T:=by
 match xs,ys,e,h,g with
 |[],[],_,h,g=>exact Eq.trans (show S=_ from h) (show T=_ from g).symm
 |[],_::_,e,_,_=>simp at e
 |_::_,[],e,_,_=>simp at e
 |x::xs,y::ys,e,⟨av,pa,a1,q,j,M⟩,⟨aa,Y,b1,U,b3,Z⟩=>
  let e0:=e;rw[zAp,zAp] at e;injection e with F e2;let B:x.nm=y.nm:=aC (·.1) F;let L:x.cs=y.cs:=aC (·.2.2.1) F;let k3:numsOf kvs z x=numsOf kvs z y:=by unfold numsOf;rw[B,L]
  rw[L,k3] at q j;rw[Jj e0 a1 b1,Ch.uniq q U,B] at j;exact Ud (λs:Eu=>s.1) (j.trans b3.symm) M Z
def OC (x:XC):Cv:=(x.p,x.nm,x.wt)
inductive L1 (vs:List V) (H:Hp) (Q:VK) (E:XK):Prop
 |mk (a:_) (rows:List YN) (z0:vs=[.ref a]) (z1:H a=oL (rows.map B3)) (z2:(∀ x∈rows,XN H x/\Mf x)) (z3:BX (rows.map (·.nm))) (z4:∀ b cl ak (cvs:List XC) H',Dg H H'->HP CB H' b cl ak (cvs.map OC)->H b=ZD->H ak=ZD->(∀ x∈cvs,XG (Nw H H') x)->cvs.map un=(rows.map cu).map un->Q (.ref b) H')
def MI {H:Hp} {g:List XC} (h:∀ x∈g,XG H x):XU CV H (g.map OC):=λc j=>by
 obtain⟨x,z,rfl⟩:=zAv.mp j;obtain⟨dx,fs,_,_,_,e,B,_,_,q,_⟩:=h x z;exact⟨dx,fs,e,B,q⟩
def LJ {b cl F:ZF} (B:HP CB H b cl F (g.map OC)) (h:∀ x∈g,XG H x):Kk H b (Fo g):=by
 obtain⟨⟨L,gs,q,U,S,Y⟩,z,j⟩:=B;refine⟨L,gs,F,q,S,?_,λx M=>h x ((Hf g).mem_iff.mp M)⟩;rw[j];unfold KG Fo;rw[Je,Je,<- zAq,zBw];rfl
def Vq {xs ys:List XC} (e:xs.map un=ys.map un):(Fo xs).map un=(Fo ys).map un:=by
 let g:∀ xs:List XC,(Fo xs).map un=(xs.map un).filter (λy => !y.2.2.2)++(xs.map un).filter (λy=>y.2.2.2):=λxs=>by
  unfold Fo;rw[Je,Je,zAq];rfl
 rw[g,g,e]
def HU {H H':Hp} {b cl z:ZF} (B:HP CB H' b cl z (g.map OC)) (M:H b=ZD) (U:H z=ZD) (h:∀ x∈g,XG (Nw H H') x):Kk (Nw H H') b (Fo g):=by
 obtain⟨dx,fs,S,h1,F,Y,_⟩:=LJ B λx q=>(h x q).same (Nw.sub H H');obtain⟨⟨Z,gs,j,_,L,_⟩,_,_⟩:=B;rw[h1] at j;cases j;rw[F] at L;cases L;exact⟨_,_,_,Nw.of M h1,F,Nw.of U Y,λx q=>h x ((Hf g).mem_iff.mp q)⟩
section
seal L2.PS L2.PSs L2.PE L2.PA
variable {P:ZO} {w:ZX} {K:zAa} {mg:ZM->Option ZE} {base:aB}
def Wd (J:Pm P w K mg base) {f} {fd} (F:XS K "_law_book" "_law_book" Oq f fd) (C_law_condition:MW P w K mg base 5 "_law_condition" ["_law_cond_here"] (N0 3)):XB P w K mg base Ew 8 f fd ["_law_covers_here"] (L1):=Os F ["_law_covers_here","_law_some","_law_name","_law_cond_here","_law_clauses","_law_houses","_law_waits"] df λsc H Q hr h=>by
 obtain⟨a,rows,rfl,ha,all,N,q⟩:=h;refine⟨_,(Ab (Cn sc 1 (Bh Cs))
   (Ab (Bq ZV rfl (Hc K (pv 0)) (Cz (K:=K) (n:=5) rfl rfl (Ao (Et sc 2) (Ao (Et sc 3) (Ao (Et sc 4) (Ao (Et sc 5) (Ao (Et sc 6) Ct))))))
    (Ae (Bg (Cr (K:=K) rfl ZT aA ZZ Bw (pv 1) (Bn (Cy (LH J) (hr.mono (by lk)) rfl (Ah (pv 2) (Ah (Cm C_law_condition hr (Bn (pv 3))) (Ah (Cj (NC:=["_law_one"]) (own:=["_law_one"]) (cs:=[]) (ix:=[]) rfl (Dr.of rfl) rfl trivial (Hc K (pv 4)) (λ_ _ _=>(Ke 0)) (λ_ _ _=>Ca) (λ_ _ _=>(Cm (Wu J) hr (Bn (pv 0))))) (Bi (Dt (Ce (K:=K) rfl) rfl (J.z.nn J.ba) (show zCI _=ZC (.type "list") from rfl) (Bn (pv 5))) (pv 6)))))))))))
   (Ae (Aj (Cy (RN J) (hr.mono (by lk)) rfl (Bn (pv 1))))))),?_⟩
 let l8:rows.length<=8:=by let:=N.hi;rwa [zAc] at this
 let lm:(rows.map B3).length=rows.length:=zAc _;refine⟨zAw _,λsl aw=>?_⟩;refine Gi [oR a,oR sl,ZD,ZD,ZD,ZD,ZD] rfl ?_;let s1:=Ac aw (.lst []);let h1:upd H sl (.lst []) sl=oL []:=Aa;generalize upd H sl (.lst [])=H1 at s1 h1;refine (vE rfl ⟨a,rfl,⟨_,Dp.of (s1 _ _ ha)⟩,?_⟩);refine Bx (K:=K) (a:=a) (xs:=rows.map B3) (λi σ H3=>(∃ o2 o3 o4 o5 o6,σ=[oR a,oR sl,o2,o3,o4,o5,o6])/\(∃ L:List XC,H3 sl=oL (L.map xV)/\(∀ x∈L,XG (XQ sl (Nw H H3)) x)/\L.map un=((rows.take i).map cu).map un)/\Dg H H3)
  ⟨⟨ZD,ZD,ZD,ZD,ZD,rfl⟩,⟨[],h1,(λx Y=>nomatch Y),by rw[zBe];rfl⟩,s1⟩ (λi σ H3 _ hh=>Dp.of (hh.2.2 _ _ ha)) ?_ ?_
 .rintro i x σ H4 hi ⟨⟨o2,o3,o4,o5,o6,rfl⟩,⟨L,aa,aj,M⟩,s4⟩ N9 a6
  rw[zAx] at hi;obtain⟨r,Y,rfl⟩:=zAQ.mp hi;let mx:=zAz Y;let il:i<rows.length:=(zAk.mp Y).1;obtain⟨⟨tv,cl,aq,ab,xs,hn,g1,g2,g3,g4,g5,g6,a2⟩,ad⟩:=all r mx;let lx:=g4.len;let l3:=ad.l3;refine (x2 r.p _ (c4 rfl (Hx.of (s4 _ _ g1)) rfl (vC rfl (vC rfl (vC rfl (vC rfl (vC rfl (⟨rfl,?_⟩))))))));refine EU [oR a,oR sl,oS r.nm,ZC tv,oR cl,oR aq,ZC (.bl r.wt)] rfl ?_;refine (vE rfl ⟨.inl ⟨rfl,_,Dp.of aa⟩,vE rfl (vE rfl ⟨tv,r.t,rfl,(Lr.same s4 _ g2),ad.hg,ad.ok,(λu H5 s5 cd=>?_)⟩)⟩);let Z:=s4.trans s5;refine (vE rfl ⟨cl,rfl,⟨_,Dp.of (Z _ _ g3)⟩,λkl al=>?_⟩);refine Bk (K:=K) (a:=cl) (xs:=xs) (λj ys H6=>XT (Nw H5 H6) ys ((r.rs.take j).map Hl)/\H6 kl=oL ys/\Dg H5 H6) ⟨trivial,Aa,Ac al _⟩
   (λj ys H6 hj ⟨c1,c2,c3⟩=>⟨c2,by rw[c1.len,zAc,zAn];lia,Dp.of (c3 _ _ (Z _ _ g3))⟩) (by rw[zCH];lia) (λj y ys H6 hj ⟨c1,c2,c3⟩=>?_) (λys H6 ⟨c1,a3,s6⟩=>?_)
  .obtain⟨tc,c,ec,rfl,a8⟩:=g4.get hj
   refine (vE rfl ⟨tc,c,rfl,(c3 _ _ (Z _ _ a8)),(ad.oc c (zAz ec)),(λp H7 S np hp=>⟨S _ _ c2,rfl,?_,Aa,Qr al (c3.trans S)⟩)⟩);rw[Bb ec,zAq];obtain⟨a0,a7⟩:=hp;let kn:∀ b C dx fs,H7 b=oI C dx fs->upd H7 kl (.lst (ys++[V.ref p])) b=oI C dx fs:=λb C dx fs z=>by rw[Ag (At z (S _ _ c2) (by intro e;cases e))];exact z
   refine (c1.mono λb C dx fs z=>?_).snoc ⟨a0,Nw.of (c3.free np) (kn _ _ _ _ a7)⟩;obtain⟨z0,z1⟩:=Nw.at z;exact Nw.of z0 (kn _ _ _ _ (S _ _ z1))
  rw[lx,zAB] at c1;let ac:=Z.trans s6;let U:=s6 _ _ (s5 _ _ aa);refine (vE rfl (x2 aq _ (c3 rfl (.inl (Dp.of (ac _ _ g5))) (λh2 az=>?_))));let S:=Ac az (.lst [V.ref ab]);let as:upd H6 h2 (.lst [V.ref ab]) h2=oL [V.ref ab]:=Aa;generalize upd H6 h2 (.lst [V.ref ab])=H7 at S as;refine (vE rfl (λp dp np ao a5=>?_));let s8:Dg H7 (upd (upd H7 dp (.own p)) p (.ins CV dp [])):=(Ac ao _).trans (Ac (by rw[Ag (aR a5)];exact np) _);refine⟨p,dp,r.nm,u,kl,ys,h2,ab,hn,r.wt,rfl,Aa,N.ok _ (zAv.mpr ⟨r,mx,rfl⟩),s8 _ _ (S _ _ a3),by rw[c1.len,zAc];lia,s8 _ _ as,s8 _ _ (S _ _ (ac _ _ g6)),a2,λH9 ar h9 d0 fs k9 e9 b1 b2 b3 bh b4 b5 an ag bf ax=>⟨rfl,?_⟩⟩;let s9:Dg H7 H9:=Fx np ao k9;let ae:=S.trans s9;let ah:=ae _ _ U;let bb:L.length=i:=by
   let:=aC bS M;rw[zAc,zAc,zAc,zAn] at this
   lia
  refine (x3 sl _ _ (c5 rfl rfl ah (by rw[zAc,zCH];lia) ?_));let au:L.map xV++[V.ref p]=(L++[XC.mk p r.nm r.t (r.rs.map Hl) r.wt]).map xV:=by rw[zAq];rfl
  rw[au];let ay:p≠sl:=(Ad (S _ _ U) np).symm;let ba:ar≠sl:=(Ad (s8 _ _ (S _ _ U)) ag).symm;let bg:h9≠sl:=(Ad (s8 _ _ (S _ _ U)) ax).symm;let up:∀ {b:ZF} {o:HO},b≠sl->H b=ZD->H9 b=ZC o->XQ sl (Nw H (upd H9 sl (.lst ((L++[XC.mk p r.nm r.t (r.rs.map Hl) r.wt]).map xV)))) b=ZC o:=λn f y=>XQ.of n (Nw.of f (by rw[Ag n];exact y));let fp:=(ac.trans S).free np;let fc:=(ac.trans (S.trans s8)).free ag;let am:=s5.trans (s6.trans ae);refine a6 _ _ ⟨⟨_,_,_,_,_,rfl⟩,⟨_,Aa,λx Y=>?_,?_⟩,λb o y=>?_⟩
  .rcases zAu.mp Y with g|g
   .exact (aj x g).same λb o y=>by
     obtain⟨n,y⟩:=XQ.at y;obtain⟨y0,y1⟩:=Nw.at y;exact up n y0 (am _ _ y1)
   .rw[zAh.mp g]
    refine⟨d0,fs,u,ar,ys,up ay fp e9,b1,b2,b3,b4,b5,XA.same (λb o y=>?_) _ cd,up ba fc an,c1.mono λt C dx fs z=>?_,by show (r.rs.map Hl).length<=8;rw[zAc];lia⟩
    .obtain⟨y1,y2⟩:=Nw.at y
     exact up (λe=>by rw[e,aa] at y1;cases y1) (s4.free y1) (ae _ _ (s6 _ _ y2))
    .obtain⟨z0,z1⟩:=Nw.at z
     let z9:=ae _ _ z1;exact up (At z9 ah (by intro e;cases e)) (Z.free z0) z9
  .rw[zAq,M,Bb Y,zAq,zAq]
   rfl
  .rw[Ag (Ad y aw)]
   exact am _ _ (s4 b o y)
 .rintro σ H3 ⟨⟨o2,o3,o4,o5,o6,rfl⟩,⟨L,bc,aj,M⟩,s3⟩
  rw[zAc,zAB] at M;let bb:L.length=rows.length:=by
   let:=aC bS M
   rwa [zAc,zAc,zAc] at this
  let af:∀ x∈L,XG (Nw H H3) x:=λx Y=>(aj x Y).same λb o y=>(XQ.at y).2;let av:∀ x∈L,XG H3 x:=λx Y=>(af x Y).same (Nw.sub H H3);let a1:L.map (·.nm)=rows.map (·.nm):=by
   let:=aC (bI (λy:ZM×Gf×List Cl×Bool=>y.1)) M;rw[zBw,zBw,zBw] at this;exact this
  refine (vE rfl (λbk db ai ap a4=>?_));let s4:Dg H3 (upd (upd H3 db (.own bk)) bk (.ins CB db [])):=(Ac ap _).trans (Ac (by rw[Ag (aR a4)];exact ai) _);let be:(L.map OC).map Sw=L.map xV:=by rw[zBw];rfl
  refine⟨bk,db,sl,L.map OC,rfl,Aa,by rw[be];exact s4 _ _ bc,(MI av).same s4,by rw[zAc];lia,?_,λcl ak H5 k5 B bi a9=>⟨rfl,?_⟩⟩
  .rw[zBw]
   show (L.map (·.nm)).Nodup;rw[a1];exact N.nd
  .have s5:Dg H3 H5:=Fx ai ap k5
   exact q bk cl ak L H5 (s3.trans s5) B (s3.free ai) ((s3.trans s4).free a9) (λx Y=>(af x Y).same (Nw.grow λb o _ e=>s5 _ _ e)) M
def F1 (J:Pm P w K mg base):Jc J 8 "_law_book" ["_law_covers_here"] L1:=JQ J.z J.rj bd λf fd F=>Wd J F (C_law_condition J 3)
end
end CRL
namespace CRL
open PySem L2
def RU:Option Int->V
 |none=>.non
 |some d=>.int d
def NY (c:Option Int) (day:Int):Prop:=∀ d,c=ZC d->d<day
inductive RM (vs:List V) (H:Hp) (Q:VK) (E:XK):Prop
 |mk (c:_) (day:Int) (z0:vs=[RU c,.int day]) (z1:NY c day) (z2:Q .non H)
inductive SQ (CD:ZF) (vs:List V) (H:Hp) (Q:VK) (E:XK):Prop
 |mk (x wl nl kvs c:_) (n day:Int) (z0:vs=[.ref x,RU c,.int n,.int day]) (z1:Dy CD H x wl nl) (z2:H nl=ZC (.dK kvs)) (z3:Dx kvs (.inl n)=ZD) (z4:NY c day) (z5:Q .non H)
inductive PV (vs:List V) (H:Hp) (Q:VK) (E:XK):Prop
 |mk (c:_) (day:Int) (z0:vs=[RU c,.int day]) (z1:0<=day) (z2:day<=1000000) (z3:NY c day) (z4:Q (.bl ZI) H)
inductive RI (vs:List V) (H:Hp) (Q:VK) (E:XK):Prop
 |mk (a kvs v:_) (n:Int) (z0:vs=[.ref a,.int n]) (z1:H a=ZC (.dK kvs)) (z2:Dx kvs (.inl n)=ZC v) (z3:0<=n) (z4:n<=1000000000) (z5:Q .non H)
section
variable {P:ZO} {w:ZX} {K:zAa} {mg:ZM->Option ZE} {base:aB} (J:Pm P w K mg base)
def Yd:Jc J 1 "check_open" ["closed","day"] RM:=Gj J.z J.qh ["closed","day"] df λsc H Q hr h=>by
 obtain⟨c,g,rfl,j,q⟩:=h;refine⟨_,(Ae (Ax (PW.pt (Ng (Al Wv (pv 0) Fb (Ap _)) (Ju (Al Hr (pv 1) (pv 0) (Ap _)))))
    (Ae Bu)
    Am)),?_⟩
 cases c with
 |none=>exact vE rfl ⟨rfl,vE rfl (nF rfl (Du q))⟩
 |some d=>
  let:=j d rfl;exact vE rfl ⟨rfl,vE rfl (nT (λe=>by cases e) (vE rfl (vE rfl (x2 _ _ (c3 rfl rfl (vE rfl (dF (by lia) q)))))))⟩
def B2:Jc J 2 "check_free" ["days","closed","number","day"] (SQ CD):=Gj J.z J.qi ["days","closed","number","day"] df λsc H Q hr h=>by
 obtain⟨x,F,z,g,c,n,j,rfl,B,U,L,S,q⟩:=h;refine⟨_,(Ab (Ax (Bv (Bt (A1 J) (hr.mono (by lk)) (pv 0) (Bn (pv 2))))
    (Ae Bu)
    Am)
   (Ae (Bg (Cm (Yd J) hr (Bi (pv 1) (pv 3)))))),?_⟩
 obtain⟨dx,M⟩:=id B;refine vE rfl ⟨x,dx,_,rfl,M,QY F z,vE rfl ⟨x,F,z,g,n,rfl,B,U,?_⟩⟩;rw[L];exact vE rfl (Du (vE rfl (vE rfl ⟨c,j,rfl,S,q⟩)))
def Xa:Jc J 3 "opens_close" ["closed","day"] PV:=Gj J.z J.qj ["closed","day"] df λsc H Q hr h=>by
 obtain⟨c,g,rfl,F,j,B,q⟩:=h;refine⟨_,(Ab (Ax (Cg (Bv (Cm (O1 J) hr (Bn (pv 1)))))
    (Ae Bu)
    Am)
   (Ae (Aj (OL (Ft Nj (pv 0) Fb (Ap _)) (Nd (Ft Oa (pv 1) (pv 0) (Ap _))))))),?_⟩
 let e:R0 1000000 (.int g)=ZI:=ZN ⟨F,j⟩;refine vE rfl ⟨_,_,rfl,.int _,?_⟩;rw[e];refine vE rfl (Du ?_);cases c with
 |none=>exact vE rfl ⟨rfl,vE rfl (dT rfl q)⟩
 |some d=>
  let:=B d rfl;let z:decide (d<g)=ZI:=ZN this;rw[<- z] at q;exact vE rfl ⟨rfl,vE rfl (dF (λe=>by cases e) (vE rfl (vE rfl ⟨_,_,rfl,rfl,q⟩)))⟩
def Yo:Jc J 3 "check_told" ["kept","number"] RI:=Gj J.z J.qk ["kept","number"] df λsc H Q hr h=>by
 let g:=Rh hr;obtain⟨a,z,v,n,rfl,B,j,F,L,q⟩:=h;refine⟨_,(Ae (Ax (PW.pt (Kf (Cg (Bv (Cm (Rj J) hr (Bn (pv 1))))) (Gv (MK (V8 g (pv 1) (pv 0))))))
    (Ae Bu)
    Am)),?_⟩
 let e:R0 1000000000 (.int n)=ZI:=ZN ⟨F,L⟩;refine vE rfl ⟨_,_,rfl,.int _,?_⟩;rw[e];refine vE rfl (Du (vE rfl (vE rfl ⟨a,_,rfl,XX.k (k:=.inl n) B,?_⟩)));rw[j];exact vE rfl (Du q)
end
def V3 (f:List XC->Sp):Sp:=λvs H Q E=>∃ bs,f bs vs H Q E
def Pr {P:ZO} {w:ZX} {K:zAa} {mg:ZM->Option ZE} {CX:EV} {k:Nat} {f:ZF} {ps:List ZM} {g:List XC->Sp} (h:∀ bs,XB P w K mg base CX k f fd ps (g bs)):XB P w K mg base CX k f fd ps (V3 g):=
 ⟨λvs H Q E ⟨bs,q⟩=>(h bs).len vs H Q E q,λA outer s H j F vs Q E hr L B z ⟨bs,q⟩=>(h bs).run A outer s H j F vs Q E hr L B z q⟩
def XD (bs:List XC):Ej->List LF->List (List Eu)->Ej->Prop
 |k,[],[],k'=>k'=k
 |k,z::zs,S::Ss,k'=>Bs k z (Aw z bs) S/\XD bs (Cq z S (Aw z bs) k) zs Ss k'
 |_,_,_,_=>False
theorem XD.snoc {bs:List XC} {z:LF} {S:List Eu}:∀ {zs} {Ss} {k j},XD bs k zs Ss j->Bs j z (Aw z bs) S->XD bs k (zs++[z]) (Ss++[S]) (Cq z S (Aw z bs) j)
 |[],[],k,j,h,g=>by
  let e:j=k:=h;subst e;exact⟨g,rfl⟩
 |[],_::_,_,_,h,_=>h.elim
 |_::_,[],_,_,h,_=>h.elim
 |y::zs,U::Ss,k,j,h,g=>⟨h.1,XD.snoc (zs:=zs) h.2 g⟩
theorem XD.len {bs:List XC}:∀ {zs} {Ss} {k g},XD bs k zs Ss g->zs.length=Ss.length
 |[],[],_,_,_=>rfl
 |[],_::_,_,_,h=>h.elim
 |_::_,[],_,_,h=>h.elim
 |y::zs,U::Ss,k,g,h=>by rw[zAf,zAf,XD.len h.2]
theorem XD.int {bs:List XC}:∀ {zs} {Ss} {k g},YD k->XD bs k zs Ss g->YD g
 |[],[],k,g,i,h=>by
  let e:g=k:=h;rw[e];exact i
 |[],_::_,_,_,_,h=>h.elim
 |_::_,[],_,_,_,h=>h.elim
 |y::zs,U::Ss,k,g,i,h=>XD.int (zs:=zs) (Nk i) h.2
theorem Qv {z:LF} {S:List Eu}:∀ {xs} {k},(∀ x∈xs,x.cs.length<=3)->(Cq z S xs k).length<=k.length+3*xs.length
 |[],k,_=>zAl _
 |x::xs,k,h=>by
  let h1:=Qv (z:=z) (S:=S) (xs:=xs) (k:=Ek z x (Bm x.nm S).sum k x.cs.length) λy g=>h y (zAb _ g);let q:=Po (z:=z) (x:=x) (pd:=(Bm x.nm S).sum) (kvs:=k) x.cs.length;let j:=h x zAd;show (Cq z S xs _).length<=_;rw[zAf]
  lia
theorem XD.klen {bs:List XC} (j:bs.length<=4) (c3:∀ x∈bs,x.cs.length<=3):∀ {zs} {Ss} {k g},XD bs k zs Ss g->g.length<=k.length+12*zs.length
 |[],[],k,g,h=>by
  let e:g=k:=h;rw[e];exact zAl _
 |[],_::_,_,_,h=>h.elim
 |_::_,[],_,_,h=>h.elim
 |y::zs,U::Ss,k,g,h=>by
  let h1:=XD.klen j c3 (zs:=zs) h.2;let F:=Qv (z:=y) (S:=U) (xs:=Aw y bs) (k:=k) λx q=>c3 x (zAR.mp q).1;let B:(Aw y bs).length<=bs.length:=zAO _ _;rw[zAf]
  lia
def Mu:HO->Prop
 |.tup _=>False
 |.ext _=>False
 |.tbl _=>False
 |_=>True
structure Rl where
 r:ZF
 b:ZF
 cp:ZF
 kp:ZF
 dy:ZF
 wl:ZF
 nl:ZF
 lr:ZF
 oc:ZF
def Rb (R:Rl) (c:Option Int):List (ZM×V):=[("book",.ref R.b),("counts",.ref R.cp),("days",.ref R.dy),("closed",RU c),("loss_rows",.ref R.lr),("outcomes",.ref R.oc)]
def Rl.own (R:Rl):List ZF:=[R.r,R.cp,R.kp,R.dy,R.wl,R.nl,R.lr,R.oc]
structure YC (bs:List XC) (D:ZF->Prop) (H:Hp) (R:Rl) (c:Option Int) (es:List Wl) (zs:List LF) (Ss:List (List Eu)) (rows:List LF) (ns:List Int):Prop where
 hr:∃ dx,H R.r=oI CR dx (Rb R c)
 ct:∃ kv,XO CN H R.cp R.kp kv/\XD bs [] zs Ss kv
 dy:Dy CD H R.dy R.wl R.nl
 wt:∃ xs,H R.wl=oL xs/\TsAt EG H xs es
 el:∀ e∈es,H e.1=oT e.2.vs
 nm:∃ ks,H R.nl=ZC (.dK ks)/\ks.length<=ns.length/\∀ n,Dx ks (.inl n)≠ZD->n∈ns
 ls:∃ xs,H R.lr=oL xs/\TsAt LF.vs H xs rows
 oc:∃ om,H R.oc=ZC (.dK om)/\om.length<=zs.length/\∀ (i:Nat) z S,zs[i]?=ZC z->Ss[i]?=ZC S->∃ p ys,Dx om (.inl z.n)=ZC (.ref p)/\D p/\p≠R.wl/\p≠R.lr/\H p=oL ys/\XI H ys S/\S.length<64
 ap:R.wl≠R.lr/\R.nl≠R.oc
 own:∀ a∈R.own,D a
 al:∀ a,D a->a≠TT/\∃ o,H a=ZC o/\Mu o
def WW (R:Rl) (c:Option Int):(Rb R c).lookup ("book" : ZM)=ZC (.ref R.b):=rfl
def WD (R:Rl) (c:Option Int):(Rb R c).lookup ("counts" : ZM)=ZC (.ref R.cp):=rfl
def UJ (R:Rl) (c:Option Int):(Rb R c).lookup ("days" : ZM)=ZC (.ref R.dy):=rfl
def VP (R:Rl) (c:Option Int):(Rb R c).lookup ("closed" : ZM)=ZC (RU c):=rfl
def WL (R:Rl) (c:Option Int):(Rb R c).lookup ("loss_rows" : ZM)=ZC (.ref R.lr):=rfl
def TV (R:Rl) (c:Option Int):(Rb R c).lookup ("outcomes" : ZM)=ZC (.ref R.oc):=rfl
def pX (R:Rl) (c:Option Int) (d:Int):Ar ("closed" : ZM) (.int d) (Rb R c)=Rb R (ZC d):=rfl
def YC.keep {bs} {D:ZF->Prop} {H H'} {R} {c:Option Int} {es} {zs} {Ss} {rows} {ns:List Int} (h:YC bs D H R c es zs Ss rows ns)
  (k:∀ b o,H b=ZC o->(D b\/∃ xs,o=.tup xs)->H' b=ZC o):YC bs D H' R c es zs Ss rows ns:=by
 let o:=h.own;let t:∀ t ws,H t=oT ws->H' t=oT ws:=λb ws e=>k _ _ e (.inr ⟨_,rfl⟩);let g:∀ a,a∈R.own->∀ o,H a=ZC o->H' a=ZC o:=λa j o e=>k _ _ e (.inl (h.own a j));obtain⟨⟨dx,hr⟩,⟨F,⟨⟨d2,fs,e1,Y⟩,B⟩,ru⟩,⟨d3,hd⟩,⟨xs,hw,ts⟩,U,⟨ks,hn,n1,n2⟩,⟨ls,hl,tl⟩,⟨om,ho,o1,M⟩,ap,ow,al⟩:=h;refine⟨⟨dx,g _ (by simp [Rl.own]) _ hr⟩,⟨F,⟨⟨d2,fs,g _ (by simp [Rl.own]) _ e1,Y⟩,g _ (by simp [Rl.own]) _ B⟩,ru⟩,⟨d3,g _ (by simp [Rl.own]) _ hd⟩,⟨xs,g _ (by simp [Rl.own]) _ hw,ts.mono t⟩,λe he=>t _ _ (U e he),⟨ks,g _ (by simp [Rl.own]) _ hn,n1,n2⟩,⟨ls,g _ (by simp [Rl.own]) _ hl,tl.mono t⟩,⟨om,g _ (by simp [Rl.own]) _ ho,o1,λi z S hz hS=>?_⟩,ap,ow,λa j=>?_⟩
 .obtain⟨p,ys,g1,q,g3,g4,g5,L,g7⟩:=M i z S hz hS
  exact⟨p,ys,g1,q,g3,g4,k _ _ g5 (.inl q),L.mono t,g7⟩
 .obtain⟨a1,o,a2,Z⟩:=al a j
  exact⟨a1,o,k _ _ a2 (.inl j),Z⟩
def YC.same {bs} {D:ZF->Prop} {H H'} {R} {c:Option Int} {es} {zs} {Ss} {rows} {ns:List Int} (h:YC bs D H R c es zs Ss rows ns) (s:Dg H H'):YC bs D H' R c es zs Ss rows ns:=h.keep λb o e _=>s b o e
def FH {t j g b:ZF} {xs:List V} {ks:List (Ev×V)} {d r n:Int} {v:V} (h1:b≠t) (q:b≠j) (z:b≠g):Sq H t j g xs ks d r n v b=H b:=by
 unfold Sq;rw[Ag z,Ag q,Ag h1]
def K6 {y d:ZF} (j:H y=ZD) (g:H d=ZD):Dg H (upd (upd H d o1) y o2):=λb o e=>by rw[Ag (Ad e j),Ag (Ad e g)];exact e
def fr {p x:ZF} {o:HO} (k:KB p H H1) (q:H1 p=ZC o) (g:H1 x=ZD):H x=ZD/\x≠p:=by
 let j:x≠p:=λe=>by rw[e,q] at g;cases g
 refine⟨?_,j⟩;cases z:H x with
 |none=>rfl
 |some o=>rw[k _ _ z j] at g;cases g
def Gd {p b:ZF} {o o':HO} (h:H b=ZC o) (n:b≠p):upd H p o' b=ZC o:=by rw[Ag n];exact h
def AQ {p:ZF} {o:HO} (k:KB p H H1):KB p H (upd H1 p o):=λb u e n=>Gd (k b u e n) n
inductive IU (bs:List XC) (vs:List V) (H:Hp) (Q:VK) (E:XK):Prop
 |mk (p dx b:_) (z0:vs=[.ref p,.ref b]) (z1:H p=oI CR dx []) (z2:(∃ ps,H TT=ZC (.tbl ps))) (z3:∀ R D H',KB p H H'->R.r=p->R.b=b->(∀ a,D a->a=p\/H a=ZD)->YC bs D H' R ZD [] [] [] [] []->Q .non H')
def Iz (z:LF):Prop:=IX z.n z.d z.ev.cps.toList z.th.cps.toList z.ca.cps.toList z.ct
inductive JG (bs:List XC) (vs:List V) (H:Hp) (Q:VK) (E:XK):Prop
 |mk (R D c es zs Ss rows ns z:_) (z0:vs=.ref R.r::LF.vs z) (z1:YC bs D H R c es zs Ss rows ns) (z2:Iz z) (z3:z.n∉ns) (z4:NY c z.d) (z5:es.length<=500) (z6:ns.length<=500) (z7:∀ l H',(∀ b o,H b=ZC o->¬ D b->H' b=ZC o)->YC bs D H' R c (es++[(l,z)]) zs Ss rows (ns++[z.n])->Q .non H')
inductive Wh (bs:List XC) (vs:List V) (H:Hp) (Q:VK) (E:XK):Prop
 |mk (R D c es zs Ss rows ns:_) (i:Nat) (z S:_) (z0:vs=[.ref R.r,.int z.n]) (z1:YC bs D H R c es zs Ss rows ns) (z2:zs[i]?=ZC z) (z3:Ss[i]?=ZC S) (z4:Iz z) (z5:∀ a ys H',Dg H H'->H a=ZD->H' a=oL ys->XI H' ys S->Q (.ref a) H')
section
variable {P:ZO} {w:ZX} {K:zAa} {mg:ZM->Option ZE} {base:aB} (J:Pm P w K mg base)
def Mz (J:Pm P w K mg base) {f:ZF} {bs:List XC} (F:XS K "__init__" "Roll.__init__" Il f fd):XB P w K mg base Ew 3 f fd ["self","book"] (IU bs):=Os F ["self","book"] df λsc H Q hr h=>by
 obtain⟨p,dx,b,rfl,hp,⟨a8,hT⟩,q⟩:=h;refine⟨_,(Ab (Bj (pv 0) (pv 1) rfl)
   (Ab (Bj (pv 0) (Uq (HW J) (hr.mono (by lk)) rfl) rfl)
   (Ab (Bj (pv 0) (Uq (QH J) (hr.mono (by lk)) rfl) rfl)
   (Ab (Bj (pv 0) Fb rfl)
   (Ab (Bj (pv 0) (Bh Cs) rfl)
   (Ae (Bj (pv 0) Yj rfl))))))),?_⟩
 refine vE rfl (vE rfl (x4 p CR dx _ (c6 rfl hp J.ae.cl J.ie (by lk) ?_)));let k1:KB p H (upd H p (.ins CR dx (Ar "book" (.ref b) []))):=λb u e n=>Gd e n;let e1:upd H p (.ins CR dx (Ar "book" (.ref b) [])) p=oI CR dx [("book",.ref b)]:=Aa;generalize upd H p (.ins CR dx (Ar "book" (.ref b) []))=H1 at k1 e1;intro cp d2 U ax a7;let sC:Dg H1 (upd (upd H1 d2 (.own cp)) cp (.ins CN d2 [])):=K6 U ax;let eC:upd (upd H1 d2 (.own cp)) cp (.ins CN d2 []) cp=oI CN d2 []:=Aa;refine⟨cp,d2,rfl,eC,(λkp H2 kb ct fk=>⟨rfl,?_⟩)⟩;let B:p≠cp:=Ad e1 U;let k2:KB p H H2:=λb u e n=>kb _ _ (sC _ _ (k1 _ _ e n)) (Ad (k1 _ _ e n) U);let e2:=kb _ _ (sC _ _ e1) B;let a5:=fr k1 e1 U;let a4:H1 kp=ZD:=sC.free fk;let g:=fr k1 e1 a4;refine vE rfl (x4 p CR dx _ (c6 rfl e2 J.ae.cl J.ft (by show 1<1000;decide) ?_));let k3:=AQ (o:=.ins CR dx (Ar "counts" (.ref cp) [("book",.ref b)])) k2;let e3:upd H2 p (.ins CR dx (Ar "counts" (.ref cp) [("book",.ref b)])) p=oI CR dx [("book",.ref b),("counts",.ref cp)]:=Aa;obtain⟨⟨d4,fs,ec,a0⟩,ek⟩:=ct;let ac:=Gd (o':=.ins CR dx (Ar "counts" (.ref cp) [("book",.ref b)])) ec B.symm;let ae:=Gd (o':=.ins CR dx (Ar "counts" (.ref cp) [("book",.ref b)])) ek g.2;generalize upd H2 p (.ins CR dx (Ar "counts" (.ref cp) [("book",.ref b)]))=H3 at k3 e3 ac ae;intro dy d3 j av a9;let sD:Dg H3 (upd (upd H3 d3 (.own dy)) dy (.ins CD d3 [])):=K6 j av;let eD:upd (upd H3 d3 (.own dy)) dy (.ins CD d3 []) dy=oI CD d3 []:=Aa;refine⟨dy,d3,rfl,eD,(λwl nl H4 k4 fw fn ey ew en=>⟨rfl,?_⟩)⟩
 let M:p≠dy:=Ad e3 j;let az:=fr k3 e3 j;let Y:=fr k3 e3 (sD.free fw);let L:=fr k3 e3 (sD.free fn);let a6:KB p H H4:=λb u e n=>k4 _ _ (sD _ _ (k3 _ _ e n)) (Ad (k3 _ _ e n) j);let e4:=k4 _ _ (sD _ _ e3) M;let ay:=k4 _ _ (sD _ _ ac) (Ad ac j);let a2:=k4 _ _ (sD _ _ ae) (Ad ae j);refine vE rfl (x4 p CR dx _ (c6 rfl e4 J.ae.cl J.bp (by show 2<1000;decide) ?_));let k5:=AQ (o:=.ins CR dx (Ar "days" (.ref dy) [("book",.ref b),("counts",.ref cp)])) a6;let e5:upd H4 p (.ins CR dx (Ar "days" (.ref dy) [("book",.ref b),("counts",.ref cp)])) p=oI CR dx [("book",.ref b),("counts",.ref cp),("days",.ref dy)]:=Aa;let ah:=Gd (o':=.ins CR dx (Ar "days" (.ref dy) [("book",.ref b),("counts",.ref cp)])) ay B.symm;let as:=Gd (o':=.ins CR dx (Ar "days" (.ref dy) [("book",.ref b),("counts",.ref cp)])) a2 g.2;let ao:=Gd (o':=.ins CR dx (Ar "days" (.ref dy) [("book",.ref b),("counts",.ref cp)])) ey M.symm;let ak:=Gd (o':=.ins CR dx (Ar "days" (.ref dy) [("book",.ref b),("counts",.ref cp)])) ew Y.2;let au:=Gd (o':=.ins CR dx (Ar "days" (.ref dy) [("book",.ref b),("counts",.ref cp)])) en L.2;generalize upd H4 p (.ins CR dx (Ar "days" (.ref dy) [("book",.ref b),("counts",.ref cp)]))=H5 at k5 e5 ah as ao ak au;refine vE rfl (x4 p CR dx _ (c6 rfl e5 J.ae.cl J.bj (by show 3<1000;decide) ?_));let k6:=AQ (o:=.ins CR dx (Ar "closed" .non [("book",.ref b),("counts",.ref cp),("days",.ref dy)])) k5;let e6:upd H5 p (.ins CR dx (Ar "closed" .non [("book",.ref b),("counts",.ref cp),("days",.ref dy)])) p=oI CR dx [("book",.ref b),("counts",.ref cp),("days",.ref dy),("closed",.non)]:=Aa
 let ar:=Gd (o':=.ins CR dx (Ar "closed" .non [("book",.ref b),("counts",.ref cp),("days",.ref dy)])) ah B.symm;let aq:=Gd (o':=.ins CR dx (Ar "closed" .non [("book",.ref b),("counts",.ref cp),("days",.ref dy)])) as g.2;let am:=Gd (o':=.ins CR dx (Ar "closed" .non [("book",.ref b),("counts",.ref cp),("days",.ref dy)])) ao M.symm;let ab:=Gd (o':=.ins CR dx (Ar "closed" .non [("book",.ref b),("counts",.ref cp),("days",.ref dy)])) ak Y.2;let af:=Gd (o':=.ins CR dx (Ar "closed" .non [("book",.ref b),("counts",.ref cp),("days",.ref dy)])) au L.2;generalize upd H5 p (.ins CR dx (Ar "closed" .non [("book",.ref b),("counts",.ref cp),("days",.ref dy)]))=H6 at k6 e6 ar aq am ab af;refine⟨zAw _,λlr ag=>?_⟩;let aa:=fr k6 e6 ag;let s7:=Ac ag (.lst []);let ai:upd H6 lr (.lst []) lr=oL []:=Aa;generalize upd H6 lr (.lst [])=H7 at s7 ai;refine vE rfl (x4 p CR dx _ (c6 rfl (s7 _ _ e6) J.ae.cl J.cf (by show 4<1000;decide) ?_));let k8:=AQ (o:=.ins CR dx (Ar "loss_rows" (.ref lr) [("book",.ref b),("counts",.ref cp),("days",.ref dy),("closed",.non)])) (λb u e n=>s7 _ _ (k6 b u e n):KB p H H7);let u8:∀ a o,H7 a=ZC o->a≠p->upd H7 p (.ins CR dx (Ar "loss_rows" (.ref lr) [("book",.ref b),("counts",.ref cp),("days",.ref dy),("closed",.non)])) a=ZC o:=λa o e n=>Gd e n;let e8:upd H7 p (.ins CR dx (Ar "loss_rows" (.ref lr) [("book",.ref b),("counts",.ref cp),("days",.ref dy),("closed",.non)])) p=oI CR dx [("book",.ref b),("counts",.ref cp),("days",.ref dy),("closed",.non),("loss_rows",.ref lr)]:=Aa
 generalize upd H7 p (.ins CR dx (Ar "loss_rows" (.ref lr) [("book",.ref b),("counts",.ref cp),("days",.ref dy),("closed",.non)]))=H8 at k8 u8 e8;intro oc ad;let ap:=fr k8 e8 ad;let s9:=Ac ad (.dK []);let an:upd H8 oc (.dK []) oc=ZC (.dK []):=Aa;generalize upd H8 oc (.dK [])=H9 at s9 an;refine vE rfl (x4 p CR dx _ (c6 rfl (s9 _ _ e8) J.ae.cl J.ay (by show 5<1000;decide) ?_));let all:∀ a o,H6 a=ZC o->a≠p->upd H9 p (.ins CR dx (Ar "outcomes" (.ref oc) [("book",.ref b),("counts",.ref cp),("days",.ref dy),("closed",.non),("loss_rows",.ref lr)])) a=ZC o:=λa o e n=>Gd (s9 _ _ (u8 _ _ (s7 _ _ e) n)) n;let a1:wl≠lr:=Ad ab ag;let a3:nl≠oc:=Ad (u8 _ _ (s7 _ _ af) L.2) ad;let T1:=Gd (o':=.ins CR dx (Ar "outcomes" (.ref oc) [("book",.ref b),("counts",.ref cp),("days",.ref dy),("closed",.non),("loss_rows",.ref lr)])) (s9 _ _ (u8 _ _ ai aa.2)) aa.2;let T2:=Gd (o':=.ins CR dx (Ar "outcomes" (.ref oc) [("book",.ref b),("counts",.ref cp),("days",.ref dy),("closed",.non),("loss_rows",.ref lr)])) an ap.2;let T3:upd H9 p (.ins CR dx (Ar "outcomes" (.ref oc) [("book",.ref b),("counts",.ref cp),("days",.ref dy),("closed",.non),("loss_rows",.ref lr)])) p=oI CR dx (Rb ⟨p,b,cp,kp,dy,wl,nl,lr,oc⟩ ZD):=Aa;let aj:=AQ (o:=.ins CR dx (Ar "outcomes" (.ref oc) [("book",.ref b),("counts",.ref cp),("days",.ref dy),("closed",.non),("loss_rows",.ref lr)])) (λb u e n=>s9 _ _ (k8 b u e n):KB p H H9);let c1:=all _ _ ar B.symm;let c2:=all _ _ aq g.2;let c3:=all _ _ am M.symm
 let c4:=all _ _ ab Y.2;let c5:=all _ _ af L.2;generalize upd H9 p (.ins CR dx (Ar "outcomes" (.ref oc) [("book",.ref b),("counts",.ref cp),("days",.ref dy),("closed",.non),("loss_rows",.ref lr)]))=aw at T1 T2 T3 aj c1 c2 c3 c4 c5;let al:∀ a∈Rl.own ⟨p,b,cp,kp,dy,wl,nl,lr,oc⟩,a=p\/H a=ZD:=λa Z=>by
  simp only [Rl.own,zAj,zBg,dG] at Z;rcases Z with rfl|rfl|rfl|rfl|rfl|rfl|rfl|rfl
  .exact .inl rfl
  .exact .inr a5.1
  .exact .inr g.1
  .exact .inr az.1
  .exact .inr Y.1
  .exact .inr L.1
  .exact .inr aa.1
  .exact .inr ap.1
 refine q ⟨p,b,cp,kp,dy,wl,nl,lr,oc⟩ (λa=>a∈Rl.own ⟨p,b,cp,kp,dy,wl,nl,lr,oc⟩) aw aj rfl rfl al ⟨⟨dx,T3⟩,⟨[],⟨⟨d4,fs,c1,a0⟩,c2⟩,rfl⟩,⟨d3,c3⟩,⟨[],c4,trivial⟩,λe he=>(by cases he),⟨[],c5,zAl _,λn h=>ZR rfl h⟩,⟨[],T1,trivial⟩,⟨[],T2,zAl _,λi z S h=>by simp at h⟩,⟨a1,a3⟩,λa Z=>Z,λa Z=>⟨λy=>?_,?_⟩⟩
 .rcases al a Z with z|z
  .rw[<- y,z,hp] at hT;cases hT
  .rw[<- y,z] at hT;cases hT
 .simp only [Rl.own,zAj,zBg,dG] at Z
  rcases Z with rfl|rfl|rfl|rfl|rfl|rfl|rfl|rfl
  .exact⟨_,T3,trivial⟩
  .exact⟨_,c1,trivial⟩
  .exact⟨_,c2,trivial⟩
  .exact⟨_,c3,trivial⟩
  .exact⟨_,c4,trivial⟩
  .exact⟨_,c5,trivial⟩
  .exact⟨_,T1,trivial⟩
  .exact⟨_,T2,trivial⟩
def PU:Jk J 3 "Roll" CR ["self","book"] (V3 (IU)):=WA J.z J.ae J.jr bd λf fd F=>Pr λbs=>Mz J F
def Sy (J:Pm P w K mg base) {f:ZF} {bs:List XC} (F:XS K "enter" "Roll.enter" Mj f fd):XB P w K mg base Ew 5 f fd ["self","number","day","event","thing","cause","cents"] (JG bs):=Os F ["self","number","day","event","thing","cause","cents","loss"] df λsc H Q hr h=>by
 obtain⟨R,D,c,es,zs,Ss,rows,ns,z,rfl,RA,gz,ae,af,le,ln,q⟩:=h;refine⟨_,(Ab (Cn sc 7 (Cm (BE J) hr (Ah (pv 1) (Ah (pv 2) (Ah (pv 3) (Ah (pv 4) (Bi (pv 5) (pv 6))))))))
   (Ab (Bg (Cm (B2 J) hr (Ah (Bc (pv 0) rfl) (Ah (Bc (pv 0) rfl) (Bi (pv 1) (pv 2))))))
   (Ae (Bg (Bt (UQ J) (hr.mono (by lk)) (Bc (pv 0) rfl) (Ah (pv 2) (Ah (Qq J.z J.j5) (Bi (pv 1) (pv 7))))))))),?_⟩
 refine Ia λN eN=>?_;refine vE rfl (vE rfl (vE rfl (vE rfl (vE rfl (vE rfl ⟨z.n,z.d,z.ev.cps.toList,z.th.cps.toList,z.ca.cps.toList,z.ct,by rw[Kj,Kj,Kj];rfl,gz,λl H1 s1 fl hl=>?_⟩)))));rw[Kj,Kj,Kj] at hl;let ah:H1 l=oT z.vs:=hl;clear hl;refine Fv eN [oR R.r,oN z.n,oN z.d,oS z.ev,oS z.th,oS z.ca,oN z.ct,oR l] rfl λN eN=>?_;let B:=RA.same s1;obtain⟨dx,L⟩:=B.hr;obtain⟨xs,Y,ts⟩:=B.wt;obtain⟨M,U,n1,n2⟩:=B.nm;obtain⟨d3,hd⟩:=id B.dy;let nn:Dx M (.inl z.n)=ZD:=by
  cases e:Dx M (.inl z.n) with
  |none=>rfl
  |some v=>exact ZR (n2 z.n (by rw[e];exact λy=>by cases y)) ae
 refine vE rfl ⟨R.r,CR,dx,_,_,rfl,L,J.ae.cl,J.bp,(UJ R c),(vE rfl ⟨R.r,CR,dx,_,_,rfl,L,J.ae.cl,J.bj,(VP R c),(vE rfl (vE rfl ⟨R.dy,R.wl,R.nl,M,c,z.n,z.d,rfl,B.dy,U,nn,af,?_⟩))⟩)⟩;let lx:=ts.len
 first|refine Qu eN λN eN=>?_|subst eN
 refine vE rfl (x5 R.r CR dx _ _ ⟨rfl,L,J.ae.cl,J.bp,UJ R c,R.dy,d3,_,rfl,hd,QA _ _,vE rfl (vE rfl (vE rfl ⟨R.dy,R.wl,R.nl,xs,M,z.d,0,z.n,.ref l,rfl,B.dy,Y,by lia,U,by lia,λt ht=>?_⟩))⟩);let ad:t≠R.wl:=(Ad Y ht).symm;let ab:t≠R.nl:=(Ad U ht).symm;let ac:R.wl≠R.nl:=At Y U (by intro y;cases y);let j:∀ b o,H1 b=ZC o->b≠R.wl->b≠R.nl->Sq H1 t R.wl R.nl xs M z.d 0 z.n (.ref l) b=ZC o:=λb o e h1 h2=>by rw[FH (Ad e ht) h1 h2];exact e
 let et:Sq H1 t R.wl R.nl xs M z.d 0 z.n (.ref l) t=oT [.int z.d,.int 0,.int z.n,.ref l]:=by
  unfold Sq;rw[Ag ab,Ag ad];exact Aa
 let ew:Sq H1 t R.wl R.nl xs M z.d 0 z.n (.ref l) R.wl=oL (xs++[.ref t]):=by
  unfold Sq;rw[Ag ac];exact Aa
 let en:Sq H1 t R.wl R.nl xs M z.d 0 z.n (.ref l) R.nl=ZC (.dK (Dz M (.inl z.n) (.bl ZI))):=Aa;generalize Sq H1 t R.wl R.nl xs M z.d 0 z.n (.ref l)=H2 at j et ew en;let tk:∀ b ws,H1 b=oT ws->H2 b=oT ws:=λb ws e=>j _ _ e (At e Y (by intro y;cases y)) (At e U (by intro y;cases y));let dw:=B.own R.wl (by simp [Rl.own]);let dn:=B.own R.nl (by simp [Rl.own]);let ap:=B.ap;refine q l H2 (λb o e nd=>j _ _ (s1 _ _ e) (λy=>nd (y▸dw)) (λy=>nd (y▸dn))) ?_;obtain⟨kv,⟨⟨d2,fs,e1,e2⟩,e3⟩,ru⟩:=B.ct;obtain⟨ls,aa,ag⟩:=B.ls;obtain⟨om,ho,o1,o2⟩:=B.oc;refine⟨⟨dx,j _ _ L (At L Y (by intro y;cases y)) (At L U (by intro y;cases y))⟩,⟨kv,⟨⟨d2,fs,j _ _ e1 (At e1 Y (by intro y;cases y)) (At e1 U (by intro y;cases y)),e2⟩,j _ _ e3 (At e3 Y (by intro y;cases y)) (At e3 U (by intro y;cases y))⟩,ru⟩,⟨d3,j _ _ hd (At hd Y (by intro y;cases y)) (At hd U (by intro y;cases y))⟩,⟨_,ew,(ts.mono tk).snoc et⟩,λe he=>?_,⟨_,en,?_,λn Z=>?_⟩,⟨ls,j _ _ aa ap.1.symm (At aa U (by intro y;cases y)),ag.mono tk⟩,⟨om,j _ _ ho (At ho Y (by intro y;cases y)) ap.2.symm,o1,λi z' S hz hS=>?_⟩,ap,B.own,λa ha=>?_⟩
 .rcases zAu.mp he with g|g
  .exact tk _ _ (B.el e g)
  .rw[zAh.mp g]
   exact tk _ _ ah
 .have:=Fk M (.inl z.n) (.bl ZI)
  rw[zAm,zAN]
  lia
 .rw[Iy] at Z
  by_cases y:(Sum.inl n:Ev)=.inl z.n
  .exact zAu.mpr (.inr (zAh.mpr (iB y)))
  .rw[ZH y] at Z
   exact zAu.mpr (.inl (n2 n Z))
 .obtain⟨p,ys,g1,g2,g3,g4,g5,g6,g7⟩:=o2 i z' S hz hS
  exact⟨p,ys,g1,g2,g3,g4,j _ _ g5 g3 (At g5 U (by intro y;cases y)),g6.mono tk,g7⟩
 .obtain⟨a1,o,a2,a3⟩:=B.al a ha
  refine⟨a1,?_⟩;by_cases yw:a=R.wl
  .rw[yw];exact⟨_,ew,trivial⟩
  by_cases yn:a=R.nl
  .rw[yn];exact⟨_,en,trivial⟩
  .exact⟨o,j _ _ a2 yw yn,a3⟩
def MT:∀ bs,Jm J 5 CR "enter" ["self","number","day","event","thing","cause","cents"] (JG bs):=λbs=>Jw J.z J.mq J.ae.cl bd λf fd F=>Sy J F
def Mq (J:Pm P w K mg base) {f:ZF} {bs:List XC} (F:XS K "told" "Roll.told" Oe f fd):XB P w K mg base Ew 4 f fd ["self","number"] (Wh bs):=Os F ["self","number"] df λsc H Q hr h=>by
 let B:=Rh hr;obtain⟨R,D,c,es,zs,Ss,rows,ns,i,z,S,rfl,M,hz,hS,gz,q⟩:=h;refine⟨_,(Ab (Bg (Cm (Yo J) hr (Bi (Bc (pv 0) rfl) (pv 1))))
   (Ae (Aj (Dt (Ce (K:=K) rfl) rfl (J.z.nn J.ba) (show zCI _=ZC (.type "list") from rfl) (Bn (HX B (Bc (pv 0) rfl) (pv 1) (λ_ _=>rfl))))))),?_⟩
 obtain⟨dx,j⟩:=M.hr;obtain⟨om,Y,_,o2⟩:=M.oc;obtain⟨p,ys,U,_,_,_,g5,Z,_⟩:=o2 i z S hz hS;let g:=ZY gz.1;refine vE rfl ⟨R.r,CR,dx,_,_,rfl,j,J.ae.cl,J.ay,(TV R c),(vE rfl ⟨R.oc,om,_,z.n,rfl,Y,U,g.1,g.2,?_⟩)⟩;exact vE rfl ⟨R.r,CR,dx,_,_,rfl,j,J.ae.cl,J.ay,TV R c,vE rfl ⟨R.oc,_,rfl,U▸XX.k (k:=.inl z.n) Y,p,ys,rfl,.inl (Dp.of g5),λl L=>q l ys _ (Ac L _) L Aa (Z.mono (An (Ac L _)))⟩⟩
def Yg:Jm J 4 CR "told" ["self","number"] (V3 (Wh)):=Jw J.z J.ir J.ae.cl bd λf fd F=>Pr λbs=>Mq J F
def KO:∀ bs,Jm J 4 CR "told" ["self","number"] (Wh bs):=λbs=>Jw J.z J.ir J.ae.cl bd λf fd F=>Mq J F
end
open Classical in
noncomputable def YM (D:ZF->Prop) (T:ZF) (H:Hp):Hp:=λb=>if D b\/b=T then ZD else H b
set_option tactic.hygienic true in
def YM.at {D:ZF->Prop} {b:ZF} {o:HO} (h:YM D TT H b=ZC o):¬ D b/\b≠TT/\H b=ZC o:=by
 unfold YM at h
 split at h
 .cases h
 .rename_i n
  exact⟨λy=>n (.inl y),λy=>n (.inr y),h⟩
def YM.of {D:ZF->Prop} {b:ZF} {o:HO} (n:¬ D b) (t:b≠TT) (h:H b=ZC o):YM D TT H b=ZC o:=by
 unfold YM;rw[ZH (λy=>y.elim n t)];exact h
def FW {D:ZF->Prop} {H H':Hp} (f:∀ b o,H b=ZC o->¬ D b->b≠TT->H' b=ZC o):Dg (YM D TT H) H':=λb o h=>by
 obtain⟨h1,j,g⟩:=YM.at h;exact f b o g h1 j
def Zr {H H':Hp} {b:ZF} {bs:List XC} (h:Kk H b bs) (s:Dg H H'):Kk H' b bs:=by
 obtain⟨dx,fs,j,h1,B,z,g⟩:=h;exact⟨dx,fs,j,s _ _ h1,B,s _ _ z,λx q=>(g x q).same s⟩
section
variable {bs:List XC} {D:ZF->Prop} {H H1:Hp} {R:Rl} {c:Option Int} {es:List Wl} {zs:List LF} {Ss:List (List Eu)} {rows:List LF} {ns:List Int}
def YC.step {r:ZF} {ys:List V} {S:List Eu} {z:LF} (h:YC bs D H R c es zs Ss rows ns) (ru:XD bs [] zs Ss kv) (q:H R.kp=ZC (.dT kv)) (k:∀ b o,H b=ZC o->b≠R.kp->H1 b=ZC o) (hr:H r=ZD) (Y:H1 r=oL ys) (st:XI H1 ys S) (aa:S.length<64)
  (so:Bs kv z (Aw z bs) S) (ct:XO CN H1 R.cp R.kp (Cq z S (Aw z bs) kv)) (F:H R.oc=ZC (.dK om)) (af:om.length<=zs.length) (ab:∀ (i:Nat) z S,zs[i]?=ZC z->Ss[i]?=ZC S->∃ p ys,Dx om (.inl z.n)=ZC (.ref p)/\D p/\p≠R.wl/\p≠R.lr/\H p=oL ys/\XI H ys S/\S.length<64)
  (ae:∀ y∈zs,y.n≠z.n) (hT:∃ o,H TT=ZC o):YC bs (λa=>D a\/a=r) (upd H1 R.oc (.dK (Dz om (.inl z.n) (.ref r)))) R c es (zs++[z]) (Ss++[S]) rows ns:=by
 let j:=k _ _ F (At F q (by intro y;cases y));let up:∀ b o,H1 b=ZC o->b≠R.oc->upd H1 R.oc (.dK (Dz om (.inl z.n) (.ref r))) b=ZC o:=λb o e n=>Gd e n;let eo:upd H1 R.oc (.dK (Dz om (.inl z.n) (.ref r))) R.oc=ZC (.dK (Dz om (.inl z.n) (.ref r))):=Aa;generalize upd H1 R.oc (.dK (Dz om (.inl z.n) (.ref r)))=H2 at up eo;let B:∀ b o,H b=ZC o->b≠R.kp->b≠R.oc->H2 b=ZC o:=λb o e n1 n2=>up _ _ (k _ _ e n1) n2;let U:∀ b ws,H b=oT ws->H2 b=oT ws:=λb ws e=>B _ _ e (At e q (by intro y;cases y)) (At e F (by intro y;cases y));let ac:∀ b ws,H1 b=oT ws->H2 b=oT ws:=λb ws e=>up _ _ e (At e j (by intro y;cases y));let len:=ru.len;obtain⟨⟨dx,h1⟩,_,⟨d3,h3⟩,⟨xs,Z,ts⟩,el,⟨ks,hn,n1,n2⟩,⟨ls,hl,tl⟩,_,ap,ow,al⟩:=h;obtain⟨⟨d2,fs,c1,c2⟩,c3⟩:=ct;refine⟨⟨dx,B _ _ h1 (At h1 q (by intro y;cases y)) (At h1 F (by intro y;cases y))⟩,⟨_,⟨⟨d2,fs,up _ _ c1 (At c1 j (by intro y;cases y)),c2⟩,up _ _ c3 (At c3 j (by intro y;cases y))⟩,ru.snoc so⟩,⟨d3,B _ _ h3 (At h3 q (by intro y;cases y)) (At h3 F (by intro y;cases y))⟩,⟨xs,B _ _ Z (At Z q (by intro y;cases y)) (At Z F (by intro y;cases y)),ts.mono U⟩,λe he=>U _ _ (el e he),⟨ks,B _ _ hn (At hn q (by intro y;cases y)) ap.2,n1,n2⟩,⟨ls,B _ _ hl (At hl q (by intro y;cases y)) (At hl F (by intro y;cases y)),tl.mono U⟩,⟨_,eo,?_,λi z' S' L M=>?_⟩,ap,λa ha=>.inl (ow a ha),λa ha=>?_⟩
 .have:=Fk om (.inl z.n) (.ref r)
  rw[zAm,zAN]
  lia
 .by_cases hi:i<zs.length
  .rw[zAK hi] at L
   rw[zAK (by lia)] at M;obtain⟨p,ad,g1,g2,g3,g4,g5,g6,g7⟩:=ab i z' S' L M;refine⟨p,ad,?_,.inl g2,g3,g4,B _ _ g5 (At g5 q (by intro y;cases y)) (At g5 F (by intro y;cases y)),g6.mono U,g7⟩;rw[Iy,ZH (λy=>ae z' (zAz L) (iB y))];exact g1
  .rw[zAA (by lia)] at L
   rw[zAA (by lia)] at M;let e0:i-zs.length=0:=by
    let:=(zAk.mp L).1;rw[zAN] at this
    lia
   rw[e0] at L;rw[show i-Ss.length=0 by lia] at M;cases L;cases M;refine⟨r,ys,by rw[Iy,ZJ rfl],.inr rfl,λy=>?_,λy=>?_,up _ _ Y (At Y j (by intro y;cases y)),st.mono ac,aa⟩
   .rw[y,Z] at hr;cases hr
   .rw[y,hl] at hr;cases hr
 .rcases ha with g|g
  .obtain⟨a1,o,a2,a3⟩:=al a g
   refine⟨a1,?_⟩;by_cases y1:a=R.oc
   .rw[y1];exact⟨_,eo,trivial⟩
   by_cases y2:a=R.kp
   .rw[y2];exact⟨_,up _ _ c3 (At c3 j (by intro y;cases y)),trivial⟩
   .exact⟨o,B _ _ a2 y2 y1,a3⟩
  .subst g
   refine⟨λy=>?_,_,up _ _ Y (At Y j (by intro y;cases y)),trivial⟩;obtain⟨o,hT⟩:=hT;rw[<- y,hr] at hT;cases hT
def YC.ext {xs vs:List V} {us:List LF} (h:YC bs D H R c es zs Ss rows ns) (hl:H R.lr=oL xs) (tl:TsAt LF.vs H (xs++vs) us):YC bs D (upd H R.lr (.lst (xs++vs))) R c es zs Ss us ns:=by
 let up:∀ b o,H b=ZC o->b≠R.lr->upd H R.lr (.lst (xs++vs)) b=ZC o:=λb o e n=>Gd e n;let j:upd H R.lr (.lst (xs++vs)) R.lr=oL (xs++vs):=Aa;generalize upd H R.lr (.lst (xs++vs))=H2 at up j;let g:∀ b ws,H b=oT ws->H2 b=oT ws:=λb ws e=>up _ _ e (At e hl (by intro y;cases y));obtain⟨⟨dx,h1⟩,⟨kv,⟨⟨d2,fs,F,c2⟩,c3⟩,ru⟩,⟨d3,L⟩,⟨B,hw,ts⟩,el,⟨ks,M,n1,n2⟩,_,⟨om,Z,o1,o2⟩,U,ow,al⟩:=h;refine⟨⟨dx,up _ _ h1 (At h1 hl (by intro y;cases y))⟩,⟨kv,⟨⟨d2,fs,up _ _ F (At F hl (by intro y;cases y)),c2⟩,up _ _ c3 (At c3 hl (by intro y;cases y))⟩,ru⟩,⟨d3,up _ _ L (At L hl (by intro y;cases y))⟩,⟨B,up _ _ hw U.1,ts.mono g⟩,λe he=>g _ _ (el e he),⟨ks,up _ _ M (At M hl (by intro y;cases y)),n1,n2⟩,⟨_,j,tl.mono g⟩,⟨om,up _ _ Z (At Z hl (by intro y;cases y)),o1,λi z S hz hS=>?_⟩,U,ow,λa ha=>?_⟩
 .obtain⟨p,q,g1,g2,g3,g4,g5,g6,g7⟩:=o2 i z S hz hS
  exact⟨p,q,g1,g2,g3,g4,up _ _ g5 g4,g6.mono g,g7⟩
 .obtain⟨a1,o,a2,a3⟩:=al a ha
  refine⟨a1,?_⟩;by_cases Y:a=R.lr
  .rw[Y];exact⟨_,j,trivial⟩
  .exact⟨o,up _ _ a2 Y,a3⟩
def YC.shut {d:Int} (h:YC bs D H R c es zs Ss rows ns) (hr:H R.r=oI CR dx (Rb R c)) (n1:CR≠CN) (n2:CR≠CD):YC bs D (upd H R.r (.ins CR dx (Rb R (ZC d)))) R (ZC d) es zs Ss rows ns:=by
 let up:∀ b o,H b=ZC o->b≠R.r->upd H R.r (.ins CR dx (Rb R (ZC d))) b=ZC o:=λb o e n=>Gd e n;let F:upd H R.r (.ins CR dx (Rb R (ZC d))) R.r=oI CR dx (Rb R (ZC d)):=Aa;generalize upd H R.r (.ins CR dx (Rb R (ZC d)))=H2 at up F;let g:∀ b ws,H b=oT ws->H2 b=oT ws:=λb ws e=>up _ _ e (At e hr (by intro y;cases y));obtain⟨_,⟨kv,⟨⟨d2,fs,B,c2⟩,c3⟩,ru⟩,⟨d3,L⟩,⟨U,Z,ts⟩,el,⟨ks,hn,j,q⟩,⟨ls,hl,tl⟩,⟨om,ho,o1,o2⟩,ap,ow,al⟩:=h;refine⟨⟨dx,F⟩,⟨kv,⟨⟨d2,fs,up _ _ B (λy=>?_),c2⟩,up _ _ c3 (At c3 hr (by intro y;cases y))⟩,ru⟩,⟨d3,up _ _ L (λy=>?_)⟩,⟨U,up _ _ Z (At Z hr (by intro y;cases y)),ts.mono g⟩,λe he=>g _ _ (el e he),⟨ks,up _ _ hn (At hn hr (by intro y;cases y)),j,q⟩,⟨ls,up _ _ hl (At hl hr (by intro y;cases y)),tl.mono g⟩,⟨om,up _ _ ho (At ho hr (by intro y;cases y)),o1,λi z S hz hS=>?_⟩,ap,ow,λa ha=>?_⟩
 .rw[y,hr] at B
  cases B
 .rw[y,hr] at L
  cases L
 .obtain⟨p,M,g1,g2,g3,g4,Y,g6,g7⟩:=o2 i z S hz hS
  exact⟨p,M,g1,g2,g3,g4,up _ _ Y (At Y hr (by intro y;cases y)),g6.mono g,g7⟩
 .obtain⟨a1,o,a2,a3⟩:=al a ha
  refine⟨a1,?_⟩;by_cases y1:a=R.r
  .rw[y1];exact⟨_,F,trivial⟩
  .exact⟨o,up _ _ a2 y1,a3⟩
def YC.up {xs:List V} (h:YC bs D H R c es zs Ss rows ns) (k:∀ b o,H b=ZC o->b≠TT->b≠R.dy->H1 b=ZC o) (dy:Dy CD H1 R.dy wl R.nl) (fw:H wl=ZD) (hw:H1 wl=oL xs) (ts:TsAt EG H1 xs L) (sub:∀ e∈L,e∈es) (nC:CD≠CN) (nR:CR≠CD) (hT:∃ ps,H TT=ZC (.tbl ps)) :
  YC bs (λa=>D a\/a=wl) H1 { R with wl:=wl } c L zs Ss rows ns:=by
 obtain⟨⟨dx,h1⟩,⟨kv,⟨⟨d2,fs,Y,c2⟩,c3⟩,ru⟩,⟨d3,q⟩,⟨ad,ac,aa⟩,el,⟨ks,hn,n1,n2⟩,⟨ls,hl,tl⟩,⟨om,ho,o1,o2⟩,ap,j,al⟩:=h;let nT:∀ a,D a->a≠TT:=λa B=>(al a B).1;let F:∀ a,a∈R.own->∀ o,H a=ZC o->a≠R.dy->H1 a=ZC o:=λa B o e n=>k _ _ e (nT a (j a B)) n;obtain⟨ab,hT⟩:=hT;let M:∀ b ws,H b=oT ws->H1 b=oT ws:=λb ws e=>k _ _ e (At e hT (by intro y;cases y)) (At e q (by intro y;cases y));let nw:∀ b o,H b=ZC o->b≠wl:=λb o e=>Ad e fw;refine⟨⟨dx,F _ (by simp [Rl.own]) _ h1 (λy=>?_)⟩,⟨kv,⟨⟨d2,fs,F _ (by simp [Rl.own]) _ Y (λy=>?_),c2⟩,F _ (by simp [Rl.own]) _ c3 (At c3 q (by intro y;cases y))⟩,ru⟩,dy,⟨xs,hw,ts⟩,λe he=>M _ _ (el e (sub e he)),⟨ks,F _ (by simp [Rl.own]) _ hn (At hn q (by intro y;cases y)),n1,n2⟩,⟨ls,F _ (by simp [Rl.own]) _ hl (At hl q (by intro y;cases y)),tl.mono M⟩,⟨om,F _ (by simp [Rl.own]) _ ho (At ho q (by intro y;cases y)),o1,λi z S hz hS=>?_⟩,⟨(nw _ _ hl).symm,ap.2⟩,λa B=>?_,λa B=>?_⟩
 .have y':R.r=R.dy:=y
  rw[y',q] at h1;cases h1
 .have y':R.cp=R.dy:=y
  rw[y',q] at Y;cases Y
 .obtain⟨p,Z,g1,g2,g3,g4,U,g6,g7⟩:=o2 i z S hz hS
  exact⟨p,Z,g1,.inl g2,nw _ _ U,g4,k _ _ U (nT p g2) (At U q (by intro y;cases y)),g6.mono M,g7⟩
 .simp only [Rl.own,zAj,zBg,dG] at B
  rcases B with rfl|rfl|rfl|rfl|rfl|rfl|rfl|rfl
  .exact .inl (j _ (by simp [Rl.own]))
  .exact .inl (j _ (by simp [Rl.own]))
  .exact .inl (j _ (by simp [Rl.own]))
  .exact .inl (j _ (by simp [Rl.own]))
  .exact .inr rfl
  .exact .inl (j _ (by simp [Rl.own]))
  .exact .inl (j _ (by simp [Rl.own]))
  .exact .inl (j _ (by simp [Rl.own]))
 .rcases B with g|g
  .obtain⟨a1,o,a2,a3⟩:=al a g
   refine⟨a1,?_⟩;by_cases y1:a=R.dy
   .obtain⟨d9,h9⟩:=dy
    rw[y1];exact⟨_,h9,trivial⟩
   .exact⟨o,k _ _ a2 a1 y1,a3⟩
  .subst g
   refine⟨λy=>?_,_,hw,trivial⟩;rw[y,hT] at fw;cases fw
end
theorem Mw {f:LF->List V}:∀ {xs ys} {as cs},TsAt f H xs as->TsAt f H ys cs->TsAt f H (xs++ys) (as++cs)
 |[],_,[],_,_,h=>h
 |[],_,_::_,_,h,_=>h.elim
 |_::_,_,[],_,h,_=>h.elim
 |x::xs,ys,a::as,cs,⟨h,r⟩,g=>⟨h,Mw r g⟩
theorem Vm {H:Hp}:∀ {es:List Wl},(∀ e∈es,H e.1=oT e.2.vs)->TsAt LF.vs H (es.map λe=>V.ref e.1) (es.map (·.2))
 |[],_=>trivial
 |e::es,h=>⟨⟨e.1,rfl,h e zAd⟩,Vm λx g=>h x (zAb _ g)⟩
structure SD (bs:List XC):Prop where
 hm:∀ x∈bs,Nc x.t<4
 l4:bs.length<=4
 nd:(bs.map (·.nm)).Nodup
 c3:∀ x∈bs,x.cs.length<=3
inductive M0 (bs:List XC) (vs:List V) (H:Hp) (Q:VK) (E:XK):Prop
 |mk (R D c es zs Ss ns:_) (day:Int) (z0:vs=[.ref R.r,.int day]) (z1:YC bs D H R c es zs Ss zs ns) (z2:Kk (YM D TT H) R.b bs) (z3:SD bs) (z4:NY c day) (z5:0<=day) (z6:day<=1000000) (z7:zs.length+es.length<=50) (z8:((zs++es.map (·.2)).map (·.n)).Nodup) (z9:(∀ e∈es,0<e.2.ct)) (z10:LamAt TT Er Gp H) (z11:∀ (a:ZF) (R':Rl) (D':ZF->Prop) (es':List Wl) (Ss':List (List Eu)) (H':Hp),R'.r=R.r->R'.b=R.b->(∀ b o,H b=ZC o->¬ D b->b≠TT->H' b=ZC o)->(∀ b,D' b->D b\/H b=ZD)->LamAt TT Er Gp H'->es'.Perm (es.filter λe=>decide (e.2.d<=day))->es'.Pairwise (OY AO)->YC bs D' H' R' (ZC day) (es.filter λe=>decide (day<e.2.d)) (zs++es'.map (·.2)) (Ss++Ss') (zs++es'.map (·.2)) ns->H a=ZD->¬ D' a->H' a=oL (es'.map λe=>V.int e.2.n)->Q (.ref a) H')
section
variable {P:ZO} {w:ZX} {K:zAa} {mg:ZM->Option ZE} {base:aB}
def Sm (J:Pm P w K mg base) {f} {fd} {bs} (F:XS K "close" "Roll.close" Mr f fd):XB P w K mg base Ew 9 f fd ["self","day"] (M0 bs):=Os F ["self","day","losses","loss"] df λsc H Q hr h=>by
 let bh:=Rh hr;obtain⟨R,D,c,es,zs,Ss,ns,L,rfl,RA,bz,bk,af,d0,d1,le,nd,pos,b0,q⟩:=h;refine⟨_,(Ab (Ax (Cg (Bv (Cm (Xa J) hr (Bi (Bc (pv 0) rfl) (pv 1)))))
    (Ae (Aj (Bh Cs)))
    Am)
   (Ab (Bj (pv 0) (pv 1) rfl)
   (Ab (Ff (NC:=["entry"]) (own:=["entry"]) (cs:=[]) (ix:=[]) (j:=2) sc.nd rfl rfl rfl (Dr.of rfl) rfl trivial (Hc K (Bt (NM J) (hr.mono (by lk)) (Bc (pv 0) rfl) (Bn (pv 1)))) (λ_ _ _=>(Ke 0)) (λ_ _ _=>Ca) (λ_ _ _=>(Ea K (pv 0) Af)))
   (Ab (Bq ZV rfl (Hc K (pv 2)) (Et sc 3)
    (Ae (Vv bh (Bc (pv 0) rfl) (Ea K (pv 3) (Qq J.z J.cg)) (Cm (FY J) hr (Ah (Bc (pv 0) rfl) (Bi (Bc (pv 0) rfl) (pv 3)))) rfl)))
   (Ab (Bg (Cr (K:=K) rfl ZT bG bE Hh (Bc (pv 0) rfl) (Bn (pv 2))))
   (Ae (Aj (Cj (NC:=["loss"]) (own:=["loss"]) (cs:=[]) (ix:=[]) rfl (Dr.of rfl) rfl trivial (Hc K (pv 2)) (λ_ _ _=>(Ke 0)) (λ_ _ _=>Ca) (λ_ _ _=>(Ea K (pv 0) (Qq J.z J.cg))))))))))),?_⟩
 refine Ia λN Z=>?_;obtain⟨dx,ah⟩:=RA.hr;refine vE rfl ⟨R.r,CR,dx,_,_,rfl,ah,J.ae.cl,J.bj,VP R c,vE rfl ⟨c,L,rfl,d0,d1,af,vE rfl (Du ?_)⟩⟩
 first|refine Qu Z λN Z=>?_|subst Z
 refine vE rfl (vE rfl (x4 R.r CR dx _ (c6 rfl ah J.ae.cl J.bj (by show 6<1000;decide) ?_)));rw[pX];let ac:([CN,CD,CR]:List ZF).Nodup:=by
  let bw:=cQ (oG 15 _) WN;exact bw
 let bu:CD≠CN:=λy=>by rw[y] at ac;simp at ac
 let b2:CR≠CN:=λy=>by rw[y] at ac;simp at ac
 let as:CR≠CD:=λy=>by rw[y] at ac;simp at ac
 let RB:=RA.shut (d:=L) ah b2 as;let k1:∀ b o,H b=ZC o->b≠R.r->upd H R.r (.ins CR dx (Rb R (ZC L))) b=ZC o:=λb o e n=>Gd e n;let ad:LamAt TT Er Gp (upd H R.r (.ins CR dx (Rb R (ZC L)))):=b0.ins ah _;let f1:∀ x,upd H R.r (.ins CR dx (Rb R (ZC L))) x=ZD->H x=ZD:=λx hx=>by
  cases z:H x with
  |none=>rfl
  |some o=>
   by_cases y:x=R.r
   .rw[y,Aa] at hx;cases hx
   .rw[k1 _ _ z y] at hx;cases hx
 generalize upd H R.r (.ins CR dx (Rb R (ZC L)))=H1 at RB k1 ad f1;obtain⟨bt,bf⟩:=RB.hr;obtain⟨a6,bx,bq⟩:=RB.wt;obtain⟨d3,ay⟩:=id RB.dy
 first|refine Qu Z λN Z=>?_|subst Z
 refine vE rfl ⟨R.r,CR,bt,_,_,rfl,bf,J.ae.cl,J.bp,UJ R _,R.dy,d3,_,rfl,ay,UB _ _,vE rfl ⟨R.dy,R.wl,R.nl,a6,es,L,rfl,RB.dy,bx,bq,by lia,ad,λwl r ys us B H2 k2 a4 fw b7 b3 bj bc a2 a8 pm pw an=>?_⟩⟩;obtain⟨b5,a0⟩:∃ ps,H1 TT=ZC (.tbl ps):=by
  rcases ad with z|⟨_,z,_⟩
  .exact⟨_,z⟩
  .exact⟨_,z⟩
 let l':B.length<=es.length:=by rw[pm.length_eq];exact zAO _ _
 let sub:∀ e∈B,e∈es:=λe M=>(zAR.mp (pm.mem_iff.mp M)).1;let RC:=RB.up k2 a4 fw bj bc (λe M=>(zAR.mp M).1) bu as ⟨_,a0⟩;let b1:∀ e∈B,H2 e.1=oT e.2.vs:=λe M=>k2 _ _ (RB.el e (sub e M)) (At (RB.el e (sub e M)) a0 (by intro y;cases y)) (At (RB.el e (sub e M)) ay (by intro y;cases y));let dr:=RA.own R.r (by simp [Rl.own]);let dd:=RA.own R.dy (by simp [Rl.own]);refine⟨r,rfl,⟨_,Dp.of a2⟩,λp hp=>?_⟩;refine O4 (fv:=EG) (g:=λe=>V.ref e.1) a2 hp a8 (by lia) (λt e H9 Q9 _ _ ht q9=>vE rfl (vI rfl rfl (Hx.of ht) rfl q9)) ?_;let np:¬ (D p\/p=wl):=λy=>by
  obtain⟨_,o,e,_⟩:=RC.al p y;rw[hp] at e;cases e
 let s3:=Ac hp (.lst (B.map λe=>V.ref e.1));let aj:upd H2 p (.lst (B.map λe=>V.ref e.1)) p=oL (B.map λe=>V.ref e.1):=Aa;let RD:=RC.same s3;let ag:=an.same s3;let fp:H p=ZD:=f1 p (by
  cases z:H1 p with
  |none=>rfl
  |some o=>
   by_cases y1:p=TT
   .rcases an with z|⟨_,z,_⟩
    .rw[<- y1,hp] at z;cases z
    .rw[<- y1,hp] at z;cases z
   by_cases y2:p=R.dy
   .exact ZR (.inl (y2▸dd)) np
   .rw[k2 _ _ z y1 y2] at hp;cases hp)
 refine Fv Z [oR R.r,oN L,oR p,ZD] rfl λN Z=>?_;generalize upd H2 p (.lst (B.map λe=>V.ref e.1))=H3 at s3 aj RD ag;let ai:∀ b o,H b=ZC o->¬ D b->b≠TT->H3 b=ZC o/\¬ (D b\/b=wl):=λb o e n1 n2=>by
  let e1:=k1 _ _ e (λy=>n1 (y▸dr));refine⟨s3 _ _ (k2 _ _ e1 n2 (λy=>n1 (y▸dd))),λy=>?_⟩;rcases y with y|y
  .exact n1 y
  .exact Ad e1 fw y
 let ao:∀ e∈B,H3 e.1=oT e.2.vs:=λe M=>s3 _ _ (b1 e M);let ax:∀ e∈B,¬ (D e.1\/e.1=wl):=λe M y=>by
  obtain⟨_,o,e1,n⟩:=RD.al _ y;rw[ao e M] at e1;cases e1;exact n
 let br:((zs++B.map (·.2)).map (·.n)).Nodup:=by
  let q1:((zs++(es.filter λe=>decide (e.2.d<=L)).map (·.2)).map (·.n)).Nodup:=cQ ((jL (kD _) (zCu.map _)).map _) nd;exact (((pm.map (·.2)).append_left zs).map (·.n)).nodup_iff.mpr q1
 obtain⟨b6,am⟩:∃ ps,H3 TT=ZC (.tbl ps):=by
  rcases ag with z|⟨_,z,_⟩
  .exact⟨_,z⟩
  .exact⟨_,z⟩
 refine vE rfl ⟨p,rfl,⟨_,Dp.of aj⟩,?_⟩;refine Bx (K:=K) (a:=p) (xs:=B.map λe=>V.ref e.1) (λi σ H4=>(∃ o,σ=[oR R.r,oN L,oR p,o])/\∃ (D4:ZF->Prop) (ab:List (List Eu)),YC bs D4 H4 { R with wl:=wl } (ZC L) (es.filter λe=>decide (L<e.2.d)) (zs++(B.take i).map (·.2)) (Ss++ab) zs ns/\(∀ a,D4 a->(D a\/a=wl)\/H3 a=ZD)/\(∀ a,(D a\/a=wl)->D4 a)/\(∀ b o,H3 b=ZC o->¬ (D b\/b=wl)->H4 b=ZC o))
  ⟨⟨ZD,rfl⟩,_,[],by rw[zBe,zBv,zAY,zAY];exact RD,λa h=>.inl h,λa h=>h,λ_ _ e _=>e⟩ (λi σ H4 _ hh=>by
   obtain⟨_,D4,ab,_,_,_,Y⟩:=hh;exact Dp.of (Y _ _ aj np)) ?_ ?_
 .rintro i y σ H4 hi ⟨⟨o,rfl⟩,D4,ab,RE,g4,j4,Y⟩ N9 bn
  rw[zAx] at hi;obtain⟨e,M,rfl⟩:=zAQ.mp hi;let me:=zAz M;let U:=Y _ _ (ao e me) (ax e me);obtain⟨ae,aa⟩:=RE.hr;obtain⟨kv,a3,ru⟩:=RE.ct;obtain⟨om,aq,o1,o2⟩:=RE.oc;let a1:=Zr bz (FW λb o h1 h2 h3=>Y _ _ (ai b o h1 h2 h3).1 (ai b o h1 h2 h3).2);let lt:((B.take i).map (·.2)).length<=es.length:=by rw[zAc,zAn];lia
  let kl:=ru.klen bk.l4 bk.c3;rw[zAm] at kl o1;let bo:kv.length<=700:=by
   rw[zBZ] at kl
   lia
  let l8:=bk.l4;refine vE rfl ⟨R.r,CR,ae,_,_,rfl,aa,J.ae.cl,J.ie,WW _ _,vE rfl ⟨R.r,CR,ae,_,_,rfl,aa,J.ae.cl,J.ft,WD _ _,vE rfl ⟨R.b,R.cp,R.kp,kv,e.1,e.2,bs,rfl,a1,bk.hm,by lia,bk.nd,a3,ru.int (λk v h=>by simp [Dx] at h),bo,U,pos e (sub e me),λr5 b4 S H5 k5 al ba a9 bp a7 bb=>?_⟩⟩⟩;let ak:=a3.hk;let bm:=k5 _ _ aq (At aq ak (by intro y;cases y));let bv:∀ y∈zs++(B.take i).map (·.2),y.n≠e.2.n:=λy hy ey=>by
   let st:(zs++(B.take i).map (·.2)++[e.2]).map (·.n)=((zs++(B.take (i+1)).map (·.2)).map (·.n)):=by
    rw[zBz,M,zAq (l₁:=B.take i),<- zAZ];rfl
   let q1:((zs++(B.take (i+1)).map (·.2)).map (·.n)).Nodup:=cQ ((jL (kD _) ((zCf _ _).map _)).map _) br;rw[<- st,zAq,zCz] at q1;exact q1.2.2 _ (gO hy) _ (zAh.mpr rfl) ey
  let RF:=RE.step ru ak k5 al ba a9 a7 bp bb aq (by rw[zAm];exact o1) o2 bv ⟨_,Y _ _ am (λy=>(RD.al _ y).1 rfl)⟩;refine vE rfl (x5 R.r CR ae _ _ (c6 rfl (k5 _ _ aa (At aa ak (by intro y;cases y))) J.ae.cl J.ay (TV _ _) (vE rfl (vI rfl rfl (Hx.of (k5 _ _ U (At U ak (by intro y;cases y)))) rfl (x2 R.oc _ (c3 rfl (YT.k (k:=.inl e.2.n) bm (by rw[zCH];lia)) (bn _ _ ⟨⟨_,rfl⟩,(λa=>D4 a\/a=r5),ab++[S],?_,λa h=>?_,λa h=>.inl (j4 a h),λb o h n=>?_⟩)))))))
  .rw[zBz,M,zAq,<- zAZ,<- zAZ]
   exact RF
  .rcases h with h|h
   .exact g4 a h
   .subst h
    refine .inr ?_;cases z:H3 a with
    |none=>rfl
    |some o=>
     by_cases y:D a\/a=wl
     .obtain⟨_,o',e',_⟩:=RE.al a (j4 a y)
      rw[al] at e';cases e'
     .rw[Y _ _ z y] at al;cases al
  .have n1:¬ D4 b:=λy=>by
    rcases g4 b y with z|z
    .exact n z
    .rw[h] at z;cases z
   let e4:=Y _ _ h n;let z1:D4 R.oc:=RE.own _ (by simp [Rl.own]);let z2:D4 R.kp:=RE.own _ (by simp [Rl.own]);rw[Ag (λy=>n1 (by rw[y];exact z1))];exact k5 _ _ e4 (λy=>n1 (by rw[y];exact z2))
 .rintro σ H4 ⟨⟨o,rfl⟩,D4,ab,RE,g4,j4,Y⟩
  rw[zAc,zAB] at RE;obtain⟨ae,aa⟩:=RE.hr;obtain⟨ls,U,au⟩:=RE.ls;let av:=Y _ _ aj np;let ll:=au.len
  first|refine Qu Z λN Z=>?_|subst Z
  refine vE rfl (x5 R.r CR ae _ _ (c7 rfl aa J.ae.cl J.cf (WL _ _) (.inl ⟨rfl,_,Dp.of U⟩) (vE rfl (x4 R.lr p ls _ (c6 rfl rfl U av (by rw[zCH,zAc];lia) ?_)))));let ap:∀ e∈B,H4 e.1=oT e.2.vs:=λe M=>Y _ _ (ao e M) (ax e M);let RG:=RE.ext (vs:=B.map λe=>V.ref e.1) U (Mw au (Vm ap));let be:p≠R.lr:=λy=>np (.inl (y▸RA.own _ (by simp [Rl.own])));let k5:∀ b o,H4 b=ZC o->b≠R.lr->upd H4 R.lr (.lst (ls++B.map λe=>V.ref e.1)) b=ZC o:=λb o e n=>Gd e n;let f5:∀ x,upd H4 R.lr (.lst (ls++B.map λe=>V.ref e.1)) x=ZD->H4 x=ZD:=λx hx=>by
   by_cases y:x=R.lr
   .rw[y,Aa] at hx;cases hx
   .rw[Ag y] at hx;exact hx
  generalize upd H4 R.lr (.lst (ls++B.map λe=>V.ref e.1))=H5 at RG k5 f5;let aw:=k5 _ _ av be;let bl:∀ e∈B,H5 e.1=oT e.2.vs:=λe M=>k5 _ _ (ap e M) (At (ap e M) U (by intro y;cases y))
  first|refine Qu Z λN Z=>?_|subst Z
  refine vE rfl ⟨p,rfl,⟨_,Dp.of aw⟩,λa ha=>?_⟩;refine O4 (fv:=LF.vs) (g:=λz:LF=>V.int z.n) aw ha (Vm bl) (by rw[zAc];lia) (λt z H9 Q9 _ _ ht q9=>vE rfl (vI rfl rfl (Hx.of ht) rfl q9)) ?_;rw[zBw];let s6:=Ac ha (.lst (B.map ((λz:LF=>V.int z.n) ∘ λx:Wl=>x.2)));let ar:∀ b o,H b=ZC o->¬ D b->b≠TT->H5 b=ZC o:=λb o e n1 n2=>by
   obtain⟨e3,n3⟩:=ai b o e n1 n2;exact k5 _ _ (Y _ _ e3 n3) (λy=>n1 (y▸RA.own _ (by simp [Rl.own])))
  let bg:∀ b,D4 b->D b\/H b=ZD:=λb hb=>by
   rcases g4 b hb with (z|z)|z
   .exact .inl z
   .refine .inr ?_
    rw[z];exact f1 _ fw
   .by_cases y:D b
    .exact .inl y
    refine .inr ?_;cases u:H b with
    |none=>rfl
    |some o=>
     by_cases t:b=TT
     .rw[t,am] at z;cases z
     .rw[(ai b o u y t).1] at z;cases z
  let fa:H a=ZD:=by
   cases u:H a with
   |none=>rfl
   |some o=>
    let a5:H5 a=ZD:=ha;by_cases y:D a
    .obtain⟨_,o',e',_⟩:=RG.al a (j4 a (.inl y))
     rw[a5] at e';cases e'
    by_cases t:a=TT
    .have z:=k5 _ _ (Y _ _ am (λy=>(RD.al _ y).1 rfl)) (At (Y _ _ am (λy=>(RD.al _ y).1 rfl)) U (by intro y;cases y))
     rw[<- t,a5] at z;cases z
    .rw[ar a o u y t] at a5;cases a5
  let az:LamAt TT Er Gp H5:=ag.mono λb o e h=>k5 _ _ (Y _ _ e (λy=>?_)) (λy=>?_)
  .exact q a { R with wl:=wl } D4 B ab _ rfl rfl (λb o e n1 n2=>s6 _ _ (ar b o e n1 n2)) bg (az.same s6) pm pw (RG.same s6) fa (λy=>by
    obtain⟨_,o',e',_⟩:=RG.al a y;rw[ha] at e';cases e') Aa
  .obtain⟨n1,o',e',n2⟩:=RD.al b y
   rw[e] at e';cases e';rcases h with ⟨ps,h⟩|⟨φ,h⟩
   .rw[h] at n2
    exact n2
   .rw[h] at n2
    exact n2
  .rw[y] at e
   obtain⟨xs9,h9,_⟩:=RD.ls;let bi:H3 R.lr=oL xs9:=h9;rw[bi] at e;cases e;rcases h with ⟨ps,h⟩|⟨φ,h⟩ <;> cases h
def ML (J:Pm P w K mg base):Jm J 9 CR "close" ["self","day"] (V3 (M0)):=Jw J.z J.mr J.ae.cl bd λf fd F=>Pr λbs=>Sm J F
end
end CRL
namespace CRL
open PySem L2
def LL:List Nat:=[113,119,101,114,116,121,117,105,111,112,97,100,103,104,106,107,108,122,120,99,118,98,110,109]
def SO:aK "qwertyuiopadghjklzxcvbnm"=tx LL:=by ac_nf
def IY:∀ c∈LL,Gx c/\c≠115:=by unfold Gx;decide
def PP:LL.Nodup:=by lk
def PJ {i:Int} (q:0<=i) (h1:i<24):∃ c,c∈LL/\Pa LL i=ZC c/\LL[i.toNat]?=ZC c:=by
 obtain⟨j,rfl⟩:=aQ q;let g:j<LL.length:=by show j<24;lia
 refine⟨LL[j],zBj _,Fw (zAe g),?_⟩;rw[show ((j:Int)).toNat=j by lia];exact zAe g
theorem IS:∀ g:List Nat,bO (tx []) (g.map λc=>tx [c])=tx g
 |[]=>rfl
 |[c]=>rfl
 |c::d::g=>by
  let ih:=IS (d::g);show tx [c]++tx []++bO (tx []) ((d::g).map λc=>tx [c])=_;rw[ih,Wq,Wq];rfl
def R9 {l:List Nat} {i j:Int} (q:0<=i) (h1:i<=j) (g:j<=l.length):gL (tx l) (ZC i) (ZC j)=tx ((l.drop i.toNat).take (j-i).toNat):=by
 show mG (tx l) (ZC i) (ZC j)=_;rw[StrLaws.sliceText_plain ⟨q,h1,g⟩];rfl
def IQ {g:Nat->List Nat} (nm:∀ i,i<4->1<=(g i).length/\(g i).length<=8/\∀ c∈g i,c∈LL) (inj:∀ i j,i<4->j<4->g i=g j->i=j):BX ((zAS 4).map λi=>tx (g i)):=by
 refine NQ g (by lk) (λi hi=>⟨⟨(nm i hi).1,(nm i hi).2.1⟩,λc q=>(IY c ((nm i hi).2.2 c q)).1⟩) (λi hi e=>?_) inj;let:(115:Nat)∈g i:=by rw[e];simp [BM]
 exact (IY _ ((nm i hi).2.2 _ this)).2 rfl
inductive GB (vs:List V) (H:Hp) (Q:VK) (E:XK):Prop
 |mk (c:Int) (z0:vs=[.int c,.int 4]) (z1:∀ r ns H',Dg H H'->H r=ZD->H' r=oL (ns.map V.str)->BX ns->ns.length=4->Q (.ref r) H')
section
seal L2.PS L2.PSs L2.PE L2.PA
variable {P:ZO} {w:ZX} {K:zAa} {mg:ZM->Option ZE} {base:aB}
def Ob (J:Pm P w K mg base):Jc J 2 "_law_names" ["_law_cell_here","_law_many"] GB:=Gj J.z J.qx ["_law_cell_here","_law_many","_law_letters","_law_picks","_law_some","_law_size","_law_at","_law_first","_law_names_here","_law_k","_law_sign"] df λsc H Q hr h=>by
 obtain⟨c,rfl,q⟩:=h;refine⟨_,(Ab (Nf (i:=2) sc.nd rfl (Or.inr rfl) Be)
   (Ab (Ff (NC:=["_law_k","_law_cell_here"]) (own:=["_law_k"]) (cs:=["_law_cell_here"]) (ix:=[0]) (j:=3) sc.nd rfl rfl rfl (Dr.of rfl) rfl ⟨⟨rfl,.inl rfl,rfl⟩,trivial⟩ (Ei rfl (J.z.nn J.az) (Bn Af)) (λ_ _ _=>(Ke 0)) (λ_ _ _=>Ca) (λ_ _ _=>(Ai Bd (Cm (Br J) hr (Bi (pv 1) (pv 0))) Af)))
   (Ab (Nf (i:=4) sc.nd rfl (Or.inr rfl) (Cr (K:=K) rfl kB PySem.F.slot_str_join PySem.F.type_str_join CQ Be (Bn (Cj (NC:=["_law_k","_law_letters"]) (own:=["_law_k"]) (cs:=["_law_letters"]) (ix:=[2]) rfl (Dr.of rfl) rfl ⟨⟨rfl,.inl rfl,rfl⟩,trivial⟩ (Hc K (pv 3)) (λ_ _ _=>(Ke 0)) (λ_ _ _=>Ca) (λ_ _ _=>(L9 CI (pv 1) (pv 0) (λ_ _=>rfl)))))))
   (Ab (Ax (Al Cc (Ai Bd (pv 0) Af) Af (Ap _))
    (Ae (Aj (Cj (NC:=["_law_k","_law_some"]) (own:=["_law_k"]) (cs:=["_law_some"]) (ix:=[4]) rfl (Dr.of rfl) rfl ⟨⟨rfl,.inl rfl,rfl⟩,trivial⟩ (Ei rfl (J.z.nn J.az) (Bn (pv 1))) (λ_ _ _=>(Ke 0)) (λ_ _ _=>Ca) (λ_ _ _=>(Cu C7 (pv 1) Fc (Ci (Ai Bf (pv 0) Af)))))))
    Am)
   (Ab (Cn sc 5 (Ai Bf Af (Ai Bd (Ai Bz (pv 0) Af) Af)))
   (Ab (Cn sc 6 (Ai Bd (Ai Bz (pv 0) Af) (pv 5)))
   (Ab (Cn sc 7 (Ai Bd (Ai Bz (pv 0) Af) Af))
   (Ab (Cn sc 8 (Bh Cs))
   (Ab (Bq ZV rfl (Ei rfl (J.z.nn J.az) (Bn (pv 1))) (Et sc 9)
    (Ab (Cn sc 10 (L9 CI (pv 2) (Ai Bf (pv 7) (pv 9)) (λ_ _=>rfl)))
   (Ae (Bg (Cr (K:=K) rfl ZT aA ZZ Bw (pv 8) (Bn (Ai Ie (Ai Ie (Cu C7 (pv 4) Fc (Ci (pv 6))) (pv 10)) (Cu C7 (pv 4) (Ci (Ai Bf (pv 6) Af)) (Ci (pv 5))))))))))
   (Ae (Aj (pv 8)))))))))))),?_⟩
 refine Ia λN eN=>?_;refine Fv eN [oN c,oN 4,oS (tx LL),ZD,ZD,ZD,ZD,ZD,ZD,ZD,ZD] (by rw[<- SO];rfl) λN eN=>?_;refine vE rfl ⟨by lk,by lk,λr ag=>?_⟩;refine Hv (lo:=0) (n:=8) (λi ys L=>∃ Y:List Int,ys=Y.map V.int/\Y.length=i/\(∀ k∈Y,0<=k/\k<24)/\L r=oL ys/\Dg H L) ⟨[],rfl,rfl,(λk hk=>by cases hk),Aa,Ac ag _⟩
  (λi ys L _ ⟨Y,e,l,_,h1,_⟩=>⟨h1,by rw[e,zAc,l];exact zAl _⟩) (by rw[zCH];lia) (λi ys L hi ⟨Y,e,l,ok,h1,Z⟩=>?_) (λys L ⟨Y,e,l,ok,h1,Z⟩=>?_)
 .refine vE rfl (vE rfl ⟨c,0+(i:Int),rfl,by lia,by lia,λm U s3 m0 m1=>⟨_,_,rfl,rfl,(by show (0:Int)<24;decide),s3 _ _ h1,rfl,Y++[m%24],?_,?_,λk hk=>?_,Aa,λx o z=>?_⟩⟩)
  .rw[e,zAq];rfl
  .rw[zAm,l];rfl
  .rcases zAu.mp hk with y|y
   .exact ok k y
   .rw[zAh.mp y]
    let:=md (a:=m) (b:=24) (by lk)
    lia
  .rw[Ag (Ad z ag)]
   exact s3 _ _ (Z x o z)
 subst e;refine Fv eN [oN c,oN 4,oS (tx LL),oR r,ZD,ZD,ZD,ZD,ZD,ZD,ZD] rfl λN eN=>?_;let af:(tx LL).length<=sizeLine:=by
  rw[Es,zCH]
  decide
 refine⟨rfl,vE rfl ⟨r,rfl,⟨_,Dp.of h1⟩,λr2 ae=>?_⟩⟩;let sm:∀ ys:List V,Dg L (upd L r2 (.lst ys)):=λys=>Ac ae _;refine Bk (K:=K) (a:=r) (xs:=Y.map V.int) (λi ys U=>U=upd L r2 (.lst ys)/\∃ cs:List Nat,ys=cs.map (λc=>V.str (tx [c]))/\cs.length=i/\∀ c∈cs,c∈LL) ⟨rfl,[],rfl,rfl,λc hc=>by cases hc⟩ (λi ys U _ ⟨e,cs,ec,S,_⟩=>⟨by rw[e];exact Aa,by rw[ec,zAc,S];exact zAl _,by rw[e];exact Dp.of (sm ys _ _ h1)⟩) (by rw[zCH,zAc];lia) (λi x ys U hi ⟨e,cs,ec,S,oc⟩=>?_) (λys U ⟨e,cs,ec,S,oc⟩=>?_)
 .rw[zAx] at hi
  obtain⟨k,hk,rfl⟩:=zAQ.mp hi;obtain⟨k0,k1⟩:=ok k (zAz hk);obtain⟨d,ai,ad,_⟩:=PJ k0 k1;subst e;refine vE rfl (vE rfl ⟨tx LL,k,d,rfl,rfl,af,ad,Aa,rfl,by rw[Vx],cs++[d],?_,?_,λc hc=>?_⟩)
  .rw[ec,zAq];rfl
  .rw[zAm,S];rfl
  .rcases zAu.mp hc with y|y
   .exact oc c y
   .rw[zAh.mp y];exact ai
 rw[zAc,l] at S;subst e ec;let S3:=Z.trans (sm (cs.map λc=>V.str (tx [c])));let h3:upd L r2 (.lst (cs.map λc=>V.str (tx [c]))) r2=oL ((cs.map λc=>tx [c]).map V.str):=by rw[Aa,zBw];rfl
 generalize upd L r2 (.lst (cs.map λc=>V.str (tx [c])))=U at S3 h3;let e0:aK ""=tx []:=by ac_nf
 refine⟨_,r2,cs.map λc=>tx [c],rfl,rfl,Dp.of h3,by rw[zAc];lia,by rw[e0,Es];decide,λy hy=>?_,?_⟩
 .obtain⟨d,_,rfl⟩:=zAv.mp hy
  rw[Es];show 1<=1000
  decide
 rw[e0,IS];refine Fv eN [oN c,oN 4,oS (tx LL),oR r,oS (tx cs),ZD,ZD,ZD,ZD,ZD,ZD] rfl λN eN=>?_;clear h1 h3 ae sm Z;let ab:(tx cs).length<=sizeLine:=by rw[Es,S,zCH];decide
 refine vE rfl (vF rfl rfl ⟨(by show (0:Int)<3;decide),rfl,vE rfl ?_⟩);by_cases c3:c%3=1
 .refine dT (aC V.int c3) (vE rfl (vE rfl ⟨by lk,by lk,λa ha=>?_⟩))
  refine Hv (lo:=0) (n:=4) (λi ys F=>ys=((zAS i).map λj=>tx (cs.take (j+1))).map V.str/\F a=oL ys/\Dg U F) ⟨rfl,Aa,Ac ha _⟩
   (λi ys F _ ⟨e,h1,_⟩=>⟨h1,by rw[e,zAc,zAc,zBb];exact zAl _⟩) (by rw[zCH];decide) (λi ys F hi ⟨e,h1,Z⟩=>?_) (λys F ⟨e,h1,Z⟩=>?_)
  .refine vE rfl (vE rfl (vF rfl rfl (vE rfl ⟨tx cs,rfl,ab,h1,rfl,?_,Aa,λx o z=>?_⟩)))
   .rw[Yf (by lia) (by rw[S];lia),show (0+(i:Int)+1).toNat=i+1 by lia,e,fH,zAq,zAq]
    rfl
   .rw[Ag (Ad z ha)]
    exact Z x o z
  subst e;refine q a _ F (S3.trans Z) (S3.free ha) h1 (IQ (g:=λj=>cs.take (j+1)) (λi hi=>⟨by rw[zAn];lia,by rw[zAn];lia,λc hc=>oc c (zBx hc)⟩) (λi j hi hj e=>?_)) (by rw[zAc,zBb]);let:=aC bS e;simp only [zAn] at this
  lia
 refine dF (λz=>c3 (V.int.inj z)) ?_;let d8:=md (a:=c/3) (b:=8) (by lk);subst eN;refine vE rfl (vF rfl rfl ⟨⟨by lk,by lk⟩,_,_,rfl,rfl,(by show (0:Int)<8;decide),_,_,rfl,rfl,Io 1 8 ⟨by lia,by lia⟩ λsz z1 z8=>?_⟩);obtain⟨n,rfl⟩:=aQ (show 0<=sz by lia);refine Gi [oN c,oN 4,oS (tx LL),oR r,oS (tx cs),oN n,ZD,ZD,ZD,ZD,ZD] rfl ?_;refine vE rfl (vF rfl rfl ⟨⟨by lk,by lk⟩,vE rfl (vF rfl rfl ⟨(by show (0:Int)<(n:Int);lia),Io 0 ((n:Int)-1) (md (by lia)) λam ah ak=>?_⟩)⟩);obtain⟨b,rfl⟩:=aQ ah;let hb:b<n:=by lia
 refine Gi [oN c,oN 4,oS (tx LL),oR r,oS (tx cs),oN n,oN b,ZD,ZD,ZD,ZD] rfl ?_;let al:=md (a:=c/192) (b:=18) (by lk);refine vE rfl (vF rfl rfl ⟨⟨by lk,by lk⟩,_,_,rfl,rfl,(by show (0:Int)<18;decide),Io 0 17 ⟨by lia,by lia⟩ λfi f0 f1=>?_⟩);refine Gi [oN c,oN 4,oS (tx LL),oR r,oS (tx cs),oN n,oN b,oN fi,ZD,ZD,ZD] rfl ?_;refine⟨zAw _,λa ha=>?_⟩;refine Gi [oN c,oN 4,oS (tx LL),oR r,oS (tx cs),oN n,oN b,oN fi,oR a,ZD,ZD] rfl ?_;obtain⟨B,rfl⟩:=aQ f0;refine vE rfl (vE rfl ⟨by lk,by lk,?_⟩);refine Kv (lo:=0) (n:=4) (λi σ F=>(∃ o9 M,σ=[oN c,oN 4,oS (tx LL),oR r,oS (tx cs),oN n,oN b,oN B,oR a,o9,M])/\F a=oL (((zAS i).map λj=>tx (cs.take b++[LL.getD (B+j) 0]++(cs.drop (b+1)).take (n-(b+1)))).map V.str)/\Dg U F)
  ⟨⟨_,_,rfl⟩,Aa,Ac ha _⟩ ?_ ?_
 .rintro i σ F hi ⟨⟨o9,M,rfl⟩,h4,s4⟩ N9 aj
  refine Gi [oN c,oN 4,oS (tx LL),oR r,oS (tx cs),oN n,oN b,oN B,oR a,oN (0+(i:Int)),M] rfl ?_;let hL:B+i<LL.length:=by show B+i<24;lia
  let aL:Pa LL ((B:Int)+(0+(i:Int)))=ZC (LL.getD (B+i) 0):=by
   rw[show (B:Int)+(0+(i:Int))=((B+i:Nat):Int) by lia];refine Fw ?_;rw[zAe hL,zAr,zAe hL];rfl
  refine vE rfl (vE rfl (vE rfl (vF rfl rfl ⟨tx LL,_,_,rfl,rfl,af,aL,?_⟩)));refine Gi [oN c,oN 4,oS (tx LL),oR r,oS (tx cs),oN n,oN b,oN B,oR a,oN (0+(i:Int)),oS (tx [LL.getD (B+i) 0])] rfl ?_;let e1:gL (tx cs) ZD (ZC (b:Int))=tx (cs.take b):=by rw[Yf (by lia) (by rw[S];lia),show ((b:Int)).toNat=b by lia]
  let e2:gL (tx cs) (ZC ((b:Int)+1)) (ZC (n:Int))=tx ((cs.drop (b+1)).take (n-(b+1))):=by rw[R9 (by lia) (by lia) (by rw[S];lia),show ((b:Int)+1).toNat=b+1 by lia,show ((n:Int)-((b:Int)+1)).toNat=n-(b+1) by lia]
  refine vE rfl ⟨.inl ⟨rfl,_,Dp.of h4⟩,vE rfl (vE rfl (vE rfl ⟨tx cs,rfl,ab,?_⟩))⟩;rw[e1];refine vE rfl (x2 _ _ (c4 rfl rfl (by rw[Es,Es,zCH,zAn,zAN];lia) ?_));rw[Wq];refine vE rfl (vE rfl (vF rfl rfl (vE rfl (vE rfl (vE rfl ⟨tx cs,rfl,ab,?_⟩)))));rw[e2];refine (x2 _ _ (c4 rfl rfl (by rw[Es,Es,zCH,zAm,zAn,zAn,zBa,zAN];lia) ?_));rw[Wq];refine (x3 a _ _ (c5 rfl rfl h4 (by rw[zAc,zAc,zBb,zCH];lia) (aj _ _ ⟨⟨_,_,rfl⟩,?_,(λx o z=>?_)⟩)))
  .rw[Aa,fH,zAq,zAq]
   rfl
  .rw[Ag (Ad z ha)]
   exact s4 x o z
 .rintro σ F ⟨⟨o9,M,rfl⟩,h4,s4⟩
  refine vE rfl (q a _ F (S3.trans s4) (S3.free ha) h4 (IQ (g:=λj=>cs.take b++[LL.getD (B+j) 0]++(cs.drop (b+1)).take (n-(b+1))) (λi hi=>⟨?_,?_,λd hd=>?_⟩) (λi j hi hj e=>?_)) (by rw[zAc,zBb]))
  .simp only [zAm,zAn,zBa,zAN]
   lia
  .simp only [zAm,zAn,zBa,zAN]
   lia
  .have hL:B+i<LL.length:=by show B+i<24;lia
   rcases zAu.mp hd with y|y
   .rcases zAu.mp y with y|y
    .exact oc d (zBx y)
    .rw[zAh.mp y,zAr,zAe hL]
     exact zBj _
   .exact oc d (gC (zBx y))
  .have e1:=List.append_cancel_right e
   let e2:=List.append_cancel_left e1;let e3:LL.getD (B+i) 0=LL.getD (B+j) 0:=by injection e2
   let aa:B+i<LL.length:=by show B+i<24;lia
   let ac:B+j<LL.length:=by show B+j<24;lia
   rw[zAr,zAr,zAe aa,zAe ac] at e3;let e4:LL[B+i]=LL[B+j]:=e3;let nd:=PP;rw[zAW,zAH] at nd;rcases zBy (B+i) (B+j) with y|y|y
   .exact ZR e4 (nd _ _ aa ac y)
   .lia
   .exact ZR e4.symm (nd _ _ ac aa y)
end
def CU (u:Int):Prop:=1<=u/\u<=1000000007
inductive HY (vs:List V) (H:Hp) (Q:VK) (E:XK):Prop
 |mk (c:Int) (z0:vs=[.int c]) (z1:∀ (st:Int) H',Dg H H'->0<=st->st<=999995->Q (.int st) H')
inductive NP (vs:List V) (H:Hp) (Q:VK) (E:XK):Prop
 |mk (c u st:Int) (nl:_) (ns:List ZM) (z0:vs=[.int c,.ref nl,.int st,.int u]) (z1:CU u) (z2:0<=st) (z3:st<=999995) (z4:H nl=oL (ns.map V.str)) (z5:ns.length=4) (z6:(∀ z∈ns,GO z)) (z7:∀ v t H',Dg H H'->Lr (Nw H H') v t->Nc t<3->Xf HG t->VW t->Q v H')
inductive QE (vs:List V) (H:Hp) (Q:VK) (E:XK):Prop
 |mk (c u:Int) (z0:vs=[.int c,.int u]) (z1:CU u) (z2:∀ t r H',Dg H H'->H t=ZD->H' t=oT (Ly r)->okC r->Q (.ref t) H')
def Iw {ns:List ZM} {i:Int} (q:0<=i) (h:i<ns.length):∃ z,z∈ns/\Pa (ns.map V.str) i=ZC (.str z):=by
 obtain⟨j,rfl⟩:=aQ q;let g:j<ns.length:=by lia
 refine⟨ns[j],zBj _,Fw ?_⟩;rw[zAx,zAe g];rfl
section
seal L2.PS L2.PSs L2.PE L2.PA
variable {P:ZO} {w:ZX} {K:zAa} {mg:ZM->Option ZE} {base:aB} (J:Pm P w K mg base)
def Zo:Jc J 1 "_law_start" ["_law_cell_here"] HY:=Gj J.z J.qy ["_law_cell_here","_law_far"] df λsc H Q hr h=>by
 obtain⟨c,rfl,q⟩:=h;refine⟨_,(Ab (Cn sc 1 (Ai Bd (Ai Bz (pv 0) Af) Af))
   (Ae (Aj (Le K (Bh (Ah Af (Ah (Ai Bf Af (Ai Eb Af (pv 1))) (Bi (Ai Kt (Ai Wf Af Af) Af) (Ai Bf (Ai Eb Af (pv 1)) (Ai Bd (pv 1) Af)))))) (Ai Bd (pv 0) Af))))),?_⟩
 let four:4<=sizeLine:=by rw[zCH];decide
 refine vE rfl (vF rfl rfl ⟨⟨by lk,by lk⟩,_,_,rfl,rfl,(by show (0:Int)<2700;decide),?_⟩);refine Io 0 2699 ⟨by let:=md (a:=c/4) (b:=2700) (by lk);lia,by let:=md (a:=c/4) (b:=2700) (by lk);lia⟩ λx x0 x1=>?_;refine Gi [oN c,oN x] rfl ?_;let c4:=md (a:=c) (b:=4) (by lk);let e6':(10:Int)^(6:Int).toNat=1000000:=by ac_nf
 refine vE rfl (vF rfl rfl ⟨.inl ⟨by lk,by lk⟩,_,_,rfl,rfl,_,_,rfl,rfl,⟨by lk,by lk,by lk⟩,_,_,rfl,rfl,?_⟩);rw[e6'];refine vE rfl (vF rfl rfl ⟨.inl ⟨by lk,by lk⟩,vE rfl (vF rfl rfl ⟨(by show (0:Int)<360;decide),_,_,rfl,rfl,four,λpl hpl=>?_⟩)⟩);let x3:=md (a:=x) (b:=360) (by lk);let sl:=Ac hpl (.lst [.int 0,.int (362+365*x),.int (1000000-5),.int (365*x+x%360)]);let el:upd H pl (.lst [.int 0,.int (362+365*x),.int (1000000-5),.int (365*x+x%360)]) pl=oL [.int 0,.int (362+365*x),.int (1000000-5),.int (365*x+x%360)]:=Aa;obtain⟨m,m0,m1,hm⟩:∃ m:Int,0<=m/\m<=999995/\Pa [V.int 0,.int (362+365*x),.int (1000000-5),.int (365*x+x%360)] (c%4)=ZC (.int m):=by
  generalize c%4=i at c4;let z:i=0\/i=1\/i=2\/i=3:=by lia
  rcases z with rfl|rfl|rfl|rfl
  .exact⟨_,aD _,by lk,rfl⟩
  .exact⟨_,by lia,by lia,rfl⟩
  .exact⟨_,by lk,by lk,rfl⟩
  .exact⟨_,by lia,by lia,rfl⟩
 exact vE rfl (vF rfl rfl ⟨(by show (0:Int)<4;decide),vI rfl rfl (Dp.of el) hm (q m _ sl m0 m1)⟩)
def C3:Jc J 1 "_law_cond" ["_law_cell_here","_law_names_here","_law_start_here","_law_unit"] NP:=Gj J.z J.qz ["_law_cell_here","_law_names_here","_law_start_here","_law_unit","_law_one","_law_other","_law_first","_law_way"] df λsc H Q hr h=>by
 obtain⟨c,u,st,nl,ns,rfl,uo,s0,z,hn,l4,nn,q⟩:=h;refine⟨_,(Ab (Cn sc 4 (Le K (pv 1) (Ai Bd (Ai Bz (pv 0) Af) Af)))
   (Ab (Cn sc 5 (Le K (pv 1) (Ai Bd (Ai Bz (pv 0) Af) Af)))
   (Ab (Cn sc 6 (Ai Bf (pv 2) (Ai Bd (Ai Bz (pv 0) Af) Af)))
   (Ab (Cn sc 7 (Ai Bd (pv 0) Af))
   (Ab (Ax (Al Cc (pv 7) Af (Ap _))
    (Ae (Aj (Az (Bi Be (pv 4)))))
    Am)
   (Ab (Ax (Al Cc (pv 7) Af (Ap _))
    (Ae (Aj (Az (Bi Be (pv 4)))))
    Am)
   (Ab (Ax (Al Cc (pv 7) Af (Ap _))
    (Ae (Aj (Az (Ah Be (Bi (pv 6) (Ai Bf (pv 6) (Ai Bd (Ai Bz (pv 0) Af) Af)))))))
    Am)
   (Ab (Ax (Al Cc (pv 7) Af (Ap _))
    (Ae (Aj (Az (Bi Be (Ai Eb (Ai Bd (Ai Bz (pv 0) Af) Af) (pv 3))))))
    Am)
   (Ab (Ax (Al Cc (pv 7) Af (Ap _))
    (Ae (Aj (Az (Bi Be (Az (Bi Be (Bh (Bi (Az (Bi Be (pv 4))) (Az (Bi Be (pv 5)))))))))))
    Am)
   (Ab (Ax (Al Cc (pv 7) Af (Ap _))
    (Ae (Aj (Az (Bi Be (Bh (Bi (Az (Bi Be (pv 4))) (Az (Bi Be (pv 5)))))))))
    Am)
   (Ae (Aj (Az (Bn Be)))))))))))))),?_⟩
 refine Ia λN M=>?_;let one:1<=sizeLine:=by rw[zCH];decide
 let g:2<=sizeLine:=by rw[zCH];decide
 let Y:3<=sizeLine:=by rw[zCH];decide
 let m4:∀ a:Int,0<=a%4/\a%4<ns.length:=λa=>by let:=md (a:=a) (b:=4) (by lk);lia
 obtain⟨j,i1,a1⟩:=Iw (ns:=ns) (i:=c/9%4) (m4 _).1 (m4 _).2;obtain⟨U,i2,a2⟩:=Iw (ns:=ns) (i:=c/36%4) (m4 _).1 (m4 _).2;let o1:=nn j i1;let o2:=nn U i2;refine vE rfl (vE rfl (vF rfl rfl ⟨⟨by lk,by lk⟩,_,_,rfl,rfl,(by show (0:Int)<4;decide),vI rfl rfl (Dp.of hn) a1 ?_⟩));refine Fv M [oN c,oR nl,oN st,oN u,oS j,ZD,ZD,ZD] rfl λN M=>?_;refine vE rfl (vE rfl (vF rfl rfl ⟨⟨by lk,by lk⟩,_,_,rfl,rfl,(by show (0:Int)<4;decide),vI rfl rfl (Dp.of hn) a2 ?_⟩));refine Fv M [oN c,oR nl,oN st,oN u,oS j,oS U,ZD,ZD] rfl λN M=>?_;refine vE rfl (vE rfl (vF rfl rfl ⟨⟨by lk,by lk⟩,_,_,rfl,rfl,(by show (0:Int)<4;decide),_,_,rfl,rfl,?_⟩));let d4:=md (a:=c/144) (b:=4) (by lk);refine Io 0 999998 ⟨by lia,by lia⟩ λfi f0 f1=>?_;refine Fv M [oN c,oR nl,oN st,oN u,oS j,oS U,oN fi,ZD] rfl λN M=>?_;let d9:=md (a:=c) (b:=9) (by lk);refine vE rfl (vF rfl rfl ⟨(by show (0:Int)<9;decide),Io 0 8 ⟨by lia,by lia⟩ λS w0 w1=>?_⟩);refine Fv M [oN c,oR nl,oN st,oN u,oS j,oS U,oN fi,oN S] rfl λN M=>?_;subst M;let ne:∀ {k:Int},S≠k->¬ V.int S=V.int k:=λh e=>h (by injection e);by_cases h3:S=3
 .refine vE rfl ⟨rfl,vE rfl (dT (by rw[h3]) (vE rfl ⟨g,λt k=>q (.ref t) (.at (.cau j)) _ (Ac k _) (by unfold Lr;exact⟨t,rfl,Nw.of k Aa⟩) (by unfold Nc;decide) (by unfold Xf;exact o1) (.inr (by simp [De]))⟩))⟩
 refine vE rfl ⟨rfl,vE rfl (dF (ne h3) ?_)⟩;by_cases h4:S=4
 .refine vE rfl ⟨rfl,vE rfl (dT (by rw[h4]) (vE rfl ⟨g,λt k=>q (.ref t) (.at (.thi j)) _ (Ac k _) (by unfold Lr;exact⟨t,rfl,Nw.of k Aa⟩) (by unfold Nc;decide) (by unfold Xf;exact o1) (.inr (by simp [De]))⟩))⟩
 refine vE rfl ⟨rfl,vE rfl (dF (ne h4) ?_)⟩;by_cases h5:S=5
 .have d3:=md (a:=c/576) (b:=3) (by lk)
  refine vE rfl ⟨rfl,vE rfl (dT (by rw[h5]) (vE rfl (vE rfl (vE rfl (vF rfl rfl ⟨⟨by lk,by lk⟩,_,_,rfl,rfl,(by show (0:Int)<3;decide),_,_,rfl,rfl,Y,λt k=>q (.ref t) (.at (.day fi (fi+c/576%3))) _ (Ac k _) (by unfold Lr;exact⟨t,rfl,Nw.of k Aa⟩) (by unfold Nc;decide) (by unfold Xf;exact⟨f0,by lia,by lia⟩) (.inr (by simp [De]))⟩)))))⟩
 refine vE rfl ⟨rfl,vE rfl (dF (ne h5) ?_)⟩;by_cases h6:S=6
 .have aa:=md (a:=c/144) (b:=20) (by lk)
  let ab:0<=c/144%20*u:=gG aa.1 (by let:=uo.1;lia);let ac:c/144%20*u<=19*1000000007:=gH (by lia) uo.2 (by let:=uo.1;lia) (by lk);refine vE rfl ⟨rfl,vE rfl (dT (by rw[h6]) (vE rfl (vF rfl rfl ⟨⟨by lk,by lk⟩,_,_,rfl,rfl,(by show (0:Int)<20;decide),vE rfl (vF rfl rfl ⟨.inl ⟨by lia,by lia⟩,g,λt k=>q (.ref t) (.at (.ovr (c/144%20*u))) _ (Ac k _) (by unfold Lr;exact⟨t,rfl,Nw.of k Aa⟩) (by unfold Nc;decide) (by unfold Xf;exact⟨ab,by lia⟩) (.inl ⟨_,rfl⟩)⟩)⟩)))⟩
 refine vE rfl ⟨rfl,vE rfl (dF (ne h6) ?_)⟩;by_cases h7:S=7
 .refine vE rfl ⟨rfl,vE rfl (dT (by rw[h7]) (vE rfl ⟨g,λt1 k1=>vE rfl ⟨g,λt2 k2=>⟨g,λl k3=>⟨g,λt3 Z=>⟨g,λt4 k5=>?_⟩⟩⟩⟩⟩))⟩
  let z:=Ac k1 (.tup [V.str "thing",.str j]);let F:=Ac k2 (.tup [V.str "cause",.str U]);let L:=Ac k3 (.lst [V.ref t1,.ref t2]);let B:=Ac Z (.tup [V.str "all",.ref l]);let s5:=Ac k5 (.tup [V.str "not",.ref t3]);refine q (.ref t4) (.no (.al [.at (.thi j),.at (.cau U)])) _ (z.trans (F.trans (L.trans (B.trans s5)))) ?_ (by simp [Nc,hgts]) (by simp only [Xf,okTs];exact⟨by show 2<=2;decide,by show 2<=8;decide,o1,o2,trivial⟩) (.inr (by simp [De,marksOs]));unfold Lr;let f2:=z.free k2;let f3:=z.free (F.free k3);let f4:=z.free (F.free (L.free Z));let f5:=z.free (F.free (L.free (B.free k5)));refine (x2 t4 _ (c3 rfl (Nw.of f5 Aa) ?_));unfold Lr;refine (x3 t3 l _ (c4 rfl (Nw.of f4 (s5 _ _ Aa)) (Nw.of f3 (s5 _ _ (B _ _ Aa))) ?_));unfold TrsAt;refine⟨?_,?_⟩
  .unfold Lr
   exact⟨t1,rfl,Nw.of k1 (s5 _ _ (B _ _ (L _ _ (F _ _ Aa))))⟩
  unfold TrsAt;refine⟨?_,?_⟩
  .unfold Lr
   exact⟨t2,rfl,Nw.of f2 (s5 _ _ (B _ _ (L _ _ Aa)))⟩
  unfold TrsAt;trivial
 refine vE rfl ⟨rfl,vE rfl (dF (ne h7) ?_)⟩;by_cases h8:S=8
 .refine vE rfl ⟨rfl,vE rfl (dT (by rw[h8]) (vE rfl ⟨g,λt1 k1=>vE rfl ⟨g,λt2 k2=>⟨g,λl k3=>⟨g,λt3 Z=>?_⟩⟩⟩⟩))⟩
  let z:=Ac k1 (.tup [V.str "cause",.str j]);let F:=Ac k2 (.tup [V.str "thing",.str U]);let L:=Ac k3 (.lst [V.ref t1,.ref t2]);let B:=Ac Z (.tup [V.str "some",.ref l]);refine q (.ref t3) (.so [.at (.cau j),.at (.thi U)]) _ (z.trans (F.trans (L.trans B))) ?_ (by simp [Nc,hgts]) (by simp only [Xf,okTs];exact⟨by show 2<=2;decide,by show 2<=8;decide,o1,o2,trivial⟩) (.inr (by simp [De,marksOs]));unfold Lr;let f2:=z.free k2;let f3:=z.free (F.free k3);let f4:=z.free (F.free (L.free Z));refine (x3 t3 l _ (c4 rfl (Nw.of f4 Aa) (Nw.of f3 (B _ _ Aa)) ?_));unfold TrsAt;refine⟨?_,?_⟩
  .unfold Lr
   exact⟨t1,rfl,Nw.of k1 (B _ _ (L _ _ (F _ _ Aa)))⟩
  unfold TrsAt;refine⟨?_,?_⟩
  .unfold Lr
   exact⟨t2,rfl,Nw.of f2 (B _ _ (L _ _ Aa))⟩
  unfold TrsAt;trivial
 refine vE rfl ⟨rfl,vE rfl (dF (ne h8) ?_)⟩;exact⟨one,λt k=>q (.ref t) (.at .alw) _ (Ac k _) (by unfold Lr;exact⟨t,rfl,Nw.of k Aa⟩) (by unfold Nc;decide) (by unfold Xf;trivial) (.inr (by simp [De]))⟩
def Oy:Jc J 1 "_law_clause_by" ["_law_cell_here","_law_unit"] QE:=Gj J.z J.r6 ["_law_cell_here","_law_unit","_law_word","_law_by","_law_low"] df λsc H Q hr h=>by
 obtain⟨c,u,rfl,uo,q⟩:=h;refine⟨_,(Ab (Cn sc 2 (Le K (Bh (Ah Be (Ah Be (Bi Be Be)))) (Ai Bd (pv 0) Af)))
   (Ab (Cn sc 3 (Le K (Bh (Ah Be (Ah Be (Bi Be Be)))) (Ai Bd (Ai Bz (pv 0) Af) Af)))
   (Ab (Cn sc 4 (Ai Bf (Ai Eb (Ai Bd (Ai Bz (pv 0) Af) Af) (pv 1)) (Ai Bd (Ai Bz (pv 0) Af) Af)))
   (Ab (Ax (Al Cc (pv 2) Be (Ap _))
    (Ae (Aj (Az (Ah (pv 2) (Ah (pv 3) (Bi (pv 4) (Ai Bf (Ai Bf (pv 4) Af) (Ai Eb (Ai Bd (Ai Bz (pv 0) Af) Af) (pv 1)))))))))
    Am)
   (Ab (Ax (Al Cc (pv 2) Be (Ap _))
    (Ae (Cn sc 4 (Ai Bf (Ai Eb (Ai Bd (Ai Bz (pv 0) Af) Af) (pv 1)) (Ai Bd (Ai Bz (pv 0) Af) Af))))
    Am)
   (Ae (Aj (Az (Ah (pv 2) (Ah (pv 3) (Bi (pv 4) Af))))))))))),?_⟩
 refine Ia λN B=>?_;let g:4<=sizeLine:=by rw[zCH];decide
 let c4:=md (a:=c) (b:=4) (by lk);let b4:=md (a:=c/4) (b:=4) (by lk);obtain⟨j,iw,aw⟩:=Iw (ns:=["own","layer","limit","limit"]) (i:=c%4) c4.1 (by show _<(4:Int);lia);obtain⟨by',ib,ab⟩:=Iw (ns:=["event","thing","year","loss"]) (i:=c/4%4) b4.1 (by show _<(4:Int);lia);refine⟨g,λpl aa=>vE rfl (vF rfl rfl ⟨(by show (0:Int)<4;decide),vI rfl rfl (Dp.of Aa) aw ?_⟩)⟩;let L:=Ac aa (.lst [V.str "own",.str "layer",.str "limit",.str "limit"]);generalize upd H pl (.lst [V.str "own",.str "layer",.str "limit",.str "limit"])=H1 at L;refine Fv B [oN c,oN u,oS j,ZD,ZD] rfl λN B=>?_;refine⟨g,λp2 ac=>vE rfl (vF rfl rfl ⟨⟨by lk,by lk⟩,_,_,rfl,rfl,(by show (0:Int)<4;decide),vI rfl rfl (Dp.of Aa) ab ?_⟩)⟩;let F:=Ac ac (.lst [V.str "event",.str "thing",.str "year",.str "loss"]);generalize upd H1 p2 (.lst [V.str "event",.str "thing",.str "year",.str "loss"])=H2 at F;refine Fv B [oN c,oN u,oS j,oS by',ZD] rfl λN B=>?_;let S:=md (a:=c/16) (b:=23) (by lk);let d2:=md (a:=c/368) (b:=2) (by lk);let Z:=md (a:=c/736) (b:=29) (by lk);let Y:=md (a:=c/16) (b:=61) (by lk);let d3:=md (a:=c/976) (b:=3) (by lk);let u1:=uo.1;let ml:∀ {x k:Int},0<=x->x<=k->0<=x*u/\x*u<=k*1000000007:=λ{x k} h0 h1=>⟨gG h0 (by lia),gH h1 uo.2 (by lia) (by lia)⟩;let af:=ml S.1 S.2;let ae:=ml Z.1 Z.2;let ad:=ml Y.1 Y.2;let wy:Ov by':=by
  simp only [zAj,zBg,dG] at ib;exact ib
 refine vE rfl (vF rfl rfl ⟨⟨by lk,by lk⟩,_,_,rfl,rfl,(by show (0:Int)<23;decide),vE rfl (vF rfl rfl ⟨.inl ⟨by lia,by lia⟩,vE rfl (vF rfl rfl ⟨⟨by lk,by lk⟩,_,_,rfl,rfl,(by show (0:Int)<2;decide),_,_,rfl,rfl,Io 0 22000000155 ⟨by lia,by lia⟩ λlo l0 l1=>?_⟩)⟩)⟩);refine Fv B [oN c,oN u,oS j,oS by',oN lo] rfl λN B=>?_;let U:∀ {y z:ZM},y≠z->¬ V.str y=V.str z:=λh e=>h (V.str.inj e);by_cases hl:j="layer"
 .refine vE rfl ⟨rfl,vE rfl (dT (by rw[hl]) ?_)⟩
  refine vE rfl (vE rfl (vE rfl (vE rfl (vF rfl rfl (vE rfl (vF rfl rfl ⟨⟨by lk,by lk⟩,_,_,rfl,rfl,(by show (0:Int)<29;decide),vE rfl (vF rfl rfl ⟨.inl ⟨by lia,by lia⟩,_,_,rfl,rfl,g,λt k=>?_⟩)⟩))))));exact q t (j,by',lo,lo+1+c/736%29*u) _ ((L.trans F).trans (Ac k _)) ((L.trans F).free k) Aa ⟨.inr (.inl hl),wy,⟨l0,by lia⟩,λ_=>⟨by show lo<_;lia,by show lo+1+c/736%29*u<=_;lia⟩⟩
 refine vE rfl ⟨rfl,vE rfl (dF (U hl) ?_)⟩;subst B;by_cases M:j="limit"
 .refine vE rfl ⟨rfl,vE rfl (dT (by rw[M]) ?_)⟩
  refine vE rfl (vF rfl rfl ⟨⟨by lk,by lk⟩,_,_,rfl,rfl,(by show (0:Int)<61;decide),vE rfl (vF rfl rfl ⟨.inl ⟨by lia,by lia⟩,vE rfl (vF rfl rfl ⟨⟨by lk,by lk⟩,_,_,rfl,rfl,(by show (0:Int)<3;decide),_,_,rfl,rfl,Io 0 60000000422 ⟨by lia,by lia⟩ λlo l0 l1=>?_⟩)⟩)⟩);refine Gi [oN c,oN u,oS j,oS by',oN lo] rfl ?_;exact vE rfl (vE rfl (vE rfl ⟨g,λt k=>q t (j,by',lo,0) _ ((L.trans F).trans (Ac k _)) ((L.trans F).free k) Aa ⟨.inr (.inr M),wy,⟨l0,by show lo<=_;lia⟩,λh=>ZR h hl⟩⟩))
 .refine vE rfl ⟨rfl,vE rfl (dF (U M) ?_)⟩
  let ho:j="own":=by
   simp only [zAj,zBg,dG] at iw;rcases iw with y|y|y|y
   .exact y
   .exact ZR y hl
   .exact ZR y M
   .exact ZR y M
  exact vE rfl (vE rfl (vE rfl ⟨g,λt k=>q t (j,by',lo,0) _ ((L.trans F).trans (Ac k _)) ((L.trans F).free k) Aa ⟨.inl ho,wy,⟨l0,by show lo<=_;lia⟩,λh=>ZR h hl⟩⟩))
end
inductive JX (K:zAa) (vs:List V) (H:Hp) (Q:VK) (E:XK):Prop
 |mk (a ns nl:_) (u st:Int) (D:List ZM) (z0:vs=[.ref a,.ref nl,.int u,.int st]) (z1:Dp K H a (bI V.int ns)) (z2:ns.length<=63) (z3:CU u) (z4:0<=st) (z5:st<=999995) (z6:H nl=oL (D.map V.str)) (z7:BX D) (z8:D.length=4) (z9:∀ r (rows:List YN) H',Dg H H'->H r=ZD->H' r=oL (rows.map B3)->(∀ x∈rows,XN H' x/\Mf x)->BX (rows.map (·.nm))->rows.length<=4->Q (.ref r) H')
section
seal L2.PS L2.PSs L2.PE L2.PA
variable {P:ZO} {w:ZX} {K:zAa} {mg:ZM->Option ZE} {base:aB}
def We (J:Pm P w K mg base):Jc J 3 "_law_covers" ["_law_script","_law_names_here","_law_unit","_law_start_here"] (JX K):=Gj J.z J.r9 ["_law_script","_law_names_here","_law_unit","_law_start_here","_law_head","_law_tags","_law_covers_here","_law_k","_law_cell_here","_law_clauses","_law_cond_here"] df λsc H Q hr h=>by
 obtain⟨a,ns,nl,u,st,D,rfl,ha,l63,uo,st0,st1,hnl,ND,d4,q⟩:=h;refine⟨_,(Ab (Cn sc 4 (Cm (Fa J) hr (Bi (pv 0) Af)))
   (Ab (Cn sc 5 (Cm (Ob J) hr (Bi (Ai Bz (pv 4) Af) Af)))
   (Ab (Cn sc 6 (Bh Cs))
   (Ab (Bq ZV rfl (Ei rfl (J.z.nn J.az) (Bn (Le K (Bh (Bi (Ai Bf Af (Ai Bd (pv 4) Af)) Af)) (Dt W4 rfl (J.z.nn J.jw) (show zCI _=ZC (.type "int") from rfl) (Bn (Ft Cc (Ai Bd (Ai Bz (pv 4) Af) Af) Af (Ap _))))))) (Et sc 7)
    (Ab (Nf (i:=8) sc.nd rfl (Or.inr rfl) (Cm (Fa J) hr (Bi (pv 0) (Ai Bf Af (pv 7)))))
   (Ab (Ff (NC:=["_law_j","_law_unit","_law_cell_here"]) (own:=["_law_j"]) (cs:=["_law_unit","_law_cell_here"]) (ix:=[2,8]) (j:=9) sc.nd rfl rfl rfl (Dr.of rfl) rfl ⟨⟨rfl,.inl rfl,rfl⟩,⟨⟨rfl,.inl rfl,rfl⟩,trivial⟩⟩ (Ei rfl (J.z.nn J.az) (Bn (Ai Bd (Cm (Br J) hr (Bi (pv 8) Af)) Af))) (λ_ _ _=>(Ke 0)) (λ_ _ _=>Ca) (λ_ _ _=>(Cm (Oy J) hr (Bi (Cm (Br J) hr (Bi (pv 2) (Ai Bf Af (pv 0)))) (pv 1)))))
   (Ab (Cn sc 10 (Cm (C3 J) hr (Ah (Cm (Br J) hr (Bi (pv 8) Af)) (Ah (pv 1) (Bi (pv 3) (pv 2))))))
   (Ae (Bg (Cr (K:=K) rfl ZT aA ZZ Bw (pv 6) (Bn (Az (Ah (Le K (pv 5) (pv 7)) (Ah (pv 10) (Ah (pv 9) (Bi (Bh (Bn (Az (Bi (Le K (pv 1) (pv 7)) Af)))) (Ft Cc (Ai Bd (Cm (Br J) hr (Bi (pv 8) Af)) Af) Af (Ap _)))))))))))))))
   (Ae (Aj (pv 6))))))),?_⟩
 let one:1<=sizeLine:=by rw[zCH];decide
 let two:2<=sizeLine:=by rw[zCH];decide
 refine vE rfl ⟨a,ns,2,rfl,ha,by lk,l63,?_⟩;generalize ns.getD (2:Int).toNat 0=hd;refine Gi [oR a,oR nl,oN u,oN st,oN hd,ZD,ZD,ZD,ZD,ZD,ZD] rfl ?_;refine vE rfl (vF rfl rfl ⟨⟨by lk,by lk⟩,hd/64,rfl,λtg tags H0 s0 ntg htg NT t4=>?_⟩);refine Gi [oR a,oR nl,oN u,oN st,oN hd,oR tg,ZD,ZD,ZD,ZD,ZD] rfl ?_;refine⟨zAw _,λcl ncl=>?_⟩;refine Gi [oR a,oR nl,oN u,oN st,oN hd,oR tg,oR cl,ZD,ZD,ZD,ZD] rfl ?_;let s1:=Ac ncl (.lst []);let h1:upd H0 cl (.lst []) cl=oL []:=Aa;generalize upd H0 cl (.lst [])=H1 at s1 h1;let h4:=md (a:=hd) (b:=4) (by lk);refine vE rfl (vF rfl rfl ⟨(by show (0:Int)<4;decide),_,_,rfl,rfl,two,λpl npl=>?_⟩);let sP:=Ac npl (.lst [.int (1+hd%4),.int 0]);let hP:upd H1 pl (.lst [.int (1+hd%4),.int 0]) pl=oL [.int (1+hd%4),.int 0]:=Aa;generalize upd H1 pl (.lst [.int (1+hd%4),.int 0])=H2 at sP hP;refine vE rfl (vF rfl rfl ⟨⟨by lk,by lk⟩,_,_,rfl,rfl,(by show (0:Int)<16;decide),rfl,?_⟩);obtain⟨m,m4,hm⟩:∃ m:Nat,m<=4/\Pa [V.int (1+hd%4),.int 0] (if decide (V.int (hd/4%16)=V.int 1)=ZI then 1 else 0)=ZC (.int (m:Int)):=by
  by_cases y:decide (V.int (hd/4%16)=V.int 1)=ZI
  .rw[ZJ y]
   exact⟨0,by lk,rfl⟩
  .rw[ZH y]
   refine⟨(1+hd%4).toNat,by lia,?_⟩;rw[show (((1+hd%4).toNat:Nat):Int)=1+hd%4 by lia];rfl
 refine .inr ⟨_,rfl,vI rfl rfl (Dp.of hP) hm (vE rfl ⟨by lia,by lia,?_⟩)⟩;rw[show ((m:Int)).toNat=m by lia];let S2:=s0.trans (s1.trans sP);let ncl':H cl=ZD:=s0.free ncl;refine Kv (lo:=0) (n:=m) (λi σ H3=>(∃ o7 o8 o9 o10,σ=[oR a,oR nl,oN u,oN st,oN hd,oR tg,oR cl,o7,o8,o9,o10])/\(∃ rows:List YN,H3 cl=oL (rows.map B3)/\(∀ x∈rows,XN (XQ cl H3) x/\Mf x)/\rows.map (·.nm)=tags.take i)/\Dg H0 H3)
  ⟨⟨ZD,ZD,ZD,ZD,rfl⟩,⟨[],sP _ _ h1,(λx hx=>nomatch hx),by rw[zBe];rfl⟩,s1.trans sP⟩ ?_ ?_
 .rintro i σ H2 hi ⟨⟨o7,o8,o9,o10,rfl⟩,⟨rows,hrows,okr,enm⟩,s2⟩ N9 nx9
  let S2:=s0.trans s2;refine Gi [oR a,oR nl,oN u,oN st,oN hd,oR tg,oR cl,oN (0+(i:Int)),o8,o9,o10] rfl ?_;refine vE rfl (vE rfl (vF rfl rfl ⟨a,ns,3+(0+(i:Int)),rfl,S2.seq ha,by lia,l63,?_⟩));generalize ns.getD (3+(0+(i:Int))).toNat 0=x;refine Gi [oR a,oR nl,oN u,oN st,oN hd,oR tg,oR cl,oN (0+(i:Int)),oN x,o9,o10] rfl ?_;refine vE rfl ⟨x,0,rfl,by lk,by lk,λm0 H3 s3 q0 q1=>⟨_,_,rfl,rfl,(by show (0:Int)<4;decide),?_⟩⟩;obtain⟨mm,em,m3⟩:∃ mm:Nat,m0%4=(mm:Int)/\mm<=3:=⟨(m0%4).toNat,by let:=md (a:=m0) (b:=4) (by lk);lia,by let:=md (a:=m0) (b:=4) (by lk);lia⟩;refine vE rfl ⟨by lia,by lia,λkl nkl=>?_⟩;rw[show (m0%4).toNat=mm by lia];refine Hv (lo:=0) (n:=mm) (λj ys H4=>∃ rs:List IN,H4 kl=oL ys/\TsAt Ly H4 ys rs/\rs.length=j/\(∀ c∈rs,okC c)/\Dg H3 H4) ⟨[],Aa,trivial,rfl,(λc hc=>nomatch hc),Ac nkl _⟩
   (λj ys H4 _ ⟨rs,h4,ts,lr,_,_⟩=>⟨h4,by rw[ts.len,lr];exact zAl _⟩) (by rw[zCH];lia) (λj ys H4 hj ⟨rs,h4,ts,lr,okc,s4⟩=>?_) (λys H4 ⟨rs,h4,ts,lr,okc,s4⟩=>?_)
  .refine vE rfl (vE rfl (vF rfl rfl ⟨x,2+(0+(j:Int)),rfl,by lia,by lia,λm1 H5 s5 _ _=>vE rfl ⟨m1,u,rfl,uo,λt r H6 s6 nt ht okr'=>⟨s6 _ _ (s5 _ _ h4),rfl,rs++[r],Aa,?_,by rw[zAm,lr];rfl,λy hy=>?_,λb o y=>?_⟩⟩⟩))
   .exact ((ts.mono (An (s5.trans s6))).snoc ht).mono (Cd (s6 _ _ (s5 _ _ h4)) _)
   .rcases zAu.mp hy with g|g
    .exact okc y g
    .rw[zAh.mp g];exact okr'
   .rw[Ag (Ad y nkl)]
    exact s6 _ _ (s5 _ _ (s4 b o y))
  refine Gi [oR a,oR nl,oN u,oN st,oN hd,oR tg,oR cl,oN (0+(i:Int)),oN x,oR kl,o10] rfl ?_;refine vE rfl ⟨x,1,rfl,by lk,by lk,λm2 H5 s5 _ _=>vE rfl (vE rfl (vE rfl ⟨m2,u,st,nl,D,rfl,uo,st0,st1,(S2.trans (s3.trans (s4.trans s5))) _ _ hnl,d4,(λz hz=>PX (ND.ok z hz).1),λv t H6 s6 tr hg okt ovt=>?_⟩))⟩;refine Gi [oR a,oR nl,oN u,oN st,oN hd,oR tg,oR cl,oN (0+(i:Int)),oN x,oR kl,ZC v] rfl ?_;let S36:=s3.trans (s4.trans (s5.trans s6));let S6:=S2.trans S36;let hrows6:=S36 _ _ hrows;let hi4:i<tags.length:=by lia
  let en:tags[i]?=ZC tags[i]:=zAe hi4;let ed:D[i]?=ZC D[i]:=zAe (by lia);let mD:D[i]∈D:=zBj _;generalize tags[i]=z at en;generalize D[i]=hn at ed mD;let ez:Pa (tags.map V.str) (0+(i:Int))=ZC (.str z):=by
   rw[show (0+(i:Int))=(i:Int) by lia];refine Fw ?_;rw[zAx,en];rfl
  let ehn:Pa (D.map V.str) (0+(i:Int))=ZC (.str hn):=by
   rw[show (0+(i:Int))=(i:Int) by lia];refine Fw ?_;rw[zAx,ed];rfl
  refine vE rfl ⟨.inl ⟨rfl,_,Dp.of hrows6⟩,vE rfl (vE rfl (vI rfl rfl (Dp.of ((s2.trans S36) _ _ htg)) ez (vE rfl (vE rfl (vE rfl (vE rfl (vI rfl rfl (Dp.of (S6 _ _ hnl)) ehn ⟨two,λht nht=>?_⟩)))))))⟩;let s7:=Ac nht (.tup [V.str hn,.int 1]);let h7:upd H6 ht (.tup [V.str hn,.int 1]) ht=oT [V.str hn,.int 1]:=Aa;generalize upd H6 ht (.tup [V.str hn,.int 1])=H7 at s7 h7;refine⟨one,λhl nhl=>?_⟩;let s8:=Ac nhl (.lst [V.ref ht]);let h8:upd H7 hl (.lst [V.ref ht]) hl=oL [V.ref ht]:=Aa;generalize upd H7 hl (.lst [V.ref ht])=H8 at s8 h8;refine vE rfl ⟨x,6,rfl,by lk,by lk,λm6 H9 s9 _ _=>⟨_,_,rfl,rfl,(by show (0:Int)<4;decide),rfl,Dq (by show 5<=1000;decide),λtp ntp=>?_⟩⟩;generalize decide (V.int (m6%4)=V.int 1)=wb;let s10:=Ac ntp (.tup [V.str z,v,.ref kl,.ref hl,.bl wb]);let h10:upd H9 tp (.tup [V.str z,v,.ref kl,.ref hl,.bl wb]) tp=oT [V.str z,v,.ref kl,.ref hl,.bl wb]:=Aa;generalize upd H9 tp (.tup [V.str z,v,.ref kl,.ref hl,.bl wb])=H10 at s10 h10;let S10:=s7.trans (s8.trans (s9.trans s10));let hrows10:=S10 _ _ hrows6;let lrows:rows.length=i:=by
   let:=aC bS enm;rw[zAc,zAn] at this
   lia
  refine (x3 cl _ _ (c5 rfl rfl hrows10 (by rw[zAc,zCH];lia) ?_));let eapp:rows.map B3++[V.ref tp]=(rows++[YN.mk tp z t rs wb]).map B3:=by rw[zAq];rfl
  rw[eapp];let nclk:kl≠cl:=(Ad (s3 _ _ hrows) nkl).symm;let nhtc:ht≠cl:=(Ad hrows6 nht).symm;let nhlc:hl≠cl:=(Ad (s7 _ _ hrows6) nhl).symm;let ntpc:tp≠cl:=(Ad (s9 _ _ (s8 _ _ (s7 _ _ hrows6))) ntp).symm;let up:∀ {b:ZF} {o:HO},b≠cl->H10 b=ZC o->XQ cl (upd H10 cl (.lst ((rows++[YN.mk tp z t rs wb]).map B3))) b=ZC o:=λn y=>XQ.of n (by rw[Ag n];exact y);refine nx9 _ _ ⟨⟨_,_,_,_,rfl⟩,⟨_,Aa,λy hy=>?_,?_⟩,λb o y=>?_⟩
  .rcases zAu.mp hy with g|g
   .obtain⟨y1,y2⟩:=okr y g
    exact⟨y1.same λb o y=>up (XQ.at y).1 (S10 _ _ (S36 _ _ (XQ.at y).2)),y2⟩
   .rw[zAh.mp g]
    refine⟨⟨v,kl,hl,ht,ys,hn,up ntpc h10,Lr.same (λb o y=>?_) _ tr,up nclk (S10 _ _ (s6 _ _ (s5 _ _ h4))),ts.mono λb o y=>?_,up nhlc (s10 _ _ (s9 _ _ h8)),up nhtc (s10 _ _ (s9 _ _ (s8 _ _ h7))),(ND.ok hn mD).1,(ND.ok hn mD).2.1⟩,⟨hg,okt,by show rs.length<=3;lia,okc,ovt⟩⟩
    .obtain⟨y1,y2⟩:=Nw.at y
     exact up (λe=>by rw[e,s5 _ _ (s4 _ _ (s3 _ _ hrows))] at y1;cases y1) (S10 _ _ y2)
    .have y':=S10 _ _ (s6 _ _ (s5 _ _ y))
     exact up (At y' hrows10 (by intro e;cases e)) y'
  .rw[zAq,enm,zBz,en]
   rfl
  .rw[Ag (Ad y ncl)]
   exact S10 _ _ (S36 _ _ (s2 b o y))
 .rintro σ H3 ⟨⟨o7,o8,o9,o10,rfl⟩,⟨rows,hrows,okr,enm⟩,s3⟩
  let lr:rows.length<=4:=by
   let:=aC bS enm;rw[zAc,zAn] at this
   lia
  refine vE rfl (q cl rows H3 (s0.trans s3) ncl' hrows (λx hx=>⟨(okr x hx).1.same λb o y=>(XQ.at y).2,(okr x hx).2⟩) ?_ lr);rw[enm];exact⟨zAD (by rw[zAn];exact Nat.min_le_right _ _) NT.hi,cQ (zCf _ _) NT.nd,λz hz=>NT.ok z (zBx hz)⟩
end
def SM (R:Rl) (c:Option Int):(Rb R c).lookup ("enter" : ZM)=ZD:=rfl
def PL (R:Rl) (c:Option Int):(Rb R c).lookup ("close" : ZM)=ZD:=rfl
def P1 (R:Rl) (c:Option Int):(Rb R c).lookup ("told" : ZM)=ZD:=rfl
inductive DO (bs:List XC) (vs:List V) (H:Hp) (Q:VK) (E:XK):Prop
 |mk (R D c es zs Ss rows ns z l0:_) (z0:vs=[.ref R.r,.ref l0]) (z1:H l0=oT (LF.vs z)) (z2:YC bs D H R c es zs Ss rows ns) (z3:Iz z) (z4:z.n∉ns) (z5:NY c z.d) (z6:es.length<=500) (z7:ns.length<=500) (z8:∀ l H',(∀ b o,H b=ZC o->¬ D b->H' b=ZC o)->YC bs D H' R c (es++[(l,z)]) zs Ss rows (ns++[z.n])->Q .non H')
section
variable {P:ZO} {w:ZX} {K:zAa} {mg:ZM->Option ZE} {base:aB}
def Sf (J:Pm P w K mg base) {f:ZF} {bs:List XC} (F:XS K "_law_enter" "_law_enter" Ms f fd):XB P w K mg base Ew 6 f fd ["_law_roll","_law_loss"] (DO bs):=Os F ["_law_roll","_law_loss"] df λsc H Q hr h=>by
 obtain⟨R,D,c,es,zs,Ss,rows,ns,z,Y,rfl,hl,B,S,g,U,L,M,q⟩:=h;refine⟨_,(Ae (Aj (Bt (MT J bs) (hr.mono (by lk)) (pv 0) (Ah (Ea K (pv 1) Af) (Ah (Ea K (pv 1) Af) (Ah (Ea K (pv 1) Af) (Ah (Ea K (pv 1) Af) (Bi (Ea K (pv 1) Af) (Ea K (pv 1) Af))))))))),?_⟩;obtain⟨dx,j⟩:=B.hr;exact vE rfl ⟨R.r,dx,_,rfl,j,SM _ _,vE rfl (vI rfl rfl (Hx.of hl) rfl (vE rfl (vI rfl rfl (Hx.of hl) rfl (vE rfl (vI rfl rfl (Hx.of hl) rfl (vE rfl (vI rfl rfl (Hx.of hl) rfl (vE rfl (vI rfl rfl (Hx.of hl) rfl (vE rfl (vI rfl rfl (Hx.of hl) rfl ⟨R,D,c,es,zs,Ss,rows,ns,z,rfl,B,S,g,U,L,M,q⟩)))))))))))⟩
def Zd (J:Pm P w K mg base):Jc J 6 "_law_enter" ["_law_roll","_law_loss"] (V3 (DO)):=JQ J.z J.rk bd λf fd F=>Pr λbs=>Sf J F
end
def C9 (z:LF):List Int:=[z.d,0,z.n]
def DQ:LF->LF->Prop:=OY C9
def KE {es:List Wl} (h:es.Pairwise (OY AO)):(es.map (·.2)).Pairwise DQ:=by
 rw[zBH];exact h
def X1 {a b:LF} (h1:DQ a b) (z:DQ b a):a.d=b.d/\a.n=b.n:=by
 let e:=Nh (C9 a) (C9 b) z h1;unfold C9 at e;injection e with B j;injection j with _ g;injection g with q _;exact⟨B,q⟩
def Z8 {g u v:List LF} (B:(g.map (·.n)).Nodup) (S:u.Perm g) (p2:v.Perm g) (s1:u.Pairwise DQ) (s2:v.Pairwise DQ):u=v:=by
 refine List.Perm.eq_of_pairwise (le:=DQ) (λa b ha hb h1 h2=>?_) s1 s2 (S.trans p2.symm);let U:=(X1 h1 h2).2;let Z:=S.mem_iff.mp ha;let Y:=p2.mem_iff.mp hb;obtain⟨i,hi,F⟩:=List.mem_iff_getElem.mp Z;obtain⟨j,hj,z⟩:=List.mem_iff_getElem.mp Y;let q:i=j:=by
  rw[zAW,zAH] at B;let L:i<(g.map (·.n)).length:=by rw[zAc];exact hi
  let M:j<(g.map (·.n)).length:=by rw[zAc];exact hj
  rcases zBy i j with y|y|y
  .exact ZR (by rw[zBk,zBk,F,z,U]) (B i j L M y)
  .exact y
  .exact ZR (by rw[zBk,zBk,F,z,U]) (B j i M L y)
 subst q;rw[<- F,<- z]
theorem Rq (z:LF) (S:List Eu):∀ {xs ys} {k},xs.map un=ys.map un->Cq z S xs k=Cq z S ys k
 |[],[],_,_=>rfl
 |[],_::_,_,h=>by cases h
 |_::_,[],_,h=>by cases h
 |x::xs,y::ys,k,h=>by
  rw[zAp,zAp] at h;injection h with h1 q;let j:x.nm=y.nm:=aC (·.1) h1;let g:x.cs=y.cs:=aC (·.2.2.1) h1;show Cq z S xs (Ek z x (Bm x.nm S).sum k x.cs.length)=Cq z S ys (Ek z y (Bm y.nm S).sum k y.cs.length);let e:∀ n,Ek z x (Bm x.nm S).sum k n=Ek z y (Bm y.nm S).sum k n:=λn=>by
   cases x;cases y
   simp only at j g;subst j g
   induction n with
   |zero=>rfl
   |succ m ih=>unfold Ek;rw[ih]
  rw[e,g];exact Rq z S q
theorem XD.uniq {bs cs:List XC} (e:bs.map un=cs.map un):∀ {zs} {Ss j} {k B L},XD bs k zs Ss B->XD cs k zs j L->Ss=j
 |[],[],[],_,_,_,_,_=>rfl
 |[],_::_,_,_,_,_,h,_=>h.elim
 |[],[],_::_,_,_,_,_,h=>h.elim
 |_::_,[],_,_,_,_,h,_=>h.elim
 |_::_,_::_,[],_,_,_,_,h=>h.elim
 |z::zs,S::Ss,U::j,k,B,L,h,g=>by
  let q:(Aw z bs).map un=(Aw z cs).map un:=by rw[Lp,Lp,e]
  let es:=Nz q h.1 g.1;subst es;let F:=h.2;rw[Rq z S q] at F;rw[XD.uniq e F g.2]
section
variable {H H':Hp}
def Pd {TT:ZF} (h:LamAt TT Er Gp H):∃ ps,H TT=ZC (.tbl ps):=by
 rcases h with z|⟨_,z,_⟩
 .exact⟨_,z⟩
 .exact⟨_,z⟩
def EN {TT:ZF} {D:ZF->Prop} {H H':Hp} (h:LamAt TT Er Gp H) (f:∀ b o,H b=ZC o->¬ D b->H' b=ZC o) (q:∀ a,D a->a≠TT/\∃ o,H a=ZC o/\Mu o):LamAt TT Er Gp H':=h.mono λb o e g=>f b o e λy=>by
 obtain⟨_,o',j,m⟩:=q b y;rw[e] at j;cases j;rcases g with ⟨ps,g⟩|⟨φ,g⟩
 .rw[g] at m
  exact m
 .rw[g] at m
  exact m
end
structure WG (st:Int) (zs:List LF):Prop where
 nd:(zs.map (·.n)).Nodup
 l40:zs.length<=40
 ok:∀ z∈zs,Iz z/\st<=z.d/\z.d<=st+5
 st0:0<=st
 st1:st+5<=1000000
inductive OU (K:zAa) (vs:List V) (H:Hp) (Q:VK) (E:XK):Prop
 |mk (a ns nl:_) (u st:Int) (D:List ZM) (z0:vs=[.ref a,.ref nl,.int u,.int st]) (z1:Dp K H a (bI V.int ns)) (z2:ns.length<=40) (z3:CU u) (z4:0<=st) (z5:st<=999995) (z6:H nl=oL (D.map V.str)) (z7:BX D) (z8:D.length=4) (z9:∀ r xs zs H',Dg H H'->H r=ZD->H' r=oL xs->TsAt LF.vs H' xs zs->WG st zs->zs.length=ns.length->(∀ (j:Nat) z,zs[j]?=ZC z->z.n%64=(j:Int))->Q (.ref r) H')
def E8:aK "."=tx [46]:=by ac_nf
def UX {z:ZM} (h:Gr (.str z)=ZI):46∉z.cps.toList:=λy=>by
 let n:Go z.cps.toList:=ZY h;let l:=n.2 46 y;unfold Gx at l
 lia
def Zw {ps:List ZM} (q:ps≠[]) (B:ps.length<=2) (h:∀ p∈ps,Gr (.str p)=ZI):Fp (bO (tx [46]) ps).cps.toList:=by
 unfold Fp;rw[Ri q λp g=>UX (h p g)];refine⟨by rw[zAc];lia,λp g=>?_⟩;obtain⟨z,j,rfl⟩:=zAv.mp g;exact ZY (h z j)
def BB {zs:List LF} (h:∀ (j:Nat) z,zs[j]?=ZC z->z.n%64=(j:Int)):(zs.map (·.n)).Nodup:=by
 rw[zAW,zAH];intro i j hi g q e;rw[zAc] at hi g;rw[zBk,zBk] at e;let h1:=h i _ (zAe hi);let B:=h j _ (zAe g);rw[e] at h1
 lia
section
seal L2.PS L2.PSs L2.PE L2.PA
variable {P:ZO} {w:ZX} {K:zAa} {mg:ZM->Option ZE} {base:aB}
def Mp (J:Pm P w K mg base):Jc J 2 "_law_losses" ["_law_cells","_law_names_here","_law_unit","_law_start_here"] (OU K):=Gj J.z J.re ["_law_cells","_law_names_here","_law_unit","_law_start_here","_law_losses_here","_law_k","_law_cell_here","_law_event","_law_day","_law_cents","_law_thing"] df λsc H Q hr h=>by
 obtain⟨a,ns,nl,u,st,D,rfl,ha,aw,uo,aj,ay,aa,ND,d4,q⟩:=h;refine⟨_,(Ab (Cn sc 4 (Bh Cs))
   (Ab (Bq ZV rfl (Hy rfl (J.z.nn J.ao) (Bn (pv 0))) (Cz (K:=K) (n:=2) rfl rfl (Ao (Et sc 5) (Ao (Et sc 6) Ct)))
    (Ab (Cn sc 7 (Le K (pv 1) (Ai Bd (Cm (Br J) hr (Bi (pv 6) Af)) Af)))
   (Ab (Ax (Al Cc (Ai Bd (Cm (Br J) hr (Bi (pv 6) Af)) Af) Af (Ap _))
    (Ae (Cn sc 7 (Ai Ie (Ai Ie (pv 7) Be) (Le K (pv 1) (Ai Bd (Cm (Br J) hr (Bi (pv 6) Af)) Af)))))
    Am)
   (Ab (Cn sc 8 (Ai Bf (pv 3) (Ai Bd (Cm (Br J) hr (Bi (pv 6) Af)) Af)))
   (Ab (Cn sc 9 (Ai Bf (Ai Bf Af (Ai Eb (Ai Bd (Cm (Br J) hr (Bi (pv 6) Af)) Af) (pv 2))) (Ai Bd (Cm (Br J) hr (Bi (pv 6) Af)) Af)))
   (Ab (Cn sc 10 (Le K (pv 1) (Ai Bd (Cm (Br J) hr (Bi (pv 6) Af)) Af)))
   (Ae (Bg (Cr (K:=K) rfl ZT aA ZZ Bw (pv 4) (Bn (Az (Ah (Ai Bf (Ai Eb (Ai Bd (pv 6) Af) Af) (pv 5)) (Ah (pv 8) (Ah (pv 7) (Ah (pv 10) (Bi (Le K (pv 1) (Ai Bd (Cm (Br J) hr (Bi (pv 6) Af)) Af)) (pv 9)))))))))))))))))
   (Ae (Aj (pv 4))))),?_⟩
 refine⟨zAw _,λr nr=>?_⟩;refine Gi [oR a,oR nl,oN u,oN st,oR r,ZD,ZD,ZD,ZD,ZD,ZD] rfl ?_;let s1:=Ac nr (.lst []);let h1:upd H r (.lst []) r=oL []:=Aa;generalize upd H r (.lst [])=H1 at s1 h1;let m4:∀ b:Int,0<=b%4/\b%4<D.length:=λb=>by let:=md (a:=b) (b:=4) (by lk);lia
 refine vE rfl ⟨a,rfl,⟨_,s1.seq ha⟩,Js (K:=K) (a:=a) (xs:=ns.map V.int) (λi σ H2=>(∃ o5 o6 o7 o8 o9 B,σ=[oR a,oR nl,oN u,oN st,oR r,o5,o6,o7,o8,o9,B])/\(∃ xs zs,H2 r=oL xs/\TsAt LF.vs H2 xs zs/\zs.length=i/\(∀ (j:Nat) z,zs[j]?=ZC z->z.n%64=(j:Int))/\∀ z∈zs,Iz z/\st<=z.d/\z.d<=st+5)/\Dg H H2)
  ⟨⟨ZD,ZD,ZD,ZD,ZD,ZD,rfl⟩,⟨[],[],h1,trivial,rfl,(λj z h=>by simp at h),λz U=>nomatch U⟩,s1⟩ (λi σ H2 _ hh=>hh.2.2.seq ha) ?_ ?_⟩
 .rintro i x σ H2 t hi ⟨⟨o5,o6,o7,o8,o9,B,rfl⟩,⟨xs,zs,af,ts,lz,mo,gd⟩,s2⟩ nt N9 ao
  rw[zAx] at hi;obtain⟨x,hx,rfl⟩:=zAQ.mp hi;let as:i<ns.length:=(zAk.mp hx).1;let s3:=Ac nt (.tup [.int i,.int x]);generalize upd H2 t (.tup [.int i,.int x])=H3 at s3;let S3:=s2.trans s3;refine EU [oR a,oR nl,oN u,oN st,oR r,oN i,oN x,o7,o8,o9,B] rfl ?_;refine vE rfl (vE rfl ⟨x,1,rfl,by lk,by lk,λe1 H4 s4 _ _=>⟨_,_,rfl,rfl,(by show (0:Int)<4;decide),?_⟩⟩);obtain⟨M,i1,a1⟩:=Iw (ns:=D) (i:=e1%4) (m4 _).1 (m4 _).2;let S4:=S3.trans s4;refine vI rfl rfl (Dp.of (S4 _ _ aa)) a1 ?_;refine Gi [oR a,oR nl,oN u,oN st,oR r,oN i,oN x,oS M,o8,o9,B] rfl ?_;refine Ia λN eN=>?_;refine Qu eN λN eN=>?_;let S:=ND.ok M i1;let go:∀ F H6,Dg H4 H6->Fp F.cps.toList->F.length<=17->N [oR a,oR nl,oN u,oN st,oR r,oN i,oN x,oS F,o8,o9,B] H6:=by
   intro F H6 s6 oe le;subst eN;refine vE rfl (vE rfl ⟨x,0,rfl,by lk,by lk,λe0 H7 s7 _ _=>⟨_,_,rfl,rfl,(by show (0:Int)<6;decide),_,_,rfl,rfl,Io st (st+5) ⟨by let:=md (a:=e0) (b:=6) (by lk);lia,by let:=md (a:=e0) (b:=6) (by lk);lia⟩ λd d0 d1=>?_⟩⟩);refine Gi [oR a,oR nl,oN u,oN st,oR r,oN i,oN x,oS F,oN d,o9,B] rfl ?_;refine vE rfl ⟨x,4,rfl,by lk,by lk,λe4 H8 s8 _ _=>⟨_,_,rfl,rfl,(by show (0:Int)<40;decide),?_⟩⟩;let aq:=md (a:=e4) (b:=40) (by lk);let u1:=uo.1;let au:0<=e4%40*u:=gG aq.1 (by lia);let ax:e4%40*u<=39*1000000007:=gH (by lia) uo.2 (by lia) (by lk);refine vE rfl (vF rfl rfl ⟨.inl ⟨by lia,by lia⟩,_,_,rfl,rfl,vE rfl ⟨x,5,rfl,by lk,by lk,λe5 H9 s9 _ _=>⟨_,_,rfl,rfl,(by show (0:Int)<3;decide),_,_,rfl,rfl,Io 1 39000000276 ⟨by let:=md (a:=e5) (b:=3) (by lk);lia,by let:=md (a:=e5) (b:=3) (by lk);lia⟩ λct c0 c1=>?_⟩⟩⟩);refine Gi [oR a,oR nl,oN u,oN st,oR r,oN i,oN x,oS F,oN d,oN ct,B] rfl ?_;refine vE rfl (vE rfl ⟨x,2,rfl,by lk,by lk,λe2 av ah _ _=>⟨_,_,rfl,rfl,(by show (0:Int)<4;decide),?_⟩⟩);obtain⟨L,i2,a2⟩:=Iw (ns:=D) (i:=e2%4) (m4 _).1 (m4 _).2;let ai:=S4.trans (s6.trans (s7.trans (s8.trans (s9.trans ah))));let ad:=s3.trans (s4.trans (s6.trans (s7.trans (s8.trans (s9.trans ah)))));refine vI rfl rfl (Dp.of (ai _ _ aa)) a2 ?_;refine Gi [oR a,oR nl,oN u,oN st,oR r,oN i,oN x,oS F,oN d,oN ct,oS L] rfl ?_;let ab:=ad _ _ af;let an:6<=sizeLine:=by rw[zCH];decide
   let dx:=md (a:=x) (b:=15625000) (by lk);refine vE rfl ⟨.inl ⟨rfl,_,Dp.of ab⟩,vE rfl (vF rfl rfl ⟨(by show (0:Int)<15625000;decide),_,_,rfl,rfl,.inl ⟨by lia,by lia⟩,vE rfl (vF rfl rfl (vE rfl (vE rfl (vE rfl (vE rfl (vE rfl ⟨x,3,rfl,by lk,by lk,λe3 ag Y _ _=>⟨_,_,rfl,rfl,(by show (0:Int)<4;decide),?_⟩⟩))))))⟩)⟩;obtain⟨z3,i3,a3⟩:=Iw (ns:=D) (i:=e3%4) (m4 _).1 (m4 _).2;let al:=ai.trans Y;refine vI rfl rfl (Dp.of (al _ _ aa)) a3 (vE rfl ⟨an,λtp ap=>?_⟩);let ac:=Y _ _ ab;let Z:=Ac ap (.tup (LF.vs ⟨x%15625000*64+i,d,F,L,z3,ct⟩));let ak:upd ag tp (.tup (LF.vs ⟨x%15625000*64+i,d,F,L,z3,ct⟩)) tp=oT (LF.vs ⟨x%15625000*64+i,d,F,L,z3,ct⟩):=Aa;let lx:=ts.len;refine (x3 r xs _ (c5 rfl rfl (Z _ _ ac) (by rw[zCH];lia) ?_));let am:Z7 (upd ag tp (.tup (LF.vs ⟨x%15625000*64+i,d,F,L,z3,ct⟩))) (upd (upd ag tp (.tup (LF.vs ⟨x%15625000*64+i,d,F,L,z3,ct⟩))) r (.lst (xs++[.ref tp]))):=Cd (Z _ _ ac) _;refine ao _ _ ⟨⟨_,_,_,_,_,_,rfl⟩,⟨xs++[V.ref tp],zs++[LF.mk (x%15625000*64+i) d F L z3 ct],Aa,?_,by rw[zAm,lz];rfl,λj z U=>?_,λz U=>?_⟩,λb o y=>?_⟩
   .exact ((ts.mono (An (ad.trans (Y.trans Z)))).snoc ak).mono am
   .by_cases hj:j<zs.length
    .rw[zAK hj] at U
     exact mo j z U
    .rw[zAA (by lia)] at U
     let e0:j-zs.length=0:=by
      let:=(zAk.mp U).1;rw[zAN] at this
      lia
     rw[e0] at U;cases U;show (x%15625000*64+(i:Int))%64=_
     lia
   .rcases zAu.mp U with g|g
    .exact gd z g
    .rw[zAh.mp g]
     refine⟨⟨ZN ⟨by lia,by lia⟩,ZN ⟨by lia,by lia⟩,⟨oe,?_⟩,ZY (ND.ok L i2).1,ZY (ND.ok z3 i3).1,ZN ⟨by lia,by lia⟩,c0⟩,d0,d1⟩;let e9:F.cps.toList.length=F.length:=rfl;show F.cps.toList.length<=900
     lia
   .rw[Ag (Ad y nr)]
    exact Z _ _ (Y _ _ (ad _ _ (s2 b o y)))
  refine vE rfl ⟨x,6,rfl,by lk,by lk,λe6 H5 s5 _ _=>⟨_,_,rfl,rfl,(by show (0:Int)<6;decide),rfl,vE rfl ?_⟩⟩;by_cases h6:V.int (e6%6)=V.int 1
  .refine dT h6 (vE rfl ⟨_,_,rfl,rfl,?_,vE rfl (vE rfl ⟨x,7,rfl,by lk,by lk,λe7 H6 s6 _ _=>⟨_,_,rfl,rfl,(by show (0:Int)<4;decide),?_⟩⟩)⟩)
   .rw[E8,Es,zCH]
    let:=S.2.1;show M.length+1<=_
    lia
   obtain⟨L,i2,a2⟩:=Iw (ns:=D) (i:=e7%4) (m4 _).1 (m4 _).2;let ae:=ND.ok L i2;let el:(M++aK ".").length=M.length+1:=by
    rw[E8];show (M.cps++[46].toArray).size=_;rw[zCh];rfl
   let ar:(M++aK "."++L).length=M.length+1+L.length:=by
    rw[<- el];show ((M++aK ".").cps++L.cps).size=_;rw[zCh];rfl
   refine vI rfl rfl (Dp.of ((S4.trans (s5.trans s6)) _ _ aa)) a2 (x2 _ _ (c4 rfl rfl ?_ ?_))
   .rw[el,zCH]
    let:=S.2.1;let:=ae.2.1
    lia
   refine go _ _ (s5.trans s6) ?_ (by let:=S.2.1;let:=ae.2.1;rw[ar];lia);let ej:M++aK "."++L=bO (tx [46]) [M,L]:=by rw[E8];rfl
   rw[ej];exact Zw (by simp) (by show 2<=2;decide) λp hp=>by
    rcases zAj.mp hp with y|y
    .rw[y];exact S.1
    .rw[zAh.mp y];exact ae.1
  .refine dF h6 (go M H5 s5 ?_ (by let:=S.2.1;lia))
   exact Zw (ps:=[M]) (by simp) (by show 1<=2;decide) λp hp=>by rw[zAh.mp hp];exact S.1
 .rintro σ H2 ⟨⟨o5,o6,o7,o8,o9,B,rfl⟩,⟨xs,zs,af,ts,lz,mo,gd⟩,s2⟩
  rw[zAc] at lz;exact vE rfl (q r xs zs H2 s2 nr af ts ⟨BB mo,by lia,gd,aj,by lia⟩ lz mo)
end
def dS (s:Eu):D:=.seq ZI [.at (.int s.1),.at (.int s.2.1),.at (.str s.2.2.1),.at (.int s.2.2.2)]
theorem Xt {K:zAa}:∀ {ys} {S},XI H ys S->Reps K H (S.map dS) ys
 |[],[],_=>by rw[zBv];unfold Reps;rfl
 |[],_::_,h=>h.elim
 |_::_,[],h=>h.elim
 |y::ys,s::S,⟨⟨t,e,h⟩,r⟩=>by
  rw[zAp];unfold Reps;refine (x2 y ys (c3 rfl ?_ (Xt r)));unfold dS Qb;refine⟨t,_,e,λ_=>Hx.of h,(λz=>by cases z),?_⟩;simp [Reps,Qb,B0,Eo]
theorem Xe:∀ S:List Eu,deps (S.map dS)<=1
 |[]=>by rw[zBv];unfold deps;lia
 |s::S=>by
  let:=Xe S;rw[zAp];unfold deps;let e:LD (dS s)=1:=by simp [dS,LD,deps]
  lia
theorem Yp:∀ S:List Eu,eqDs (S.map dS) (S.map dS)=ZI
 |[]=>by rw[zBv];unfold eqDs;rfl
 |s::S=>by
  rw[zAp];unfold eqDs;rw[Yp S];simp [dS,Y4,eqDs,W1]
def Vn {K:zAa} {a:ZF} {ys:List V} {S:List Eu} (h:H a=oL ys) (r:XI H ys S):Qb K H (.seq ZK (S.map dS)) (.ref a):=by
 unfold Qb;exact (x2 a ys (c4 rfl (λz=>by cases z) (λ_=>Dp.of h) (Xt r)))
def Pf (K:zAa) (T:ZF):Sp:=λvs H Q _=>∃ (a:ZF) (ns:List Int),vs=[.ref a]/\Dp K H a (ns.map V.int)/\ns.length<=63/\H T=ZC (.tbl #[])/\∀ H',Q (.bl ZI) H'
theorem Wp {f:LF->List V}:∀ {xs} {zs} (k:Nat),TsAt f H xs zs->TsAt f H (xs.take k) (zs.take k)
 |xs,zs,0,_=>by rw[zBe,zBe];trivial
 |[],[],k+1,_=>by rw[List.take_nil,List.take_nil];trivial
 |[],_::_,_+1,h=>h.elim
 |_::_,[],_+1,h=>h.elim
 |x::xs,z::zs,k+1,⟨h,r⟩=>by rw[zCv,zCv];exact⟨h,Wp k r⟩
theorem Vd {f:LF->List V}:∀ {xs} {zs} (k:Nat),TsAt f H xs zs->TsAt f H (xs.drop k) (zs.drop k)
 |xs,zs,0,h=>by rw[zCx,zCx];exact h
 |[],[],k+1,_=>by rw[List.drop_nil,List.drop_nil];trivial
 |[],_::_,_+1,h=>h.elim
 |_::_,[],_+1,h=>h.elim
 |x::xs,z::zs,k+1,⟨h,r⟩=>by rw[nB,nB];exact Vd k r
def made {r d C:ZF} {H H':Hp} {D:ZF->Prop} (hr:H r=ZD) (q:H d=ZD) (n:d≠r) (k:KB r (upd (upd H d (.own r)) r (.ins C d [])) H') (f:∀ a,D a->a=r\/upd (upd H d (.own r)) r (.ins C d []) a=ZD):Dg H H'/\∀ a,D a->H a=ZD:=by
 let g:Dg H (upd (upd H d (.own r)) r (.ins C d [])):=K6 hr q;refine⟨λb o e=>k b o (g b o e) (Ad e hr),λa j=>?_⟩;rcases f a j with y|y
 .rw[y];exact hr
 .exact g.free y
def QS {rows:List YN} {j:List XC} (e:j.map un=(rows.map cu).map un) (ok:∀ x∈rows,Mf x) (N:BX (rows.map (·.nm))) (B:rows.length<=4):SD (Fo j):=by
 let g:=Vq e;refine⟨λx q=>?_,by rw[MH g];exact B,JI g N.nd,λx q=>?_⟩
 .obtain⟨r,hr,e⟩:=Xb g x q
  let z:x.t=r.t:=aC (·.2.1) e;rw[z];let:=(ok r hr).hg
  lia
 .obtain⟨r,hr,e⟩:=Xb g x q
  let z:x.cs=r.rs.map Hl:=aC (·.2.2.1) e;rw[z,zAc];exact (ok r hr).l3
def Kh (H H':Hp):Prop:=∀ b o,H b=ZC o->(∀ ps,o≠HO.tbl ps)->H' b=ZC o
mutual
theorem XA.kt {H H':Hp} (s:Kh H H'):∀ {v} (t:Gf),XA κ H v t->XA κ H' v t
 |v,.at c,h=>by
  unfold XA at h ⊢;obtain⟨p,dx,e,h⟩:=h;exact⟨p,dx,e,s _ _ h (λ_ y=>by cases y)⟩
 |v,.no t,h=>by
  unfold XA at h ⊢;obtain⟨p,dx,w,e,h,r⟩:=h;exact⟨p,dx,w,e,s _ _ h (λ_ y=>by cases y),XA.kt s t r⟩
 |v,.al j,h=>by
  unfold XA at h ⊢;obtain⟨p,dx,l,vs,e,h,g,r⟩:=h;exact⟨p,dx,l,vs,e,s _ _ h (λ_ y=>by cases y),s _ _ g (λ_ y=>by cases y),CdsAt.kt s j r⟩
 |v,.so j,h=>by
  unfold XA at h ⊢;obtain⟨p,dx,l,vs,e,h,g,r⟩:=h;exact⟨p,dx,l,vs,e,s _ _ h (λ_ y=>by cases y),s _ _ g (λ_ y=>by cases y),CdsAt.kt s j r⟩
theorem CdsAt.kt {H H':Hp} (s:Kh H H'):∀ {vs} (g:List Gf),CdsAt κ H vs g->CdsAt κ H' vs g
 |[],[],_=>by unfold CdsAt;trivial
 |v::vs,t::g,h=>by
  unfold CdsAt at h ⊢;exact⟨XA.kt s t h.1,CdsAt.kt s g h.2⟩
 |[],_::_,h=>by unfold CdsAt at h;exact h.elim
 |_::_,[],h=>by unfold CdsAt at h;exact h.elim
end
def XG.kt {H H':Hp} {x:XC} (h:XG H x) (s:Kh H H'):XG H' x:=by
 obtain⟨dx,fs,F,cl,xs,e,U,B,S,j,q,M,L,z,g⟩:=h;exact⟨dx,fs,F,cl,xs,s _ _ e (λ_ y=>by cases y),U,B,S,j,q,XA.kt s _ M,s _ _ L (λ_ y=>by cases y),z.mono (λt _ _ _ y=>s _ _ y (λ_ y=>by cases y)),g⟩
def KF {H H':Hp} {b:ZF} {bs:List XC} (h:Kk H b bs) (s:Kh H H'):Kk H' b bs:=by
 obtain⟨dx,fs,j,h1,B,z,g⟩:=h;exact⟨dx,fs,j,s _ _ h1 (λ_ y=>by cases y),B,s _ _ z (λ_ y=>by cases y),λx q=>(g x q).kt s⟩
theorem XD.at {bs:List XC}:∀ {zs} {Ss} {k q},XD bs k zs Ss q->∀ {i:Nat} {z:LF} {S:List Eu},zs[i]?=ZC z->Ss[i]?=ZC S->∃ B,Bs B z (Aw z bs) S
 |[],_,_,_,_,_,_,_,g,_=>by simp at g
 |_::_,[],_,_,h,_,_,_,_,_=>h.elim
 |y::zs,U::Ss,k,q,h,0,z,S,g,j=>by
  cases g
  cases j
  exact⟨k,h.1⟩
 |y::zs,U::Ss,k,q,h,i+1,z,S,g,j=>XD.at h.2 (by simpa using g) (by simpa using j)
def Mo (ps:List CR.Rn):Int:=(ps.map λp=>p.2-p.1).sum
def Jq (p:CR.Rn) (ps:List CR.Rn):Mo (p::ps)=(p.2-p.1)+Mo ps:=by
 unfold Mo;rw[zAp,zAX]
theorem BW:∀ {ps} {n:Int},(∀ p∈ps,p.1<p.2)->0<=n->Mo (CR.lowW ps n)<=n/\(Mo (CR.lowW ps n)=n\/CR.lowW ps n=ps)
 |[],n,_,z=>⟨z,.inr rfl⟩
 |p::ps,n,j,z=>by
  let h1:=j p zAd;let B:∀ q∈ps,q.1<q.2:=λq hq=>j q (zAb _ hq);by_cases c:0<n
  .rw[CR.lowW_cons,ZJ c]
   by_cases d:p.1+n<p.2
   .rw[ZJ d,CR.lowW_none B (by lia),zAY,Jq]
    show (p.1+n-p.1)+0<=n/\((p.1+n-p.1)+0=n\/_);exact⟨by lia,.inl (by lia)⟩
   .rw[ZH d,fP,Jq]
    obtain⟨L,F⟩:=BW (n:=n-(p.2-p.1)) B (by lia);refine⟨by show (p.2-p.1)+_<=n;lia,?_⟩;rcases F with g|g
    .exact .inl (by show (p.2-p.1)+_=n;lia)
    .exact .inr (by rw[g])
  .rw[CR.lowW_none j (by lia)]
   exact⟨z,.inl (by show (0:Int)=n;lia)⟩
def Y6 {l m:List Int} (h:l.Perm m):l.sum=m.sum:=by
 induction h with
 |nil=>rfl
 |cons x _ ih=>rw[zAX,zAX,ih]
 |swap x y l=>rw[zAX,zAX,zAX,zAX];lia
 |trans _ _ a b=>exact a.trans b
def Jr (nm:ZM) (S T:List Eu):Bm nm (S++T)=Bm nm S++Bm nm T:=by
 unfold Bm;rw[zBN,zAq]
theorem No (nm:ZM):∀ ps:List CR.Rn,(Bm nm (CRT.tag nm (-1) ps)).sum=Mo ps
 |[]=>rfl
 |p::ps=>by
  let ih:=No nm ps;rw[Jq,<- ih];unfold Bm CRT.tag;rw[zAp,zBh (by unfold Nb;simp),zAp,zAX]
def Md {nm:ZM} {S:List Eu} (h:∀ s∈S,¬ (s.2.2.1=nm/\s.2.2.2 = -1)):Bm nm S=[]:=by
 unfold Bm;rw[List.filter_eq_nil_iff.mpr λs g e=>?_]
 .rfl
 .unfold Nb at e
  rw[zAo,ZL,ZL] at e;exact h s g e
def Of {nm:ZM}:∀ {cs} {un},nm∉cs.map (·.1)->Bm nm (CRT.paidS cs un)=[]:=λ{cs un} h=>Md λs g e=>h (by
 let:=(CRT.paidS_key g).2
 rwa [e.1] at this)
theorem Xq:∀ {cs} {un} {c},CR.Frm un->(cs.map (·.1)).Nodup->c∈cs->∃ g,CR.Frm g/\(Bm c.1 (CRT.paidS cs un)).sum=Mo (CRT.payW c g)
 |[],_,_,_,_,h=>nomatch h
 |a::cs,un,c,f,j,h=>by
  rw[zAp,zAT] at j;show ∃ g,CR.Frm g/\(Bm c.1 (CRT.tag a.1 (-1) (CRT.payW a un)++CRT.paidS cs (CR.outW un (CRT.payW a un)))).sum=_;rw[Jr,fG];rcases zAj.mp h with e|e
  .subst e
   refine⟨un,f,?_⟩;rw[No,Of j.1];exact aZ _
  .obtain⟨g,B,F⟩:=Xq (CR.outW_frm f (CRT.payW_frm f)) j.2 e
   refine⟨g,B,?_⟩;rw[F,Md λs q z=>?_]
   .exact fL _
   .unfold CRT.tag at q
    obtain⟨p,_,rfl⟩:=zAv.mp q;exact j.1 (zAv.mpr ⟨c,e,z.1.symm⟩)
def Ps {cs:List (CRT.Av ZM)} {un:List CR.Rn} {c:CRT.Av ZM} (g:((c::cs).map (·.1)).Nodup):(Bm c.1 (CRT.paidS (c::cs) un)).sum=Mo (CRT.payW c un):=by
 rw[zAp,zAT] at g;show (Bm c.1 (CRT.tag c.1 (-1) (CRT.payW c un)++CRT.paidS cs (CR.outW un (CRT.payW c un)))).sum=_;rw[Jr,fG,No,Of g.1];exact aZ _
def CA {c:CRT.Av ZM} {m:Int} {un:List CR.Rn} (e:c.2.2=ZC m) (g:0<=m) (f:CR.Frm un):Mo (CRT.payW c un)<=m/\(Mo (CRT.payW c un)=m\/CRT.payW c un=CR.cutW un c.2.1.1 c.2.1.2):=by
 unfold CRT.payW;rw[e];exact BW (CR.cutW_frm c.2.1.1 c.2.1.2 f.pw).lt g
theorem Lz:∀ {q} {k:Int} {o} {m:Int},(ZC m∈q\/∃ m' j,o=ZC (m',j)/\m'<=m)->∃ n j,Cf q k o=ZC (n,j)/\n<=m
 |[],k,o,m,h=>by
  rcases h with h|⟨m',j,e,l⟩
  .exact nomatch h
  .exact⟨m',j,e,l⟩
 |none::r,k,o,m,h=>by
  unfold Cf;refine Lz ?_;rcases h with h|h
  .rcases zAj.mp h with e|e
   .cases e
   .exact .inl e
  .exact .inr h
 |some a::r,k,ZD,m,h=>by
  unfold Cf;refine Lz ?_;rcases h with h|⟨_,_,e,_⟩
  .rcases zAj.mp h with e|e
   .cases e
    exact .inr (x2 _ _ ⟨rfl,aD _⟩)
   .exact .inl e
  .cases e
 |some a::r,k,ZC (b,j),m,h=>by
  unfold Cf;refine Lz ?_;let g:∀ x,x=a\/x=b->x<=m->∃ m' B,(if a<b then ZC (a,k) else ZC (b,j))=ZC (m',B)/\m'<=m:=λx F l=>by
   by_cases c:a<b
   .rw[ZJ c]
    exact (x2 a k ⟨rfl,by lia⟩)
   .rw[ZH c]
    exact (x2 b j ⟨rfl,by lia⟩)
  rcases h with h|⟨m',B,e,l⟩
  .rcases zAj.mp h with e|e
   .exact .inr (g a (.inl rfl) (mE (aH e).symm))
   .exact .inl e
  .have z:=aC Prod.fst (aH e)
   exact .inr (g b (.inr rfl) (by show b<=m;let z:b=m':=z;lia))
theorem Ln:∀ {cs} {ns:List Int} {i:Nat} {n:Int},(Ay cs ns)[i]?=ZC (ZC n)->0<=n
 |[],_,i,n,h=>by unfold Ay at h;simp at h
 |_::_,[],i,n,h=>by unfold Ay at h;simp at h
 |c::cs,m::ns,0,n,h=>by
  unfold Ay at h;rw[zBL] at h;simp at h;cases c with
  |lim y a=>
   let h':ZC (CR.maxI (a-m) 0)=ZC n:=h;let:=aH h';unfold CR.maxI at this
   split at this <;> lia
  |own y d=>cases h
  |lay y a b=>cases h
  |any y=>cases h
 |c::cs,m::ns,i+1,n,h=>by
  unfold Ay at h;rw[zBL] at h;simp only [zBI] at h;exact Ln (cs:=cs) (ns:=ns) h
theorem XW.mem {kvs:Ej} {z:LF}:∀ {xs} {as} {x},XW kvs z xs as->x∈xs->∃ a∈as,HJ kvs z x a
 |[],_,_,_,h=>nomatch h
 |_::_,[],_,h,_=>h.elim
 |y::xs,a::as,x,⟨g,r⟩,h=>by
  rcases zAj.mp h with e|e
  .subst e
   exact⟨a,zAd,g⟩
  .obtain⟨b,q,j⟩:=XW.mem r e
   exact⟨b,zAb _ q,j⟩
theorem M7 {α:Type} (f:α->ZM):∀ {xs:List α} {x y:α},(xs.map f).Nodup->x∈xs->y∈xs->f x=f y->x=y
 |[],_,_,_,h,_,_=>nomatch h
 |a::xs,x,y,q,B,z,e=>by
  rw[zAp,zAT] at q;rcases zAj.mp B with j|j
  .rcases zAj.mp z with g|g
   .rw[j,g]
   .exact ZR (zAv.mpr ⟨y,g,by rw[<- e,j]⟩) q.1
  .rcases zAj.mp z with g|g
   .exact ZR (zAv.mpr ⟨x,j,by rw[e,g]⟩) q.1
   .exact M7 f q.2 j g e
def UK {kvs:Ej} {z:LF} {x:XC} (ch:CRP.Ch (CRP.fw (As z.ct x.cs (numsOf kvs z x))) 0 ZD parts z.ct) {p:CRP.Tr3} (B:p∈parts) : -1<=Nn (Ba x.cs (numsOf kvs z x)) p.2.2:=by
 let L : -1<=p.2.2:=by
  obtain⟨c,_,_,e⟩:=AV ch B;unfold CRP.fw at e;rcases E1 (sp:=As z.ct x.cs (numsOf kvs z x)) (k:=0) (c:=c) with y|⟨i,q,_,y,_⟩
  .lia
  .lia
 cases F:Ba x.cs (numsOf kvs z x) with
 |none=>exact L
 |some g=>
  obtain⟨n,j⟩:=g;obtain⟨M,_⟩:=Vh F ch;show -1<=if p.2.2 = -1 then j else p.2.2
  split <;> lia
def DP {kvs:Ej} {z:LF} {x:XC} {xs:List XC} {avs:List (CRT.Av ZM)} (av:XW kvs z (x::xs) avs) (c0:0<z.ct) {parts:List CRP.Tr3} (ch:CRP.Ch (CRP.fw (As z.ct x.cs (numsOf kvs z x))) 0 ZD parts z.ct) :
  ∀ s∈CRT.borneS x.nm (Nn (Ba x.cs (numsOf kvs z x))) parts (CRT.leftS avs [(0,z.ct)]),0<=s.2.2.2:=by
 intro s hs;obtain⟨p,hp,e,q,hq,e1,e2⟩:=CRT.borne_mem hs;rw[e];show 0<=Nn (Ba x.cs (numsOf kvs z x)) p.2.2;let ge:=UK ch hp;by_cases m:Nn (Ba x.cs (numsOf kvs z x)) p.2.2 = -1
 .exfalso
  obtain⟨b1,b2,b3⟩:=CRT.cutW_bd hq;let inn:CR.inR (CR.cutW (CRT.leftS avs [(0,z.ct)]) p.1 p.2.1) q.1=ZI:=CR.inR_iff.mpr ⟨q,hq,aD _,b3⟩;rw[CR.cutW_in,zAo] at inn;let no:=D5 av c0 ch p hp m q.1 b1 (by lia);rw[no] at inn;cases inn.1
 .lia
mutual
theorem Na {x:LS} {c:Int} (le:c<=x.ct):∀ t:Gf,(∀ m∈De t,m<x.ct->m<c)->hT t ⟨x.d,x.th,x.ca,c⟩=hT t x
 |.at .alw,_=>by unfold hT;rfl
 |.at (.cau _),_=>by unfold hT;rfl
 |.at (.thi _),_=>by unfold hT;rfl
 |.at (.day _ _),_=>by unfold hT;rfl
 |.at (.ovr m),h=>by
  let:=h m (by unfold De;exact zAh.mpr rfl);unfold hT;show decide (m<c)=decide (m<x.ct);by_cases z:m<x.ct
  .rw[ZN z,ZN (this z)]
  .rw[ZQ z,ZQ (by lia)]
 |.no t,h=>by
  unfold hT;rw[Na le t (by unfold De at h;exact h)]
 |.al ts,h=>by
  unfold hT;exact hAll_cut le ts (by unfold De at h;exact h)
 |.so ts,h=>by
  unfold hT;exact hSom_cut le ts (by unfold De at h;exact h)
theorem hAll_cut {x:LS} {c:Int} (le:c<=x.ct):∀ ts:List Gf,(∀ m∈marksOs ts,m<x.ct->m<c)->hAll ts ⟨x.d,x.th,x.ca,c⟩=hAll ts x
 |[],_=>by unfold hAll;rfl
 |t::ts,h=>by
  unfold marksOs at h;unfold hAll;rw[Na le t λm hm=>h m (zBp _ hm),hAll_cut le ts λm hm=>h m (zAC _ hm)]
theorem hSom_cut {x:LS} {c:Int} (le:c<=x.ct):∀ ts:List Gf,(∀ m∈marksOs ts,m<x.ct->m<c)->hSom ts ⟨x.d,x.th,x.ca,c⟩=hSom ts x
 |[],_=>by unfold hSom;rfl
 |t::ts,h=>by
  unfold marksOs at h;unfold hSom;rw[Na le t λm hm=>h m (zBp _ hm),hSom_cut le ts λm hm=>h m (zAC _ hm)]
end
def Lk (n:Int):List EX->List EX->Prop
 |[],[]=>True
 |p::ps,q::qs=>(p.1<=n↔q.1<=n)/\(n<p.2↔n<q.2)/\Lk n ps qs
 |_,_=>False
def M6 {b m k e n:Int} (h:n<e) (le:e<=k):(Nq b m k<=n↔Nq b m e<=n):=by
 unfold Nq CR.minI;generalize CR.maxI (b-m) 0=x
 split <;> split <;> lia
theorem Rt {k e n:Int} (h:n<e) (le:e<=k):∀ (cs:List Cl) (ns:List Int),Lk n (As k cs ns) (As e cs ns)
 |[],_=>by unfold As;exact trivial
 |_::_,[]=>by unfold As;exact trivial
 |c::cs,m::ns=>by
  refine⟨?_,?_,Rt h le cs ns⟩
  .show Y3 c m k<=n↔Y3 c m e<=n
   cases c <;> simp only [Y3] <;> exact M6 h le
  .show n<F0 c m k↔n<F0 c m e
   cases c with
   |lay y a b=>
    let:=M6 (b:=b) (m:=m) h le;simp only [F0]
    lia
   |_=>simp only [F0];lia
theorem IB {n:Int}:∀ {ps qs} (i:Int),Lk n ps qs->CRP.fwFrom ps i n=CRP.fwFrom qs i n
 |[],[],_,_=>rfl
 |[],_::_,_,h=>h.elim
 |_::_,[],_,h=>h.elim
 |(a,b)::ps,(q,b')::qs,i,⟨h1,g,j⟩=>by
  let h1:a<=n↔q<=n:=h1;let g:n<b↔n<b':=g;unfold CRP.fwFrom;rw[IB (i+1) j];by_cases z:n<a\/b<=n
  .rw[ZJ z,ZJ (by lia)]
  .rw[ZH z,ZH (by lia)]
theorem EH {n:Int}:∀ {ps qs},Lk n ps qs->((∀ p∈ps,p.1<=n/\n<p.2)↔∀ p∈qs,p.1<=n/\n<p.2)
 |[],[],_=>⟨λ_ p g=>(nomatch g),λ_ p g=>nomatch g⟩
 |[],_::_,h=>h.elim
 |_::_,[],h=>h.elim
 |a::ps,b::qs,⟨h1,j,z⟩=>by
  let ih:=EH z;constructor
  .intro h p g
   rcases zAj.mp g with e|e
   .have:=h a zAd
    rw[e];exact⟨h1.mp this.1,j.mp this.2⟩
   .exact ih.mp (λq hq=>h q (zAb _ hq)) p e
  .intro h p g
   rcases zAj.mp g with e|e
   .have:=h b zAd
    rw[e];exact⟨h1.mpr this.1,j.mpr this.2⟩
   .exact ih.mpr (λq hq=>h q (zAb _ hq)) p e
def Pp {k:Int} {cs:List Cl} {ns:List Int} {W:Int×Int} (h:Q0 k cs ns W) {n:Int} (n0:0<=n) (n1:n<k):(W.1<=n/\n<W.2)↔∀ p∈As k cs ns,p.1<=n/\n<p.2:=by
 obtain⟨lo,hi,⟨m1,m2⟩,⟨m3,m4⟩,rfl⟩:=h;constructor
 .rintro ⟨g1,g2⟩ p hp
  let g1:lo<=n:=g1;let g2:n<if hi>lo then hi else lo:=g2;let:=m2 p.1 (zAb _ (zAv.mpr ⟨p,hp,rfl⟩));let:=m4 p.2 (zAb _ (zAv.mpr ⟨p,hp,rfl⟩))
  split at g2 <;> lia
 .intro h
  let g1:lo<=n:=by
   rcases zAj.mp m1 with e|e
   .lia
   .obtain⟨p,hp,rfl⟩:=zAv.mp e
    exact (h p hp).1
  let g2:n<hi:=by
   rcases zAj.mp m3 with e|e
   .lia
   .obtain⟨p,hp,rfl⟩:=zAv.mp e
    exact (h p hp).2
  refine⟨g1,?_⟩;show n<if hi>lo then hi else lo;rw[ZJ (by lia)];exact g2
def LF.cut (z:LF) (e:Int):LF:=⟨z.n,z.d,z.ev,z.th,z.ca,e⟩
def Lo (kvs:Ej) (z:LF) (e:Int) (x:XC):numsOf kvs (z.cut e) x=numsOf kvs z x:=rfl
theorem Qd {kvs:Ej} {z:LF} {e:Int} (le:e<=z.ct):∀ {xs:List XC} {as bs:List (CRT.Av ZM)},XW kvs z xs as->XW kvs (z.cut e) xs bs->CRT.Likes e as bs
 |[],[],[],_,_=>trivial
 |[],[],_::_,_,h=>h.elim
 |[],_::_,_,h,_=>h.elim
 |_::_,[],_,h,_=>h.elim
 |_::_,_::_,[],_,h=>h.elim
 |x::xs,a::as,b::bs,⟨⟨W,hw,ea⟩,r⟩,⟨⟨W',hw',eb⟩,r'⟩=>by
  refine⟨⟨by rw[ea,eb],by rw[ea,eb,Lo],λn n0 n1=>?_⟩,Qd le r r'⟩;rw[Lo] at hw';rw[ea,eb];show (W.1<=n/\n<W.2)↔(W'.1<=n/\n<W'.2);exact (Pp hw n0 (by lia)).trans ((EH (Rt n1 le _ _)).trans (Pp (k:=e) hw' n0 n1).symm)
theorem Yl:∀ {S:List Eu} {a c:Int} {g:Option (ZM×Int)},CRT.FormS a g S c->∀ s∈S,a<=s.1
 |[],a,c,g,h,s,j=>nomatch j
 |t::r,a,c,g,⟨h1,z,_,q⟩,s,j=>by
  rcases zAj.mp j with e|e
  .rw[e];lia
  .have:=Yl q s e
   lia
def F9 (f:Cl->Int) (z:LF) (x:XC) (kvs:Ej):Nat->Ej
 |0=>kvs
 |i+1=>Dz (F9 f z x kvs i) (Pz x.nm (i:Int) (Dc ((x.cs[i]?).getD (.any "")).way z)) (.int (Dd (Bo (F9 f z x kvs i) x.nm (i:Int) (Dc ((x.cs[i]?).getD (.any "")).way z))+f ((x.cs[i]?).getD (.any ""))))
def E4 (f:XC->Cl->Int) (z:LF):List XC->Ej->Ej
 |[],k=>k
 |x::xs,k=>E4 f z xs (F9 (f x) z x k x.cs.length)
theorem JK {z:LF} {x:XC} {pd:Int} {kvs:Ej}:∀ i,Ek z x pd kvs i=F9 (λc=>if Dj c=ZI then pd else z.ct) z x kvs i
 |0=>rfl
 |i+1=>by
  show Dz _ _ _=Dz _ _ _;rw[JK i]
theorem IZ {z:LF} {S:List Eu}:∀ {xs} {k},Cq z S xs k=E4 (λx c=>if Dj c=ZI then (Bm x.nm S).sum else z.ct) z xs k
 |[],_=>rfl
 |x::xs,k=>by
  show Cq z S xs _=E4 _ z xs _;rw[JK,IZ (xs:=xs)]
def Yi (m:Ej) (nm g:ZM) (k k':Int) (y y':Ev) (v:V):Bo (Dz m (Pz nm k y) v) g k' y'=if g=nm/\k'=k/\y'=y then v else Bo m g k' y':=by
 unfold Bo;rw[Iy];by_cases c:g=nm/\k'=k/\y'=y
 .obtain⟨rfl,rfl,rfl⟩:=c
  rw[ZJ rfl,ZJ ⟨rfl,rfl,rfl⟩];rfl
 .rw[ZH c,ZH]
  intro e;unfold Pz at e;injection e with z e;injection e with q e;injection e with j _;exact c ⟨Sum.inr.inj z,iB q,j⟩
theorem Jn {f:Cl->Int} {z:LF} {x:XC} {kvs:Ej} {nm:ZM} {j:Int} {y:Ev}:∀ i:Nat,(nm≠x.nm\/(i:Int)<=j)->Bo (F9 f z x kvs i) nm j y=Bo kvs nm j y
 |0,_=>rfl
 |i+1,h=>by
  show Bo (Dz _ _ _) nm j y=_;rw[Yi,ZH,Jn i]
  .rcases h with h|h
   .exact .inl h
   .exact .inr (by omega)
  .rintro ⟨g,q,_⟩
   rcases h with h|h
   .exact h g
   .omega
theorem P2 {f:Cl->Int} {z:LF} {x:XC} {kvs:Ej} {j:Nat} {c:Cl} {y:Ev} (g:x.cs[j]?=ZC c):∀ i:Nat,j<i->Bo (F9 f z x kvs i) x.nm (j:Int) y=if y=Dc c.way z then .int (Dd (Bo kvs x.nm (j:Int) y)+f c) else Bo kvs x.nm (j:Int) y
 |0,h=>ZR h (zBA _)
 |i+1,h=>by
  show Bo (Dz _ _ _) x.nm (j:Int) y=_;rw[Yi];by_cases e:i=j
  .subst e
   rw[g];show (if _/\_/\y=Dc c.way z then V.int (Dd (Bo (F9 f z x kvs i) x.nm (i:Int) (Dc c.way z))+f c) else _)=_;by_cases d:y=Dc c.way z
   .rw[ZJ ⟨rfl,rfl,d⟩,ZJ d,Jn i (.inr (aD _)),d]
   .rw[ZH (λk=>d k.2.2),ZH d,Jn i (.inr (aD _))]
  .rw[ZH (λk=>e (by let:=k.2.1;lia)),P2 g i (by lia)]
theorem Sc {f:XC->Cl->Int} {z:LF} {nm:ZM} {j:Int} {y:Ev}:∀ {xs} {k},(∀ x∈xs,x.nm≠nm)->Bo (E4 f z xs k) nm j y=Bo k nm j y
 |[],_,_=>rfl
 |x::xs,k,h=>by
  show Bo (E4 f z xs _) nm j y=_;rw[Sc (xs:=xs) λy g=>h y (zAb _ g),Jn _ (.inl (h x zAd).symm)]
theorem O3 {f:XC->Cl->Int} {z:LF} {j:Nat} {c:Cl} {y:Ev} {x:XC} (q:x.cs[j]?=ZC c):∀ {xs} {k},(xs.map (·.nm)).Nodup->x∈xs->Bo (E4 f z xs k) x.nm (j:Int) y=if y=Dc c.way z then .int (Dd (Bo k x.nm (j:Int) y)+f x c) else Bo k x.nm (j:Int) y
 |[],_,_,h=>nomatch h
 |x'::xs,k,g,h=>by
  rw[zAp,zAT] at g;show Bo (E4 f z xs _) x.nm (j:Int) y=_;rcases zAj.mp h with e|e
  .subst e
   rw[Sc λy F e=>g.1 (zAv.mpr ⟨y,F,e⟩),P2 q _ (zAk.mp q).1]
  .have ne:x.nm≠x'.nm:=λB=>g.1 (zAv.mpr ⟨x,e,B⟩)
   rw[O3 q g.2 e,Jn _ (.inl ne)]
def SY (n m:Int):List EX->List EX->Prop
 |[],[]=>True
 |p::ps,q::qs=>(p.1<=n↔q.1<=m)/\(n<p.2↔m<q.2)/\SY n m ps qs
 |_,_=>False
theorem AT {n m:Int}:∀ {ps qs} (i:Int),SY n m ps qs->CRP.fwFrom ps i n=CRP.fwFrom qs i m
 |[],[],_,_=>rfl
 |[],_::_,_,h=>h.elim
 |_::_,[],_,h=>h.elim
 |(a,b)::ps,(q,b')::qs,i,⟨h1,g,j⟩=>by
  let h1:a<=n↔q<=m:=h1;let g:n<b↔m<b':=g;unfold CRP.fwFrom;rw[AT (i+1) j];by_cases z:n<a\/b<=n
  .rw[ZJ z,ZJ (by lia)]
  .rw[ZH z,ZH (by lia)]
theorem K9 {n m:Int}:∀ {ps qs},SY n m ps qs->((∀ p∈ps,p.1<=n/\n<p.2)↔∀ p∈qs,p.1<=m/\m<p.2)
 |[],[],_=>⟨λ_ p g=>(nomatch g),λ_ p g=>nomatch g⟩
 |[],_::_,h=>h.elim
 |_::_,[],h=>h.elim
 |a::ps,b::qs,⟨h1,q,j⟩=>by
  rw[zBG,zBG,K9 j,h1,q]
def Mh (p e:Int) (cs:List Cl) (ns:List Int):List Int:=lF (λc n=>n+if Dj c=ZI then p else e) cs ns
def Wc {b m c e n:Int} (g:0<=e) (j:0<=n) (q:n<c-e):(Nq b m c<=e+n↔Nq b (m+e) (c-e)<=n):=by
 unfold Nq CR.minI CR.maxI
 split <;> split <;> split <;> split <;> lia
theorem Ix {c e n:Int} (p:Int) (g:0<=e) (j:0<=n) (q:n<c-e):∀ (cs:List Cl) (ns:List Int),SY (e+n) n (As c cs ns) (As (c-e) cs (Mh p e cs ns))
 |[],_=>by unfold As;exact trivial
 |_::_,[]=>by unfold As;exact trivial
 |k::cs,m::ns=>by
  refine⟨?_,?_,Ix p g j q cs ns⟩
  .show Y3 k m c<=e+n↔Y3 k (m+if Dj k=ZI then p else e) (c-e)<=n
   cases k with
   |own y d=>exact Wc g j q
   |lay y a b=>exact Wc g j q
   |lim y a=>simp only [Y3];lia
   |any y=>simp only [Y3];lia
  .show e+n<F0 k m c↔n<F0 k (m+if Dj k=ZI then p else e) (c-e)
   cases k with
   |lay y a b=>
    let:=Wc (b:=b) (m:=m) g j q;simp only [F0,Dj];simp only [zBd,cO]
    lia
   |own y d=>simp only [F0];lia
   |lim y a=>simp only [F0];lia
   |any y=>simp only [F0];lia
theorem Ny {p e:Int} (j:0<=p):∀ (cs:List Cl) (ns:List Int),(∀ m,ZC m∈Ay cs ns->p<=m)->Ay cs (Mh p e cs ns)=(Ay cs ns).map (dR (· - p))
 |[],_,_=>rfl
 |_::_,[],_=>rfl
 |k::cs,m::ns,h=>by
  let ih:=Ny (e:=e) j cs ns λq z=>h q (zAb _ z);show Ye (Kg k (m+if Dj k=ZI then p else e))::Ay cs (Mh p e cs ns)=dR (· - p) (Ye (Kg k m))::(Ay cs ns).map (dR (· - p));rw[ih]
  congr 1
  cases k with
  |own y d=>rfl
  |lay y a b=>rfl
  |any y=>rfl
  |lim y a=>
   let g:p<=CR.maxI (a-m) 0:=h _ (by
    show ZC (CR.maxI (a-m) 0)∈Ye (Kg (Cl.lim y a) m)::Ay cs ns;exact zAd)
   show ZC (CR.maxI (a-(m+if Dj (Cl.lim y a)=ZI then p else e)) 0)=ZC (CR.maxI (a-m) 0-p);simp only [Dj,eM];unfold CR.maxI at g ⊢
   congr 1
   split at g <;> split <;> lia
theorem Jp (p:Int):∀ (g:List (Option Int)) (k:Int) (o:Option (Int×Int)),Cf (g.map (dR (· - p))) k (o.map λq=>(q.1-p,q.2))=(Cf g k o).map λq=>(q.1-p,q.2)
 |[],_,_=>rfl
 |none::r,k,o=>by
  show Cf (r.map (dR (· - p))) (k+1) (o.map λq=>(q.1-p,q.2))=(Cf r (k+1) o).map λq=>(q.1-p,q.2);exact Jp p r (k+1) o
 |some n::r,k,ZD=>by
  show Cf (r.map (dR (· - p))) (k+1) (ZC (n-p,k))=(Cf r (k+1) (ZC (n,k))).map λq=>(q.1-p,q.2);exact Jp p r (k+1) (ZC (n,k))
 |some n::r,k,ZC (m,j)=>by
  show Cf (r.map (dR (· - p))) (k+1) (if n-p<m-p then ZC (n-p,k) else ZC (m-p,j))=(Cf r (k+1) (if n<m then ZC (n,k) else ZC (m,j))).map λq=>(q.1-p,q.2);rw[<- Jp p r (k+1)]
  congr 1
  by_cases c:n<m
  .rw[ZJ c,ZJ (by lia)];rfl
  .rw[ZH c,ZH (by lia)];rfl
def Qc {p e:Int} (g:0<=p) {cs:List Cl} {ns:List Int} (h:∀ m,ZC m∈Ay cs ns->p<=m):Ba cs (Mh p e cs ns)=(Ba cs ns).map λq=>(q.1-p,q.2):=by
 unfold Ba;rw[Ny g cs ns h];exact Jp p _ 0 ZD
def GK (p:Int) (ro:Option (Int×Int)):Nn (ro.map λq=>(q.1-p,q.2))=Nn ro:=by
 cases ro with
 |none=>rfl
 |some q=>rfl
theorem DC:∀ (l:List Int) (a:Int),∃ m,Zb m (a::l)
 |[],a=>⟨a,zAd,λk g=>by rw[zAh.mp g];exact aD _⟩
 |b::l,a=>by
  obtain⟨m,h1,j⟩:=DC l b;by_cases c:a<=m
  .exact⟨m,zAb _ h1,zBG.mpr ⟨c,j⟩⟩
  .exact⟨a,zAd,zBG.mpr ⟨aD _,λk g=>by let:=j k g;lia⟩⟩
theorem EB:∀ (l:List Int) (a:Int),∃ m,Zf m (a::l)
 |[],a=>⟨a,zAd,λk g=>by rw[zAh.mp g];exact aD _⟩
 |b::l,a=>by
  obtain⟨m,h1,j⟩:=EB l b;by_cases c:m<=a
  .exact⟨m,zAb _ h1,zBG.mpr ⟨c,j⟩⟩
  .exact⟨a,zAd,zBG.mpr ⟨aD _,λk g=>by let:=j k g;lia⟩⟩
theorem Nr (kvs:Ej) (z:LF):∀ xs:List XC,∃ g,XW kvs z xs g
 |[]=>⟨[],trivial⟩
 |x::xs=>by
  obtain⟨g,h⟩:=Nr kvs z xs;obtain⟨lo,h1⟩:=DC ((As z.ct x.cs (numsOf kvs z x)).map (·.1)) 0;obtain⟨hi,j⟩:=EB ((As z.ct x.cs (numsOf kvs z x)).map (·.2)) z.ct;exact⟨_::g,⟨_,⟨lo,hi,h1,j,rfl⟩,rfl⟩,h⟩
theorem XW.like {k k':Ej} {p q:LF} (g:p.ct=q.ct):∀ {xs} {as},(∀ x∈xs,numsOf k p x=numsOf k' q x)->XW k p xs as->XW k' q xs as
 |[],[],_,_=>trivial
 |[],_::_,_,h=>h.elim
 |_::_,[],_,h=>h.elim
 |x::xs,a::as,j,⟨⟨W,B,z⟩,r⟩=>by
  let e:=j x zAd;refine⟨⟨W,?_,?_⟩,XW.like g (λy F=>j y (zAb _ F)) r⟩
  .rw[<- g,<- e];exact B
  .rw[<- e];exact z
def Oc {k k':Ej} {p q:LF} {as:List XC} {S:List Eu} (j:p.ct=q.ct) (z:∀ x∈as,numsOf k p x=numsOf k' q x) (h:Bs k p as S):Bs k' q as S:=by
 match as,z,h with
 |[],_,h=>
  let h:S=[((0:Int),p.ct,("" : ZM),(0:Int))]:=h;show S=[((0:Int),q.ct,("" : ZM),(0:Int))];rw[<- j];exact h
 |x::xs,z,⟨B,g,h1,M,L,F⟩=>
  let e:=z x zAd;refine⟨B,g,XW.like j z h1,?_,?_,F⟩
  .rw[<- j,<- e];exact M
  .rw[<- j,<- e];exact L
def V7 {k k':Ej} {z g:LF} {x:XC} {p e:Int} (h:∀ (j:Nat) c,x.cs[j]?=ZC c->Dd (Bo k' x.nm (j:Int) (Dc c.way g))=Dd (Bo k x.nm (j:Int) (Dc c.way z))+if Dj c=ZI then p else e):numsOf k' g x=Mh p e x.cs (numsOf k z x):=by
 refine iC λj=>?_;unfold numsOf Gz Mh;rw[l5,zAx,zAx];by_cases c:j<x.cs.length
 .rw[mY c]
  let q:=zAe c;let:=h j _ q;rw[zBY,zBY,q];show ZC (Dd (Bo k' x.nm (j:Int) (Dc x.cs[j].way g)))=ZC (Dd (Bo k x.nm (j:Int) (Dc x.cs[j].way z))+if Dj x.cs[j]=ZI then p else e);rw[this]
 .have e:(zAS x.cs.length)[j]?=ZD:=by rw[List.getElem?_eq_none_iff,zBb];lia
  rw[e,List.getElem?_eq_none_iff.mpr (by lia)];rfl
def Ts {k k':Ej} {z g:LF} {x:XC} (h:∀ (j:Nat) c,x.cs[j]?=ZC c->Dd (Bo k x.nm (j:Int) (Dc c.way z))=Dd (Bo k' x.nm (j:Int) (Dc c.way g))):numsOf k z x=numsOf k' g x:=by
 unfold numsOf Gz;refine List.map_congr_left λj q=>?_;let c:=zBD.mp q;let e:=zAe c;let:=h j _ e;rw[e];exact this
def K2 {ps:List CR.Rn} (f:CR.Frm ps) {e:Int} (h:∀ n,CR.inR ps n=ZI->n<e):Mo ps=CR.below ps e:=by
 unfold Mo;refine (CR.below_all f.lt λp g=>?_).symm;let lt:=f.lt p g;let:=h (p.2-1) (CR.inR_iff.mpr ⟨p,g,by lia,by lia⟩)
 lia
theorem BU {k k':Ej} {z z2:LF} {e:Int} {P:XC->Int} (e0:0<e) (le:e<=z.ct) (hz:z2.ct=z.ct-e):∀ {xs} {as fs bs} {un B},XW k z xs as->XW k (z.cut e) xs fs->XW k' z2 xs bs->CR.Frm un->CR.Frm B->CR.Pos un->CR.Pos B->(∀ n,0<=n->n<e->CR.inR un n=CR.inR B n)->(∀ n,CR.inR B n=ZI->n<e)->(xs.map (·.nm)).Nodup->(∀ x∈xs,P x=(Bm x.nm (CRT.paidS fs B)).sum)->(∀ x∈xs,numsOf k' z2 x=Mh (P x) e x.cs (numsOf k z x))->CRT.Shs e z2.ct as bs un
 |[],[],_,[],_,_,_,_,_,_,_,_,_,_,_,_,_,_=>trivial
 |[],_::_,_,_,_,_,h,_,_,_,_,_,_,_,_,_,_,_=>h.elim
 |[],[],_,_::_,_,_,_,_,h,_,_,_,_,_,_,_,_,_=>h.elim
 |_::_,[],_,_,_,_,h,_,_,_,_,_,_,_,_,_,_,_=>h.elim
 |_::_,_::_,[],_,_,_,_,h,_,_,_,_,_,_,_,_,_,_=>h.elim
 |_::_,_::_,_::_,[],_,_,_,_,h,_,_,_,_,_,_,_,_,_=>h.elim
 |x::xs,a::as,f::fs,b::bs,un,B,av,fv,bv,M,fw,pu,pw,hu,hw,Z,hP,hN=>by
  let lk:=Qd le av fv;obtain⟨⟨W,w1,ea⟩,ra⟩:=av;obtain⟨⟨W',w2,ef⟩,rf⟩:=fv;obtain⟨⟨W2,w3,eb⟩,rb⟩:=bv;let names:=rf.names;let F:f.1=x.nm:=by rw[ef]
  let pl:=CRT.pay_like lk.1 M fw pu pw hu;let g:CR.Frm (CRT.payW f B):=CRT.payW_frm fw;let pb:∀ n,CR.inR (CRT.payW f B) n=ZI->n<e:=λn h=>hw n (CRT.payW_in fw h);let af:=Z;rw[zAp,zAT] at Z;let aa:((f::fs).map (·.1)).Nodup:=by
   rw[zAp,names,F];exact zAT.mpr Z
  let eP:P x=CR.below (CRT.payW a un) e:=by
   rw[hP x zAd,<- F,Ps aa,K2 g pb];refine CR.below_congr g (CRT.payW_frm M) (CRT.pos_pay fw pw) (CRT.pos_pay M pu) (by lia) λn L Y=>(pl n L Y).symm
  let eL:P x=Mo (CRT.payW f B):=by rw[hP x zAd,<- F,Ps aa]
  let P0:0<=P x:=by rw[eP];exact CR.below_nn _ (CRT.payW_frm M).lt
  let S:∀ m,ZC m∈Ay x.cs (numsOf k z x)->P x<=m:=λm hm=>by
   obtain⟨n,j,ro,nm⟩:=Lz (k:=0) (o:=ZD) (.inl hm);let U:Ba x.cs (numsOf k z x)=ZC (n,j):=ro;let L:0<=n:=by
    rcases Ga ro with y|⟨i,y,_⟩
    .cases y
    .exact Ln y
   let ac:f.2.2=ZC n:=by
    rw[ef,Lo,U];rfl
   let:=(CA ac L fw).1
   lia
  let rs:=Qc (e:=e) P0 S;let en:=hN x zAd;let ae:=hz;refine⟨⟨by rw[ea,eb],λn L Y=>?_,?_⟩,BU e0 le hz ra rf rb (CR.outW_frm M (CRT.payW_frm M)) (CR.outW_frm fw g) (CRT.pos_out (CRT.payW_frm M) pu) (CRT.pos_out g pw) (λn L Y=>by rw[CR.outW_in (CRT.payW_frm M),CR.outW_in g,hu n L Y,pl n L Y]) (λn h=>?_) Z.2 (λy hy=>?_) λy hy=>hN y (zAb _ hy)⟩
  .rw[ea,eb]
   show (W.1<=e+n/\e+n<W.2)↔(W2.1<=n/\n<W2.2);refine (Pp w1 (by lia) (by lia)).trans (Iff.trans ?_ (Pp w3 L Y).symm);rw[en,hz];exact K9 (Ix (P x) (by lia) L (by lia) _ _)
  .rw[<- eP]
   let ad:a.2.2=(Ba x.cs (numsOf k z x)).map (·.1):=by rw[ea]
   let ab:b.2.2=((Ba x.cs (numsOf k z x)).map λq=>(q.1-P x,q.2)).map (·.1):=by rw[eb,en,rs]
   rw[ad,ab];cases ro:Ba x.cs (numsOf k z x) with
   |none=>exact trivial
   |some q=>
    refine⟨?_,rfl⟩;let U:Cf (Ay x.cs (numsOf k z x)) 0 ZD=ZC (q.1,q.2):=ro;rcases Ga U with y|⟨i,y,_⟩
    .cases y
    .exact Ln y
  .rw[CR.outW_in g,zAo] at h
   exact hw n h.1
  .rw[hP y (zAb _ hy)]
   show (Bm y.nm (CRT.tag f.1 (-1) (CRT.payW f B)++CRT.paidS fs (CR.outW B (CRT.payW f B)))).sum=_;rw[Jr,Md λs hs c=>?_,fK];unfold CRT.tag at hs;obtain⟨r,_,rfl⟩:=zAv.mp hs;let c1:f.1=y.nm:=c.1;exact Z.1 (zAv.mpr ⟨y,hy,by rw[<- c1,F]⟩)
def OW (kvs:Ej) (z:LF) (as:List XC) (av:List (CRT.Av ZM)) (n:Int):ZM×Int:=match as with
 |[]=>("",0)
 |x::_=>CRT.ownS av x.nm (Nn (Ba x.cs (numsOf kvs z x))) (CRP.fw (As z.ct x.cs (numsOf kvs z x))) z.ct n
def Te {kvs:Ej} {z:LF} {as:List XC} {S:List Eu} {avs:List (CRT.Av ZM)} (h:Bs kvs z as S) (q:XW kvs z as avs) (F:0<z.ct):∀ s∈S,∀ n,s.1<=n->n<s.2.1->s.2.2=OW kvs z as avs n:=by
 match as,h,q with
 |[],h,_=>
  let h:S=[((0:Int),z.ct,("" : ZM),(0:Int))]:=h;intro s j n _ _;rw[h] at j;rw[zAh.mp j];rfl
 |x::xs,⟨g,B,h1,Y,U,Z⟩,q=>
  obtain rfl:g=avs:=Jj rfl h1 q;intro s j n L M;exact CRT.all_own F Y (U.mem_iff.mp j) L M
def LY {kvs:Ej} {z:LF} {e:Int} {as:List XC} {avs g:List (CRT.Av ZM)} (j:XW kvs z as avs) (q:XW kvs (z.cut e) as g) (Y:0<e) (le:e<=z.ct):∀ n,0<=n->n<e->OW kvs (z.cut e) as g n=OW kvs z as avs n:=by
 intro n U F
 match as,j,q with
 |[],_,_=>rfl
 |x::xs,j,q=>
  show CRT.ownS g x.nm (Nn (Ba x.cs (numsOf kvs (z.cut e) x))) (CRP.fw (As e x.cs (numsOf kvs (z.cut e) x))) e n=CRT.ownS avs x.nm (Nn (Ba x.cs (numsOf kvs z x))) (CRP.fw (As z.ct x.cs (numsOf kvs z x))) z.ct n;rw[Lo];unfold CRT.ownS;rw[CRT.own_like (Qd le j q) (CRT.frm_one (by lia)) (CRT.frm_one Y) (CR.pos_one _) (CR.pos_one _) (λk B S=>?_) n U F]
  .unfold CRP.fw
   rw[IB 0 (Rt (show n<e from F) le x.cs (numsOf kvs z x))]
  .have L:CR.inR [((0:Int),z.ct)] k=ZI:=CR.inR_iff.mpr ⟨_,zAh.mpr rfl,B,by show k<z.ct;lia⟩
   let M:CR.inR [((0:Int),e)] k=ZI:=CR.inR_iff.mpr ⟨_,zAh.mpr rfl,B,S⟩;rw[L,M]
def Wy {c k:Int}:CR.inR [((0:Int),c)] k=decide (0<=k/\k<c):=by
 refine CR.bool_iff ?_;rw[CRT.in_one,ZL]
def EF {k k':Ej} {z g:LF} {e:Int} {as:List XC} {avs j:List (CRT.Av ZM)} {P:XC->Int} (e0:0<e) (Z:g.ct=z.ct-e) (L:0<z.ct) (U:CRT.Shs e g.ct avs j [(0,z.ct)]) (q:∀ x∈as,0<=P x/\∀ m,ZC m∈Ay x.cs (numsOf k z x)->P x<=m) (B:∀ x∈as,numsOf k' g x=Mh (P x) e x.cs (numsOf k z x)) :
  ∀ n,0<=n->n<g.ct->OW k' g as j n=OW k z as avs (e+n):=by
 intro n F n1
 match as,q,B with
 |[],_,_=>rfl
 |x::xs,q,B=>
  let Y:=B x zAd;obtain⟨M,S⟩:=q x zAd;show CRT.ownS j x.nm (Nn (Ba x.cs (numsOf k' g x))) (CRP.fw (As g.ct x.cs (numsOf k' g x))) g.ct n=CRT.ownS avs x.nm (Nn (Ba x.cs (numsOf k z x))) (CRP.fw (As z.ct x.cs (numsOf k z x))) z.ct (e+n);rw[Y,Qc M S,GK];unfold CRT.ownS;rw[CRT.own_shift (by lia) U (CRT.frm_one L) (CRT.frm_one (by lia)) (CR.pos_one _) (CR.pos_one _) (λi i0 i1=>?_) n F n1]
  .unfold CRP.fw
   rw[AT 0 (Ix (P x) (by lia) F (show n<z.ct-e by lia) x.cs (numsOf k z x)),Z]
  .rw[Wy,Wy]
   refine CR.bool_iff ?_;rw[ZL,ZL]
   lia
def Vt (o:Int->ZM×Int) (nm:ZM) (a:Int):Nat->Int
 |0=>0
 |k+1=>(if (o a).1=nm/\(o a).2 = -1 then 1 else 0)+Vt o nm (a+1) k
theorem Vg (o:Int->ZM×Int) (nm:ZM):∀ (i j:Nat) (a:Int),Vt o nm a (i+j)=Vt o nm a i+Vt o nm (a+i) j
 |0,j,a=>by
  rw[lX];show _=0+Vt o nm (a+0) j;rw[aZ,fL]
 |i+1,j,a=>by
  rw[show i+1+j=(i+j)+1 by lia];show _+Vt o nm (a+1) (i+j)=(_+Vt o nm (a+1) i)+Vt o nm (a+((i+1:Nat):Int)) j;rw[Vg o nm i j (a+1),show a+((i+1:Nat):Int)=a+1+(i:Int) by lia]
  lia
theorem Td {o:Int->ZM×Int} {nm:ZM} {t:ZM×Int}:∀ (k:Nat) (a:Int),(∀ n,a<=n->n<a+k->o n=t)->Vt o nm a k=if t.1=nm/\t.2 = -1 then (k:Int) else 0
 |0,a,_=>by show (0:Int)=_;split <;> rfl
 |k+1,a,h=>by
  show (if (o a).1=nm/\(o a).2 = -1 then 1 else 0)+Vt o nm (a+1) k=_;rw[h a (aD _) (by lia),Td k (a+1) λn g j=>h n (by lia) (by lia)]
  split <;> lia
theorem Mx {o o':Int->ZM×Int} {nm:ZM} {e:Int}:∀ (k:Nat) (a:Int),(∀ n,a<=n->n<a+k->o n=o' (e+n))->Vt o nm a k=Vt o' nm (e+a) k
 |0,_,_=>rfl
 |k+1,a,h=>by
  show _+Vt o nm (a+1) k=_+Vt o' nm (e+a+1) k;rw[h a (aD _) (by lia),Mx k (a+1) λn g j=>h n (by lia) (by lia),show e+(a+1)=e+a+1 by lia]
theorem Uw {o:Int->ZM×Int} {nm:ZM}:∀ {S} {a c:Int} {g},CRT.FormS a g S c->(∀ s∈S,∀ n,s.1<=n->n<s.2.1->s.2.2=o n)->(Bm nm S).sum=Vt o nm a (c-a).toNat
 |[],a,c,g,h,_=>by
  let:a=c:=h;rw[show (c-a).toNat=0 by lia];rfl
 |s::S,a,c,g,⟨h1,U,M,j⟩,q=>by
  let ih:=Uw j (nm:=nm) λt z=>q t (zAb _ z);let F:=CRT.form_le j;rw[show (c-a).toNat=(s.2.1-s.1).toNat+(c-s.2.1).toNat by lia,Vg,show a+((s.2.1-s.1).toNat:Int)=s.2.1 by lia,<- ih,<- h1];rw[Td (t:=s.2.2) _ _ λn B L=>(q s zAd n B (by lia)).symm];unfold Bm;by_cases c:s.2.2.1=nm/\s.2.2.2 = -1
  .rw[ZJ c,zBh (by unfold Nb;rw[ZN c.1,ZN c.2];rfl),zAp,zAX]
   lia
  .rw[ZH c,zBo (by
    unfold Nb;rw[zAo,ZL,ZL];exact c),fL]
def Zc {k:Ej} {z:LF} {as:List XC} {S:List Eu} {avs:List (CRT.Av ZM)} (h:Bs k z as S) (B:XW k z as avs) (L:0<z.ct) {x:XC} (F:x∈as):(Bm x.nm S).sum=(Bm x.nm (CRT.paidS avs [(0,z.ct)])).sum:=by
 match as,h,B,F with
 |x0::as,⟨g,j,q,Z,M,so⟩,B,F=>
  obtain rfl:g=avs:=Jj rfl q B;let Y:(Bm x.nm S).Perm (Bm x.nm (CRT.allS g x0.nm (Nn (Ba x0.cs (numsOf k z x0))) j z.ct)):=(M.filter _).map _;rw[Y6 Y];unfold CRT.allS;rw[Jr,Md (S:=CRT.borneS _ _ _ _) λs U e=>?_,zAY];let:=DP q L Z s U
  lia
def V4 {k:Ej} {z:LF} {as:List XC} {S:List Eu} (h:Bs k z as S) (nd:(as.map (·.nm)).Nodup) (M:0<z.ct) {x:XC} (hx:x∈as):0<=(Bm x.nm S).sum/\∀ m,ZC m∈Ay x.cs (numsOf k z x)->(Bm x.nm S).sum<=m:=by
 obtain⟨aa,L⟩:=Nr k z as;rw[Zc h L M hx];let f1:=CRT.frm_one M;obtain⟨b,hb,W,hw,Z⟩:=XW.mem L hx;let g:b.1=x.nm:=by rw[Z]
 obtain⟨vn,fv,U⟩:=Xq f1 (by rw[L.names];exact nd) hb;rw[g] at U;rw[U];constructor
 .have fp:=CRT.payW_frm (c:=b) fv
  let:∀ ps:List CR.Rn,(∀ p∈ps,p.1<p.2)->0<=Mo ps:=λps Y=>by
   induction ps with
   |nil=>exact aD _
   |cons p ps ih=>
    rw[Jq];let:=ih λq hq=>Y q (zAb _ hq);let:=Y p zAd
    lia
  exact this _ fp.lt
 .intro m hm
  obtain⟨n,j,ro,nm⟩:=Lz (k:=0) (o:=ZD) (.inl hm);let F:Ba x.cs (numsOf k z x)=ZC (n,j):=ro;let n0:0<=n:=by
   rcases Ga ro with y|⟨i,y,_⟩
   .cases y
   .exact Ln y
  let B:b.2.2=ZC n:=by rw[Z,F];rfl
  let:=(CA B n0 fv).1
  lia
structure JA (z p:LF):Prop where
 d:p.d=z.d
 ev:p.ev=z.ev
 th:p.th=z.th
 ca:p.ca=z.ca
structure Qe (bs:List XC):Prop where
 nd:(bs.map (·.nm)).Nodup
 mo:∀ x∈bs,De x.t=[]
 wy:∀ x∈bs,∀ c∈x.cs,c.way="event" \/ c.way="thing" \/ c.way="year"
def BP {z p:LF} (l:JA z p) {y:ZM} (h:y="event" \/ y="thing" \/ y="year"):Dc y p=Dc y z:=by
 unfold Dc;rw[l.d,l.ev,l.th];rcases h with h|h|h <;> subst h
 .rw[ZJ rfl,ZJ rfl]
 .rw[ZH (by lk),ZJ rfl,ZH (by lk),ZJ rfl]
 .rw[ZH (by lk),ZH (by lk),ZJ rfl,ZH (by lk),ZH (by lk),ZJ rfl]
def Qi {bs:List XC} (B:Qe bs) {z p:LF} (l:JA z p) (le:p.ct<=z.ct):Aw p bs=Aw z bs:=by
 unfold Aw;refine List.filter_congr λx j=>?_;let:=Na (x:=z.ls) (c:=p.ct) le x.t (λm g=>by rw[B.mo x j] at g;exact nomatch g);rw[<- this];show hT x.t ⟨p.d,p.th,p.ca,p.ct⟩=hT x.t ⟨z.d,z.th,z.ca,p.ct⟩;rw[l.d,l.th,l.ca]
theorem Yw:∀ {ps:List LF} {i:Nat} {p:LF},(∀ q∈ps,0<q.ct)->ps[i]?=ZC p->0<=((ps.take i).map (·.ct)).sum/\((ps.take i).map (·.ct)).sum+p.ct<=(ps.map (·.ct)).sum
 |[],i,p,_,h=>by simp at h
 |q::ps,0,p,h,e=>by
  cases e
  let z:∀ g:List LF,(∀ q∈g,0<q.ct)->0<=(g.map (·.ct)).sum:=λg hq=>by
   induction g with
   |nil=>exact aD _
   |cons r g ih=>
    rw[zAp,zAX];let:=ih λa j=>hq a (zAb _ j);let:=hq r zAd
    lia
  let:=z ps λa j=>h a (zAb _ j);rw[zAp,zAX];show 0<=(0:Int)/\0+q.ct<=q.ct+_;exact⟨aD _,by lia⟩
 |q::ps,i+1,p,h,e=>by
  let ih:=Yw (ps:=ps) (i:=i) (λa j=>h a (zAb _ j)) (by simpa using e);let:=h q zAd;rw[zCv,zAp,zAX,zAp,zAX];exact⟨by lia,by lia⟩
def Qn {bs:List XC} (B:Qe bs) {p:LF} {S:List Eu} {k:Ej} {x:XC} (M:x∈bs) {j:Nat} {c:Cl} (Y:x.cs[j]?=ZC c) (y:Ev) :
  Dd (Bo (Cq p S (Aw p bs) k) x.nm (j:Int) y)=Dd (Bo k x.nm (j:Int) y)+if hT x.t p.ls=ZI/\y=Dc c.way p then (if Dj c=ZI then (Bm x.nm S).sum else p.ct) else 0:=by
 rw[IZ];let L:((Aw p bs).map (·.nm)).Nodup:=(dU _ zCu).nodup B.nd;by_cases h:hT x.t p.ls=ZI
 .have U:x∈Aw p bs:=zAR.mpr ⟨M,h⟩
  rw[O3 Y L U];by_cases z:y=Dc c.way p
  .have g:hT x.t p.ls=ZI/\y=Dc c.way p:=⟨h,z⟩
   rw[ZJ z,ZJ g];rfl
  .have g:¬ (hT x.t p.ls=ZI/\y=Dc c.way p):=λq=>z q.2
   rw[ZH z,ZH g,aZ]
 .have g:¬ (hT x.t p.ls=ZI/\y=Dc c.way p):=λq=>h q.1
  rw[Sc λZ F e=>h ?_,ZH g,aZ];let:=zAR.mp F;rw[<- M7 (·.nm) B.nd this.1 M e];exact this.2
theorem G7 {bs:List XC} (B:Qe bs):∀ {ps:List LF} {Ss:List (List Eu)} {k k':Ej} {z:LF} {avs:List (CRT.Av ZM)},(∀ p∈ps,JA z p/\0<p.ct)->z.ct=(ps.map (·.ct)).sum->XW k z (Aw z bs) avs->XD bs k ps Ss k' ->
  (∀ (i:Nat) p S,ps[i]?=ZC p->Ss[i]?=ZC S->∀ s∈S,∀ n,s.1<=n->n<s.2.1->0<=n->n<p.ct->s.2.2=OW k z (Aw z bs) avs (((ps.take i).map (·.ct)).sum+n)) /\
  (∀ x∈bs,∀ (j:Nat) c,x.cs[j]?=ZC c->∀ y,Dd (Bo k' x.nm (j:Int) y)=Dd (Bo k x.nm (j:Int) y)+if hT x.t z.ls=ZI/\y=Dc c.way z then (if Dj c=ZI then Vt (OW k z (Aw z bs) avs) x.nm 0 z.ct.toNat else z.ct) else 0)
 |[],[],k,k',z,avs,_,hc,_,h=>by
  let e:k'=k:=h;let hc:z.ct=0:=hc;subst e;refine⟨λi p S hp=>by simp at hp,λx _ j c _ y=>?_⟩;rw[hc];show _=_+if _ then (if Dj c=ZI then (0:Int) else 0) else 0
  split <;> (try split) <;> lia
 |[],_::_,_,_,_,_,_,_,_,h=>h.elim
 |_::_,[],_,_,_,_,_,_,_,h=>h.elim
 |p::ps,S::Ss,k,k',z,avs,hp,hc,av,⟨h1,h2⟩=>by
  obtain⟨lp,e0⟩:=hp p zAd;let ps0:∀ q∈ps,0<q.ct:=λq hq=>(hp q (zAb _ hq)).2;rw[zAp,zAX] at hc;let d0:0<=(ps.map (·.ct)).sum:=by
   clear hc h2
   induction ps with
   |nil=>exact aD _
   |cons r qs ih=>
    rw[zAp,zAX];let:=ih (λa ha=>hp a (by rcases zAj.mp ha with y|y;exact y▸zAd;exact zAb _ (zAb _ y))) λa ha=>ps0 a (zAb _ ha);let:=ps0 r zAd
    lia
  let le:p.ct<=z.ct:=by lia
  let c0:0<z.ct:=by lia
  let ea:=Qi B lp le;rw[ea] at h1 h2;let nda:((Aw z bs).map (·.nm)).Nodup:=(dU _ zCu).nodup B.nd;let sub:∀ x∈Aw z bs,x∈bs/\hT x.t z.ls=ZI:=λx hx=>zAR.mp hx;let keys:∀ x∈bs,∀ (j:Nat) c,x.cs[j]?=ZC c->∀ q,JA z q->Dc c.way q=Dc c.way z:=λx hx j c e q lq=>BP lq (B.wy x hx c (zAz e));let nump:∀ x∈Aw z bs,numsOf k p x=numsOf k (z.cut p.ct) x:=λx hx=>Ts λj c e=>by rw[keys x (sub x hx).1 j c e p lp];rfl
  let st:Bs k (z.cut p.ct) (Aw z bs) S:=Oc (p:=p) (q:=z.cut p.ct) rfl nump h1;obtain⟨fvs,fv⟩:=Nr k (z.cut p.ct) (Aw z bs);let l2:JA z (z.cut (z.ct-p.ct)):=⟨rfl,rfl,rfl,rfl⟩;let ea2:Aw (z.cut (z.ct-p.ct)) bs=Aw z bs:=Qi B l2 (by show z.ct-p.ct<=z.ct;lia);obtain⟨bvs,bv⟩:=Nr (Cq p S (Aw z bs) k) (z.cut (z.ct-p.ct)) (Aw z bs);let hset:∀ x∈bs,∀ (j:Nat) c,x.cs[j]?=ZC c->∀ y,Dd (Bo (Cq p S (Aw z bs) k) x.nm (j:Int) y)=Dd (Bo k x.nm (j:Int) y)+if hT x.t z.ls=ZI/\y=Dc c.way z then (if Dj c=ZI then (Bm x.nm S).sum else p.ct) else 0:=λx hx j c e y=>by
   let:=Qn B (p:=p) (S:=S) (k:=k) hx e y;rw[ea,keys x hx j c e p lp] at this;let eh:hT x.t p.ls=hT x.t z.ls:=by
    let:=Na (x:=z.ls) (c:=p.ct) le x.t (λm hm=>by rw[B.mo x hx] at hm;exact nomatch hm);rw[<- this];show hT x.t ⟨p.d,p.th,p.ca,p.ct⟩=hT x.t ⟨z.d,z.th,z.ca,p.ct⟩;rw[lp.d,lp.th,lp.ca]
   rw[eh] at this;exact this
  let hN:∀ x∈Aw z bs,numsOf (Cq p S (Aw z bs) k) (z.cut (z.ct-p.ct)) x=Mh ((Bm x.nm S).sum) p.ct x.cs (numsOf k z x):=λx hx=>V7 λj c e=>by
   show Dd (Bo _ x.nm (j:Int) (Dc c.way z))=_;rw[hset x (sub x hx).1 j c e,ZJ ⟨(sub x hx).2,rfl⟩]
  let f1:=CRT.frm_one c0;let g1:=CRT.frm_one e0;let shs:CRT.Shs p.ct (z.cut (z.ct-p.ct)).ct avs bvs [(0,z.ct)]:=BU (P:=λx=>(Bm x.nm S).sum) e0 le rfl av fv bv f1 g1 (CR.pos_one _) (CR.pos_one _) (λn n0 n1=>by
   rw[Wy,Wy];refine CR.bool_iff ?_;rw[ZL,ZL]
   lia) (λn h=>(CRT.in_one.mp h).2) nda (λx hx=>Zc st fv e0 hx) hN
  let sh:=EF (k:=k) (as:=Aw z bs) (P:=λx=>(Bm x.nm S).sum) e0 (show (z.cut (z.ct-p.ct)).ct=z.ct-p.ct from rfl) c0 shs (λx hx=>V4 st nda e0 hx) hN;let sh:∀ n,0<=n->n<z.ct-p.ct->OW (Cq p S (Aw z bs) k) (z.cut (z.ct-p.ct)) (Aw z bs) bvs n=OW k z (Aw z bs) avs (p.ct+n):=sh;let fS:=Iv st nda (show 0<(z.cut p.ct).ct from e0);let oS:∀ s∈S,∀ n,s.1<=n->n<s.2.1->s.2.2=OW k (z.cut p.ct) (Aw z bs) fvs n:=Te st fv e0;let ih:=G7 B (ps:=ps) (Ss:=Ss) (k:=Cq p S (Aw z bs) k) (k':=k') (z:=z.cut (z.ct-p.ct)) (avs:=bvs) (λq hq=>⟨⟨(hp q (zAb _ hq)).1.d,(hp q (zAb _ hq)).1.ev,(hp q (zAb _ hq)).1.th,(hp q (zAb _ hq)).1.ca⟩,ps0 q hq⟩) (by show z.ct-p.ct=_;lia) (by rw[ea2];exact bv) h2;rw[ea2] at ih;let cut:=LY av fv e0 le;refine⟨λi q U hq hU s hs n n1 n2 n3 n4=>?_,λx hx j c e y=>?_⟩
  .match i,hq,hU with
   |0,hq,hU=>
    cases hq
    cases hU
    show s.2.2=OW k z (Aw z bs) avs (0+n);rw[fL,oS s hs n n1 n2];exact cut n n3 n4
   |i+1,hq,hU=>
    let hq':ps[i]?=ZC q:=by simpa using hq
    let:=ih.1 i q U hq' (by simpa using hU) s hs n n1 n2 n3 n4;let bd:=Yw ps0 hq';rw[this,sh _ (by lia) (by lia),zCv,zAp,zAX,Int.add_assoc]
  .have h3:=ih.2 x hx j c e y
   let h3:Dd (Bo k' x.nm (j:Int) y)=Dd (Bo (Cq p S (Aw z bs) k) x.nm (j:Int) y)+if hT x.t (z.cut (z.ct-p.ct)).ls=ZI/\y=Dc c.way z then (if Dj c=ZI then Vt (OW (Cq p S (Aw z bs) k) (z.cut (z.ct-p.ct)) (Aw z bs) bvs) x.nm 0 (z.ct-p.ct).toNat else z.ct-p.ct) else 0:=h3;let eh:hT x.t (z.cut (z.ct-p.ct)).ls=hT x.t z.ls:=Na (x:=z.ls) (c:=z.ct-p.ct) (by show z.ct-p.ct<=z.ct;lia) x.t (λm hm=>by rw[B.mo x hx] at hm;exact nomatch hm);rw[eh,hset x hx j c e y] at h3;rw[h3];by_cases cy:hT x.t z.ls=ZI/\y=Dc c.way z
   .rw[ZJ cy,ZJ cy,ZJ cy]
    by_cases cl:Dj c=ZI
    .rw[ZJ cl,ZJ cl,ZJ cl,show z.ct.toNat=p.ct.toNat+(z.ct-p.ct).toNat by lia,Vg,show (0:Int)+(p.ct.toNat:Int)=p.ct+0 by lia,<- Mx (o:=OW (Cq p S (Aw z bs) k) (z.cut (z.ct-p.ct)) (Aw z bs) bvs) (o':=OW k z (Aw z bs) avs) (e:=p.ct) _ 0 λn n1 n2=>sh n n1 (by lia)]
     rw[Uw (nm:=x.nm) fS oS];let e1:Vt (OW k (z.cut p.ct) (Aw z bs) fvs) x.nm 0 ((z.cut p.ct).ct-0).toNat=Vt (OW k z (Aw z bs) avs) x.nm 0 p.ct.toNat:=by
      rw[show ((z.cut p.ct).ct-0).toNat=p.ct.toNat from by show (p.ct-0).toNat=_;rw[Int.sub_zero]];let:=Mx (o:=OW k (z.cut p.ct) (Aw z bs) fvs) (o':=OW k z (Aw z bs) avs) (nm:=x.nm) (e:=0) p.ct.toNat 0 λn n1 n2=>by rw[fL];exact cut n n1 (by lia)
      rw[this];rfl
     rw[e1]
     lia
    .rw[ZH cl,ZH cl,ZH cl]
     lia
   .rw[ZH cy,ZH cy,ZH cy]
    lia
def Hm:List Eu->Eu->List Eu
 |[],s=>[s]
 |[l],s=>if l.2.2=s.2.2 then [(l.1,s.2.1,s.2.2)] else [l,s]
 |l::m::L,s=>l::Hm (m::L) s
theorem Jv (l s:Eu):∀ A:List Eu,Hm (A++[l]) s=if l.2.2=s.2.2 then A++[(l.1,s.2.1,s.2.2)] else A++[l,s]
 |[]=>rfl
 |[a]=>by
  show a::Hm [l] s=_;rw[show Hm [l] s=if l.2.2=s.2.2 then [(l.1,s.2.1,s.2.2)] else [l,s] from rfl]
  split <;> rfl
 |a::b::A=>by
  show a::Hm (b::A++[l]) s=_;rw[Jv l s (b::A)]
  split <;> rfl
theorem Vb {s:Eu}:∀ {L} {a m:Int} {g},CRT.FormS a g L m->(L=[]->g≠ZC s.2.2)->s.1=m->m<s.2.1->CRT.FormS a g (Hm L s) s.2.1
 |[],a,m,g,h,hl,h1,F=>by
  let h:a=m:=h;exact⟨by lia,by lia,hl rfl,rfl⟩
 |[l],a,m,g,⟨q,B,j,z⟩,hl,h1,F=>by
  let z:l.2.1=m:=z;unfold Hm;by_cases c:l.2.2=s.2.2
  .rw[ZJ c]
   exact⟨q,by show l.1<s.2.1;lia,by rw[<- c];exact j,rfl⟩
  .rw[ZH c]
   exact⟨q,B,j,by lia,by lia,λy=>c (aH y),rfl⟩
 |l::t::L,a,m,g,⟨q,B,j,z⟩,hl,h1,F=>⟨q,B,j,Vb z (λy=>by cases y) h1 F⟩
def EI {o:Int->ZM×Int} {s:Eu} {a m:Int} (f:CRT.FormS a lk L m) (h1:s.1=m) (F:∀ t∈L,∀ n,t.1<=n->n<t.2.1->t.2.2=o n) (M:∀ n,s.1<=n->n<s.2.1->s.2.2=o n):∀ t∈Hm L s,∀ n,t.1<=n->n<t.2.1->t.2.2=o n:=by
 rcases fQ L with e|⟨A,l,e⟩
 .subst e
  intro t B;rw[zAh.mp B];exact M
 .rw[fR] at e
  subst e;let U:l.2.1=m:=by
   clear F M
   induction A generalizing a lk with
   |nil=>
    obtain⟨_,_,_,g⟩:=f;exact g
   |cons b A ih=>exact ih f.2.2.2
  rw[Jv];intro t B n q j;by_cases c:l.2.2=s.2.2
  .rw[ZJ c] at B
   rcases zAu.mp B with g|g
   .exact F t (zBp _ g) n q j
   .have S:=zAh.mp g
    rw[S] at q j ⊢;let q:l.1<=n:=q;let j:n<s.2.1:=j;show s.2.2=o n;by_cases z:n<l.2.1
    .rw[<- c]
     exact F l (zAC _ zAd) n q z
    .exact M n (by lia) j
  .rw[ZH c] at B
   rcases zAu.mp B with g|g
   .exact F t (zBp _ g) n q j
   .rcases zAj.mp g with y|y
    .rw[y] at q j ⊢
     exact F l (zAC _ zAd) n q j
    .rw[zAh.mp y] at q j ⊢
     exact M n q j
theorem Ys (s:Eu):∀ L:List Eu,(Hm L s).length<=L.length+1
 |[]=>zAl _
 |[l]=>by unfold Hm;split <;> simp
 |l::m::L=>by
  show (Hm (m::L) s).length+1<=(m::L).length+1+1;let:=Ys s (m::L)
  lia
def Hq (bs:List XC) (k k':Ej):Prop:=∀ x∈bs,∀ (j:Nat) c,x.cs[j]?=ZC c->∀ y,Dd (Bo k x.nm (j:Int) y)=Dd (Bo k' x.nm (j:Int) y)
theorem XD.hq {bs:List XC} (B:Qe bs):∀ {zs} {Ss L} {k k' Y M},Hq bs k k'->XD bs k zs Ss Y->XD bs k' zs L M->Ss=L
 |[],[],[],_,_,_,_,_,_,_=>rfl
 |[],_::_,_,_,_,_,_,_,h,_=>h.elim
 |[],[],_::_,_,_,_,_,_,_,h=>h.elim
 |_::_,[],_,_,_,_,_,_,h,_=>h.elim
 |_::_,_::_,[],_,_,_,_,_,_,h=>h.elim
 |z::zs,S::Ss,U::L,k,k',Y,M,q,h,g=>by
  let h1:Bs k' z (Aw z bs) S:=Oc rfl (λx F=>Ts λj c e=>q x (zAR.mp F).1 j c e _) h.1;let es:=Nz rfl h1 g.1;subst es;rw[XD.hq B (λx F j c e y=>?_) h.2 g.2];rw[Qn B F e,Qn B F e,q x F j c e y]
theorem XD.split {bs:List XC}:∀ {as} {zs} {Ss} {k k'},XD bs k (as++zs) Ss k'->∃ j g q,Ss=j++g/\XD bs k as j q/\XD bs q zs g k'
 |[],zs,Ss,k,k',h=>⟨[],Ss,k,rfl,rfl,h⟩
 |a::as,zs,[],k,k',h=>h.elim
 |a::as,zs,S::Ss,k,k',h=>by
  obtain⟨j,g,q,e,h1,z⟩:=XD.split h.2;exact⟨S::j,g,q,by rw[e];rfl,⟨h.1,h1⟩,z⟩
def V2 {k:Ej} {z:LF} {S:List Eu} {xs ys:List XC} (e:xs.map un=ys.map un) (h:Bs k z xs S):Bs k z ys S:=by
 match xs,ys,e,h with
 |[],[],_,h=>exact h
 |[],_::_,e,_=>cases e
 |_::_,[],e,_=>cases e
 |x::xs,y::ys,e,⟨j,g,h1,h2,h3,U⟩=>
  obtain⟨Z,B⟩:=Nr k z (y::ys);let Y:=Jj e h1 B;subst Y;rw[zAp,zAp] at e;injection e with M _;let F:x.nm=y.nm:=aC (·.1) M;let q:x.cs=y.cs:=aC (·.2.2.1) M;let L:numsOf k z x=numsOf k z y:=by unfold numsOf Gz;rw[F,q]
  exact⟨j,g,B,by rw[<- q,<- L];exact h2,by rw[<- F,<- q,<- L];exact h3,U⟩
theorem XD.un {bs cs:List XC} (e:bs.map un=cs.map un):∀ {zs} {Ss} {k g},XD bs k zs Ss g->XD cs k zs Ss g
 |[],[],_,_,h=>h
 |[],_::_,_,_,h=>h.elim
 |_::_,[],_,_,h=>h.elim
 |z::zs,S::Ss,k,g,h=>by
  let q:(Aw z bs).map CRL.un=(Aw z cs).map CRL.un:=by rw[Lp,Lp,e]
  let j:=h.2;rw[Rq z S q] at j;exact⟨V2 q h.1,XD.un e j⟩
theorem XD.end_uniq {bs:List XC}:∀ {zs} {Ss} {k q j},XD bs k zs Ss q->XD bs k zs Ss j->q=j
 |[],[],k,q,j,h,g=>(show q=k from h).trans (show j=k from g).symm
 |[],_::_,_,_,_,h,_=>h.elim
 |_::_,[],_,_,_,h,_=>h.elim
 |z::zs,S::Ss,k,q,j,h,g=>XD.end_uniq h.2 g.2
theorem Xg:∀ {S:List Eu} {a c:Int} {g:Option (ZM×Int)},CRT.FormS a g S c->∀ s∈S,s.2.1<=c
 |[],a,c,g,h,s,j=>nomatch j
 |t::r,a,c,g,⟨h1,z,_,q⟩,s,j=>by
  rcases zAj.mp j with e|e
  .rw[e];exact CRT.form_le q
  .exact Xg q s e
def K0 {bs:List XC} (B:Qe bs) {as zs ps:List LF} {z:LF} {Ss Us:List (List Eu)} {k1 k2:Ej} (hp:∀ p∈ps,JA z p/\0<p.ct) (hc:z.ct=(ps.map (·.ct)).sum) (c0:0<z.ct) (h1:XD bs [] (as++(z::zs)) Ss k1) (h2:XD bs [] (as++(ps++zs)) Us k2) :
  ∃ A S C P,Ss=A++(S::C)/\Us=A++(P++C)/\A.length=as.length/\P.length=ps.length/\CRT.FormS 0 ZD S z.ct/\∃ o:Int->ZM×Int,(∀ s∈S,∀ n,s.1<=n->n<s.2.1->s.2.2=o n) /\
   ∀ (i:Nat) p T,ps[i]?=ZC p->P[i]?=ZC T->CRT.FormS 0 ZD T p.ct/\∀ s∈T,∀ n,s.1<=n->n<s.2.1->s.2.2=o (((ps.take i).map (·.ct)).sum+n):=by
 obtain⟨A,W,k3,e1,a1,w1⟩:=h1.split;obtain⟨A',V,k4,e2,a2,v1⟩:=h2.split;let eA:=XD.uniq rfl a1 a2;subst eA;let ek:k3=k4:=XD.end_uniq a1 a2;subst ek
 match W,w1 with
 |S::C,⟨w1,w2⟩=>
  obtain⟨P,C',k5,e3,p1,c1⟩:=v1.split;obtain⟨avs,av⟩:=Nr k3 z (Aw z bs);let nda:∀ q:LF,((Aw q bs).map (·.nm)).Nodup:=λq=>(dU _ zCu).nodup B.nd;let r1:=G7 B (ps:=[z]) (Ss:=[S]) (k:=k3) (k':=Cq z S (Aw z bs) k3) (z:=z) (λq hq=>by rw[zAh.mp hq];exact⟨⟨rfl,rfl,rfl,rfl⟩,c0⟩) (by show z.ct=z.ct+0;rw[aZ]) av ⟨w1,rfl⟩;let r2:=G7 B hp hc av p1;let hq:Hq bs (Cq z S (Aw z bs) k3) k5:=λx hx j c e y=>by rw[r1.2 x hx j c e y,r2.2 x hx j c e y]
  let eC:=XD.hq B hq w2 c1;subst eC;refine⟨A,S,C,P,e1,by rw[e2,e3],a1.len.symm,p1.len.symm,Iv w1 (nda z) c0,OW k3 z (Aw z bs) avs,Te w1 av c0,λi p T hi hT=>?_⟩;obtain⟨k',st⟩:=XD.at p1 hi hT;let p0:=(hp p (zAz hi)).2;let fT:=Iv st (nda p) p0;refine⟨fT,λs hs n n1 n2=>?_⟩;let b1:=Yl fT s hs;let b2:s.2.1<=p.ct:=Xg fT s hs;exact r2.1 i p T hi hT s hs n n1 n2 (by lia) (by lia)
theorem HL {v:V}:∀ {t},Lr H v t->∃ p g r,v=.ref p/\H p=oT (.str g::r)/\((∃ m,t=.at (.ovr m))↔g="over")
 |.at .alw,h=>by
  unfold Lr at h;obtain⟨p,e,h⟩:=h;exact⟨p,_,_,e,h,⟨(λ⟨m,y⟩=>by cases y),λy=>ZR y (by lk)⟩⟩
 |.at (.cau n),h=>by
  unfold Lr at h;obtain⟨p,e,h⟩:=h;exact⟨p,_,_,e,h,⟨(λ⟨m,y⟩=>by cases y),λy=>ZR y (by lk)⟩⟩
 |.at (.thi n),h=>by
  unfold Lr at h;obtain⟨p,e,h⟩:=h;exact⟨p,_,_,e,h,⟨(λ⟨m,y⟩=>by cases y),λy=>ZR y (by lk)⟩⟩
 |.at (.day a b),h=>by
  unfold Lr at h;obtain⟨p,e,h⟩:=h;exact⟨p,_,_,e,h,⟨(λ⟨m,y⟩=>by cases y),λy=>ZR y (by lk)⟩⟩
 |.at (.ovr m),h=>by
  unfold Lr at h;obtain⟨p,e,h⟩:=h;exact⟨p,_,_,e,h,⟨λ_=>rfl,λ_=>⟨m,rfl⟩⟩⟩
 |.no t,h=>by
  unfold Lr at h;obtain⟨p,w,e,h,_⟩:=h;exact⟨p,_,_,e,h,⟨(λ⟨m,y⟩=>by cases y),λy=>ZR y (by lk)⟩⟩
 |.al j,h=>by
  unfold Lr at h;obtain⟨p,l,vs,e,h,_⟩:=h;exact⟨p,_,_,e,h,⟨(λ⟨m,y⟩=>by cases y),λy=>ZR y (by lk)⟩⟩
 |.so j,h=>by
  unfold Lr at h;obtain⟨p,l,vs,e,h,_⟩:=h;exact⟨p,_,_,e,h,⟨(λ⟨m,y⟩=>by cases y),λy=>ZR y (by lk)⟩⟩
def FX (y:ZM):ZM:=if y="loss" then "event" else y
def Gm (r:IN):IN:=(r.1,FX r.2.1,r.2.2)
structure Bl (r:YN):Prop where
 mo:De r.t=[]
 wy:∀ c∈r.rs,c.2.1="event" \/ c.2.1="thing" \/ c.2.1="year"
def BV {y:ZM} (h:Ov y):FX y="event" \/ FX y="thing" \/ FX y="year":=by
 unfold FX;rcases h with h|h|h|h <;> subst h
 .rw[ZH (by lk)];exact .inl rfl
 .rw[ZH (by lk)];exact .inr (.inl rfl)
 .rw[ZH (by lk)];exact .inr (.inr rfl)
 .rw[ZJ rfl];exact .inl rfl
def CF {r:IN} (h:okC r):okC (Gm r):=by
 obtain⟨h1,q,g,j⟩:=h;refine⟨h1,?_,g,j⟩;rcases BV q with y|y|y
 .exact .inl y
 .exact .inr (.inl y)
 .exact .inr (.inr (.inl y))
inductive VH (vs:List V) (H:Hp) (Q:VK) (E:XK):Prop
 |mk (a:_) (rows:List YN) (z0:vs=[.ref a]) (z1:H a=oL (rows.map B3)) (z2:(∀ x∈rows,XN H x/\Mf x)) (z3:rows.length<=4) (z4:∀ r (rows':List YN) H',Dg H H'->H r=ZD->H' r=oL (rows'.map B3)->(∀ x∈rows',XN H' x/\Mf x/\Bl x)->rows'.map (·.nm)=rows.map (·.nm)->Q (.ref r) H')
section
seal L2.PS L2.PSs L2.PE L2.PA
variable {P:ZO} {w:ZX} {K:zAa} {mg:ZM->Option ZE} {base:aB}
def Si (J:Pm P w K mg base):Jc J 1 "_law_without" ["_law_covers_here"] VH:=Gj J.z J.rn ["_law_covers_here","_law_some","_law_name","_law_cond_here","_law_clauses","_law_houses","_law_waits","_law_kept","_law_word","_law_by","_law_low","_law_high"] df λsc H Q hr h=>by
 obtain⟨a,rows,rfl,ha,all,l4,q⟩:=h;refine⟨_,(Ab (Cn sc 1 (Bh Cs))
   (Ab (Bq ZV rfl (Hc K (pv 0)) (Cz (K:=K) (n:=5) rfl rfl (Ao (Et sc 2) (Ao (Et sc 3) (Ao (Et sc 4) (Ao (Et sc 5) (Ao (Et sc 6) Ct))))))
    (Ab (Ax (Al Cc (Ea K (pv 3) Af) Be (Ap _))
    (Ae (Cn sc 3 (Az (Bn Be))))
    Am)
   (Ab (Cn sc 7 (Bh Cs))
   (Ab (Bq ZV rfl (Hc K (pv 4)) (Cz (K:=K) (n:=4) rfl rfl (Ao (Et sc 8) (Ao (Et sc 9) (Ao (Et sc 10) (Ao (Et sc 11) Ct)))))
    (Ae (Bg (Cr (K:=K) rfl ZT aA ZZ Bw (pv 7) (Bn (Az (Ah (pv 8) (Ah (Hj (Al Cc (pv 9) Be (Ap _)) Be (pv 9)) (Bi (pv 10) (pv 11))))))))))
   (Ae (Bg (Cr (K:=K) rfl ZT aA ZZ Bw (pv 1) (Bn (Az (Ah (pv 2) (Ah (pv 3) (Ah (pv 7) (Bi (pv 5) (pv 6))))))))))))))
   (Ae (Aj (pv 1))))),?_⟩
 let one:1<=sizeLine:=by rw[zCH];decide
 let ai:4<=sizeLine:=by rw[zCH];decide
 let ao:5<=sizeLine:=by rw[zCH];decide
 refine⟨zAw _,λsl ag=>?_⟩;refine Gi [oR a,oR sl,ZD,ZD,ZD,ZD,ZD,ZD,ZD,ZD,ZD,ZD] rfl ?_;let s1:=Ac ag (.lst []);let h1:upd H sl (.lst []) sl=oL []:=Aa;generalize upd H sl (.lst [])=H1 at s1 h1;refine (vE rfl ⟨a,rfl,⟨_,Dp.of (s1 _ _ ha)⟩,?_⟩);refine Bx (K:=K) (a:=a) (xs:=rows.map B3) (λi σ H3=>(∃ o2 o3 o4 o5 o6 o7 o8 o9 F B,σ=[oR a,oR sl,o2,o3,o4,o5,o6,o7,o8,o9,F,B])/\(∃ rw:List YN,H3 sl=oL (rw.map B3)/\(∀ x∈rw,XN (XQ sl H3) x/\Mf x/\Bl x)/\rw.map (·.nm)=(rows.take i).map (·.nm))/\Dg H H3)
  ⟨⟨ZD,ZD,ZD,ZD,ZD,ZD,ZD,ZD,ZD,ZD,rfl⟩,⟨[],h1,(λx hx=>nomatch hx),by rw[zBe]⟩,s1⟩ (λi σ H3 _ hh=>Dp.of (hh.2.2 _ _ ha)) ?_ ?_
 .rintro i x σ H4 hi ⟨⟨o2,o3,o4,o5,o6,o7,o8,o9,F,B,rfl⟩,⟨rw,U,ad,aa⟩,s4⟩ N9 au
  rw[zAx] at hi;obtain⟨r,hx,rfl⟩:=zAQ.mp hi;let mx:=zAz hx;let il:i<rows.length:=(zAk.mp hx).1;let a0:rw.length=i:=by
   let:=aC bS aa;rw[zAc,zAc,zAn] at this
   lia
  obtain⟨⟨tv,cl,hl,ht,xs,hn,g1,g2,g3,g4,g5,g6,as⟩,Y⟩:=all r mx;let lx:=g4.len;let l3:=Y.l3;let ac:∀ {b:ZF} {o:HO},H b=ZC o->b≠sl:=λy=>Ad y ag;refine (x2 r.p _ (c4 rfl (Hx.of (s4 _ _ g1)) rfl (vC rfl (vC rfl (vC rfl (vC rfl (vC rfl (⟨rfl,?_⟩))))))));refine EU [oR a,oR sl,oS r.nm,ZC tv,oR cl,oR hl,ZC (.bl r.wt),o7,o8,o9,F,B] rfl ?_;refine Ia λN eN=>?_;let go:∀ (tv:V) (t:Gf) (H5:Hp),Dg H4 H5->Lr (XQ sl H5) tv t->Nc t<3->Xf HG t->De t=[]->N [oR a,oR sl,oS r.nm,ZC tv,oR cl,oR hl,ZC (.bl r.wt),o7,o8,o9,F,B] H5:=by
   intro tv t H5 s5 tr hg az mt;subst eN;refine⟨zAw _,λS af=>?_⟩;refine Gi [oR a,oR sl,oS r.nm,ZC tv,oR cl,oR hl,ZC (.bl r.wt),oR S,o8,o9,F,B] rfl ?_;let s6:=Ac af (.lst []);let h6:upd H5 S (.lst []) S=oL []:=Aa;generalize upd H5 S (.lst [])=H6 at s6 h6;let aw:=s4.trans (s5.trans s6);refine (vE rfl ⟨cl,rfl,⟨_,Dp.of (aw _ _ g3)⟩,?_⟩);refine Bx (K:=K) (a:=cl) (xs:=xs) (λj σ Z=>(∃ o8 o9 F B,σ=[oR a,oR sl,oS r.nm,ZC tv,oR cl,oR hl,ZC (.bl r.wt),oR S,o8,o9,F,B])/\(∃ ys,Z S=oL ys/\TsAt Ly (XQ sl Z) ys ((r.rs.take j).map Gm))/\Dg H5 Z)
    ⟨⟨o8,o9,F,B,rfl⟩,⟨[],h6,by rw[zBe];trivial⟩,s6⟩ (λj σ Z _ hh=>Dp.of (hh.2.2 _ _ (s5 _ _ (s4 _ _ g3)))) ?_ ?_
   .rintro j y σ Z hj ⟨⟨o8,o9,F,B,rfl⟩,⟨ys,M,ab⟩,s7⟩ N8 ar
    obtain⟨tc,c,ec,rfl,ay⟩:=g4.get hj;let an:=s7 _ _ (s5 _ _ (s4 _ _ ay));let jl:j<r.rs.length:=(zAk.mp ec).1;let ax:=ab.len;rw[zAc,zAn] at ax;refine (x2 tc _ (c4 rfl (Hx.of an) rfl (vC rfl (vC rfl (vC rfl (vC rfl (⟨rfl,?_⟩)))))));refine EU [oR a,oR sl,oS r.nm,ZC tv,oR cl,oR hl,ZC (.bl r.wt),oR S,oS c.1,oS c.2.1,oN c.2.2.1,oN c.2.2.2] rfl ?_;let ak:∀ L:ZF,Z L=ZD->N8 [oR a,oR sl,oS r.nm,ZC tv,oR cl,oR hl,ZC (.bl r.wt),oR S,oS c.1,oS c.2.1,oN c.2.2.1,oN c.2.2.2] (upd (upd Z L (.tup (Ly (Gm c)))) S (.lst (ys++[.ref L]))):=λL z=>by
     let s8:=Ac z (.tup (Ly (Gm c)));let h8:upd Z L (.tup (Ly (Gm c))) L=oT (Ly (Gm c)):=Aa;generalize upd Z L (.tup (Ly (Gm c)))=H8 at s8 h8;let ah:=s8 _ _ M;let aj:L≠sl:=λe=>by
      rw[e,s7 _ _ (s5 _ _ U)] at z;cases z
     refine ar _ _ ⟨⟨_,_,_,_,rfl⟩,⟨_,Aa,?_⟩,λb o y=>?_⟩
     .rw[Bb ec,zAq]
      refine (ab.mono λb ws y=>?_).snoc (XQ.of aj ?_)
      .obtain⟨n,y⟩:=XQ.at y
       refine XQ.of n ?_;let y8:=s8 _ _ y;rw[Ag (At y8 ah (by intro e;cases e))];exact y8
      .rw[Ag (At h8 ah (by intro e;cases e))]
       exact h8
     .rw[Ag (Ad y af)]
      exact s8 _ _ (s7 _ _ y)
    refine vE rfl ⟨.inl ⟨rfl,_,Dp.of M⟩,vE rfl (vE rfl ⟨rfl,vE rfl ?_⟩)⟩;let ly:ys.length+1<=sizeLine:=by rw[zCH];lia
    by_cases cy:c.2.1="loss"
    .have ew:FX c.2.1="event":=by unfold FX;rw[ZJ cy]
     let et:Ly (Gm c)=[.str c.1,.str "event",.int c.2.2.1,.int c.2.2.2]:=by unfold Ly Gm;rw[<- ew]
     refine dT (by rw[cy]) (vE rfl (vE rfl ⟨ai,λL z=>?_⟩));let hf:=ak L z;rw[et] at hf;exact (x3 S ys _ (c5 rfl rfl (Ac z _ _ _ M) ly hf))
    .have ew:FX c.2.1=c.2.1:=by unfold FX;rw[ZH cy]
     let et:Ly (Gm c)=[.str c.1,.str c.2.1,.int c.2.2.1,.int c.2.2.2]:=by unfold Ly Gm;rw[ew]
     refine dF (λy=>cy (by injection y)) (vE rfl (vE rfl (vE rfl ⟨ai,λL z=>?_⟩)));let hf:=ak L z;rw[et] at hf;exact (x3 S ys _ (c5 rfl rfl (Ac z _ _ _ M) ly hf))
   .rintro σ Z ⟨⟨o8,o9,F,B,rfl⟩,⟨ys,M,ab⟩,s7⟩
    rw[lx,zAB] at ab;let S7:=s5.trans s7;let ae:=S7 _ _ U;refine vE rfl ⟨.inl ⟨rfl,_,Dp.of ae⟩,vE rfl (vE rfl (vE rfl (vE rfl (vE rfl ⟨ao,λL z=>?_⟩))))⟩;let s8:=Ac z (.tup [.str r.nm,tv,.ref S,.ref hl,.bl r.wt]);let h8:upd Z L (.tup [.str r.nm,tv,.ref S,.ref hl,.bl r.wt]) L=oT [.str r.nm,tv,.ref S,.ref hl,.bl r.wt]:=Aa;generalize upd Z L (.tup [.str r.nm,tv,.ref S,.ref hl,.bl r.wt])=H8 at s8 h8;let aj:L≠sl:=λe=>by rw[e,ae] at z;cases z
    let aq:S≠sl:=λe=>by rw[e,s5 _ _ U] at af;cases af
    let al:=s8 _ _ ae;let ap:rw.map B3++[V.ref L]=(rw++[YN.mk L r.nm t (r.rs.map Gm) r.wt]).map B3:=by rw[zAq];rfl
    refine (x3 sl _ _ (c5 rfl rfl al (by rw[zAc,zCH];lia) ?_));rw[ap];let up:∀ {b:ZF} {o:HO},b≠sl->H8 b=ZC o->XQ sl (upd H8 sl (.lst ((rw++[YN.mk L r.nm t (r.rs.map Gm) r.wt]).map B3))) b=ZC o:=λn y=>XQ.of n (by rw[Ag n];exact y);let T8:Dg H4 H8:=S7.trans s8;refine au _ _ ⟨⟨_,_,_,_,_,_,_,_,_,_,rfl⟩,⟨_,Aa,λx hx=>?_,?_⟩,λb o y=>?_⟩
    .rcases zAu.mp hx with g|g
     .refine⟨(ad x g).1.same λb o y=>?_,(ad x g).2⟩
      obtain⟨n,y⟩:=XQ.at y;exact up n (T8 _ _ y)
     .rw[zAh.mp g]
      refine⟨⟨tv,S,hl,ht,ys,hn,up aj h8,Lr.same (λb o y=>?_) _ tr,up aq (s8 _ _ M),ab.mono λb ws y=>?_,up (ac g5) (T8 _ _ (s4 _ _ g5)),up (ac g6) (T8 _ _ (s4 _ _ g6)),as⟩,⟨hg,az,by show (r.rs.map Gm).length<=3;rw[zAc];exact l3,λc hc=>?_,.inr mt⟩,⟨mt,λc hc=>?_⟩⟩
      .obtain⟨n,y⟩:=XQ.at y
       exact up n (s8 _ _ (s7 _ _ y))
      .obtain⟨n,y⟩:=XQ.at y
       exact up n (s8 _ _ y)
      .obtain⟨c0,h0,rfl⟩:=zAv.mp hc
       exact CF (Y.oc c0 h0)
      .obtain⟨c0,h0,rfl⟩:=zAv.mp hc
       exact BV (Y.oc c0 h0).2.1
    .rw[zAq,aa,Bb hx,zAq]
     rfl
    .rw[Ag (Ad y ag)]
     exact T8 _ _ (s4 b o y)
  let av:Lr (XQ sl H4) tv r.t:=Lr.same (λb o y=>XQ.of (ac y) (s4 _ _ y)) _ g2;obtain⟨p,hd,rs,e1,hp,ov⟩:=HL (Lr.same s4 _ g2);subst e1;refine vE rfl (vI (v:=.str hd) rfl rfl (Hx.of hp) (Fw rfl:Pa (V.str hd::rs) ((0:Nat):Int)=ZC (.str hd)) ⟨rfl,vE rfl ?_⟩);by_cases hy:hd="over"
  .refine dT (by rw[hy]) ⟨one,λt nt=>go (.ref t) (.at .alw) _ (Ac nt _) ?_ (by unfold Nc;decide) (by unfold Xf;trivial) (by simp [De])⟩
   unfold Lr;exact⟨t,rfl,XQ.of (λe=>by rw[e,U] at nt;cases nt) Aa⟩
  .refine dF (λy=>hy (by injection y)) (go (.ref p) r.t H4 (Dg.refl _) av Y.hg Y.ok ?_)
   rcases Y.ov with y|y
   .exact ZR (ov.mp y) hy
   .exact y
 .rintro σ H3 ⟨⟨o2,o3,o4,o5,o6,o7,o8,o9,F,B,rfl⟩,⟨rw,am,ad,aa⟩,s3⟩
  rw[zAc,zAB] at aa;exact vE rfl (q sl rw H3 s3 ag am (λx hx=>⟨(ad x hx).1.same λb o y=>(XQ.at y).2,(ad x hx).2⟩) aa)
end
inductive QT (vs:List V) (H:Hp) (Q:VK) (E:XK):Prop
 |mk (cv la:ZF) (rows:List YN) (xs:List V) (zs:List LF) (z0:vs=[.ref cv,.ref la]) (z1:H cv=oL (rows.map B3)) (z2:(∀ x∈rows,XN H x/\Mf x)) (z3:BX (rows.map (·.nm))) (z4:rows.length<=4) (z5:H la=oL xs) (z6:TsAt LF.vs H xs zs) (z7:zs.length<=45) (z8:(zs.map (·.n)).Nodup) (z9:(∀ z∈zs,Iz z)) (z10:LamAt TT Er Gp H) (z11:∀ (R:Rl) (D:ZF->Prop) (cvs:List XC) (u:List LF) (Ss:List (List Eu)) (ns:List Int) (H':Hp),(∀ b o,H b=ZC o->b≠TT->H' b=ZC o)->(∀ b,D b->H b=ZD)->cvs.map un=(rows.map cu).map un->LamAt TT Er Gp H'->YC (Fo cvs) D H' R (ZC 1000000) [] u Ss u ns->u.Perm zs->u.Pairwise DQ->Q (.ref R.r) H')
section
seal L2.PS L2.PSs L2.PE L2.PA
variable {P:ZO} {w:ZX} {K:zAa} {mg:ZM->Option ZE} {base:aB}
def Me (J:Pm P w K mg base):Jc J 10 "_law_rolled" ["_law_covers_here","_law_losses_here"] (QT):=Gj J.z J.rp ["_law_covers_here","_law_losses_here","_law_roll","_law_loss"] df λsc H Q hr h=>by
 obtain⟨cv,la,rows,xs,zs,rfl,ar,ak,NR,r4,aa,Z,ba,nd,gz,a3,q⟩:=h;refine⟨_,(Ab (Cn sc 2 (Cy (PU J) (hr.mono (by lk)) rfl (Bn (Cm (F1 J) hr (Bn (pv 0))))))
   (Ab (Bq ZV rfl (Hc K (pv 1)) (Et sc 3)
    (Ae (Bg (Cm (Zd J) hr (Bi (pv 2) (pv 3))))))
   (Ab (Bg (Bt (ML J) (hr.mono (by lk)) (pv 2) (Bn (Ai Wf Af Af))))
   (Ae (Aj (pv 2)))))),?_⟩
 let lx:=Z.len;refine vE rfl ⟨cv,rows,rfl,ar,ak,NR,λb1 a8 bf F H1 S B1 aq am aw ag=>?_⟩;let al:=Zr (HU B1 aq am aw) (Nw.sub _ _);let av:=QS ag (λx hx=>(ak x hx).2) NR r4;let M:=a3.same S;obtain⟨bc,Y⟩:=Pd M;intro r1 d1 ad ah ay;refine⟨Fo F,r1,d1,b1,rfl,Aa,⟨_,K6 ad ah _ _ Y⟩,λR D H2 kb er eb fr RA=>⟨rfl,?_⟩⟩;obtain⟨s2,fD⟩:=made ad ah ay kb fr;refine Gi [oR cv,oR la,oR r1,ZD] rfl ?_;let S2:=S.trans s2;let ae:=M.same s2;let bb:=s2 _ _ Y;let j:∀ x o,H1 x=ZC o->¬ D x:=λx o e y=>by rw[fD x y] at e;cases e
 let a4:=Z.mono (An S2);refine vE rfl ⟨la,rfl,⟨_,Dp.of (S2 _ _ aa)⟩,?_⟩;refine Bx (K:=K) (a:=la) (xs:=xs) (λi σ U=>(∃ o,σ=[oR cv,oR la,oR r1,o])/\∃ es:List Wl,YC (Fo F) D U R ZD es [] [] [] ((zs.take i).map (·.n))/\es.map (·.2)=zs.take i/\LamAt TT Er Gp U/\∀ b o,H2 b=ZC o->¬ D b->U b=ZC o)
  ⟨⟨ZD,rfl⟩,[],by rw[zBe];exact RA,by rw[zBe];rfl,ae,λ_ _ e _=>e⟩ (λi σ U _ hh=>by
   obtain⟨_,es,_,_,_,L⟩:=hh;exact Dp.of (L _ _ (S2 _ _ aa) (j _ _ (S _ _ aa)))) ?_ ?_
 .rintro i x σ U hi ⟨⟨o,rfl⟩,es,RB,g,B,L⟩ N9 ax
  obtain⟨t,z,hz,rfl,ht⟩:=Z.get hi;let mz:=zAz hz;let ao:es.length<=zs.length:=by
   let:=aC bS g;rw[zAc,zAn] at this
   lia
  let as:=L _ _ (S2 _ _ ht) (j _ _ (S _ _ ht));refine Gi [oR cv,oR la,oR r1,oR t] rfl ?_;let a0:z.n∉(zs.take i).map (·.n):=λy=>by
   let q1:((zs.take (i+1)).map (·.n)).Nodup:=cQ ((zCf _ _).map _) nd;rw[zBz,hz,zAq,zCz] at q1;exact q1.2.2 _ y _ (zAh.mpr rfl) rfl
  refine vE rfl (vE rfl ⟨Fo F,R,D,ZD,es,[],[],[],(zs.take i).map (·.n),z,t,by rw[er];rfl,as,RB,gz z mz,a0,(λd h=>by cases h),by lia,by rw[zAc,zAn];lia,λl H4 k4 r4=>?_⟩);refine ax _ _ ⟨⟨_,rfl⟩,es++[(l,z)],?_,?_,EN B k4 RB.al,λb o e n=>k4 _ _ (L b o e n) n⟩
  .rw[Bb hz,zAq]
   exact r4
  .rw[Bb hz,zAq,g]
   rfl
 .rintro σ U ⟨⟨o,rfl⟩,es,RB,g,B,L⟩
  rw[lx,zAB] at RB g;obtain⟨dx,ai⟩:=RB.hr;rw[er] at ai;let ao:es.length=zs.length:=by rw[<- g,zAc]
  let e6:(10:Int)^(6:Int).toNat=1000000:=by ac_nf
  obtain⟨a7,bg⟩:=Pd B;let az:Kh H1 (YM D TT U):=λb o e n=>YM.of (j b o e) (λy=>by rw[y,Y] at e;cases e;exact n _ rfl) (L _ _ (s2 _ _ e) (j b o e));refine vE rfl (x3 r1 dx _ (c4 rfl ai (PL _ _) (vF rfl rfl ⟨⟨by lk,by lk,by lk⟩,?_⟩)));refine⟨Fo F,R,D,ZD,es,[],[],zs.map (·.n),1000000,by rw[er,<- e6];rfl,RB,by rw[eb];exact KF al az,av,(λd h=>by cases h),by lk,by lk,by show 0+es.length<=50;lia,by show ((es.map (·.2)).map (·.n)).Nodup;rw[g];exact nd,(λe he=>by
   let:=(gz e.2 (by rw[<- g];exact gO he)).2.2.2.2.2.2
   lia),B,λa R8 D8 a1 a6 H8 r8 b8 f8 au ac af ap ab a9 a5 be=>?_⟩
  let aj:∀ e∈es,e.2.d<=1000000:=λe he=>by
   let:=(ZY (gz e.2 (by rw[<- g];exact gO he)).2.1)
   lia
  let an:(es.filter λe=>decide (e.2.d<=1000000))=es:=List.filter_eq_self.mpr λe he=>ZN (aj e he);let a2:(es.filter λe=>decide ((1000000:Int)<e.2.d))=[]:=List.filter_eq_nil_iff.mpr λe he y=>by
   let:=aj e he;let:=ZY y
   lia
  rw[an] at af;rw[a2,fK,fK] at ab;let pu:(a1.map (·.2)).Perm zs:=by rw[<- g];exact af.map _
  let hb:R8.r=r1:=r8.trans er;refine vE rfl ?_;rw[<- hb];refine q R8 D8 F _ _ _ H8 (λb o e n=>f8 b o (L _ _ (S2 _ _ e) (j _ _ (S _ _ e))) (j _ _ (S _ _ e)) n) (λb y=>?_) ag ac ab pu (KE ap);rcases au b y with z|z
  .exact S.free (fD b z)
  .cases v:H b with
   |none=>rfl
   |some o=>
    rw[L _ _ (S2 _ _ v) (j _ _ (S _ _ v))] at z;cases z
end
theorem XI.last {l:Eu}:∀ {ys} {A},XI H ys (A++[l])->∃ zs t,ys=zs++[.ref t]/\XI H zs A/\H t=oT (B0 l)
 |[],A,h=>by
  cases A with
  |nil=>exact h.elim
  |cons a A=>exact h.elim
 |y::ys,[],h=>by
  obtain⟨⟨t,rfl,g⟩,r⟩:=h
  match ys,r with
  |[],_=>exact⟨[],t,rfl,trivial,g⟩
  |_::_,r=>exact r.elim
 |y::ys,a::A,h=>by
  obtain⟨h1,r⟩:=h;obtain⟨zs,t,e,s,g⟩:=XI.last r;exact⟨y::zs,t,by rw[e];rfl,⟨h1,s⟩,g⟩
def JY (a b:ZM×Int):eqDs ([V.str a.1,.int a.2].map L2.D.at) ([V.str b.1,.int b.2].map L2.D.at)=decide (a=b):=by
 rw[Tx];obtain⟨x,i⟩:=a;obtain⟨y,j⟩:=b;by_cases c:(x,i)=(y,j)
 .rw[ZN c,Prod.mk.injEq] at *
  obtain⟨rfl,rfl⟩:=c;exact A6 rfl
 .rw[ZQ c]
  show (x==y&&(i==j&&ZI))=ZK;rw[Bool.and_true,fV];by_cases e:x=y
  .refine .inr (beq_eq_false_iff_ne.mpr λg=>c ?_)
   rw[e,g]
  .exact .inl (beq_eq_false_iff_ne.mpr e)
def YG {α:Type} (xs:List α) (x:α):Pa (xs++[x]) (-1)=ZC x:=by
 unfold Pa BL;rw[ZH (by lk),zAm,zAN,ZJ (by lia)];show (xs++[x])[(-1+((xs.length+1:Nat):Int)).toNat]?=ZC x;rw[show (-1+((xs.length+1:Nat):Int)).toNat=xs.length by lia,zAA (zAl _),iK];rfl
inductive CS (bs:List XC) (vs:List V) (H:Hp) (Q:VK) (E:XK):Prop
 |mk (R:Rl) (D:ZF->Prop) (c:Option Int) (es:List Wl) (zs:List LF) (Ss:List (List Eu)) (rows:List LF) (ns:List Int) (pl:ZF) (xs:List V) (ps:List LF) (m:Nat) (o:Int->ZM×Int) (z0:vs=[.ref R.r,.ref pl]) (z1:YC bs D H R c es zs Ss rows ns) (z2:H pl=oL xs) (z3:TsAt LF.vs H xs ps) (z4:ps.length<=4) (z5:(∀ (i:Nat) p,ps[i]?=ZC p->∃ U,zs[m+i]?=ZC p/\Ss[m+i]?=ZC U/\Iz p/\CRT.FormS 0 ZD U p.ct/\∀ s∈U,∀ n,s.1<=n->n<s.2.1->s.2.2=o (((ps.take i).map (·.ct)).sum+n))) (z6:∀ a ys J H',Dg H H'->H a=ZD->H' a=oL ys->XI H' ys J->CRT.FormS 0 ZD J (ps.map (·.ct)).sum->(∀ s∈J,∀ n,s.1<=n->n<s.2.1->s.2.2=o n)->Q (.ref a) H')
section
seal L2.PS L2.PSs L2.PE L2.PA
variable {P:ZO} {w:ZX} {K:zAa} {mg:ZM->Option ZE} {base:aB}
def Rf:By ["_law_roll","_law_pieces","_law_strips","_law_at","_law_piece","_law_lo","_law_hi","_law_name","_law_k"] ["_law_roll","_law_pieces"] (Aq Gs):=⟨rfl,rfl,rfl,by ac_nf,rfl,by ac_nf,by ac_nf⟩
def Qk (J:Pm P w K mg base) {f:ZF} {bs:List XC} (F:XS K "_law_joined" "_law_joined" Gs f fd) (Yg:G0 P w K mg base 4 CR "told" ["self","number"] (Wh bs)):XB P w K mg base Ew 5 f fd ["_law_roll","_law_pieces"] (CS bs):=by
 let sc:=Rf;refine F.ok sc (λvs H Q E h=>?_) (λcdv A outer s H vs Q E hr h=>?_)
 .obtain⟨_,_,_,_,_,_,_,_,_,_,_,_,_,rfl,_⟩:=h
  rfl
 let ar:=O0 hr;let az:=hr.units0;obtain⟨R,D,c,es,zs,Ss,rows,ns,pl,xs,ps,m,o,rfl,RA,aj,as,l4,hU,q⟩:=h;refine⟨_,(Ab (Cn sc 2 (Bh Cs))
   (Ab (Cn sc 3 Af)
   (Ab (Bq ZV rfl (Hc K (pv 1)) (Et sc 4)
    (Ab (Bq ZV rfl (Hc K (Bt Yg (hr.mono (by lk)) (pv 0) (Bn (Ea K (pv 4) Af)))) (Cz (K:=K) (n:=4) rfl rfl (Ao (Et sc 5) (Ao (Et sc 6) (Ao (Et sc 7) (Ao (Et sc 8) Ct)))))
    (Ae (Ax (PW.pt (Ng (Al (NK az) (pv 2) (Bh Cs) (Ap _)) (Ju (Al (KR (K:=K) ar) (Cu (Ve (K:=K) rfl) (Le K (pv 2) (Oo Ji Af)) (Ci Af) Fc) (Az (Bi (pv 7) (pv 8))) (Ap _)))))
    (Ae (D0 (Az (Ah (Ea K (Le K (pv 2) (Oo Ji Af)) Af) (Ah (Ai Bf (pv 3) (pv 6)) (Bi (pv 7) (pv 8))))) (DB (pv 2) (Oo Ji Af) Xs)))
    (Ae (Bg (Cr (K:=K) rfl ZT aA ZZ Bw (pv 2) (Bn (Az (Ah (Ai Bf (pv 3) (pv 5)) (Ah (Ai Bf (pv 3) (pv 6)) (Bi (pv 7) (pv 8))))))))))))
   (Ae (Cn sc 3 (Ai Bf (pv 3) (Ea K (pv 4) Af))))))
   (Ae (Aj (pv 2)))))),?_⟩
 let lx:=as.len;let a2:2<=sizeLine:=by rw[zCH];decide
 let aa:4<=sizeLine:=by rw[zCH];decide
 refine Ia λN eN=>?_;refine⟨zAw _,λsl ah=>?_⟩;refine Fv eN [oR R.r,oR pl,oR sl,ZD,ZD,ZD,ZD,ZD,ZD] rfl λN eN=>?_;refine Fv eN [oR R.r,oR pl,oR sl,oN 0,ZD,ZD,ZD,ZD,ZD] rfl λN eN=>?_;subst eN;let s1:=Ac ah (.lst []);let h1:upd H sl (.lst []) sl=oL []:=Aa;generalize upd H sl (.lst [])=H1 at s1 h1;refine vE rfl ⟨pl,rfl,⟨_,Dp.of (s1 _ _ aj)⟩,?_⟩;refine Bx (K:=K) (a:=pl) (xs:=xs) (λi σ H3=>(∃ o4 o5 o6 o7 o8,σ=[oR R.r,oR pl,oR sl,ZC (.int ((ps.take i).map (·.ct)).sum),o4,o5,o6,o7,o8])/\(∃ ys J,H3 sl=oL ys/\XI H3 ys J/\CRT.FormS 0 ZD J ((ps.take i).map (·.ct)).sum/\(∀ s∈J,∀ n,s.1<=n->n<s.2.1->s.2.2=o n)/\J.length<=64*i)/\Dg H H3)
  ⟨⟨ZD,ZD,ZD,ZD,ZD,rfl⟩,⟨[],[],h1,trivial,rfl,(λs hs=>nomatch hs),zAl _⟩,s1⟩ (λi σ H3 _ hh=>Dp.of (hh.2.2 _ _ aj)) ?_ ?_
 .rintro i x σ H3 hi ⟨⟨o4,o5,o6,o7,o8,rfl⟩,⟨ys,J,Y,ai,fJ,oJ,lJ⟩,s3⟩ N9 a3
  obtain⟨t,p,hp,rfl,ht⟩:=as.get hi;let ip:i<ps.length:=(zAk.mp hp).1;obtain⟨U,hz,hS,gz,fU,oU⟩:=hU i p hp;let lU:U.length<64:=by
   obtain⟨om,_,_,o2⟩:=RA.oc;obtain⟨_,_,_,_,_,_,_,_,l⟩:=o2 _ _ _ hz hS;exact l
  refine Gi [oR R.r,oR pl,oR sl,ZC (.int ((ps.take i).map (·.ct)).sum),oR t,o5,o6,o7,o8] rfl ?_;generalize a8:((ps.take i).map (·.ct)).sum=g at *;let RB:=RA.same s3;obtain⟨dx,a6⟩:=RB.hr;refine vE rfl (x3 R.r dx _ (c4 rfl a6 (P1 _ _) (vE rfl (vI rfl rfl (Hx.of (s3 _ _ ht)) rfl ⟨R,D,c,es,zs,Ss,rows,ns,m+i,p,U,rfl,RB,hz,hS,gz,λa us H4 s4 na ha sU=>?_⟩))));let ax:=sU.len;let ag:=s4 _ _ Y;let ba:a≠sl:=λe=>by rw[e,Y] at na;cases na
  refine⟨a,rfl,⟨_,Dp.of ha⟩,?_⟩;refine Bx (K:=K) (a:=a) (xs:=us) (λj σ H5=>(∃ o5 o6 o7 o8,σ=[oR R.r,oR pl,oR sl,oN g,oR t,o5,o6,o7,o8])/\(∃ ys J b lk,H5 sl=oL ys/\XI H5 ys J/\CRT.FormS b lk (U.drop j) p.ct/\CRT.FormS 0 ZD J (g+b)/\(∀ s∈J,∀ n,s.1<=n->n<s.2.1->s.2.2=o n)/\J.length<=64*i+j)/\∀ b o,H4 b=ZC o->b≠sl->H5 b=ZC o)
   ⟨⟨o5,o6,o7,o8,rfl⟩,⟨ys,J,0,ZD,ag,ai.mono (An s4),by rw[zCx];exact fU,by rw[aZ];exact fJ,oJ,lJ⟩,λ_ _ e _=>e⟩ (λj σ H5 _ hh=>Dp.of (hh.2.2 _ _ ha ba)) ?_ ?_
  .rintro j y σ H5 hj ⟨⟨o5,o6,o7,o8,rfl⟩,⟨ys,J,b,lk,Z,ab,fd,fJ,oJ,lJ⟩,k5⟩ N8 ay
   obtain⟨tu,s,hs,rfl,am⟩:=sU.get hj;let jl:j<U.length:=(zAk.mp hs).1;let al:=k5 _ _ am (At am ag (by intro e;cases e));let ms:=zAz hs;let ed:U.drop j=s::U.drop (j+1):=by
    rw[zBt jl];rw[zAe jl] at hs;cases hs;rfl
   rw[ed] at fd;obtain⟨f1,f2,f3,f4⟩:=fd;let ao:(g+s.1,g+s.2.1,s.2.2).1=g+b:=by show g+s.1=_;rw[f1]
   let a9:=Vb (s:=(g+s.1,g+s.2.1,s.2.2)) fJ (λ_ y=>by cases y) ao (by show g+b<g+s.2.1;lia);let a5:=EI (o:=o) (s:=(g+s.1,g+s.2.1,s.2.2)) fJ ao oJ λn n1 n2=>by
    let n1:g+s.1<=n:=n1;let n2:n<g+s.2.1:=n2;let:=oU s ms (n-g) (by lia) (by lia);rw[show g+(n-g)=n by lia] at this;exact this
   let be:=Ys (g+s.1,g+s.2.1,s.2.2) J;refine (x2 tu _ (c4 rfl (Hx.of al) rfl (vC rfl (vC rfl (vC rfl (vC rfl (⟨rfl,?_⟩)))))));refine EU [oR R.r,oR pl,oR sl,oN g,oR t,oN s.1,oN s.2.1,oS s.2.2.1,oN s.2.2.2] rfl ?_;let a7:=ab.len;let ak:∀ af H6,H6 sl=oL af->XI H6 af (Hm J (g+s.1,g+s.2.1,s.2.2))->(∀ b o,H4 b=ZC o->b≠sl->H6 b=ZC o)->N8 [oR R.r,oR pl,oR sl,oN g,oR t,oN s.1,oN s.2.1,oS s.2.2.1,oN s.2.2.2] H6:=λaf H6 a1 ae k6=>
    ay _ _ ⟨⟨_,_,_,_,rfl⟩,⟨af,_,s.2.1,ZC s.2.2,a1,ae,f4,a9,a5,by lia⟩,k6⟩
   refine vE rfl ⟨zAw _,λqa a4=>?_⟩;let s6:=Ac a4 (.lst []);let h6:upd H5 qa (.lst []) qa=oL []:=Aa;generalize upd H5 qa (.lst [])=H6 at s6 h6;let z:=s6 _ _ Z;let ae:=ab.mono (An s6);let k6:∀ b o,H4 b=ZC o->b≠sl->H6 b=ZC o:=λb o e n=>s6 _ _ (k5 b o e n);refine (x3 sl qa ys (c5 rfl rfl (Dp.of z) (Dp.of h6) ?_));let aq:ys.length<sizeLine:=by rw[a7,zCH];lia
   let ap:Hm J (g+s.1,g+s.2.1,s.2.2)=J++[(g+s.1,g+s.2.1,s.2.2)]->∀ H7,Dg H6 H7->∀ S,H7 S=ZD->N8 [oR R.r,oR pl,oR sl,oN g,oR t,oN s.1,oN s.2.1,oS s.2.2.1,oN s.2.2.2] (upd (upd H7 S (.tup [.int (g+s.1),.int (g+s.2.1),.str s.2.2.1,.int s.2.2.2])) sl (.lst (ys++[.ref S]))):=λep H7 s7 S L=>by
    let s8:=Ac L (.tup [.int (g+s.1),.int (g+s.2.1),.str s.2.2.1,.int s.2.2.2]);let h8:upd H7 S (.tup [.int (g+s.1),.int (g+s.2.1),.str s.2.2.1,.int s.2.2.2]) S=oT [.int (g+s.1),.int (g+s.2.1),.str s.2.2.1,.int s.2.2.2]:=Aa;generalize upd H7 S (.tup [.int (g+s.1),.int (g+s.2.1),.str s.2.2.1,.int s.2.2.2])=H8 at s8 h8;let B:=s7.trans s8;let M:=B _ _ z;refine ak _ _ Aa ?_ λb o e n=>by rw[Ag n];exact B _ _ (k6 b o e n)
    rw[ep];refine (ae.mono (An B)).mono (Cd M _) |>.app (XI.one ?_);rw[Ag (At h8 M (by intro e;cases e))];exact h8
   rcases fQ J with e|⟨A,l,e⟩
   .subst e
    let ey:ys=[]:=iW ab.len;subst ey;refine vE (v:=ZK) rfl (Du (Du ?_));refine vE rfl ⟨.inl ⟨rfl,_,Dp.of z⟩,vE rfl (vE rfl (vF rfl rfl (vE rfl (vE rfl (vF rfl rfl (vE rfl (vE rfl ⟨aa,λS L=>?_⟩)))))))⟩;exact⟨sl,[],_,rfl,rfl,Ac L _ _ _ z,aq,ap (by rw[fK];rfl) H6 (Dg.refl _) S L⟩
   .rw[fR] at e
    subst e;obtain⟨ad,tl,ez,bc,an⟩:=ae.last;subst ez;refine vE (v:=ZI) (by simp) (Jb ?_);refine vE rfl (vE rfl (vI rfl rfl (Dp.of z) (YG _ _) (vE rfl (x2 tl _ (c4 rfl (Hx.of an) (λy=>ZR y.1 (by show ¬ ((2:Nat)=0);decide)) (λt2 bb=>?_))))));let e2:Kd (B0 l) (ZC 2) ZD=[.str l.2.2.1,.int l.2.2.2]:=rfl;rw[e2];let s7:=Ac bb (.tup [V.str l.2.2.1,.int l.2.2.2]);let h7:upd H6 t2 (.tup [V.str l.2.2.1,.int l.2.2.2]) t2=oT [V.str l.2.2.1,.int l.2.2.2]:=Aa;generalize upd H6 t2 (.tup [V.str l.2.2.1,.int l.2.2.2])=H7 at s7 h7;refine vE rfl (vE rfl ⟨a2,λt3 a0=>?_⟩);let s8:=Ac a0 (.tup [V.str s.2.2.1,.int s.2.2.2]);let h8:upd H7 t3 (.tup [V.str s.2.2.1,.int s.2.2.2]) t3=oT [V.str s.2.2.1,.int s.2.2.2]:=Aa;generalize upd H7 t3 (.tup [V.str s.2.2.1,.int s.2.2.2])=H8 at s8 h8;let B:=s7.trans s8;let ht:=JY l.2.2 s.2.2;by_cases c:l.2.2=s.2.2
    .have ht:eqDs ([V.str l.2.2.1,.int l.2.2.2].map L2.D.at) ([V.str s.2.2.1,.int s.2.2.2].map L2.D.at)=ZI:=ht.trans (ZN c)
     refine⟨ZI,_,_,Pl (s8 _ _ h7) rfl,Pl h8 rfl,by rw[Hk,Hk];decide,vE (v:=ZI) (aC V.bl ht) (Jb ?_)⟩;let M:=B _ _ z;let aw:=B _ _ an;refine vE rfl (vE rfl (vI rfl rfl (Dp.of M) (YG _ _) (vI rfl rfl (Hx.of aw) rfl (vE rfl (vE rfl (vF rfl rfl (vE rfl (vE rfl ⟨aa,λS L=>?_⟩))))))));let s9:=Ac L (.tup [.int l.1,.int (g+s.2.1),.str s.2.2.1,.int s.2.2.2]);let h9:upd H8 S (.tup [.int l.1,.int (g+s.2.1),.str s.2.2.1,.int s.2.2.2]) S=oT [.int l.1,.int (g+s.2.1),.str s.2.2.1,.int s.2.2.2]:=Aa;generalize upd H8 S (.tup [.int l.1,.int (g+s.2.1),.str s.2.2.1,.int s.2.2.2])=H9 at s9 h9;let ac:=s9 _ _ M;let av:=B.trans s9;refine vE rfl (vE rfl (x4 sl _ (-1) ad.length (c5 rfl rfl ac ?_ ?_)))
     .unfold BL
      rw[ZH (by lk),zAm,zAN,ZJ (by lia)]
      congr 1
      lia
     let au:(ad++[V.ref tl]).set ad.length (.ref S)=ad++[.ref S]:=by
      rw[List.set_append_right _ _ (zAl _),iK];rfl
     rw[au];refine ak _ _ Aa ?_ λb o e n=>by rw[Ag n];exact av _ _ (k6 b o e n)
     rw[Jv,ZJ c];refine XI.app ((bc.mono (An av)).mono (Cd ac _)) (XI.one ?_);rw[Ag (At h9 ac (by intro e;cases e))];exact h9
    .have ht:eqDs ([V.str l.2.2.1,.int l.2.2.2].map L2.D.at) ([V.str s.2.2.1,.int s.2.2.2].map L2.D.at)=ZK:=ht.trans (ZQ c)
     refine⟨ZI,_,_,Pl (s8 _ _ h7) rfl,Pl h8 rfl,by rw[Hk,Hk];decide,vE (v:=ZK) (aC V.bl ht) (Du ?_)⟩;refine vE rfl ⟨.inl ⟨rfl,_,Dp.of (B _ _ z)⟩,vE rfl (vE rfl (vF rfl rfl (vE rfl (vE rfl (vF rfl rfl (vE rfl (vE rfl ⟨aa,λS L=>?_⟩)))))))⟩;exact (x3 sl _ _ (c5 rfl rfl (Ac L _ _ _ (B _ _ z)) aq (ap (by rw[Jv,ZH c,zAZ];rfl) H8 B S L)))
  .rintro σ H5 ⟨⟨o5,o6,o7,o8,rfl⟩,⟨ys,J,b,lk,Z,ab,fd,fJ,oJ,lJ⟩,k5⟩
   rw[ax,zBK] at fd;let eb:b=p.ct:=fd;subst eb;let S5:Dg H H5:=λb o e=>k5 _ _ (s4 _ _ (s3 _ _ e)) (Ad e ah);refine vE rfl (vE rfl (vI rfl rfl (Hx.of (S5 _ _ ht)) rfl (vF rfl rfl ?_)));refine EU [oR R.r,oR pl,oR sl,oN (g+p.ct),oR t,o5,o6,o7,o8] rfl ?_;let es:((ps.take (i+1)).map (·.ct)).sum=g+p.ct:=by rw[Bb hp,zAq,fG,a8];show g+(p.ct+0)=_;rw[aZ]
   refine a3 _ _ ⟨⟨ZC (.ref t),o5,o6,o7,o8,by rw[es]⟩,⟨ys,J,Z,ab,by rw[es];exact fJ,oJ,?_⟩,S5⟩
   lia
 .rintro σ H3 ⟨⟨o4,o5,o6,o7,o8,rfl⟩,⟨ys,J,Y,ai,fJ,oJ,lJ⟩,s3⟩
  rw[lx,zAB] at fJ;exact vE rfl (q sl ys J H3 s3 ah Y ai fJ oJ)
def Vp (J:Pm P w K mg base):Jc J 5 "_law_joined" ["_law_roll","_law_pieces"] (V3 (CS)):=JQ J.z J.rq bd λf fd F=>Pr λbs=>Qk J F (KO J bs)
end
def YE {a b:LF}:DQ a b↔a.d<b.d\/(a.d=b.d/\a.n<=b.n):=by
 show HT.lexLt (C9 b) (C9 a)=ZK↔_;unfold C9;simp only [HT.lexLt];simp
 lia
def W6 {bs:List XC} (B:Qe bs) {F L ps u1 Z:List LF} {W:LF} (ab:((F++ps++L).map (·.n)).Nodup) (aa:u1.Perm (F++[W]++L)) (w1:u1.Pairwise DQ) (ad:Z.Perm (F++ps++L)) (w2:Z.Pairwise DQ) (hp:∀ p∈ps,JA W p/\0<p.ct) (hn:∀ (i:Nat) p,ps[i]?=ZC p->p.n=W.n+i) (l4:ps.length<=4)
  (md:W.n%64=32) (hz:∀ z∈F++L,z.n%64<30) (hc:W.ct=(ps.map (·.ct)).sum) (c0:0<W.ct) (r1:XD bs [] u1 S1 k1) (r2:XD bs [] Z S2 k2) :
  ∃ (m:Nat) (S:List Eu) (o:Int->ZM×Int),u1[m]?=ZC W/\S1[m]?=ZC S/\CRT.FormS 0 ZD S W.ct/\(∀ s∈S,∀ n,s.1<=n->n<s.2.1->s.2.2=o n) /\
   (∀ (i:Nat) p,ps[i]?=ZC p->∃ U,Z[m+i]?=ZC p/\S2[m+i]?=ZC U/\CRT.FormS 0 ZD U p.ct/\∀ s∈U,∀ n,s.1<=n->n<s.2.1->s.2.2=o (((ps.take i).map (·.ct)).sum+n)) /\
   ∀ z∈F++L,∃ (i j:Nat) (U:List Eu),u1[i]?=ZC z/\S1[i]?=ZC U/\Z[j]?=ZC z/\S2[j]?=ZC U:=by
 let mW:W∈u1:=aa.mem_iff.mpr (zBp _ (zAC _ (zAh.mpr rfl)));obtain⟨q,M,rfl⟩:=List.append_of_mem mW;let p0:(q++M).Perm (F++L):=by
  let q1:(W::(q++M)).Perm (q++W::M):=List.perm_middle.symm;let q2:(F++[W]++L).Perm (W::(F++L)):=by
   rw[zAZ];exact List.perm_middle
  exact (q1.trans (aa.trans q2)).cons_inv
 let mz:∀ z∈q++M,z.n%64<30:=λz h=>hz z (p0.mem_iff.mp h);let p2:(q++(ps++M)).Perm (F++ps++L):=by
  let q1:(q++(ps++M)).Perm (ps++(q++M)):=by
   rw[<- zAZ,<- zAZ];exact List.perm_append_comm.append_right _
  let q2:(ps++(F++L)).Perm (F++ps++L):=by
   rw[<- zAZ];exact List.perm_append_comm.append_right _
  exact q1.trans ((p0.append_left ps).trans q2)
 rw[zBQ] at w1;obtain⟨v1,v2,v3⟩:=w1;rw[zAJ] at v2;let np:∀ p∈ps,p.d=W.d/\W.n<=p.n/\p.n<=W.n+3:=λp h=>by
  obtain⟨i,hi,e⟩:=zAG h;let:=hn i p (by rw[zAe hi,e]);exact⟨(hp p h).1.d,by lia,by lia⟩
 let w3:(q++(ps++M)).Pairwise DQ:=by
  rw[zBQ,zBQ];refine⟨v1,⟨?_,v2.2,λp ac c Y=>?_⟩,λa ha b hb=>?_⟩
  .rw[zAH]
   intro i j hi hj ae;let e1:=hn i _ (zAe hi);let e2:=hn j _ (zAe hj);let d1:=(np _ (zBj hi)).1;let d2:=(np _ (zBj hj)).1;exact YE.mpr (.inr ⟨by lia,by lia⟩)
  .have h1:=YE.mp (v2.1 c Y)
   let h2:=np p ac;let h3:=mz c (zAC _ Y);refine YE.mpr ?_;rcases h1 with h|h
   .exact .inl (by lia)
   .exact .inr ⟨by lia,by lia⟩
  .rcases zAu.mp hb with g|g
   .have h1:=YE.mp (v3 a ha W zAd)
    let h2:=np b g;refine YE.mpr ?_;rcases h1 with h|h
    .exact .inl (by lia)
    .exact .inr ⟨by lia,by lia⟩
   .exact v3 a ha b (zAb _ g)
 let e2:=Z8 ab ad p2 w2 w3;subst e2;obtain⟨A,S,C,P,eS,eU,lA,lP,fS,o,oS,oP⟩:=K0 B hp hc c0 r1 r2;subst eS eU;let lC:C.length=M.length:=by
  let:=r1.len;rw[zAm,zAm,zAf,zAf] at this
  lia
 refine⟨q.length,S,o,?_,?_,fS,oS,λi p hi=>?_,λz h=>?_⟩
 .rw[zAA (zAl _),iK]
  rfl
 .rw[<- lA,zAA (zAl _),iK]
  rfl
 .have il:i<ps.length:=(zAk.mp hi).1
  let hP:P[i]?=ZC P[i]:=zAe (by lia);refine⟨P[i],?_,?_,oP i p P[i] hi hP⟩
  .rw[zAA (by lia),zAK (by lia),show q.length+i-q.length=i by lia]
   exact hi
  .rw[zAA (by lia),zAK (by lia),show q.length+i-A.length=i by lia]
   exact hP
 .rcases zAu.mp (p0.mem_iff.mpr h) with g|g
  .obtain⟨i,hi,e⟩:=zAG g
   let hA:A[i]?=ZC A[i]:=zAe (by lia);refine⟨i,i,A[i],?_,?_,?_,?_⟩
   .rw[zAK hi,zAe hi,e]
   .rw[zAK (by lia)];exact hA
   .rw[zAK hi,zAe hi,e]
   .rw[zAK (by lia)];exact hA
  .obtain⟨j,hj,e⟩:=zAG g
   let hC:C[j]?=ZC C[j]:=zAe (by lia);refine⟨q.length+(j+1),q.length+(ps.length+j),C[j],?_,?_,?_,?_⟩
   .rw[zAA (by lia),show q.length+(j+1)-q.length=j+1 by lia,zBI,zAe hj,e]
   .rw[zAA (by lia),show q.length+(j+1)-A.length=j+1 by lia,zBI];exact hC
   .rw[zAA (by lia),zAA (by lia),show q.length+(ps.length+j)-q.length-ps.length=j by lia,zAe hj,e]
   .rw[zAA (by lia),zAA (by lia),show q.length+(ps.length+j)-A.length-P.length=j by lia];exact hC
def EO {rows:List YN} {j:List XC} (e:j.map un=(rows.map cu).map un) (ok:∀ x∈rows,Bl x) (N:BX (rows.map (·.nm))):Qe (Fo j):=by
 let g:=Vq e;refine⟨JI g N.nd,λx B=>?_,λx B c F=>?_⟩
 .obtain⟨r,hr,e⟩:=Xb g x B
  let z:x.t=r.t:=aC (·.2.1) e;rw[z];exact (ok r hr).mo
 .obtain⟨r,hr,e⟩:=Xb g x B
  let z:x.cs=r.rs.map Hl:=aC (·.2.2.1) e;rw[z] at F;obtain⟨q,M,rfl⟩:=zAv.mp F;let L:(Hl q).way=q.2.1:=by
   unfold Hl
   split
   .rfl
   .split <;> rfl
  rw[L];exact (ok r hr).wy q M
def BC (z:LF):Kd z.vs (ZC 1) (ZC 5)=[.int z.d,.str z.ev,.str z.th,.str z.ca]:=rfl
def AM {xs:List V} {k:Nat} (g:k<=xs.length):Kd xs ZD (ZC (k:Int))=xs.take k:=by
 unfold Kd;rw[show HT.sIx xs.length 0 ZD=0 from rfl,show HT.sIx xs.length xs.length (ZC (k:Int))=k by simp only [HT.sIx];lia,zCx,Nat.sub_zero]
def Y8 {xs:List V} {k:Nat} (g:k<=xs.length):Kd xs (ZC (k:Int)) ZD=xs.drop k:=by
 unfold Kd;rw[show HT.sIx xs.length 0 (ZC (k:Int))=k by simp only [HT.sIx];lia,show HT.sIx xs.length xs.length ZD=xs.length from rfl,zCb (by rw[zBa];exact zAl _)]
mutual
theorem Lr.kt {H H':Hp} (s:Kh H H'):∀ {v} (t:Gf),Lr H v t->Lr H' v t
 |v,.at .alw,h=>by unfold Lr at h ⊢;obtain⟨p,e,h⟩:=h;exact⟨p,e,s _ _ h (λ_ y=>by cases y)⟩
 |v,.at (.cau n),h=>by unfold Lr at h ⊢;obtain⟨p,e,h⟩:=h;exact⟨p,e,s _ _ h (λ_ y=>by cases y)⟩
 |v,.at (.thi n),h=>by unfold Lr at h ⊢;obtain⟨p,e,h⟩:=h;exact⟨p,e,s _ _ h (λ_ y=>by cases y)⟩
 |v,.at (.day a b),h=>by unfold Lr at h ⊢;obtain⟨p,e,h⟩:=h;exact⟨p,e,s _ _ h (λ_ y=>by cases y)⟩
 |v,.at (.ovr m),h=>by unfold Lr at h ⊢;obtain⟨p,e,h⟩:=h;exact⟨p,e,s _ _ h (λ_ y=>by cases y)⟩
 |v,.no t,h=>by
  unfold Lr at h ⊢;obtain⟨p,w,e,h,r⟩:=h;exact⟨p,w,e,s _ _ h (λ_ y=>by cases y),Lr.kt s t r⟩
 |v,.al j,h=>by
  unfold Lr at h ⊢;obtain⟨p,l,vs,e,h,g,r⟩:=h;exact⟨p,l,vs,e,s _ _ h (λ_ y=>by cases y),s _ _ g (λ_ y=>by cases y),TrsAt.kt s j r⟩
 |v,.so j,h=>by
  unfold Lr at h ⊢;obtain⟨p,l,vs,e,h,g,r⟩:=h;exact⟨p,l,vs,e,s _ _ h (λ_ y=>by cases y),s _ _ g (λ_ y=>by cases y),TrsAt.kt s j r⟩
theorem TrsAt.kt {H H':Hp} (s:Kh H H'):∀ {vs} (g:List Gf),TrsAt H vs g->TrsAt H' vs g
 |[],[],_=>by unfold TrsAt;trivial
 |v::vs,t::g,h=>by
  unfold TrsAt at h ⊢;exact⟨Lr.kt s t h.1,TrsAt.kt s g h.2⟩
 |[],_::_,h=>by unfold TrsAt at h;exact h.elim
 |_::_,[],h=>by unfold TrsAt at h;exact h.elim
end
def XN.kt {H H':Hp} {r:YN} (h:XN H r) (s:Kh H H'):XN H' r:=by
 obtain⟨tv,cl,hl,j,xs,F,h1,B,z,g,q,M,L⟩:=h;exact⟨tv,cl,hl,j,xs,F,s _ _ h1 (λ_ y=>by cases y),Lr.kt s _ B,s _ _ z (λ_ y=>by cases y),g.mono (λb S y=>s _ _ y (λ_ y=>by cases y)),s _ _ q (λ_ y=>by cases y),s _ _ M (λ_ y=>by cases y),L⟩
def BO {z:LF} {n c:Int} (h:Iz z) (B:0<=n) (S:n<=1000000000) (g:1<=c) (F:c<=999999999999):Iz ⟨n,z.d,z.ev,z.th,z.ca,c⟩:=by
 obtain⟨_,M,L,j,q,_,_⟩:=h;exact⟨ZN ⟨B,S⟩,M,L,j,q,ZN ⟨by lia,F⟩,g⟩
def AG {q g ps:List LF} {W:LF} (U:((q++g).map (·.n)).Nodup) (F:∀ (i:Nat) p,ps[i]?=ZC p->p.n=W.n+i) (l4:ps.length<=4) (md:W.n%64=32) (hz:∀ z∈q++g,z.n%64<30):((q++ps++g).map (·.n)).Nodup:=by
 let M:(q++ps++g).Perm (ps++(q++g)):=by
  rw[<- zAZ];exact List.perm_append_comm.append_right _
 refine (M.map _).nodup_iff.mpr ?_;rw[zAq,zCz];refine⟨?_,U,λa Y b Z e=>?_⟩
 .rw[zAW,zAH]
  intro i j hi L S e;rw[zAc] at hi L;rw[zBk,zBk,F i _ (zAe hi),F j _ (zAe L)] at e
  lia
 .obtain⟨p,h,rfl⟩:=zAv.mp Y
  obtain⟨z,B,rfl⟩:=zAv.mp Z;obtain⟨i,hi,e'⟩:=zAG h;let e1:=F i p (by rw[zAe hi,e']);let e2:=hz z B
  lia
section
seal L2.PS L2.PSs L2.PE L2.PA
variable {P:ZO} {w:ZX} {K:zAa} {mg:ZM->Option ZE} {base:aB}
def JO:By ["_law_script","_law_names_here","_law_unit","_law_start_here","_law_covers_here","_law_losses_here","_law_cell_here","_law_number","_law_ready","_law_pieces","_law_cents","_law_k","_law_size","_law_whole_here","_law_at","_law_one","_law_two","_law_loss"] ["_law_script"] (Aq DW):=⟨rfl,rfl,rfl,by ac_nf,rfl,by ac_nf,by ac_nf⟩
def KL (J:Pm P w K mg base) {f:ZF} {fd:eR} (F:XS K "law" "law" DW f fd):XB P w K mg base Ew 11 f fd ["_law_script"] (Pf K TT):=by
 let sc:=JO;refine F.ok sc (λvs H Q E h=>?_) (λcdv A outer s H vs Q E hr h=>?_)
 .obtain⟨_,_,rfl,_⟩:=h
  rfl
 let hu64:=O0 hr;obtain⟨a,ns,rfl,ha,l63,hT,q⟩:=h;refine⟨_,(Ab (Cn sc 1 (Cm (Ob J) hr (Bi (Ai Bz (Cm (Fa J) hr (Bi (pv 0) Af)) Af) Af)))
   (Ab (Cn sc 2 (Le K (Bh (Ah Af (Bi Af (Ai Bf (Ai Wf Af Af) Af)))) (Ai Bd (Cm (Fa J) hr (Bi (pv 0) Af)) Af)))
   (Ab (Cn sc 3 (Cm (Zo J) hr (Bn (Cm (Fa J) hr (Bi (pv 0) Af)))))
   (Ab (Cn sc 4 (Cm (We J) hr (Ah (pv 0) (Ah (pv 1) (Bi (pv 2) (pv 3))))))
   (Ab (Cn sc 4 (Cm (Si J) hr (Bn (pv 4))))
   (Ab (Cn sc 5 (Cm (Mp J) hr (Ah (Cu (Gg (K:=K) rfl) (pv 0) (Ci Af) (Ci Af)) (Ah (pv 1) (Bi (pv 2) (pv 3))))))
   (Ab (Cn sc 6 (Cm (Fa J) hr (Bi (pv 0) Af)))
   (Ab (Cn sc 7 (Ai Bf (Ai Eb (Ai Bd (pv 6) Af) Af) Af))
   (Ab (Cn sc 8 (Le K (Cm (Mp J) hr (Ah (Bh (Bn (pv 6))) (Ah (pv 1) (Bi (pv 2) (pv 3))))) Af))
   (Ab (Cn sc 9 (Bh Cs))
   (Ab (Cn sc 10 Af)
   (Ab (Bq ZV rfl (Ei rfl (J.z.nn J.az) (Bn (Ai Bf Af (Ai Bd (Cm (Br J) hr (Bi (pv 6) Af)) Af)))) (Et sc 11)
    (Ab (Cn sc 12 (Ai Bf (Ai Bf Af (Ai Eb (Ai Bd (Cm (Br J) hr (Bi (pv 6) (Ai Bf Af (pv 11)))) Af) (pv 2))) (Ai Bd (Cm (Br J) hr (Bi (pv 6) Af)) Af)))
   (Ab (Bg (Cr (K:=K) rfl ZT aA ZZ Bw (pv 9) (Bn (Ai (Lx (K:=K) rfl) (Ai (Lx (K:=K) rfl) (Az (Bn (Ai Bf (pv 7) (pv 11)))) (Cu (Ve (K:=K) rfl) (pv 8) (Ci Af) (Ci Af))) (Az (Bn (pv 12)))))))
   (Ae (Cn sc 10 (Ai Bf (pv 10) (pv 12)))))))
   (Ab (Cn sc 13 (Ai (Lx (K:=K) rfl) (Ai (Lx (K:=K) rfl) (Az (Bn (pv 7))) (Cu (Ve (K:=K) rfl) (pv 8) (Ci Af) (Ci Af))) (Az (Bn (pv 10)))))
   (Ab (Cn sc 14 (Ai Bd (Cm (Br J) hr (Bi (pv 6) Af)) (Ai Bf (Ec (Ds (K:=K) rfl) rfl (J.z.nn J.b7) (show zCI _=ZC (.builtin "len") from rfl) (Bn (pv 5))) Af)))
   (Ab (Cn sc 15 (Cm (Me J) hr (Bi (pv 4) (Ai Kz (Ai Kz (Cu (Gg (K:=K) rfl) (pv 5) Fc (Ci (pv 14))) (Bh (Bn (pv 13)))) (Cu (Gg (K:=K) rfl) (pv 5) (Ci (pv 14)) Fc)))))
   (Ab (Cn sc 16 (Cm (Me J) hr (Bi (pv 4) (Ai Kz (Ai Kz (Cu (Gg (K:=K) rfl) (pv 5) Fc (Ci (pv 14))) (pv 9)) (Cu (Gg (K:=K) rfl) (pv 5) (Ci (pv 14)) Fc)))))
   (Ab (Ax (Al (EJ (K:=K) hu64) (Bt (Yg J) (hr.mono (by lk)) (pv 15) (Bn (pv 7))) (Cm (Vp J) hr (Bi (pv 16) (pv 9))) (Ap _))
    (Ae (Aj Em))
    Am)
   (Ab (Bq ZV rfl (Hc K (pv 5)) (Et sc 17)
    (Ae (Ax (Al (EJ (K:=K) hu64) (Bt (Yg J) (hr.mono (by lk)) (pv 15) (Bn (Ea K (pv 17) Af))) (Bt (Yg J) (hr.mono (by lk)) (pv 16) (Bn (Ea K (pv 17) Af))) (Ap _))
    (Ae (Aj Em))
    Am)))
   (Ae (Aj Em)))))))))))))))))))),?_⟩
 refine Ia λN eN=>?_;let lam:LamAt TT Er Gp H:=.inl hT;let one:1<=sizeLine:=by rw[zCH];decide
 let three:3<=sizeLine:=by rw[zCH];decide
 refine vE rfl ⟨a,ns,0,rfl,ha,by lk,l63,?_⟩;refine vF rfl rfl ⟨⟨by lk,by lk⟩,_,rfl,λnl D H1 s1 nnl hnl ND d4=>?_⟩;refine Fv eN [oR a,oR nl,ZD,ZD,ZD,ZD,ZD,ZD,ZD,ZD,ZD,ZD,ZD,ZD,ZD,ZD,ZD,ZD] rfl λN eN=>?_;let e9':(10:Int)^(9:Int).toNat=1000000000:=by ac_nf
 refine vF rfl rfl ⟨⟨by lk,by lk,by lk⟩,_,_,rfl,rfl,three,λpl hpl=>?_⟩;rw[e9'];let sP:=Ac hpl (.lst [V.int 1,.int 97,.int (1000000000+7)]);let hP:upd H1 pl (.lst [V.int 1,.int 97,.int (1000000000+7)]) pl=oL [V.int 1,.int 97,.int (1000000000+7)]:=Aa;generalize upd H1 pl (.lst [V.int 1,.int 97,.int (1000000000+7)])=H2 at sP hP;let S2:=s1.trans sP;obtain⟨u,uo,hu⟩:∃ u:Int,CU u/\Pa [V.int 1,.int 97,.int (1000000000+7)] (ns.getD (0:Int).toNat 0%3)=ZC (.int u):=by
  let c3:=md (a:=ns.getD (0:Int).toNat 0) (b:=3) (by lk);generalize ns.getD (0:Int).toNat 0%3=i at c3;let z:i=0\/i=1\/i=2:=by lia
  rcases z with rfl|rfl|rfl
  .exact⟨_,⟨by lk,by lk⟩,rfl⟩
  .exact⟨_,⟨by lk,by lk⟩,rfl⟩
  .exact⟨_,⟨by lk,by lk⟩,rfl⟩
 refine vE rfl ⟨a,ns,0,rfl,S2.seq ha,by lk,l63,vF rfl rfl ⟨(by show (0:Int)<3;decide),vI rfl rfl (Dp.of hP) hu ?_⟩⟩;refine Fv eN [oR a,oR nl,oN u,ZD,ZD,ZD,ZD,ZD,ZD,ZD,ZD,ZD,ZD,ZD,ZD,ZD,ZD,ZD] rfl λN eN=>?_;refine vE rfl ⟨a,ns,1,rfl,S2.seq ha,by lk,l63,_,rfl,λst H3 s3 st0 st1=>?_⟩;refine Fv eN [oR a,oR nl,oN u,oN st,ZD,ZD,ZD,ZD,ZD,ZD,ZD,ZD,ZD,ZD,ZD,ZD,ZD,ZD] rfl λN eN=>?_;let S3:=S2.trans s3;let hnl3:=s3 _ _ (sP _ _ hnl);refine vE rfl (vE rfl (vE rfl (vE rfl ⟨a,ns,nl,u,st,D,rfl,S3.seq ha,l63,uo,st0,st1,hnl3,ND,d4,λcv rows0 H4 s4 ncv hcv okr NR0 r4=>?_⟩)));refine Fv eN [oR a,oR nl,oN u,oN st,oR cv,ZD,ZD,ZD,ZD,ZD,ZD,ZD,ZD,ZD,ZD,ZD,ZD,ZD] rfl λN eN=>?_;let S4:=S3.trans s4;refine vE rfl ⟨cv,rows0,rfl,hcv,okr,r4,λcw rows H5 s5 ncw hcw okw ew=>?_⟩;refine Fv eN [oR a,oR nl,oN u,oN st,oR cw,ZD,ZD,ZD,ZD,ZD,ZD,ZD,ZD,ZD,ZD,ZD,ZD,ZD] rfl λN eN=>?_;let S5:=S4.trans s5;let NR:BX (rows.map (·.nm)):=by rw[ew];exact NR0
 let r4':rows.length<=4:=by
  let:=aC bS ew;rw[zAc,zAc] at this
  lia
 refine vE rfl (vE rfl (vE rfl (x2 a _ (c3 rfl (S5.seq ha) (λsl nsl=>?_)))));obtain⟨ms,em,lm⟩:∃ ms:List Int,Kd (ns.map V.int) (ZC 7) (ZC 37)=ms.map V.int/\ms.length<=30:=by
  refine⟨(ns.drop (HT.sIx (ns.map V.int).length 0 (ZC 7))).take (HT.sIx (ns.map V.int).length (ns.map V.int).length (ZC 37)-HT.sIx (ns.map V.int).length 0 (ZC 7)),?_,?_⟩
  .unfold Kd
   rw[List.map_take,List.map_drop]
  .rw[zAn]
   simp only [HT.sIx]
   lia
 rw[em];let s6:=Ac nsl (.lst (ms.map V.int));let h6:upd H5 sl (.lst (ms.map V.int)) sl=oL (ms.map V.int):=Aa;generalize upd H5 sl (.lst (ms.map V.int))=H6 at s6 h6;refine vE rfl (vE rfl (vE rfl ⟨sl,ms,nl,u,st,D,rfl,Dp.of h6,by lia,uo,st0,st1,s6 _ _ (s5 _ _ (s4 _ _ hnl3)),ND,d4,λll xs zs H7 s7 nll hll tsl lg lz mo=>?_⟩));refine Fv eN [oR a,oR nl,oN u,oN st,oR cw,oR ll,ZD,ZD,ZD,ZD,ZD,ZD,ZD,ZD,ZD,ZD,ZD,ZD] rfl λN eN=>?_;let S7:=S5.trans (s6.trans s7);let lx:=tsl.len;refine vE rfl ⟨a,ns,1,rfl,S7.seq ha,by lk,l63,?_⟩;generalize ns.getD (1:Int).toNat 0=x;refine Fv eN [oR a,oR nl,oN u,oN st,oR cw,oR ll,oN x,ZD,ZD,ZD,ZD,ZD,ZD,ZD,ZD,ZD,ZD,ZD] rfl λN eN=>?_;let dx:=md (a:=x) (b:=15625000) (by lk);obtain⟨nb,enb,nb0,nb1,nbm⟩:∃ nb:Int,x%15625000*64+32=nb/\0<=nb/\nb<=999999968/\nb%64=32:=⟨_,rfl,by lia,by lia,by lia⟩;refine vE rfl (vF rfl rfl ⟨(by show (0:Int)<15625000;decide),_,_,rfl,rfl,.inl ⟨by lia,by lia⟩,_,_,rfl,rfl,?_⟩);refine Fv eN [oR a,oR nl,oN u,oN st,oR cw,oR ll,oN x,oN nb,ZD,ZD,ZD,ZD,ZD,ZD,ZD,ZD,ZD,ZD] (by rw[<- enb];rfl) λN eN=>?_;refine vE rfl ⟨one,λp1 np1=>?_⟩;let s8:=Ac np1 (.lst [V.int x]);let h8:upd H7 p1 (.lst [V.int x]) p1=oL ([x].map V.int):=Aa;generalize upd H7 p1 (.lst [V.int x])=H8 at s8 h8;refine vE rfl (vE rfl (vE rfl ⟨p1,[x],nl,u,st,D,rfl,Dp.of h8,(by show 1<=40;decide),uo,st0,st1,s8 _ _ (s7 _ _ (s6 _ _ (s5 _ _ (s4 _ _ hnl3)))),ND,d4,λrl xs1 zs1 H9 s9 nrl hrl ts1 lg1 lz1 mo1=>?_⟩))
 match zs1,xs1,lz1,ts1,lg1,hrl with
 |[],_,lz1,_,_,_=>cases lz1
 |_::_::_,_,lz1,_,_,_=>simp at lz1
 |[z0],[],_,ts1,_,_=>exact ts1.elim
 |[z0],_::_::_,_,ts1,_,_=>exact ts1.2.elim
 |[z0],[y0],_,⟨⟨t0,ey,ht0⟩,_⟩,lg1,hrl=>
 subst ey;let gz0:=(lg1.ok z0 (zAh.mpr rfl)).1;refine vI rfl rfl (Dp.of hrl) rfl ?_;refine Fv eN [oR a,oR nl,oN u,oN st,oR cw,oR ll,oN x,oN nb,oR t0,ZD,ZD,ZD,ZD,ZD,ZD,ZD,ZD,ZD] rfl λN eN=>?_;refine⟨zAw _,λpc npc=>?_⟩;refine Fv eN [oR a,oR nl,oN u,oN st,oR cw,oR ll,oN x,oN nb,oR t0,oR pc,ZD,ZD,ZD,ZD,ZD,ZD,ZD,ZD] rfl λN eN=>?_;let s10:=Ac npc (.lst []);let h10:upd H9 pc (.lst []) pc=oL []:=Aa;generalize upd H9 pc (.lst [])=H10 at s10 h10;refine Fv eN [oR a,oR nl,oN u,oN st,oR cw,oR ll,oN x,oN nb,oR t0,oR pc,oN 0,ZD,ZD,ZD,ZD,ZD,ZD,ZD] rfl λN eN=>?_;refine vE rfl ⟨x,0,rfl,by lk,by lk,λe0 H11 s11 _ _=>?_⟩;let d3:=md (a:=e0) (b:=3) (by lk);obtain⟨m,em',m2,m4⟩:∃ m:Nat,2+e0%3=(m:Int)/\2<=m/\m<=4:=⟨(2+e0%3).toNat,by lia,by lia,by lia⟩;refine (x2 _ _ (c4 rfl rfl (by show (0:Int)<3;decide) (x2 _ _ (c3 rfl rfl (vE (v:=(m:Int)) (by rw[<- em']) ⟨by lia,by lia,?_⟩)))));rw[show ((m:Int)).toNat=m by lia];let h11:=s11 _ _ h10;let ht11:=s11 _ _ (s10 _ _ ht0);let u1:=uo.1;let u2:=uo.2;refine Kv (lo:=0) (n:=m) (λi σ H12=>(∃ o11 o12,∃ ps:List LF,σ=[oR a,oR nl,oN u,oN st,oR cw,oR ll,oN x,oN nb,oR t0,oR pc,ZC (.int (ps.map (·.ct)).sum),o11,o12,ZD,ZD,ZD,ZD,ZD]/\(∃ ys,H12 pc=oL ys/\TsAt LF.vs H12 ys ps)/\ps.length=i/\(∀ (j:Nat) p,ps[j]?=ZC p->p.n=nb+j/\JA z0 p/\0<p.ct/\p.ct<=25000000500)/\0<=(ps.map (·.ct)).sum/\(ps.map (·.ct)).sum<=25000000500*i/\(0<i->0<(ps.map (·.ct)).sum))/\Dg H9 H12)
  ⟨⟨ZD,ZD,[],rfl,⟨[],h11,trivial⟩,rfl,(λj p h=>by simp at h),by lk,by lk,λh=>by lia⟩,s10.trans s11⟩ ?_ ?_
 .rintro i σ H12 hi ⟨⟨o11,o12,ps,rfl,⟨ys,hpc,tsp⟩,lp,hps,sm0,sm1,sm2⟩,s12⟩ N9 nx9
  generalize esum:(ps.map (·.ct)).sum=sm at *;refine Gi [oR a,oR nl,oN u,oN st,oR cw,oR ll,oN x,oN nb,oR t0,oR pc,oN sm,oN (0+(i:Int)),o12,ZD,ZD,ZD,ZD,ZD] rfl ?_;refine vE rfl (vE rfl (vF rfl rfl ⟨x,1+(0+(i:Int)),rfl,by lia,by lia,λe1 H13 s13 _ _=>(x2 _ _ (c4 rfl rfl (by show (0:Int)<25;decide) ?_))⟩));let d25:=md (a:=e1) (b:=25) (by lk);let mu0:0<=e1%25*u:=gG d25.1 (by lia);let mu1:e1%25*u<=24*1000000007:=gH (by lia) uo.2 (by lia) (by lk);refine vE rfl (vF rfl rfl ⟨.inl ⟨by lia,by lia⟩,_,_,rfl,rfl,vE rfl ⟨x,5,rfl,by lk,by lk,λe5 H14 s14 _ _=>⟨_,_,rfl,rfl,(by show (0:Int)<2;decide),_,_,rfl,rfl,Io 1 25000000500 ⟨by let:=md (a:=e5) (b:=2) (by lk);lia,by let:=md (a:=e5) (b:=2) (by lk);lia⟩ λsz z0' z1'=>?_⟩⟩⟩);refine Gi [oR a,oR nl,oN u,oN st,oR cw,oR ll,oN x,oN nb,oR t0,oR pc,oN sm,oN (0+(i:Int)),oN sz,ZD,ZD,ZD,ZD,ZD] rfl ?_;let T14:=s13.trans s14;let hpc14:=T14 _ _ hpc;let ht14:=T14 _ _ (s12 _ _ ht0);refine vE rfl ⟨.inl ⟨rfl,_,Dp.of hpc14⟩,vE rfl (vE rfl (vF rfl rfl ⟨one,λq1 nq1=>?_⟩))⟩;let s15:=Ac nq1 (.tup [V.int (nb+(0+(i:Int)))]);let h15:upd H14 q1 (.tup [V.int (nb+(0+(i:Int)))]) q1=oT [V.int (nb+(0+(i:Int)))]:=Aa;generalize upd H14 q1 (.tup [V.int (nb+(0+(i:Int)))])=H15 at s15 h15;refine vE rfl (vE rfl (vE rfl (x2 t0 _ (c4 rfl (Hx.of (s15 _ _ ht14)) (λy=>ZR y.1 (by show ¬ ((1:Nat)=0);decide)) (λq2 nq2=>?_)))));rw[BC];let s16:=Ac nq2 (.tup [V.int z0.d,.str z0.ev,.str z0.th,.str z0.ca])
  let h16:upd H15 q2 (.tup [V.int z0.d,.str z0.ev,.str z0.th,.str z0.ca]) q2=oT [V.int z0.d,.str z0.ev,.str z0.th,.str z0.ca]:=Aa;generalize upd H15 q2 (.tup [V.int z0.d,.str z0.ev,.str z0.th,.str z0.ca])=H16 at s16 h16;refine (x4 q1 q2 _ _ (c8 rfl rfl (Hx.of (s16 _ _ h15)) (Hx.of h16) (by simp) (by show 5<=sizeLine;rw[zCH];decide) (λy=>by cases y) (λ_ q3 nq3=>?_)));rw[show ([V.int (nb+(0+(i:Int)))]++[V.int z0.d,.str z0.ev,.str z0.th,.str z0.ca])=[V.int (nb+(0+(i:Int))),.int z0.d,.str z0.ev,.str z0.th,.str z0.ca] from rfl];let s17:=Ac nq3 (.tup [V.int (nb+(0+(i:Int))),.int z0.d,.str z0.ev,.str z0.th,.str z0.ca]);let h17:upd H16 q3 (.tup [V.int (nb+(0+(i:Int))),.int z0.d,.str z0.ev,.str z0.th,.str z0.ca]) q3=oT [V.int (nb+(0+(i:Int))),.int z0.d,.str z0.ev,.str z0.th,.str z0.ca]:=Aa;generalize upd H16 q3 (.tup [V.int (nb+(0+(i:Int))),.int z0.d,.str z0.ev,.str z0.th,.str z0.ca])=H17 at s17 h17;refine vE rfl ⟨one,λq4 nq4=>?_⟩;let s18:=Ac nq4 (.tup [V.int sz]);let h18:upd H17 q4 (.tup [V.int sz]) q4=oT [V.int sz]:=Aa;generalize upd H17 q4 (.tup [V.int sz])=H18 at s18 h18;refine⟨q3,q4,[V.int (nb+(0+(i:Int))),.int z0.d,.str z0.ev,.str z0.th,.str z0.ca],[V.int sz],rfl,rfl,Hx.of (s18 _ _ h17),Hx.of h18,(by simp),(by show 6<=sizeLine;rw[zCH];decide),(λy=>by cases y),λ_ q5 nq5=>?_⟩;rw[show ([V.int (nb+(0+(i:Int))),.int z0.d,.str z0.ev,.str z0.th,.str z0.ca]++[V.int sz])=LF.vs ⟨nb+(0+(i:Int)),z0.d,z0.ev,z0.th,z0.ca,sz⟩ from rfl];let T18:=T14.trans (s15.trans (s16.trans (s17.trans s18)))
  let s19:=Ac nq5 (.tup (LF.vs ⟨nb+(0+(i:Int)),z0.d,z0.ev,z0.th,z0.ca,sz⟩));let h19:upd H18 q5 (.tup (LF.vs ⟨nb+(0+(i:Int)),z0.d,z0.ev,z0.th,z0.ca,sz⟩)) q5=oT (LF.vs ⟨nb+(0+(i:Int)),z0.d,z0.ev,z0.th,z0.ca,sz⟩):=Aa;generalize upd H18 q5 (.tup (LF.vs ⟨nb+(0+(i:Int)),z0.d,z0.ev,z0.th,z0.ca,sz⟩))=H19 at s19 h19;let T19:=T18.trans s19;let hpc19:=T19 _ _ hpc;let lys:=tsp.len;refine (x3 pc ys _ (c5 rfl rfl hpc19 (by rw[zCH];lia) ?_));refine vE rfl (vE rfl (vF rfl rfl ?_));refine EU [oR a,oR nl,oN u,oN st,oR cw,oR ll,oN x,oN nb,oR t0,oR pc,oN (sm+sz),oN (0+(i:Int)),oN sz,ZD,ZD,ZD,ZD,ZD] rfl ?_;let esm:((ps++[LF.mk (nb+(0+(i:Int))) z0.d z0.ev z0.th z0.ca sz]).map (·.ct)).sum=sm+sz:=by
   rw[zAq,fG,esum];show sm+(sz+0)=_;rw[aZ]
  refine nx9 _ _ ⟨⟨ZC (.int (0+(i:Int))),oN sz,ps++[LF.mk (nb+(0+(i:Int))) z0.d z0.ev z0.th z0.ca sz],by rw[esm],⟨_,Aa,?_⟩,by rw[zAm,lp];rfl,λj p hj=>?_,by rw[esm];lia,by rw[esm];lia,λ_=>by rw[esm];lia⟩,λb o y=>?_⟩
  .exact ((tsp.mono (An T19)).snoc h19).mono (Cd hpc19 _)
  .by_cases hj':j<ps.length
   .rw[zAK hj'] at hj
    exact hps j p hj
   .rw[zAA (by lia)] at hj
    let e0:j-ps.length=0:=by
     let:=(zAk.mp hj).1;rw[zAN] at this
     lia
    rw[e0] at hj;cases hj;exact⟨by show nb+(0+(i:Int))=_;lia,⟨rfl,rfl,rfl,rfl⟩,z0',z1'⟩
  .rw[Ag (Ad y npc)]
   exact T19 _ _ (s12 b o y)
 rintro σ H12 ⟨⟨o11,o12,ps,rfl,⟨ys,hpc,tsp⟩,lp,hps,sm0,sm1,sm2⟩,s12⟩;generalize esum:(ps.map (·.ct)).sum=sm at *;let sm3:=sm2 (by lia);let lam12:=lam.same (S7.trans (s8.trans (s9.trans s12)));let T512:Dg H5 H12:=s6.trans (s7.trans (s8.trans (s9.trans s12)));let T712:Dg H7 H12:=s8.trans (s9.trans s12);let ht12:=s12 _ _ ht0;refine Qu eN λN eN=>?_;refine vE rfl ⟨one,λq1 nq1=>?_⟩;let s15:=Ac nq1 (.tup [V.int nb]);let h15:upd H12 q1 (.tup [V.int nb]) q1=oT [V.int nb]:=Aa;generalize upd H12 q1 (.tup [V.int nb])=H15 at s15 h15;refine vE rfl (vE rfl (vE rfl (x2 t0 _ (c4 rfl (Hx.of (s15 _ _ ht12)) (λy=>ZR y.1 (by show ¬ ((1:Nat)=0);decide)) (λq2 nq2=>?_)))));rw[BC];let s16:=Ac nq2 (.tup [V.int z0.d,.str z0.ev,.str z0.th,.str z0.ca]);let h16:upd H15 q2 (.tup [V.int z0.d,.str z0.ev,.str z0.th,.str z0.ca]) q2=oT [V.int z0.d,.str z0.ev,.str z0.th,.str z0.ca]:=Aa;generalize upd H15 q2 (.tup [V.int z0.d,.str z0.ev,.str z0.th,.str z0.ca])=H16 at s16 h16;refine (x4 q1 q2 _ _ (c8 rfl rfl (Hx.of (s16 _ _ h15)) (Hx.of h16) (by simp) (by show 5<=sizeLine;rw[zCH];decide) (λy=>by cases y) (λ_ q3 nq3=>?_)));rw[show ([V.int nb]++[V.int z0.d,.str z0.ev,.str z0.th,.str z0.ca])=[V.int nb,.int z0.d,.str z0.ev,.str z0.th,.str z0.ca] from rfl];let s17:=Ac nq3 (.tup [V.int nb,.int z0.d,.str z0.ev,.str z0.th,.str z0.ca]);let h17:upd H16 q3 (.tup [V.int nb,.int z0.d,.str z0.ev,.str z0.th,.str z0.ca]) q3=oT [V.int nb,.int z0.d,.str z0.ev,.str z0.th,.str z0.ca]:=Aa
 generalize upd H16 q3 (.tup [V.int nb,.int z0.d,.str z0.ev,.str z0.th,.str z0.ca])=H17 at s17 h17;refine vE rfl ⟨one,λq4 nq4=>?_⟩;let s18:=Ac nq4 (.tup [V.int sm]);let h18:upd H17 q4 (.tup [V.int sm]) q4=oT [V.int sm]:=Aa;generalize upd H17 q4 (.tup [V.int sm])=H18 at s18 h18;refine⟨q3,q4,[V.int nb,.int z0.d,.str z0.ev,.str z0.th,.str z0.ca],[V.int sm],rfl,rfl,Hx.of (s18 _ _ h17),Hx.of h18,(by simp),(by show 6<=sizeLine;rw[zCH];decide),(λy=>by cases y),λ_ wh nwh=>?_⟩;rw[show ([V.int nb,.int z0.d,.str z0.ev,.str z0.th,.str z0.ca]++[V.int sm])=LF.vs ⟨nb,z0.d,z0.ev,z0.th,z0.ca,sm⟩ from rfl];let s19:=Ac nwh (.tup (LF.vs ⟨nb,z0.d,z0.ev,z0.th,z0.ca,sm⟩));let h19:upd H18 wh (.tup (LF.vs ⟨nb,z0.d,z0.ev,z0.th,z0.ca,sm⟩)) wh=oT (LF.vs ⟨nb,z0.d,z0.ev,z0.th,z0.ca,sm⟩):=Aa;generalize upd H18 wh (.tup (LF.vs ⟨nb,z0.d,z0.ev,z0.th,z0.ca,sm⟩))=H19 at s19 h19;let T1219:=s15.trans (s16.trans (s17.trans (s18.trans s19)));refine Fv eN [oR a,oR nl,oN u,oN st,oR cw,oR ll,oN x,oN nb,oR t0,oR pc,oN sm,o11,o12,oR wh,ZD,ZD,ZD,ZD] rfl λN eN=>?_;let hll19:=T1219 _ _ (T712 _ _ hll);refine vE rfl ⟨x,6,rfl,by lk,by lk,λe6 H20 s20 _ _=>?_⟩;obtain⟨k,ek,hk⟩:∃ k:Nat,e6%((xs.length:Int)+1)=(k:Int)/\k<=xs.length:=⟨(e6%((xs.length:Int)+1)).toNat,by let:=md (a:=e6) (b:=(xs.length:Int)+1) (by lia);lia,by let:=md (a:=e6) (b:=(xs.length:Int)+1) (by lia);lia⟩;let hll20:=s20 _ _ hll19;refine vE rfl (x2 ll xs (c3 rfl (.inl (Dp.of hll20)) (vF rfl rfl (vF rfl rfl ⟨(by show (0:Int)<(xs.length:Int)+1;lia),?_⟩))))
 refine Fv eN [oR a,oR nl,oN u,oN st,oR cw,oR ll,oN x,oN nb,oR t0,oR pc,oN sm,o11,o12,oR wh,oN (k:Int),ZD,ZD,ZD] (by rw[<- ek];rfl) λN eN=>?_;let T1220:=T1219.trans s20;let h20:=s20 _ _ h19;let hpc20:=T1220 _ _ hpc;let ts20:TsAt LF.vs H20 xs zs:=tsl.mono (An (T712.trans T1220));let lam20:=lam12.same T1220;let okr20:∀ y∈rows,XN H20 y/\Mf y:=λy hy=>⟨(okw y hy).1.same (T512.trans T1220),(okw y hy).2.1⟩;let hcw20:=(T512.trans T1220) _ _ hcw;let cA:=AM hk;let cB:=Y8 hk;let l30:zs.length<=30:=by lia
 refine vE rfl (vE rfl (vE rfl (vE rfl (x2 ll xs (c3 rfl (Dp.of hll20) (λp1 np1=>?_))))));rw[cA];let s21:=Ac np1 (.lst (xs.take k));let h21:upd H20 p1 (.lst (xs.take k)) p1=oL (xs.take k):=Aa;generalize upd H20 p1 (.lst (xs.take k))=H21 at s21 h21;refine vE rfl ⟨one,λp2 np2=>?_⟩;let s22:=Ac np2 (.lst [V.ref wh]);let h22:upd H21 p2 (.lst [V.ref wh]) p2=oL [V.ref wh]:=Aa;generalize upd H21 p2 (.lst [V.ref wh])=H22 at s22 h22;refine (x4 p1 p2 _ _ (c6 rfl rfl (s22 _ _ h21) h22 (by rw[zCH,zAn];show _+1<=_;lia) (λp3 np3=>?_)));let s23:=Ac np3 (.lst (xs.take k++[V.ref wh]));let h23:upd H22 p3 (.lst (xs.take k++[V.ref wh])) p3=oL (xs.take k++[V.ref wh]):=Aa;generalize upd H22 p3 (.lst (xs.take k++[V.ref wh]))=H23 at s23 h23;let T2023:=s21.trans (s22.trans s23);refine vE rfl (vE rfl (vE rfl (x2 ll xs (c3 rfl (Dp.of (T2023 _ _ hll20)) (λp4 np4=>?_)))));rw[cB];let s24:=Ac np4 (.lst (xs.drop k));let h24:upd H23 p4 (.lst (xs.drop k)) p4=oL (xs.drop k):=Aa;generalize upd H23 p4 (.lst (xs.drop k))=H24 at s24 h24;refine (x4 p3 p4 _ _ (c6 rfl rfl (s24 _ _ h23) h24 (by rw[zCH,zAm,zAn,zBa];show _+1+_<=_;lia) (λp5 np5=>?_)));let s25:=Ac np5 (.lst (xs.take k++[V.ref wh]++xs.drop k));let h25:upd H24 p5 (.lst (xs.take k++[V.ref wh]++xs.drop k)) p5=oL (xs.take k++[V.ref wh]++xs.drop k):=Aa;generalize upd H24 p5 (.lst (xs.take k++[V.ref wh]++xs.drop k))=H25 at s25 h25;let T2025:=T2023.trans (s24.trans s25);let ts25:TsAt LF.vs H25 (xs.take k++[V.ref wh]++xs.drop k) (zs.take k++[LF.mk nb z0.d z0.ev z0.th z0.ca sm]++zs.drop k):=Mw (Mw (Wp k (ts20.mono (An T2025))) ⟨⟨wh,rfl,T2025 _ _ h20⟩,trivial⟩) (Vd k (ts20.mono (An T2025)))
 let hzz:∀ z∈zs.take k++zs.drop k,z∈zs:=λz hz=>by rw[fO] at hz;exact hz
 let hz30:∀ z∈zs.take k++zs.drop k,z.n%64<30:=λz hz=>by
  obtain⟨j,hj,e⟩:=zAG (hzz z hz);let:=mo j z (by rw[zAe hj,e])
  lia
 let ndz:((zs.take k++zs.drop k).map (·.n)).Nodup:=by rw[fO];exact lg.nd
 let gW:Iz ⟨nb,z0.d,z0.ev,z0.th,z0.ca,sm⟩:=BO gz0 nb0 (by lia) (by lia) (by lia);refine⟨cw,p5,rows,_,_,rfl,T2025 _ _ hcw20,λy hy=>⟨(okr20 y hy).1.same T2025,(okr20 y hy).2⟩,NR,r4',h25,ts25,?_,AG (W:=LF.mk nb z0.d z0.ev z0.th z0.ca sm) ndz (λi p hi=>?_) (by show 1<=4;decide) nbm hz30,λz hz=>?_,lam20.same T2025,λR1 D1 cvs1 v1 Ss1 n1 H26 f26 fD1 eun1 lam26 RA1 pu1 wu1=>?_⟩
 .rw[zAm,zAm,zAn,zBa]
  show _+1+_<=45
  lia
 .match i,hi with
  |0,hi=>cases hi;show nb=nb+0;rw[aZ]
  |i+1,hi=>simp at hi
 .rcases zAu.mp hz with g|g
  .rcases zAu.mp g with g|g
   .exact (lg.ok z (zBx g)).1
   .rw[zAh.mp g];exact gW
  .exact (lg.ok z (gC g)).1
 refine Fv eN [oR a,oR nl,oN u,oN st,oR cw,oR ll,oN x,oN nb,oR t0,oR pc,oN sm,o11,o12,oR wh,oN (k:Int),oR R1.r,ZD,ZD] rfl λN eN=>?_;obtain⟨tp25,hT25⟩:=Pd (lam20.same T2025);let kt26:Kh H25 H26:=λb o e n=>f26 b o e (λy=>by rw[y,hT25] at e;cases e;exact n _ rfl);let kl26:∀ b ws,H20 b=oL ws->H26 b=oL ws:=λb ws e=>kt26 _ _ (T2025 _ _ e) (λ_ y=>by cases y);let ku26:∀ b ws,H20 b=oT ws->H26 b=oT ws:=λb ws e=>kt26 _ _ (T2025 _ _ e) (λ_ y=>by cases y);let ts26:TsAt LF.vs H26 xs zs:=ts20.mono ku26;let tp26:TsAt LF.vs H26 ys ps:=(tsp.mono (An T1220)).mono ku26;let hll26:=kl26 _ _ hll20;let hpc26:=kl26 _ _ hpc20;let lys:=tsp.len;refine vE rfl (vE rfl (vE rfl (vE rfl (x2 ll xs (c3 rfl (Dp.of hll26) (λp1 np1=>?_))))));rw[cA];let s21:=Ac np1 (.lst (xs.take k));let h21:upd H26 p1 (.lst (xs.take k)) p1=oL (xs.take k):=Aa;generalize upd H26 p1 (.lst (xs.take k))=H27 at s21 h21;refine vE rfl (x4 p1 pc _ _ (c6 rfl rfl h21 (s21 _ _ hpc26) (by rw[zCH,zAn];lia) (λp3 np3=>?_)));let s23:=Ac np3 (.lst (xs.take k++ys));let h23:upd H27 p3 (.lst (xs.take k++ys)) p3=oL (xs.take k++ys):=Aa;generalize upd H27 p3 (.lst (xs.take k++ys))=H28 at s23 h23;refine vE rfl (vE rfl (vE rfl (x2 ll xs (c3 rfl (Dp.of ((s21.trans s23) _ _ hll26)) (λp4 np4=>?_)))));rw[cB];let s24:=Ac np4 (.lst (xs.drop k));let h24:upd H28 p4 (.lst (xs.drop k)) p4=oL (xs.drop k):=Aa;generalize upd H28 p4 (.lst (xs.drop k))=H29 at s24 h24;refine (x4 p3 p4 _ _ (c6 rfl rfl (s24 _ _ h23) h24 (by rw[zCH,zAm,zAn,zBa];lia) (λp5 np5=>?_)))
 let s25:=Ac np5 (.lst (xs.take k++ys++xs.drop k));let h25:upd H29 p5 (.lst (xs.take k++ys++xs.drop k)) p5=oL (xs.take k++ys++xs.drop k):=Aa;generalize upd H29 p5 (.lst (xs.take k++ys++xs.drop k))=H30 at s25 h25;let T2630:=s21.trans (s23.trans (s24.trans s25));let ts30:TsAt LF.vs H30 (xs.take k++ys++xs.drop k) (zs.take k++ps++zs.drop k):=Mw (Mw (Wp k (ts26.mono (An T2630))) (tp26.mono (An T2630))) (Vd k (ts26.mono (An T2630)));let hnp:∀ (i:Nat) p,ps[i]?=ZC p->p.n=nb+i:=λi p hi=>(hps i p hi).1;let nd2:((zs.take k++ps++zs.drop k).map (·.n)).Nodup:=AG (W:=LF.mk nb z0.d z0.ev z0.th z0.ca sm) ndz hnp (by lia) nbm hz30;let gp:∀ p∈ps,Iz p:=λp h=>by
  obtain⟨j,hj,e⟩:=zAG h;obtain⟨g1,g2,g3,g4⟩:=hps j p (by rw[zAe hj,e]);let:=BO (n:=p.n) (c:=p.ct) gz0 (by lia) (by lia) (by lia) (by lia);obtain⟨pn,pd,pe,pt,pa,pc'⟩:=p;let e1:pd=z0.d:=g2.d;let e2:pe=z0.ev:=g2.ev;let e3:pt=z0.th:=g2.th;let e4:pa=z0.ca:=g2.ca;subst e1 e2 e3 e4;exact this
 refine⟨cw,p5,rows,_,_,rfl,T2630 _ _ (kl26 _ _ hcw20),λy hy=>⟨((okr20 y hy).1.same T2025).kt (λb o e n=>T2630 _ _ (kt26 b o e n)),(okr20 y hy).2⟩,NR,r4',h25,ts30,?_,nd2,λz hz=>?_,lam26.same T2630,λR2 D2 cvs2 v2 Ss2 n2 H32 f32 fD2 eun2 lam32 RA2 pu2 wu2=>?_⟩
 .rw[zAm,zAm,zAn,zBa]
  lia
 .rcases zAu.mp hz with g|g
  .rcases zAu.mp g with g|g
   .exact (lg.ok z (zBx g)).1
   .exact gp z g
  .exact (lg.ok z (gC g)).1
 refine Fv eN [oR a,oR nl,oN u,oN st,oR cw,oR ll,oN x,oN nb,oR t0,oR pc,oN sm,o11,o12,oR wh,oN (k:Int),oR R1.r,oR R2.r,ZD] rfl λN eN=>?_;obtain⟨tp30,hT30⟩:=Pd (lam26.same T2630);let kt32:Kh H30 H32:=λb o e n=>f32 b o e (λy=>by rw[y,hT30] at e;cases e;exact n _ rfl);let hll32:H32 ll=oL xs:=kt32 _ _ (T2630 _ _ hll26) (λ_ y=>by cases y);let hpc32:H32 pc=oL ys:=kt32 _ _ (T2630 _ _ hpc26) (λ_ y=>by cases y);let ku32:∀ b ws,H26 b=oT ws->H32 b=oT ws:=λb ws e=>kt32 _ _ (T2630 _ _ e) (λ_ y=>by cases y);let ts32:TsAt LF.vs H32 xs zs:=ts26.mono ku32;let tp32:TsAt LF.vs H32 ys ps:=tp26.mono ku32;let RB1:YC (Fo cvs1) D1 H32 R1 (ZC 1000000) [] v1 Ss1 v1 n1:=RA1.keep λb o e g=>f32 _ _ (T2630 _ _ e) (by
  rcases g with g|⟨ws,g⟩
  .exact (RA1.al b g).1
  .subst g
   exact λy=>by rw[y] at e;rw[T2630 _ _ e] at hT30;cases hT30)
 obtain⟨kv1,_,ru1⟩:=RB1.ct;obtain⟨kv2,_,ru2⟩:=RA2.ct;let B:=EO eun1 (λy hy=>(okw y hy).2.2) NR;let ru2':=XD.un ((Vq eun2).trans (Vq eun1).symm) ru2;obtain⟨m0,S,o,hu1,hS1,fS,oS,hP,hrest⟩:=W6 (W:=LF.mk nb z0.d z0.ev z0.th z0.ca sm) B nd2 pu1 wu1 pu2 wu2 (λp hp=>by
  obtain⟨j,hj,e⟩:=zAG hp;obtain⟨g1,g2,g3,g4⟩:=hps j p (by rw[zAe hj,e]);exact⟨⟨g2.d,g2.ev,g2.th,g2.ca⟩,g3⟩) hnp (by lia) nbm hz30 esum.symm sm3 ru1 ru2'
 obtain⟨dx1,hr1⟩:=RB1.hr;refine vE rfl (x3 R1.r dx1 _ (c4 rfl hr1 (P1 _ _) (vE rfl ⟨Fo cvs1,R1,D1,_,_,v1,Ss1,v1,n1,m0,_,S,rfl,RB1,hu1,hS1,gW,λaS yS H33 s33 naS haS stS=>?_⟩)));refine vE rfl (vE rfl ⟨Fo cvs2,R2,D2,_,_,v2,Ss2,v2,n2,pc,ys,ps,m0,o,rfl,RA2.same s33,s33 _ _ hpc32,tp32.mono (An s33),by lia,λi p hi=>?_,λaJ yJ J H34 s34 naJ haJ stJ fJ oJ=>?_⟩)
 .obtain⟨U,h1,h2,h3,h4⟩:=hP i p hi
  exact⟨U,h1,h2,gp p (zAz hi),h3,h4⟩
 let eJ:J=S:=CRT.form_uniq (o:=o) (by rw[esum] at fJ;exact fJ) fS oJ oS;subst eJ;let nok:∀ (SS:List Eu) {A B:Prop},B->(if (!eqDs (SS.map dS) (SS.map dS))=ZI then A else B):=λSS A B y=>by rw[Yp];exact y
 let dd:=Xe J;refine⟨ZK,_,_,Vn (s34 _ _ haS) (stS.mono (An s34)),Vn haJ stJ,by lia,vE rfl (nok J ?_)⟩;let s3234:=s33.trans s34;refine Qu eN λN eN=>?_;refine vE rfl ⟨ll,rfl,⟨_,Dp.of (s3234 _ _ hll32)⟩,?_⟩;refine Bx (K:=K) (a:=ll) (xs:=xs) (λi σ H35=>(∃ o17,σ=[oR a,oR nl,oN u,oN st,oR cw,oR ll,oN x,oN nb,oR t0,oR pc,oN sm,o11,o12,oR wh,oN (k:Int),oR R1.r,oR R2.r,o17])/\Dg H32 H35) ⟨⟨ZD,rfl⟩,s3234⟩ (λi σ H35 _ hh=>Dp.of (hh.2 _ _ hll32)) ?_ ?_
 .rintro i y σ H35 hi ⟨⟨o17,rfl⟩,s35⟩ N9 nx9
  obtain⟨t,z,hz,rfl,ht⟩:=ts32.get hi;let mz:=zAz hz;obtain⟨i1,i2,U,g1,g2,g3,g4⟩:=hrest z (by rw[fO];exact mz);let gz:=(lg.ok z mz).1;refine Gi [oR a,oR nl,oN u,oN st,oR cw,oR ll,oN x,oN nb,oR t0,oR pc,oN sm,o11,o12,oR wh,oN (k:Int),oR R1.r,oR R2.r,oR t] rfl ?_;let RC1:=RB1.same s35;obtain⟨dx3,hr3⟩:=RC1.hr;refine vE rfl (x3 R1.r dx3 _ (c4 rfl hr3 (P1 _ _) (vE rfl (vI rfl rfl (Hx.of (s35 _ _ ht)) rfl ⟨Fo cvs1,R1,D1,_,_,v1,Ss1,v1,n1,i1,z,U,rfl,RC1,g1,g2,gz,λa1 y1 H36 s36 na1 ha1 st1'=>?_⟩))));let RC2:=RA2.same (s35.trans s36);obtain⟨dx4,hr4⟩:=RC2.hr;refine vE rfl (x3 R2.r dx4 _ (c4 rfl hr4 (P1 _ _) (vE rfl (vI rfl rfl (Hx.of ((s35.trans s36) _ _ ht)) rfl ⟨Fo cvs2,R2,D2,_,_,v2,Ss2,v2,n2,i2,z,U,rfl,RC2,g3,g4,gz,λa2 y2 H37 s37 na2 ha2 st2'=>?_⟩))));let dd:=Xe U;exact⟨ZK,_,_,Vn (s37 _ _ ha1) (st1'.mono (An s37)),Vn ha2 st2',by lia,vE rfl (nok U (nx9 _ _ ⟨⟨_,rfl⟩,s35.trans (s36.trans s37)⟩))⟩
 rintro σ H35 ⟨⟨o17,rfl⟩,s35⟩;subst eN;exact q _
end
def all_mk {l:iJ} {w:ZX} {K:zAa} {h:aB} {mg:ZM->Option ZE} {q:ZF} (X:K.In h) (G:h.Ns zCJ mg) (j:mg "law"=ZC (.ref q)) (k:Pk K) :
  ∃ fd:eR,(∀ (s:ZG) (v:ZE),lK s fd ⟨[v],[]⟩ [("_law_script",v)])/\∀ base:aB,K.In base->base.Ns zCJ mg->BI mg base->XB l.prog w K mg base Ew 11 q fd ["_law_script"] (Pf K TT):=by
 obtain⟨_,d⟩:=k.sd;let e:=j.symm.trans (PySem.W.mg_of X G d.ns);cases e;obtain⟨_,_,_,_,_,_,_,_,_,z,c5⟩:=d.ex;exact⟨_,λs v=>.of_eq rfl,λbase kb _ g=>KL ⟨k,⟨PySem.W.mg_of X G,PySem.W.mg_none_of X G⟩,kb,g⟩ (Wg z c5 d.kp)⟩
def walk {l:iJ} {q:ZO} {g:List ZM} {XP:(ZM->Option ZE)->aB->Prop} {B:ZX->aB->Prop} {d:DefRec} {K:Params->zAa} {c:ZF} (hn:l.most=ZC 63) (S:d.params.defaults=[])
  (Y:∀ (w:ZX) (h:aB),B w h->(K w.params).In h) (M:∀ (w:ZX) (h:aB),B w h->h.get? TT=ZC (PySem.W.tabObj #[])) (L:∀ w:ZX,(K w.params).lookup TT=ZD) (j:∀ w:ZX,hJ (K w.params) c TT=ZI)
  (F:∀ (w:ZX) (mg:ZM->Option ZE) (U:ZF) (h:aB),(K w.params).In h->h.Ns zCJ mg->mg d.name=ZC (.ref U) ->
   ∃ fd:eR,(∀ (s:ZG) (u:ZE),lK s fd ⟨[u],[]⟩ [("_law_script",u)])/\∀ base:aB,(K w.params).In base->base.Ns zCJ mg->BI mg base->XB l.prog w (K w.params) mg base Ew 11 U fd ["_law_script"] (Pf (K w.params) TT)) :
  PySem.W.WalkO q g XP B l.row.toRowW d [] (λf vs=>mT f vs):=
 L2.walk_ofT (n:=63) (k:=11) (x:="_law_script") (CX:=λ_=>Ew) (sp:=λw=>Pf (K w.params) TT) hn (by lk) S ⟨rfl,by lk,by lk⟩ Y M L j F (λ_ _ a ns hl Z hS=>⟨a,ns,rfl,hS,hl,Z.1,λ_=>rfl⟩) λ_ _ _ _ _ z=>z
end CRL
end
open PySem PySem.W PyProof.Rows
set_option tactic.hygienic true in
set_option maxRecDepth 100000 in
set_option maxHeartbeats 0 in
theorem PySem.Challenge.cw_coverroll_k58_whole_a_loss_in_pieces_holds : PySem.Challenge.rw_coverroll_k58_whole_a_loss_in_pieces.Holds := by
 refine Zhd ?_
 k_fill
 refine CRL.walk (l:=PySem.Challenge.rw_coverroll_k58_whole_a_loss_in_pieces) (c:=95) rfl rfl (λw h Y=>PySem.W.km_in_of Y) (λw h Y=>PySem.W.km_tabs_of Y 93 (by simp)) (λw=>by kernel_rfl) (λw=>by kernel_rfl) ?F
 case F=>
  intro w mg fa h KX G hmg;exact CRL.all_mk KX G hmg (by
   constructor <;> first
    |(show _=_;k_is)
    |(show _=_;kit_is)
    |(constructor <;> k_is)
    |(constructor;apply L2.DfIn.of <;> k_is)
    |(constructor;constructor;(show _=_;k_is);apply L2.MtIn.of <;> k_is)
    |(apply L2.NT4.of <;> k_is)
    |(apply L2.MtD.of <;> k_is)
    |(apply L2.MtC.of <;> first|k_is|kernel_rfl)
    | (apply L2.BsE.of <;> first | k_is | (apply L2.MtIn.of <;> k_is)))
