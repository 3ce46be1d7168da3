import PyProof.Rows.All
import Wide.All
import OpenK.AllK
import Wide.FinOn
import Lean
import PyProof.EqAt
import PyProof.EqKinds
import PyProof.TupleCall
import PyProof.NeKinds
import Wide.Seal
import KE.KDictList
import KE.KSortTup
import KE.KDictOf
import KE.KTryMore
import PyProof.CompUse
import PyProof.AttrMissHeap
import PyProof.Rows.TupTab
import PyProof.ZipIter
import PyProof.Rows.ZipGen
import PyProof.LayNew
import KE.KRevSl
import PyProof.SumWalk
import PyProof.EnumMake
import PyProof.EnumFor
import PyProof.Rows.EnumRows
import PyProof.ListRange
import PyProof.Rows.Range3
import PyProof.Rows.TupDisplay
import PyProof.ListIndex
import PyProof.StrOps2
import PyProof.NoPylong
import PyProof.Draws
import PyProof.Conv_int_bool
import KE.KItemsList
import PyProof.FactsAll.set_2
import PyProof.MeetsSeq2
import PyProof.StrCalls2
import KE.KIntText
import PyProof.Rows.StrItems
import PyProof.MeetsStr2
import PyProof.StrLawsChain
import PyProof.StrLawsTight
import PyProof.StrLaws
import PyProof.Rows.ReprOcc
import KE.KRevIter
import PyProof.CollectWalk
import PyProof.ListNew
import PyProof.WalksS
import PyProof.DictItems
import KE.KPairComp
import PyProof.Rows.FStr
import KE.KxText
import PyProof.Rows.CatFin
import KE.IntTextText
import PyProof.StrLawsIn
import PyProof.Rows.StrClip
import PySem.Challenge.RW_bothfaces_k26_whole_from_text_to_picture
set_option bootstrap.genMatcherCode false
set_option compiler.extract_closed false
set_option genSizeOf false
set_option genInjectivity false
structure PySem.W.Fast:Prop where(tw5804660783420838414 tw15618144617962446370 tw17467613204655308280 tw5978854930625604103 tw4052795930670190182 tw16780881768826473580 tw2561126802300436647 tw15250444300965088101 tw17367109566463994283 tw3302115132559364628 tw11961909404310969769 tw11985068687251755688 tw3017894597827450000 tw13886447273613768176 tw13291447002125628663 tw16449356199664300327 tw4549536005959055399 tw861216238152401528 tw3317037182842936837 tw18071841612238699371 tw15562863071591817452 tw15315632935498770462 tw12591284836579331884 tw15173574519142903919 tw13080388183102048773 tw2185017734293215452 tw788301739097597761 tw17127536114030054615 tw9966042294740386901 tw13702181425770414689 tw10454568385248820885 tw6193519201483571544 tw8651164389919357935 tw7257149710592614725 tw4122099799310824552 tw11388797279897987230 tw17223096501053305013 tw2112676780437097983 tw577817444977233041 tw3325523605768488375 tw11895191277802440289 tw1033632472070180924 tw11742818744132489250 tw1483591889515949456 tw6177586962897992843 tw3608962766309181194 tw9061521198883325654 tw12641759384680504490 tw14848532925919118876 tw9369864299631195378 tw6782052026569031284 tw1913914181333304923 tw5331728384248542997 tw12289784769638696268 tw8350452341275644711 tw15298049358070669413 tw923215593388381943 tw1454706943478020837 tw16954623473274687792 tw7026124777211027284 tw5001015579776228179 tw12188131849518512480 tw1131760481148850854 tw10051265237027718438 tw6831600621315850404 tw16168208859037954099 tw6028053846590750102 tw2768654856128801810 tw18263700228308247053 tw9730674290196691442 tw8295336141904250246 tw275468343448255206 tw9342940692222264860 tw12259785834278037448 tw14849656662235202558 tw3257398141872270197 tw13977407596545694385 tw16273945773021511461 tw5154783518973236494 tw2237762152152139894 tw4259545306722519648 tw82728911923321445 tw16882658024702854168 tw2585307977128339158 tw8755658860739484816 tw7611363319588876919 tw281324310513046463 tw7091666631701943041 tw10716297750889867827 tw2589809789040115624 tw16600714452601692873 tw1461774385796552240 tw3467505660217795715 tw6633906477963010751 tw9307721558795979578 tw3694079807451174663 tw6708813775664718896 tw3914465506645707110 tw14424829006917343125 tw2507951293838329901 tw10766447240825990576 tw14208790005803118894 tw4045121465499037452 tw14927387067027590641 tw9245535197830963136 tw12124501388526972047 tw60007743468487840 tw13936505430131534079 tw16729751925216865867 tw16471478013259645940 tw886630240694745297 tw15679965083507197854 tw13124172864250284438 tw11703737827152079179 tw8762136628790255494 tw7583801184975218321 tw18007203212785847198 tw7800224159246778053 tw103346403089316961 tw4059894515516705004 tw2403692257676358737 tw4181072735376007853 tw5189484450767563243 tw15927996904561099133 tw13163068855637049647 tw8903094527375428149 tw17691243992081056594 tw4651404374644597926 tw16127638043285528405 tw9689942180164754856 tw11846604359702930901 tw15331115205845429529 tw6485976218664984407 tw7475811612013769286 tw11571091054335597453 tw7048444670172999863 tw14530046164701526558 tw7184008764634774954 tw3351081140955917453 tw15699270352065542639 tw12720465546904464486 tw10856765800924255426 tw11176221273676828812 tw5719160826386811447 tw6172676183850786789 tw2359877490718178466 tw11393020052614461810 tw14143460304383924292 tw4192840847576474461 tw4785881629956026478 tw16842328007611451335 tw14891467128317497254 tw11780709386865023415 tw1880191368051066586 tw4669493707314519659 tw1856047010775953324 tw10558280445823820877 tw6198566359055095703 tw4413764888536408203 tw8486962170397891535 tw4105747906629524762 tw4742542018778773772 tw16310943763285782518 tw9072792430257501242 tw5637958477206720434 tw559815678033389685 tw11318065678954279421 tw17746937231923706655 tw12560446041083999174 tw1426394498935619476 tw15473004307897373414 tw8279475571843998388 tw8327288330602926460 tw15428588008467685560 tw11496736883203641897 tw11098448377872179278 tw10753755833668465266 tw8465062327619915025 tw6738897619346037646 tw8995631262443534920 tw12373730326648872288 tw7564857242309465553 tw4595236416245263767 tw3686916377881829729 tw9377217516458695775 tw8070207947333792578 tw10353670098225652411 tw14588710387276936253 tw16891844216533258961 tw226720933896753260 tw3132114172655077347 tw13195751960215945811 tw12391680548132490391 tw14813834019980147086 tw15336040384527631879 tw7831353869887712971 tw10688798375686577767 tw15569158516400901348 tw17544945071828217426 tw3443503685614194107 tw3490693037787719969 tw5632817565618292935 tw2111882963323949270 tw15155437639560516875 tw1106419383437403223 tw15823604750046209710 tw11674661963339074622 tw8572741463143158766 tw10766544001835385571 tw1881438544926904212 tw10509292237989165546 tw11330568487800819127 tw18387169546110205193 tw5983313699898963265 tw16662899410393443458 tw2601561562634794385 tw9508645782013415894 tw1211923164426137790 tw9767045564410652216 tw3375674155266711095 tw7578555998762386114 tw13077959801460483838 tw7946342403914348816 tw2235795743526273891 tw14383964397419044738 tw7708161103552024534 tw16398681593582186416 tw173590734408312423 tw10539753847508552066 tw961803093747065857 tw15032119508050657178 tw3038531429975030274 tw6898447192192525165 tw15313654986597760329 tw3100945818330421951 tw11696211293670026248 tw14532995572673144963 tw7439416124872210056 tw7225301328954936822 tw6099885587216641775 tw2751058211359460944 tw1047430979460629805 tw10251595195156671611 tw12984621086564847803 tw6973758325161346054 tw3690443058334686562 tw13470083287617771881 tw7146976694119301972 tw37101263555191787 tw5124010466642724001 tw17456675989034685495 tw15768207056246648889 tw5046930217056830155 tw10503273738643391361 tw6248525304244096482 tw5938816664827414375 tw13968838525988759642 tw5353990750675142151 tw6289324100180055084 tw10287339039294494612 tw10993249016507608480 tw15104994092342833910 tw3706256227444506785 tw4826764887832050459 tw17673204958712260822 tw3929416851297152823 tw17482567888870738105 tw14811167014055743410 tw9392347577087231030 tw4129561979406184914 tw8032057603818142687 tw15785939194745286474 tw15810316897558795920 tw5997753545818212088 tw15665242193503783861 tw6423186267162314677 tw9726733431528117234 tw10139216637519140933 tw7723964801834950373 tw9991523626993612493 tw15656053136704315009 tw11697721156628634116 tw17588620161596470510 tw8845667255810163720 tw3032659064763313721 tw6831743265026622165 tw1382913390843668008 tw9227930823998930334 tw11872939151839017030 tw2863557516801941562 tw3715436286290714114 tw13900718770613711255 tw15834689281902459824 tw17565390604574042136 tw1108500768776380960 tw3292339956441365966 tw9880341148749324792 tw3089853981954994376 tw17893746082662339336 tw7404580560388287993 tw9625400764689674865 tw16810962523850662099 tw12093593665217590033 tw14689726801670925874 tw17285274425854111487 tw8518224900437805344 tw4999547411724306999 tw8666328328730870357 tw6742552152197792618 tw6246334378113062860 tw16328262590969558290 tw17235556381844526982 tw5304432709281060275 tw18205450376576518641 tw18380029935943739964:True)
local macro_rules(kind:=Lean.Parser.Command.declaration)|s=>if (s[1].isOfKind ``Lean.Parser.Command.definition||s[1].isOfKind ``Lean.Parser.Command.abbrev)&&s[0][4].isNone then return s.setArg 0 (s[0].setArg 4 (Lean.mkNullNode #[Lean.mkNode ``Lean.Parser.Command.noncomputable #[Lean.mkAtom "noncomputable "]])) else Lean.Macro.throwUnsupported
noncomputable section
abbrev yaq:=@PyProof.Rows.wpS_bind
abbrev yar:=@PyProof.Rows.wpS_pure
abbrev yas:=@PySem.Heap.get?_update_other
abbrev yat:=@Option.some.inj
abbrev yau:=@PySem.sizeLine_eq
abbrev yav:=@Ne.symm
abbrev yaw:=@or_false
abbrev yax:=@PyProof.Rows.boot_isinstance
abbrev yay:=@PySem.wpAny_holding
abbrev yaz:=@PySem.Heap.get?_update_self
abbrev yb8:=@PySem.wpAny_mono
abbrev yb9:=@PySem.wpAny_truthy_bool
abbrev yba:=@PySem.wpAny_newObj_type
abbrev ybb:=@PyProof.Rows.wpS_mono
abbrev ybc:=@PySem.PassesOwn.never
abbrev ybd:=@PySem.wpAny_call_entry
abbrev ybe:=@PySem.boot_len
abbrev ybf:=@PyProof.Rows.wpS_forRange
abbrev ybg:=@PySem.Around.under_plainId
abbrev ybh:=@Int.eq_ofNat_of_zero_le
abbrev ybi:=@PySem.Heap.size_push
abbrev ybj:=@if_false
abbrev ybk:=@PySem.mem_of_lookup
abbrev ybl:=@PySem.plainId_quiet
abbrev ybm:=@congrArg
abbrev ybn:=@Int.toNat_of_nonneg
abbrev ybo:=@PySem.codeAny_builtin
abbrev ybp:=@PySem.wpAny_updateSeq
abbrev ybq:=@List.Perm.append_left
abbrev ybr:=@PySem.wpAny_Call_Name_kw
abbrev ybs:=@PySem.wpAny_loadPart'
abbrev ybt:=@PySem.Calls.callWith_builtin
abbrev ybu:=@PySem.wpAny_field
abbrev ybv:=@Int.zero_sub
abbrev ybw:=@PySem.wpAny_typeNameOfWhole_itemiter
abbrev ybx:=@Int.toNat_natCast
abbrev yby:=@PySem.wpAny_typeNameOfWhole_keyiter
abbrev ybz:=@PySem.F.slot_dict_itemiterator_next
abbrev yc0:=@PySem.wpAny_callSpecial?_slot
abbrev yc1:=@PySem.Heap.SameBut.update
abbrev yc2:=@PySem.F.plain_extend_loop
abbrev yc3:=@PySem.F.plain_min_loop
abbrev yc4:=@PySem.wpAny_seqItems
abbrev yc5:=@PySem.wpAny_tryCatch
abbrev yc6:=@PySem.F.plain_max_loop
abbrev yc7:=@PySem.F.slot_dict_keyiterator_next
abbrev yc8:=@PyProof.Rows.boot_str
abbrev yc9:=@PySem.wpAny_letGo
abbrev yca:=@PyProof.Rows.callWith_type1
abbrev ycb:=@PySem.W.kia_one
abbrev ycc:=@PySem.wpAny_setField_rec
abbrev ycd:=@PySem.wpAny_passesOwn
abbrev yce:=@PySem.Paired.length
abbrev ycf:=@PySem.wpAny_typeNameOf_itemiter
abbrev ycg:=@PySem.wpAny_typeNameOf_keyiter
abbrev ych:=@PySem.wpAny_attempt
abbrev yci:=@PySem.Calls.spliced_cons
abbrev ycj:=@PySem.tupleKind_room_in1
abbrev yck:=@PySem.Obj.data_mapFields
abbrev ycl:=@List.cons.injEq
abbrev ycm:=@PySem.wpAny_dictEpoch
abbrev ycn:=@List.find?_eq_none
abbrev yco:=@Int.emod_lt_of_pos
abbrev ycp:=@List.getElem?_set_self
abbrev ycq:=@PySem.wpAny_of_eq
abbrev ycr:=@PySem.Calls.spliced_nil
abbrev ycs:=@if_true
abbrev yct:=@PySem.wpAny_setField
abbrev ycu:=@Array.mem_of_getElem?
abbrev ycv:=@PySem.wpAny_notOrdered_dict
abbrev ycw:=@PySem.StrLaws.glued_eq_join
abbrev ycx:=@List.nodup_nil
abbrev ycy:=@PySem.Calls.evalArgs_plain
abbrev ycz:=@List.lookup_cons
abbrev yd0:=@List.getElem_mem
abbrev yd1:=@Array.toList_extract
abbrev yd2:=@List.mem_of_mem_drop
abbrev yd3:=@Array.toList_reverse
abbrev yd4:=@PyProof.Rows.boot_int
abbrev yd5:=@PySem.F.plainAttrs_str
abbrev yd6:=@Nat.le_succ
abbrev yd7:=@PySem.wpAny_execs_nil
abbrev yd8:=@Bool.eq_iff_iff
abbrev yd9:=@List.getElem?_append_left
abbrev yda:=@Option.map_some
abbrev ydb:=@PySem.wpAny_specialOf
abbrev ydc:=@PySem.F.slot_dict_get
abbrev ydd:=@List.drop_eq_getElem_cons
abbrev yde:=@List.mem_of_find?_eq_some
abbrev ydf:=@Int.emod_nonneg
abbrev ydg:=@PySem.AutoSeq1.sub_tuple_tuple
abbrev ydh:=@Nat.zero_add
abbrev ydi:=@List.map_map
abbrev ydj:=@List.map_inj_right
abbrev ydk:=@PySem.call_meets
abbrev ydl:=@List.drop_zero
abbrev ydm:=@List.take_succ
abbrev ydn:=@PySem.wpAny_Call_method0_late
abbrev ydo:=@decide_eq_false_iff_not
abbrev ydp:=@List.zip_nil_left
abbrev ydq:=@Option.isSome_map
abbrev ydr:=@PySem.F.plainAttrs_dict
abbrev yds:=@Nat.lt_succ_of_lt
abbrev ydt:=@List.ext_getElem?
abbrev ydu:=@PySem.atKey_none_of_get
abbrev ydv:=@List.foldl_append
abbrev ydw:=@PySem.richCompare_meets_room
abbrev ydx:=@PySem.wpAny_Assign_Subscript
abbrev ydy:=@Array.getElem?_eq_none
abbrev ydz:=@PySem.wpAny_isOneOf_itemiter
abbrev ye0:=@PySem.wpAny_forIn_list
abbrev ye1:=@Array.toList_map
abbrev ye2:=@PySem.wpAny_isInstance
abbrev ye3:=@PySem.F.slot_str_split
abbrev ye4:=@PySem.Obj.isFreed_of_fields
abbrev ye5:=@Nat.le_of_lt
abbrev ye6:=@List.getElem?_set_ne
abbrev ye7:=@PySem.codeAny_mono
abbrev ye8:=@PySem.F.slot_list_pop
abbrev ye9:=@List.reverse_reverse
abbrev yea:=@List.dropLast_concat
abbrev yeb:=@List.filterMap_cons
abbrev yec:=@PySem.evalArgs_none
abbrev yed:=@List.length_reverse
abbrev yee:=@List.zip_nil_right
abbrev yef:=@List.pairwise_cons
abbrev yeg:=@of_decide_eq_false
abbrev yeh:=@List.sum_cons
abbrev A9:=PySem.Value->PySem.Shared->Prop
abbrev A8:=Option PySem.Value->PySem.Shared->Prop
abbrev A7:=List (PySem.Addr×PySem.Obj)
abbrev A5:=PySem.Str->Option PySem.Value
abbrev A2:=PySem.W.Frag
abbrev A1:=Array (Option PySem.Value)
abbrev A0:=Unit->PySem.Shared->Prop
abbrev AA:=PySem.Addr
abbrev AB:=List PySem.Value
abbrev AD:=Array PyProof.Rows.Keyed
abbrev AE:=PySem.Shared
abbrev AF:=PySem.Program
abbrev AG:=PySem.FuncData
abbrev AH:=List PySem.Str
abbrev AI:=PySem.Value
abbrev AJ:=PySem.World
abbrev AK:=PySem.Around
abbrev AL:=PySem.Str
abbrev AM:=List PySem.Addr
abbrev AN:=Array PySem.Value
abbrev AO:=PySem.Heap
abbrev AQ:=List PySem.Expr
abbrev AR:=Array PySem.DictEntry
abbrev AS:=List PySem.Env
abbrev AU:=List PyProof.Rows.Keyed
abbrev AV:=PyProof.Rows.Keyed
abbrev AW:=PyProof.Rows.SortSt
abbrev AX:=PySem.Expr
abbrev AY:=List (PySem.Str×PySem.Value)
abbrev AZ:=List (Option Nat)
abbrev Aa:=Option PySem.Addr
abbrev Ab:=List (Nat×Nat×Nat)
abbrev ya8:=@PySem.wpAny_bind
abbrev ya9:=@PySem.wpAny_pure
abbrev yaa:=@decide_eq_false
abbrev yab:=@decide_eq_true
abbrev yac:=@if_neg
abbrev yad:=@if_pos
abbrev yae:=@of_decide_eq_true
abbrev yaf:=@PySem.wpAny_rule
abbrev yag:=@PySem.wpAny_dictEntries
abbrev yah:=@beq_eq_false_iff_ne
abbrev yai:=@PySem.Heap.get?_push_of_some
abbrev yaj:=@PySem.Heap.lt_size
abbrev yak:=@PySem.Heap.get?_push_size
abbrev yal:=@PySem.W.mg_none_of
abbrev yam:=@PySem.W.mg_of
abbrev yan:=@PySem.F.slot_list_append
abbrev yao:=@PySem.F.type_list_append
abbrev yap:=@PySem.F.plainAttrs_list
abbrev za0:=@List.mem_cons
abbrev za1:=@List.mem_cons_self
abbrev za2:=@List.length_cons
abbrev za3:=@List.mem_cons_of_mem
abbrev za4:=@List.length_map
abbrev za5:=@Nat.le_refl
abbrev za6:=@List.getElem?_eq_getElem
abbrev za7:=@List.length_append
abbrev za8:=@Bool.false_ne_true
abbrev za9:=@List.mem_map
abbrev zaa:=@List.map_cons
abbrev zab:=@List.size_toArray
abbrev zac:=@List.mem_singleton
abbrev zad:=@List.not_mem_nil
abbrev zae:=@List.map_append
abbrev zaf:=@List.getElem?_eq_some_iff
abbrev zag:=@Bool.false_eq_true
abbrev zah:=@List.append_assoc
abbrev zai:=@Nat.ne_of_lt
abbrev zaj:=@List.mem_append
abbrev zak:=@List.nodup_cons
abbrev zal:=@Array.length_toList
abbrev zam:=@List.mem_of_getElem?
abbrev zan:=@List.getElem?_map
abbrev zao:=@Array.toList_append
abbrev zap:=@Nat.le_trans
abbrev zaq:=@Nat.lt_of_lt_of_le
abbrev zar:=@List.reverse_cons
abbrev zas:=@List.pairwise_append
abbrev zau:=@List.mem_append_right
abbrev zav:=@List.take_of_length_le
abbrev zaw:=@List.length_take
abbrev zax:=@List.mem_iff_getElem?
abbrev zay:=@List.take_append_drop
abbrev zaz:=@List.eq_nil_of_length_eq_zero
abbrev zb0:=@List.append_nil
abbrev zb1:=@List.cons_append
abbrev zb2:=@List.length_nil
abbrev zb3:=@Nat.ne_of_gt
abbrev zb4:=@Array.getElem?_toList
abbrev zb5:=@List.zip_cons_cons
abbrev zb6:=@Nat.zero_le
abbrev zb7:=@List.getElem?_drop
abbrev zb8:=@List.getElem?_take
abbrev zb9:=@List.drop_eq_nil_of_le
abbrev zba:=@List.getElem?_zip_eq_some
abbrev zbb:=@Array.getElem?_eq_getElem
abbrev zbc:=@Nat.lt_succ_self
abbrev zbd:=@List.nil_append
abbrev zbe:=@List.length_drop
abbrev zbf:=@Nat.lt_trans
abbrev zbg:=@List.perm_ext_iff_of_nodup
abbrev zbh:=@Nat.lt_irrefl
abbrev zbi:=@List.perm_append_comm
abbrev zbj:=@Bool.and_eq_true
abbrev zbk:=@List.mem_append_left
abbrev zbl:=@List.mem_of_mem_take
abbrev zbm:=@List.take_sublist
abbrev zbn:=@List.flatten_cons
abbrev zbo:=@List.take_add_one
abbrev zbp:=@List.find?_cons
abbrev zbq:=@Option.map_eq_none_iff
abbrev zbr:=@List.getElem?_append_right
abbrev zbs:=@List.map_nil
abbrev zbt:=@List.getElem?_eq_none
abbrev zbu:=@List.pairwise_iff_getElem
abbrev zbv:=@List.drop_sublist
abbrev zbw:=@Nat.add_sub_cancel_left
abbrev zbx:=@List.pairwise_singleton
abbrev zby:=@List.toList_toArray
abbrev zbz:=@Bool.false_and
set_option Elab.async false
set_option linter.all false
set_option maxRecDepth 100000
set_option maxHeartbeats 4000000
namespace L2
open PySem PySem.Spec PyProof.Rows
abbrev Key:=Sum Int Str
def lW:Key->Value->Bool
 | .inl k,v=>Value.isInt k v
 | .inr x,v=>Value.isStrOf x v
def keyH(w:World):Key->Int
 | .inl k=>hashInt k
 | .inr x=>hashStr w x
theorem bo:∀ {k:Key} {v:AI},lW k v=true->(∃ i t,k=Sum.inl i/\v=Value.int i t)\/(∃ x t,k=Sum.inr x/\v=Value.str x t)
 | .inl i,v,h=>by
  obtain⟨t,e⟩:=Value.isInt_shape (k:=i) (v:=v) h;exact .inl ⟨i,t,rfl,e⟩
 | .inr x,v,h=>by
  obtain⟨t,e⟩:=Value.isStrOf_shape (x:=x) (v:=v) h;exact .inr ⟨x,t,rfl,e⟩
theorem wX(i:Int)(t:Tok):lW (.inl i) (.int i t)=true:=by simp[lW,Value.isInt]
theorem wY(x:AL)(t:Tok):lW (.inr x) (.str x t)=true:=by simp[lW,Value.isStrOf]
theorem EM(a b:Int):decide ((Sum.inl a:Key)=Sum.inl b)=(a==b):=by
 by_cases e:a=b
 ·subst e;simp
 ·have h:¬ (Sum.inl a:Key)=Sum.inl b:=λq=>e (Sum.inl.inj q)
  rw[yaa h];exact(yah.mpr e).symm
theorem EN(a b:AL):decide ((Sum.inr a:Key)=Sum.inr b)=decide (a=b):=by
 by_cases e:a=b
 ·subst e;simp
 ·have h:¬ (Sum.inr a:Key)=Sum.inr b:=λq=>e (Sum.inr.inj q)
  rw[yaa h,yaa e]
theorem EO(a:Int)(b:AL):decide ((Sum.inl a:Key)=Sum.inr b)=false:=yaa (λq=>nomatch q)
theorem ER(a:AL)(b:Int):decide ((Sum.inr a:Key)=Sum.inl b)=false:=yaa (λq=>nomatch q)
def aU(prog:Program)(w:World):PySem.KeyKind prog w Key where
 is:=lW
 hash:=keyH w
 inj:=λv a b ha hb=>by
  rcases bo ha with ⟨i,t,rfl,rfl⟩ | ⟨x,t,rfl,rfl⟩
  ·rcases bo hb with ⟨j,u,rfl,e⟩ | ⟨y,u,rfl,e⟩
   ·injection e with e1 _;rw[e1]
   ·exact nomatch e
  ·rcases bo hb with ⟨j,u,rfl,e⟩ | ⟨y,u,rfl,e⟩
   ·exact nomatch e
   ·injection e with e1 _;rw[e1]
 byValue:=λk v h=>by
  rcases bo h with ⟨i,t,rfl,rfl⟩ | ⟨x,t,rfl,rfl⟩<;>rfl
 pyHash:=λhv h=>by
  rcases bo hv with ⟨i,t,rfl,rfl⟩ | ⟨x,t,rfl,rfl⟩
  ·exact wpAny_pyHash_int h
  ·exact wpAny_pyHash_str h
 eqBool:=λhu hv h=>by
  rcases bo hu with ⟨i,t,rfl,rfl⟩ | ⟨x,t,rfl,rfl⟩
  ·rcases bo hv with ⟨j,u,rfl,rfl⟩ | ⟨y,u,rfl,rfl⟩
   ·rw[EM]at h;exact wpAny_eqBool_int h
   ·rw[EO]at h;exact SeqAt.EqAt.int_str i t y u _ _ _ _ h
  ·rcases bo hv with ⟨j,u,rfl,rfl⟩ | ⟨y,u,rfl,rfl⟩
   ·rw[ER]at h;exact SeqAt.EqAt.str_int x t j u _ _ _ _ h
   ·rw[EN]at h;exact wpAny_eqBool_str h
 «strs»:=λk x t v h=>by
  rcases bo h with ⟨i,u,rfl,e⟩ | ⟨y,u,rfl,e⟩
  ·exact nomatch e
  ·injection e with e1 _
   subst e1;cases v<;>rfl
theorem qU(prog:AF)(w:AJ)(i:Int)(t:Tok):(aU prog w).is (.inl i) (.int i t)=true:=wX i t
theorem qV(prog:AF)(w:AJ)(x:AL)(t:Tok):(aU prog w).is (.inr x) (.str x t)=true:=wY x t
set_option genInjectivity true in
inductive V where
 | non | bl (b:Bool) | int (i:Int) | str (x:Str) | byt (b:Array UInt8) | flt (b:UInt64) | ref (a:Addr) | ty (n:String)
 deriving DecidableEq
abbrev Ac:=List V
abbrev Ae:=List (Key×V)
abbrev Am:=List (List Key×V)
abbrev Ao:=List (Str×V)
def RelV:V->Value->Prop
 | .non,u=>u=Value.none
 | .bl b,u=>u=Value.bool b
 | .int i,u=>∃ t,u=Value.int i t
 | .str x,u=>∃ t,u=Value.str x t
 | .byt b,u=>∃ t,u=Value.bytes b t
 | .flt b,u=>∃ t,u=Value.float b t
 | .ref a,u=>u=Value.ref a
 | .ty n,u=>u=Value.type n
abbrev kh:List V->List Value->Prop:=Paired RelV
theorem kh.length{xs:Ac}{us:AB}(r:kh xs us):xs.length=us.length:=yce r
theorem kh.get:∀ {xs:Ac} {us:AB} {i:Nat} {x:V},kh xs us->xs[i]?=some x->∃ u,us[i]?=some u/\RelV x u:=by
 intro xs us i x h
 induction h generalizing i with
 | nil =>
  intro e;cases e
 | cons r t ih =>
  intro e;cases i with
  | zero =>
   cases e;exact⟨_,rfl,r⟩
  | succ i=>exact ih e
theorem kh.append:∀ {xs ys:Ac} {us ws:AB},kh xs us->kh ys ws->kh (xs++ys) (us++ws):=by
 intro xs ys us ws h s
 induction h with
 | nil=>exact s
 | cons r t ih=>exact .cons r ih
theorem kh.take:∀ {xs:Ac} {us:AB} (n:Nat),kh xs us->kh (xs.take n) (us.take n)
 | _,_,0,_=>.nil
 | _,_,_+1,.nil=>.nil
 | _,_,n+1,.cons r t=>.cons r (kh.take n t)
theorem kh.drop:∀ {xs:Ac} {us:AB} (n:Nat),kh xs us->kh (xs.drop n) (us.drop n)
 | _,_,0,r=>r
 | _,_,_+1,.nil=>.nil
 | _,_,n+1,.cons _ t=>kh.drop n t
def kW:Option V->Option Value->Prop
 | some v,some u=>RelV v u
 | none,none=>True
 | _,_=>False
def KV{κ:Type}:List (κ×V)->List (κ×Value)->Prop:=Paired λ(p:κ×V) (q:κ×Value)=>p.1=q.1/\RelV p.2 q.2
def kV:Key->V
 | .inl i=>.int i
 | .inr x=>.str x
inductive HO where
 | lst (xs:List V)
 | tup (xs:List V)
 | dK (kvs:List (Key×V)) | dT (kvs:List (List Key×V))
 | set (S:Int->Bool) (n:Nat)
 | ins (C dx:Addr) (fs:List (Str×V))
 | own (x:Addr)
 | xd (fs:List (Str×V))
 | met (f x:Addr)
 | rng (lo hi:Int)
 | frz (o:Obj) (u:HO)
 | tbl (ps:Array Value)
 | ext (φ:Heap->Prop)
abbrev Hp:=Addr->Option HO
def upd(H:Hp)(a:Addr)(o:HO):Hp:=λb=>if b=a then some o else H b
theorem a8:upd H a o a=some o:=by unfold upd;rw[yad rfl]
theorem am{H:Hp}{a:AA}(h:b≠a):upd H a o b=H b:=by unfold upd;rw[yac h]
theorem ne_of{H:Hp}{a:AA}{o:HO}(h:H a=some o)(h':H b=some u)(d:o≠u):a≠b:=by
 intro e;subst e;rw[h]at h';exact d (yat h')
theorem bh{H:Hp}{a:AA}(h:H a=some o)(h':H b=none):a≠b:=by
 intro e;subst e;rw[h]at h';cases h'
def wZ(h:Heap)(a:Addr)(items:Array Value):Prop:=∃ o,h.get? a=some o/\o.cls=.type "tuple"/\∃ n,(o.data,o.dict)=(.seq items n,(none:Option Addr))
theorem wZ.tup(p:wZ h a items):IsTup h a items:=by
 obtain⟨o,e,c,n,d⟩:=p;exact⟨o,e,c,n,ybm Prod.fst d⟩
theorem wZ.new(h:AO)(items:AN):wZ (h.push { cls:=.type "tuple",data:=.seq items }) h.objs.size items:=⟨_,yak _ rfl,rfl,_,rfl⟩
section
variable(P:AF)(w:AJ)
def bf(H:Hp)(h:Heap)(a:Addr):HO->Prop
 | .lst xs=>xs.length<=sizeLine/\∃ (its:List Value) (n:Nat),kh xs its/\h.get? a=some { cls:=.type "list",data:=.seq its.toArray n }
 | .tup xs=>xs.length<=sizeLine/\∃ its:List Value,kh xs its/\wZ h a its.toArray
 | .dK kvs=>kvs.length<=sizeLine/\(a==sysModules)=false/\∃ vs,KV kvs vs/\h.DictOf (aU P w) a vs
 | .dT kvs=>kvs.length<=sizeLine/\(a==sysModules)=false/\∃ xs:List (List Key×Addr×Value),
   Paired (λ(p:List Key×V) (q:List Key×Addr×Value)=>p.1=q.1/\H q.2.1=some (.tup (p.1.map kV))/\RelV p.2 q.2.2) kvs xs /\
   ∃ o es ep,h.get? a=some o/\o.ExactDict/\o.data=.dict es ep/\es.toList=xs.map (entryOfKey (tupleKind (aU P w)))/\(xs.map (·.1)).Nodup
 | .set S n=>h.SetOf (intKind P w) a S n
 | .ins C dx fs=>H dx=some (.own a)/\fs.length<=1000/\dx≠a/\h.get? a=some (W.instObj C dx) /\
   ∃ mA,h.Ns1 dx mA/\(∀ f,kW (fs.lookup f) (mA f))/\PySem.Within mA (fs.map (·.1))
 | .own _=>∃ o,h.get? a=some o
 | .xd fs=>∃ mA,h.Ns1 a mA/\∀ f,kW (fs.lookup f) (mA f)
 | .rng lo hi=>∃ t u v,h.get? a=some { cls:=.type "range",data:=.fields #[.int lo t,.int hi u,.int 1 v] }
 | .frz o u=>h.get? a=some o/\bf H h a u
 | .tbl ps=>h.get? a=some { cls:=.none,data:=.fields ps }
 | .met f x=>h.get? a=some (W.methodObj (.ref f) (.ref x))
 | .ext φ=>φ h/\(∃ o,h.get? a=some o)/\∀ h1 h2:Heap,φ h1->(∀ o,h1.get? a=some o->h2.get? a=some o)->φ h2
def HOk(H:Hp)(h:Heap):Prop:=∀ a o,H a=some o->bf P w H h a o
end
section
variable{P:AF}{w:AJ}{H H':Hp}{h h':AO}{a:AA}{o:HO}
theorem bf.lt(x:bf P w H h a o):a<h.objs.size:=by
 cases o with
 | lst xs=>obtain⟨_,_,_,_,e⟩:=x;exact yaj e
 | tup xs=>obtain⟨_,_,_,p⟩:=x;exact p.tup.lt
 | dK kvs=>obtain⟨_,_,_,_,o,_,_,e,_⟩:=x;exact yaj e
 | dT kvs=>obtain⟨_,_,_,_,o,_,_,e,_⟩:=x;exact yaj e
 | set S n=>obtain⟨o,_,_,_,e,_⟩:=x;exact yaj e
 | ins C dx fs=>obtain⟨_,_,_,e,_⟩:=x;exact yaj e
 | own y=>obtain⟨_,e⟩:=x;exact yaj e
 | xd fs=>obtain⟨_,⟨_,_,_,e,_⟩,_⟩:=x;exact yaj e
 | rng lo hi=>obtain⟨_,_,_,e⟩:=x;exact yaj e
 | frz ob u=>obtain⟨e,_⟩:=x;exact yaj e
 | tbl ps=>exact yaj (show h.get? a=some _ from x)
 | met f y=>exact yaj (show h.get? a=some _ from x)
 | ext φ=>obtain⟨_,⟨_,e⟩,_⟩:=x;exact yaj e
theorem Paired.mapP{F G:α->β->Prop}:∀ {l₁:List α} {l₂:List β},Paired F l₁ l₂->(∀ a b,F a b->G a b)->Paired G l₁ l₂:=by
 intro l₁ l₂ h f
 induction h with
 | nil=>exact .nil
 | cons r t ih=>exact .cons (f _ _ r) ih
theorem bf.lZ(x:bf P w H h a o)(k:∀ b u,(b=a\/H b=some (.own a))->h.get? b=some u->h'.get? b=some u)
  (ho:∀ b,H b=some (.own a)->H' b=some (.own a)) (ht:∀ b xs,H b=some (.tup xs)->H' b=some (.tup xs)):bf P w H' h' a o:=by
 induction o with
 | lst xs=>obtain⟨z,its,n,r,e⟩:=x;exact⟨z,its,n,r,k _ _ (.inl rfl) e⟩
 | tup xs=>obtain⟨z,its,r,ob,e,c⟩:=x;exact⟨z,its,r,ob,k _ _ (.inl rfl) e,c⟩
 | dK kvs=>obtain⟨z,y,vs,r,ob,es,ep,e,c⟩:=x;exact⟨z,y,vs,r,ob,es,ep,k _ _ (.inl rfl) e,c⟩
 | dT kvs =>
  obtain⟨z,y,xs,r,ob,es,ep,e,c⟩:=x;exact⟨z,y,xs,Paired.mapP r λp q z=>⟨z.1,ht _ _ z.2.1,z.2.2⟩,ob,es,ep,k _ _ (.inl rfl) e,c⟩
 | set S n=>obtain⟨ob,es,ep,t,e,c⟩:=x;exact⟨ob,es,ep,t,k _ _ (.inl rfl) e,c⟩
 | ins C dx fs =>
  obtain⟨d,z,ne,e,mA,⟨od,es,ep,e2,c⟩,r⟩:=x;exact⟨ho _ d,z,ne,k _ _ (.inl rfl) e,mA,⟨od,es,ep,k _ _ (.inr d) e2,c⟩,r⟩
 | own y=>obtain⟨ob,e⟩:=x;exact⟨ob,k _ _ (.inl rfl) e⟩
 | xd fs=>obtain⟨mA,⟨od,es,ep,e,c⟩,r⟩:=x;exact⟨mA,⟨od,es,ep,k _ _ (.inl rfl) e,c⟩,r⟩
 | rng lo hi=>obtain⟨t,u,v,e⟩:=x;exact⟨t,u,v,k _ _ (.inl rfl) e⟩
 | frz ob u ih=>obtain⟨e,q⟩:=x;exact⟨k _ _ (.inl rfl) e,ih q⟩
 | tbl ps =>
  have e:h.get? a=some { cls:=.none,data:=.fields ps }:=x;show h'.get? a=some { cls:=.none,data:=.fields ps };exact k a _ (.inl rfl) e
 | met f y =>
  have e:h.get? a=some (W.methodObj (.ref f) (.ref y)):=x;show h'.get? a=some (W.methodObj (.ref f) (.ref y));exact k a _ (.inl rfl) e
 | ext φ=>obtain⟨p,⟨o,e⟩,st⟩:=x;exact⟨st _ _ p λo q=>k _ _ (.inl rfl) q,⟨o,k _ _ (.inl rfl) e⟩,st⟩
theorem HOk.lt(x:HOk P w H h)(e:H a=some o):a<h.objs.size:=(x a o e).lt
theorem HOk.fresh(x:HOk P w H h)(e:h.objs.size<=a):H a=none:=by
 cases q:H a with
 | none=>rfl
 | some u=>exact absurd (zaq (x.lt q) e) (zbh _)
theorem HOk.kept(x:HOk P w H h)(k:∀ b u,h.get? b=some u->h'.get? b=some u):HOk P w H h':=λa o e =>
 (x a o e).lZ (λb u _ q=>k b u q) (λ_ q=>q) λ_ _ q=>q
theorem HOk.laid(x:HOk P w H h)(k:∀ b u,h.get? b=some u->h'.get? b=some u)(hp:h.objs.size<=a)(new:bf P w (upd H a o) h' a o):HOk P w (upd H a o) h':=λb u e=>by
 have hn:=x.fresh hp;by_cases hb:b=a
 ·subst hb;rw[a8]at e;cases e;exact new
 ·rw[am hb]at e
  exact(x b u e).lZ (λc v _ q=>k c v q) (λc q=>by rw[am (bh q hn)];exact q) λc xs q=>by rw[am (bh q hn)];exact q
end
def Rd(H:Hp)(a:Addr)(u:HO):Prop:=H a=some u\/∃ o,H a=some (.frz o u)
theorem Rd.ok(r:Rd H a u)(x:HOk P w H h):bf P w H h a u:=by
 rcases r with r | ⟨o,r⟩
 ·exact x a u r
 ·obtain⟨_,q⟩:=x a _ r
  exact q
def Mut:Option HO->Prop
 | some (.lst _)=>True
 | some (.dK _)=>True
 | some (.dT _)=>True
 | some (.set _ _)=>True
 | some (.ins _ _ _)=>True
 | some (.ext _)=>True
 | _=>False
section
variable{P:AF}{w:AJ}{H:Hp}{h h':AO}{x e:AA}{o':HO}
theorem HOk.write(ok:HOk P w H h)(mu:Mut (H x))(he:e=x\/H e=some (.own x))(k:∀ b u,b≠e->h.get? b=some u->h'.get? b=some u)(heo:∃ u,h'.get? e=some u)
  (new:bf P w (upd H x o') h' x o'):HOk P w (upd H x o') h':=λb u q=>by
 have nown:∀ c y,H c=some (.own y)->c≠x:=λc y r z=>by subst z;rw[r]at mu;exact mu
 have ntup:∀ c xs,H c=some (.tup xs)->c≠x:=λc xs r z=>by subst z;rw[r]at mu;exact mu
 by_cases hb:b=x
 ·subst hb;rw[a8]at q;cases q;exact new
 ·rw[am hb]at q
  by_cases hbe:b=e
  ·have q':H b=some (.own x):=by
    rcases he with z | z
    ·exact absurd (hbe.trans z) hb
    ·rw[hbe];exact z
   rw[q]at q';cases q';obtain⟨v,hv⟩:=heo;exact⟨v,by rw[hbe];exact hv⟩
  ·refine(ok b u q).lZ (λc v hc r=>k c v ?_ r) (λc r=>by rw[am (nown c b r)];exact r) λc xs r=>by rw[am (ntup c xs r)];exact r
   rcases hc with rfl | hc
   ·exact hbe
   ·rintro rfl
    rcases he with z | z
    ·exact nown c b hc z
    ·rw[hc]at z;cases z;exact hb rfl
end
structure Un(fs ex:List Addr)(H H':Hp)(h h':Heap):Prop where
 keep:∀ b o,h.get? b=some o->H b=none->b∉fs->b∉ex->h'.get? b=some o
 slot:∀ b o,h.get? b=some o->H b=none->b∈fs->b∉ex->∃ sl,h'.get? b=some { o with slots:=sl }
 free:∀ b o,h.get? b=some o->H b=none->b∉ex->H' b=none
 there:∀ b o,h.get? b=some o->b∉ex->∃ o',h'.get? b=some o'
 lA:∀ b xs,H b=some (.tup xs)->H' b=some (.tup xs)
 lq:∀ b o u,H b=some (.frz o u)->H' b=some (.frz o u)
 lC:∀ b ps,H b=some (.tbl ps)->∃ more,H' b=some (.tbl (ps++more))
section
variable{fs fs' ex ex':AM}{H H1 H2:Hp}{h h1 h2 h':AO}{a x e:AA}{o:HO}
theorem Un.any(u:Un fs ex H H1 h h1){ob:Obj}(q:h.get? b=some ob)(n:H b=none)(hx:b∉ex):∃ sl,h1.get? b=some { ob with slots:=sl }:=by
 by_cases hb:b∈fs
 ·exact u.slot b ob q n hb hx
 ·exact⟨ob.slots,u.keep b ob q n hb hx⟩
theorem Un.kept(k:∀ b u,h.get? b=some u->h'.get? b=some u):Un fs ex H H h h' :=
 ⟨λb ob q _ _ _=>k b ob q,λb ob q _ _ _=>⟨ob.slots,k b ob q⟩,λ_ _ _ n _=>n,λb ob q _=>⟨ob,k b ob q⟩,λ_ _ q=>q,λ_ _ _ q=>q,λ_ ps q=>⟨#[],by rw[q];simp⟩⟩
theorem Un.refl:Un fs ex H H h h:=Un.kept λ_ _ q=>q
theorem Un.laid(k:∀ b u,h.get? b=some u->h'.get? b=some u)(hp:h.objs.size<=a)(hn:H a=none):Un fs ex H (upd H a o) h h' where
 keep:=λb u q _ _ _=>k b u q
 slot:=λb u q _ _ _=>⟨u.slots,k b u q⟩
 free:=λb u q n _=>by rw[am (zai (zaq (yaj q) hp))];exact n
 there:=λb u q _=>⟨u,k b u q⟩
 lA:=λb xs q=>by rw[am (bh q hn)];exact q
 lq:=λb u xs q=>by rw[am (bh q hn)];exact q
 lC:=λb ps q=>⟨#[],by rw[am (bh q hn),q];simp⟩
theorem Un.write(mu:Mut (H x))(he:e=x\/H e=some (.own x))(k:∀ b u,b≠e->h.get? b=some u->h'.get? b=some u)(heo:∃ u,h'.get? e=some u):Un fs ex H (upd H x o) h h':=by
 have hx:∀ b,H b=none->b≠x:=λb n z=>by subst z;rw[n]at mu;exact mu
 have hb:∀ b,H b=none->b≠e:=λb n z=>by
  subst z;rcases he with r | r
  ·exact hx b n r
  ·rw[n]at r;cases r
 have hm:∀ b u,H b=some u->¬ Mut (some u)->b≠x:=λb u q nm z=>by subst z;rw[q]at mu;exact nm mu
 refine⟨λb u q n _ _=>k b u (hb b n) q,λb u q n _ _=>⟨u.slots,k b u (hb b n) q⟩,λb u q n _=>by rw[am (hx b n)];exact n,λb u q _=>?_,
  λb xs q=>by rw[am (hm b _ q λz=>z)];exact q,λb u xs q=>by rw[am (hm b _ q λz=>z)];exact q,λb ps q=>⟨#[],by rw[am (hm b _ q λz=>z),q];simp⟩⟩
 by_cases hbe:b=e
 ·subst hbe;exact heo
 ·exact⟨u,k b u hbe q⟩
end
def trk(h:Heap)(H:Hp):List Addr:=(List.range h.objs.size).filter λa=>(H a).isSome
def pO(h:Heap)(H:Hp):Heap:=W.hideAll h (trk h H)
theorem x4(h:AO)(H:Hp):(pO h H).objs.size=h.objs.size:=W.hideAll_size _ _
theorem yB{h:AO}{H:Hp}(e:h.get? b=some o)(n:H b=none):(pO h H).get? b=some o :=
 W.hideAll_get _ e λhm=>by
  have q:(H b).isSome=true:=(List.mem_filter.mp hm).2;rw[n]at q;simp at q
theorem Ce{h:AO}{H:Hp}(e:(pO h H).get? b=some o):h.get? b=some o/\H b=none:=by
 have e':h.get? b=some o:=W.of_hideAll (trk h H) e;refine⟨e',?_⟩;cases q:H b with
 | none=>rfl
 | some x =>
  have hm:b∈trk h H:=List.mem_filter.mpr ⟨List.mem_range.mpr (yaj e'),by simp[q]⟩;have z:(pO h H).get? b=none:=W.hideAll_none (trk h H) hm;rw[z]at e;cases e
structure Mod(K:A2)(mg:A5)(base:Heap):Prop where
 kin:K.In base
 glob:base.Ns mainGlobals mg
 blt:∃ mb,base.Ns builtinsNs mb/\∀ x:Str,x≠"__name__"->mb x=bootBuiltins x
 nolimit:base.NoLimit
structure Cx where
 prog:Program
 w:World
 K:W.Frag
 mg:Str->Option Value
 base:Heap
 A:Around
 N:List Str
 s₀:Shared
 H₀:Hp
 env:Env
 outer:List Env
 stack:List Env
 ex:List Addr
 fn:Str->Bool
 calm:Bool
 pn:List (Addr×Obj)
 xe:Value->Shared->Prop
def frs(l:List Env):List Addr:=l.filterMap (·.frame)
abbrev Cx.fs(X:Cx):List Addr:=frs X.outer
def Vis(sc:Scope)(x:Str):Prop:=sc.names.lookup x=some .local\/sc.names.lookup x=some .cell\/sc.names.lookup x=some .free
def Loc(sc:Scope)(x:Str):Prop:=sc.names.lookup x=some .local\/sc.names.lookup x=some .cell
def Look(env:Env)(h:Heap)(m:A5)(x:Str)(u:Value):Prop :=
 (env.kindOf x=some .local/\m x=some u)\/((env.kindOf x=some .cell\/env.kindOf x=some .free)/\∃ c,env.cells.lookup x=some c/\h.IsCell c (some u))
structure Cx.Ok(X:Cx):Prop where
 mod:Mod X.K X.mg X.base
 kind:X.env.scope.kind=.function
 glob:X.env.globals=mainGlobals
 blt:X.env.builtins=builtinsNs
 above:X.s₀.heap.objs.size<=X.env.locals
 inj:∀ x y c,X.env.cells.lookup x=some c->X.env.cells.lookup y=some c->x=y
 has:∀ x,(X.env.kindOf x=some .cell\/X.env.kindOf x=some .free)->∃ c,X.env.cells.lookup x=some c
 cab:∀ x c,X.fn x=true->X.env.cells.lookup x=some c->X.s₀.heap.objs.size<=c
 hd:X.calm=true->X.A.handled=none
 frames:X.A.frames=some X.stack
 stk:X.stack=X.outer\/(X.stack=X.env::X.outer/\X.env.frame=some X.env.locals)
 exf:∀ b∈X.ex,b≠X.env.locals/\∀ x c,X.env.cells.lookup x=some c->c≠b
 bs:∀ b o,X.base.get? b=some o->X.s₀.heap.get? b=some o/\X.H₀ b=none
 bsz:X.base.objs.size<=X.s₀.heap.objs.size
 t9:∀ b o,X.base.get? b=some o->b∉X.ex
 tj:∀ b∈X.ex,b∉X.fs
 lI:X.s₀.heap.FunFrames X.base X.outer
 frf:∀ b∈X.fs,X.H₀ b=none
structure Inv(X:Cx)(pins:A7)(σ:List (Option V))(H:Hp)(s:Shared):Prop where
 ok:X.Ok
 os:s.os=X.s₀.os
 bare:AllBare s.gens
 base:Un X.fs X.ex X.H₀ H X.s₀.heap s.heap
 loc:∃ m,s.heap.Ns X.env.locals m/\∀ (i:Nat) (x:Str) (v:V),X.N[i]?=some x->σ[i]?=some (some v)->Vis X.env.scope x->∃ u,RelV v u/\Look X.env s.heap m x u
 cell:∀ x c,X.env.cells.lookup x=some c->∃ v,s.heap.IsCell c v
 free:H X.env.locals=none
 kT:∀ x c,X.env.cells.lookup x=some c->H c=none
 pin:∀ p∈X.pn++pins,s.heap.get? p.1=some p.2/\H p.1=none/\p.1≠X.env.locals/\p.1∉X.fs/\∀ v,p.2.data≠.cell v
 hok:HOk X.prog X.w H s.heap
 len:σ.length=X.N.length
section
variable{X:Cx}{pins:A7}{σ:List (Option V)}{H H':Hp}{s:AE}{h':AO}
theorem Cx.Ok.nofr(ok:X.Ok)(e:X.base.get? b=some o):b∉X.fs:=λhb=>by
 have:=(ok.lI.mem hb).1;rw[e]at this;cases this
theorem Inv.bs(I:Inv X pins σ H s):∀ b o,X.base.get? b=some o->s.heap.get? b=some o/\H b=none:=λb o e =>
 ⟨I.base.keep b o (I.ok.bs b o e).1 (I.ok.bs b o e).2 (I.ok.nofr e) (I.ok.t9 b o e),I.base.free b o (I.ok.bs b o e).1 (I.ok.bs b o e).2 (I.ok.t9 b o e)⟩
theorem Inv.bk(I:Inv X pins σ H s):∀ b o,X.base.get? b=some o->s.heap.get? b=some o:=λb o e=>(I.bs b o e).1
theorem Inv.mod(I:Inv X pins σ H s):Mod X.K X.mg X.base:=I.ok.mod
theorem Inv.kIn(I:Inv X pins σ H s):X.K.In s.heap:=I.ok.mod.kin.keeps I.bk
theorem Inv.lt(I:Inv X pins σ H s):X.env.locals<s.heap.objs.size:=let ⟨_,hn,_⟩:=I.loc;hn.lt
theorem Inv.sz(I:Inv X pins σ H s):X.s₀.heap.objs.size<=s.heap.objs.size:=zap I.ok.above (ye5 I.lt)
theorem Inv.nofs(I:Inv X pins σ H s)(h:s.heap.objs.size<=a):a∉X.fs:=λhb=>by
 obtain⟨_,o,ho,_⟩:=I.ok.lI.mem hb;exact absurd (zaq (yaj ho) (zap I.sz h)) (zbh _)
theorem Inv.cne(I:Inv X pins σ H s):∀ x c,X.env.cells.lookup x=some c->c≠X.env.locals:=λx c e z=>by
 obtain⟨v,o,ho,hd⟩:=I.cell x c e;obtain⟨m,⟨o',es,ep,ho',hd',_⟩,_⟩:=I.loc;rw[z,ho']at ho;cases ho;rw[hd']at hd;cases hd
theorem Inv.lI(I:Inv X pins σ H s):s.heap.FunFrames X.base X.outer:=by
 have all:∀ (l:AS),(∀ b∈frs l,b∈X.fs)->X.s₀.heap.FunFrames X.base l->s.heap.FunFrames X.base l:=by
  intro l
  induction l with
  | nil=>intro _ _;trivial
  | cons env r ih =>
   intro hs hl;obtain⟨hk,⟨L,o,hf,hn,ho,hd⟩,hr⟩:=hl;have hL:L∈X.fs:=hs L (by unfold frs;rw[yeb,hf];exact za1);obtain⟨sl,e⟩:=I.base.slot L o ho (I.ok.frf L hL) hL λz=>I.ok.tj L z hL
   exact⟨hk,⟨L,_,hf,hn,e,hd⟩,ih (λb hb=>hs b (by unfold frs;rw[yeb,hf];exact za3 _ hb)) hr⟩
 exact all X.outer (λ_ hb=>hb) I.ok.lI
theorem Inv.stack(I:Inv X pins σ H s):s.heap.FunFrames X.base X.stack:=by
 rcases I.ok.stk with e | ⟨e,hf⟩
 ·rw[e];exact I.lI
 ·rw[e]
  obtain⟨m,hn,_⟩:=I.loc;refine .cons (by rw[I.ok.kind];decide) hf hn ?_ I.lI;exact Heap.get?_none_of_le (zap I.ok.bsz I.ok.above)
theorem Inv.pP(I:Inv X pins σ H s):∀ b∈frs X.stack,b∈X.env.locals::X.fs:=λb hb=>by
 rcases I.ok.stk with e | ⟨e,hf⟩
 ·rw[e]at hb;exact za3 _ hb
 ·rw[e]at hb
  unfold frs at hb;rw[yeb,hf]at hb;exact hb
theorem Inv.lJ(I:Inv X pins σ H s):∀ b∈frs X.stack,H b=none:=λb hb=>by
 rcases za0.mp (I.pP b hb) with e | hb
 ·rw[e];exact I.free
 ·obtain⟨_,o,ho,_⟩:=I.ok.lI.mem hb
  exact I.base.free b o ho (I.ok.frf b hb) λz=>I.ok.tj b z hb
theorem Inv.step{g':Array GenState}{t':Nat}{d':Drawn}{ch:AM}(I:Inv X pins σ H s)
  (hch:∀ b∈ch,(b∈X.ex\/X.s₀.heap.objs.size<=b)/\b≠X.env.locals/\(∀ x c,X.env.cells.lookup x=some c->c≠b)/\∀ p∈X.pn++pins,p.1≠b)
  (keep:∀ b o,b≠X.env.locals->b∉X.fs->b∉ch->s.heap.get? b=some o->H b=none->h'.get? b=some o)
  (slot:∀ b o,b≠X.env.locals->b∈X.fs->b∉ch->s.heap.get? b=some o->H b=none->∃ sl,h'.get? b=some { o with slots:=sl }) (free:∀ b o,b∉ch->s.heap.get? b=some o->H b=none->H' b=none)
  (there:∀ b o,b∉ch->s.heap.get? b=some o->∃ o',h'.get? b=some o')
  (lA:∀ b xs,H b=some (.tup xs)->H' b=some (.tup xs)) (lq:∀ b o u,H b=some (.frz o u)->H' b=some (.frz o u)) (lC:∀ b ps,H b=some (.tbl ps)->∃ more,H' b=some (.tbl (ps++more)))
  (ns:∀ m,s.heap.Ns X.env.locals m->h'.Ns X.env.locals m) (hok:HOk X.prog X.w H' h') (hg:AllBare g') :
  Inv X pins σ H' { s with heap:=h',gens:=g',drawn:=d',toks:=t' }:=by
 have neL:∀ b o,X.s₀.heap.get? b=some o->b≠X.env.locals:=λb o e=>zai (zaq (yaj e) I.ok.above)
 have neC:∀ b o,X.s₀.heap.get? b=some o->b∉X.ex->b∉ch:=λb o e hx hb=>by
  rcases(hch b hb).1 with z | z
  ·exact hx z
  ·exact absurd (zaq (yaj e) z) (zbh _)
 have cellK:∀ x c,X.env.cells.lookup x=some c->∀ v,s.heap.IsCell c v->h'.IsCell c v:=λx c e v ⟨o,ho,hd⟩=>by
  have nch:c∉ch:=λz=>(hch c z).2.2.1 x c e rfl
  by_cases hc:c∈X.fs
  ·obtain⟨sl,q⟩:=slot c o (I.cne x c e) hc nch ho (I.kT x c e)
   exact⟨_,q,hd⟩
  ·exact⟨o,keep c o (I.cne x c e) hc nch ho (I.kT x c e),hd⟩
 refine⟨I.ok,I.os,hg,⟨λb o e n hb hx=>?_,λb o e n hb hx=>?_,λb o e n hx=>?_,λb o e hx=>?_,λb xs e=>lA b xs (I.base.lA b xs e),λb o xs e=>lq b o xs (I.base.lq b o xs e),λb ps e=>?_⟩,?_,λx c e=>?_,?_,λx c e=>?_,λp hp=>?_,hok,I.len⟩
 ·exact keep b o (neL b o e) hb (neC b o e hx) (I.base.keep b o e n hb hx) (I.base.free b o e n hx)
 ·obtain⟨sl,e1⟩:=I.base.slot b o e n hb hx
  obtain⟨sl',e2⟩:=slot b _ (neL b o e) hb (neC b o e hx) e1 (I.base.free b o e n hx);exact⟨sl',e2⟩
 ·obtain⟨o',e1⟩:=I.base.there b o e hx
  exact free b o' (neC b o e hx) e1 (I.base.free b o e n hx)
 ·obtain⟨o',e1⟩:=I.base.there b o e hx
  exact there b o' (neC b o e hx) e1
 ·obtain⟨m1,e1⟩:=I.base.lC b ps e
  obtain⟨m2,e2⟩:=lC b _ e1;exact⟨m1++m2,by rw[e2,Array.append_assoc]⟩
 ·obtain⟨m,hn,hl⟩:=I.loc
  refine⟨m,ns m hn,λi x v e1 e2 e3=>?_⟩;obtain⟨u,r,l⟩:=hl i x v e1 e2 e3;refine⟨u,r,?_⟩;rcases l with l | ⟨k,c,e,z⟩
  ·exact .inl l
  ·exact .inr ⟨k,c,e,cellK x c e _ z⟩
 ·obtain⟨v,z⟩:=I.cell x c e
  exact⟨v,cellK x c e v z⟩
 ·obtain⟨m,⟨o,_,_,ho,_⟩,_⟩:=I.loc
  exact free _ o (λz=>(hch _ z).2.1 rfl) ho I.free
 ·obtain⟨v,o,ho,hd⟩:=I.cell x c e
  exact free c o (λz=>(hch c z).2.2.1 x c e rfl) ho (I.kT x c e)
 ·obtain⟨e,n,ne,nf,d⟩:=I.pin p hp
  have nch:p.1∉ch:=λz=>(hch p.1 z).2.2.2 p hp rfl
  exact⟨keep p.1 p.2 ne nf nch e n,free p.1 p.2 nch e n,ne,nf,d⟩
theorem Inv.un{t':Nat}(I:Inv X pins σ H s)(u:Un X.fs [] H H' s.heap h')(hok:HOk X.prog X.w H' h'):Inv X pins σ H' { s with heap:=h',toks:=t' }:=by
 obtain⟨m,⟨o,es,ep,ho,r⟩,_⟩:=id I.loc;obtain⟨sl,hL⟩:=u.any ho I.free (by simp);exact I.step (g':=s.gens) (d':=s.drawn) (ch:=[]) (λ_ z=>nomatch z) (λb o _ hb _ e n=>u.keep b o e n hb (by simp)) (λb o _ hb _ e n=>u.slot b o e n hb (by simp)) (λb o _ e n=>u.free b o e n (by simp)) (λb o _ e=>u.there b o e (by simp)) u.lA u.lq u.lC (λm' hm=>by
  obtain⟨o',es',ep',ho',r'⟩:=hm;rw[ho]at ho';cases ho';exact⟨_,es',ep',hL,r'⟩) hok I.bare
theorem Inv.call{g':Array GenState}{t':Nat}{d':Drawn}{ch:AM}(I:Inv X pins σ H s)(u:Un (frs X.stack) ch H H' s.heap h')(hok:HOk X.prog X.w H' h')(hg:AllBare g')
  (hch:∀ b∈ch,(b∈X.ex\/X.s₀.heap.objs.size<=b)/\b≠X.env.locals/\(∀ x c,X.env.cells.lookup x=some c->c≠b)/\∀ p∈X.pn++pins,p.1≠b) :
  Inv X pins σ H' { s with heap:=h',gens:=g',drawn:=d',toks:=t' }:=by
 obtain⟨m,⟨o,es,ep,ho,r⟩,_⟩:=id I.loc;obtain⟨sl,hL⟩:=u.any ho I.free λz=>(hch _ z).2.1 rfl
 exact I.step (ch:=ch) hch (λb o hL hb hc e n=>u.keep b o e n (λz=>(za0.mp (I.pP b z)).elim hL hb) hc) (λb o _ _ hc e n=>u.any e n hc) (λb o hc e n=>u.free b o e n hc) (λb o hc e=>u.there b o e hc) u.lA u.lq u.lC (λm' hm=>by
  obtain⟨o',es',ep',ho',r'⟩:=hm;rw[ho]at ho';cases ho';exact⟨_,es',ep',hL,r'⟩) hok hg
theorem Inv.turned{t':Nat}{it:AA}(I:Inv X pins σ H s)(k:∀ b o,b≠it->s.heap.get? b=some o->h'.get? b=some o)(hn:H it=none)(hL:it≠X.env.locals)
  (h1:it∈X.ex\/X.s₀.heap.objs.size<=it) (h2:∀ x c,X.env.cells.lookup x=some c->c≠it) (h3:∀ p∈X.pn++pins,p.1≠it):Inv X pins σ H { s with heap:=h',toks:=t' }:=by
 have nit:∀ b u,H b=some u->b≠it:=λb u e z=>by rw[z,hn]at e;cases e
 refine I.step (g':=s.gens) (d':=s.drawn) (ch:=[it]) (λb hb=>?_) (λb o _ _ hc e _=>k b o (λz=>hc (by simp[z])) e) (λb o _ _ hc e _=>⟨o.slots,k b o (λz=>hc (by simp[z])) e⟩) (λ_ _ _ _ n=>n)
  (λb o hc e=>⟨o,k b o (λz=>hc (by simp[z])) e⟩) (λ_ _ e=>e) (λ_ _ _ e=>e) (λb ps e=>⟨#[],by rw[e];simp⟩) (λm hm=>?_) (λb u e=>?_) I.bare
 ·have e:b=it:=by simpa using hb
  subst e;exact⟨h1,hL,h2,h3⟩
 ·obtain⟨o,es,ep,ho,r⟩:=hm
  exact⟨o,es,ep,k _ o (yav hL) ho,r⟩
 ·refine(I.hok b u e).lZ (λc v hc q=>k c v ?_ q) (λ_ q=>q) λ_ _ q=>q
  rcases hc with z | z
  ·rw[z];exact nit b u e
  ·exact nit c _ z
theorem Inv.tok(I:Inv X pins σ H s)(t:Nat):Inv X pins σ H { s with toks:=t }:=I.un (h':=s.heap) (t':=t) Un.refl I.hok
theorem Inv.kept(I:Inv X pins σ H s)(k:∀ b u,s.heap.get? b=some u->h'.get? b=some u):Inv X pins σ H { s with heap:=h',toks:=t' }:=I.un (Un.kept k) (I.hok.kept k)
theorem Inv.laid(I:Inv X pins σ H s)(k:∀ b u,s.heap.get? b=some u->h'.get? b=some u)(hp:s.heap.objs.size<=a)(new:bf X.prog X.w (upd H a o) h' a o) :
  Inv X pins σ (upd H a o) { s with heap:=h',toks:=t' }:=I.un (Un.laid k hp (I.hok.fresh hp)) (I.hok.laid k hp new)
theorem Inv.write{x:AA}(I:Inv X pins σ H s)(mu:Mut (H x))(he:e=x\/H e=some (.own x))(k:∀ b u,b≠e->s.heap.get? b=some u->h'.get? b=some u)(heo:∃ u,h'.get? e=some u)
  (new:bf X.prog X.w (upd H x o) h' x o):Inv X pins σ (upd H x o) { s with heap:=h',toks:=t' }:=I.un (Un.write mu he k heo) (I.hok.write mu he k heo new)
theorem Inv.uV(I:Inv X pins σ H s)(h:∀ p∈pins',s.heap.get? p.1=some p.2/\H p.1=none/\p.1≠X.env.locals/\p.1∉X.fs/\∀ v,p.2.data≠.cell v):Inv X pins' σ H s :=
 ⟨I.ok,I.os,I.bare,I.base,I.loc,I.cell,I.free,I.kT,λp hp=>(zaj.mp hp).elim (λz=>I.pin p (zbk _ z)) (h p),I.hok,I.len⟩
theorem m9{N:AH}(hN:N.Nodup){i:Nat}(a:N[i]?=some x)(b:N[j]?=some x):i=j:=by
 obtain⟨h1,e1⟩:=zaf.mp a;obtain⟨h2,e2⟩:=zaf.mp b;exact(List.getElem_inj hN).mp (e1.trans e2.symm)
theorem x5{Q:A0}(I:Inv X pins σ H s)(hN:X.N.Nodup)(hi:X.N[i]?=some x)(hx:Loc X.env.scope x)(r:RelV v u)
  (h:∀ s',Inv X pins (σ.set i (some v)) H s'->(∃ a,Heap.SameBut a s.heap s'.heap/\(a=X.env.locals\/X.env.cells.lookup x=some a))->Q () s') (hf:X.fn x=true\/X.env.scope.names.lookup x=some .local:=by first | exact .inl rfl | exact .inr rfl | assumption):wpAny M A (storeName X.env x u) Q E s:=by
 obtain⟨m,hn,hl⟩:=id I.loc;have hcls:(X.env.scope.kind==.class||(X.env.scope.kind==.module&&X.env.locals !=X.env.globals))=false:=by rw[I.ok.kind];rfl
 have hiσ:i < σ.length:=by rw[I.len];exact(zaf.mp hi).1
 have cne:=I.cne;have tracked:∀ {a:AA} {h':AO},(∃ o,s.heap.get? a=some o/\H a=none)->Heap.SameBut a s.heap h'->HOk X.prog X.w H h':=fun {a h'} ha hs b ob e=>by
  obtain⟨_,_,hfree⟩:=ha;refine(I.hok b ob e).lZ (λc w' hc q=>(hs.2 c ?_).trans q) (λ_ q=>q) λ_ _ q=>q
  rintro rfl;rcases hc with rfl | hc
  ·rw[hfree]at e;cases e
  ·rw[hfree]at hc;cases hc
 rcases hx with hk | hk
 ·refine wpAny_storeName_local hk hn (λh' hn' hs=>?_) hcls
  obtain⟨oL,_,_,hoL,_⟩:=id hn;refine h _ ⟨I.ok,I.os,I.bare,⟨λb o e n hb hx=>?_,λb o e n hb hx=>?_,I.base.free,λb o e hx=>?_,I.base.lA,I.base.lq,I.base.lC⟩,⟨_,hn',λj y v' e1 e2 e3=>?_⟩,λy c e=>?_,I.free,I.kT,λp hp=>?_,tracked ⟨oL,hoL,I.free⟩ hs,by simpa using I.len⟩ ⟨_,hs,.inl rfl⟩
  ·exact(hs.2 b (zai (zaq (yaj e) I.ok.above))).trans (I.base.keep b o e n hb hx)
  ·obtain⟨sl,e1⟩:=I.base.slot b o e n hb hx
   exact⟨sl,(hs.2 b (zai (zaq (yaj e) I.ok.above))).trans e1⟩
  ·obtain⟨o',e1⟩:=I.base.there b o e hx
   exact⟨o',(hs.2 b (zai (zaq (yaj e) I.ok.above))).trans e1⟩
  ·by_cases hj:j=i
   ·subst hj
    rw[hi]at e1;cases e1;rw[ycp hiσ]at e2;cases e2;exact⟨u,r,.inl ⟨hk,by simp⟩⟩
   ·rw[ye6 (yav hj)]at e2
    obtain⟨u',r',q⟩:=hl j y v' e1 e2 e3;refine⟨u',r',?_⟩;rcases q with ⟨k,e⟩ | ⟨k,c,e,z⟩
    ·refine .inl ⟨k,?_⟩
     have:y≠x:=λe=>hj (m9 hN e1 (e▸hi))
     simp[this,e]
    ·exact .inr ⟨k,c,e,z.sameBut hs (cne y c e)⟩
  ·obtain⟨w',z⟩:=I.cell y c e
   exact⟨w',z.sameBut hs (cne y c e)⟩
  ·obtain⟨e,n,ne,nf,d⟩:=I.pin p hp
   exact⟨(hs.2 p.1 ne).trans e,n,ne,nf,d⟩
 ·have hfn:X.fn x=true:=by
   rcases hf with z | z
   ·exact z
   ·rw[z]at hk;cases hk
  obtain⟨c,hc⟩:=I.ok.has x (.inl hk);obtain⟨w',z⟩:=I.cell x c hc;refine wpAny_storeName_cell I.ok.kind hk hc z (λh' hc' hs=>?_);obtain⟨oc,hoc,hocd⟩:=id z;refine h { s with heap:=h' } ⟨I.ok,I.os,I.bare,⟨λb o e n hb hx=>?_,λb o e n hb hx=>?_,I.base.free,λb o e hx=>?_,I.base.lA,I.base.lq,I.base.lC⟩,⟨m,hn.sameBut hs (yav (cne x c hc)),λj y v' e1 e2 e3=>?_⟩,λy c' e=>?_,I.free,I.kT,λp hp=>?_,tracked ⟨oc,hoc,I.kT x c hc⟩ hs,by simpa using I.len⟩ ⟨c,hs,.inr hc⟩
  ·exact(hs.2 b (zai (zaq (yaj e) (I.ok.cab x c hfn hc)))).trans (I.base.keep b o e n hb hx)
  ·obtain⟨sl,e1⟩:=I.base.slot b o e n hb hx
   exact⟨sl,(hs.2 b (zai (zaq (yaj e) (I.ok.cab x c hfn hc)))).trans e1⟩
  ·obtain⟨o',e1⟩:=I.base.there b o e hx
   exact⟨o',(hs.2 b (zai (zaq (yaj e) (I.ok.cab x c hfn hc)))).trans e1⟩
  ·by_cases hj:j=i
   ·subst hj
    rw[hi]at e1;cases e1;rw[ycp hiσ]at e2;cases e2;exact⟨u,r,.inr ⟨.inl hk,c,hc,hc'⟩⟩
   ·rw[ye6 (yav hj)]at e2
    obtain⟨u',r',q⟩:=hl j y v' e1 e2 e3;refine⟨u',r',?_⟩;rcases q with q | ⟨k,c',e,z'⟩
    ·exact .inl q
    ·refine .inr ⟨k,c',e,z'.sameBut hs ?_⟩
     rintro rfl;exact hj (m9 hN e1 (I.ok.inj _ _ _ e hc▸hi))
  ·by_cases hcc:c'=c
   ·subst hcc;exact⟨_,hc'⟩
   ·obtain⟨w2,z2⟩:=I.cell y c' e
    exact⟨w2,z2.sameBut hs hcc⟩
  ·obtain⟨e,n,ne,nf,d⟩:=I.pin p hp
   refine⟨(hs.2 p.1 ?_).trans e,n,ne,nf,d⟩;intro q;rw[q,hoc]at e;have q':oc=p.2:=yat e;exact d w' (by rw[<- q'];exact hocd)
theorem fq{Q:A0}(I:Inv X pins σ H s)(hN:X.N.Nodup)(hi:X.N[i]?=some x)(hx:Loc X.env.scope x)(r:RelV v u)
  (h:∀ s',Inv X pins (σ.set i (some v)) H s'->Q () s') (hf:X.fn x=true\/X.env.scope.names.lookup x=some .local:=by first | exact .inl rfl | exact .inr rfl | assumption):wpAny M A (storeName X.env x u) Q E s :=
 x5 I hN hi hx r (λs' I' _=>h s' I') hf
theorem Inv.yC{s':AE}(I:Inv X pins σ H s)(ho:s'.os=s.os)(u:Un (frs X.stack) ch H H' s.heap s'.heap)(hok:HOk X.prog X.w H' s'.heap)(hg:AllBare s'.gens)
  (hch:∀ b∈ch,(b∈X.ex\/X.s₀.heap.objs.size<=b)/\b≠X.env.locals/\(∀ x c,X.env.cells.lookup x=some c->c≠b)/\∀ p∈X.pn++pins,p.1≠b):Inv X pins σ H' s':=by
 obtain⟨h',g',d',t',o'⟩:=s';have e:o'=s.os:=ho;subst e;exact I.call (g':=g') (t':=t') (d':=d') u hok hg hch
end
abbrev XK:=Value->Option Addr->Hp->Prop
abbrev St:=List (Option V)
abbrev VK:=V->Hp->Prop
abbrev TE:=St->Hp->VK->Prop
abbrev TT:=St->Hp->(Bool->Hp->Prop)->Prop
abbrev TA:=St->Hp->(List V->Hp->Prop)->Prop
structure Ends where
 nx:St->Hp->Prop
 rt:VK
 bk:St->Hp->Prop:=λ_ _=>False
 ct:St->Hp->Prop:=λ_ _=>False
abbrev TS:=Ends->St->Hp->Prop
def EP(X:Cx)(pins:A7)(σ:St)(Q:VK)(u:Value)(s':Shared):Prop:=∃ v H',Inv X pins σ H' s'/\RelV v u/\Q v H'
def TP(X:Cx)(pins:A7)(σ:St)(Q:Bool->Hp->Prop)(b:Bool)(s':Shared):Prop:=∃ H',Inv X pins σ H' s'/\Q b H'
def AP(X:Cx)(pins:A7)(σ:St)(Q:List V->Hp->Prop)(us:List Value)(s':Shared):Prop:=∃ vs H',Inv X pins σ H' s'/\kh vs us/\Q vs H'
def SP(X:Cx)(pins:A7)(D:Ends)(f:Flow)(s':Shared):Prop :=
 match f with
 | .next=>∃ σ' H',Inv X pins σ' H' s'/\D.nx σ' H'
 | .brk=>∃ σ' H',Inv X pins σ' H' s'/\D.bk σ' H'
 | .cont=>∃ σ' H',Inv X pins σ' H' s'/\D.ct σ' H'
 | .ret u=>∃ v σ' H',Inv X pins σ' H' s'/\RelV v u/\D.rt v H'
def PE(X:Cx)(e:Expr)(t:TE):Prop :=
 ∀ (pins:A7) (s:Shared) (σ:St) (H:Hp) (Q:VK),Inv X pins σ H s->t σ H Q->wpAny (model X.prog X.w) X.A (eval e X.env) (EP X pins σ Q) X.xe s
def PT(X:Cx)(e:Expr)(t:TT):Prop :=
 ∀ (pins:A7) (s:Shared) (σ:St) (H:Hp) (Q:Bool->Hp->Prop),Inv X pins σ H s->t σ H Q->wpAny (model X.prog X.w) X.A (isTrue e X.env (eval e X.env)) (TP X pins σ Q) X.xe s
def PW(X:Cx)(e:Expr)(t:TT):Prop :=
 ∀ (whole:Sem Value) (pins:A7) (s:Shared) (σ:St) (H:Hp) (Q:Bool->Hp->Prop),Inv X pins σ H s->t σ H Q->wpAny (model X.prog X.w) X.A (isTrue e X.env whole) (TP X pins σ Q) X.xe s
theorem PW.pt(h:PW X e t):PT X e t:=h _
def PA(X:Cx)(es:List Expr)(t:TA):Prop :=
 ∀ (pos:Pos) (pins:A7) (s:Shared) (σ:St) (H:Hp) (Q:List V->Hp->Prop),Inv X pins σ H s->t σ H Q->wpAny (model X.prog X.w) X.A (spliced (backTo pos (starEach es X.env))) (AP X pins σ Q) X.xe s
def PS(X:Cx)(st:Stmt)(t:TS):Prop :=
 ∀ (pins:A7) (s:Shared) (σ:St) (H:Hp) (D:Ends),Inv X pins σ H s->t D σ H->wpAny (model X.prog X.w) X.A (exec st X.env) (SP X pins D) X.xe s
def PSs(X:Cx)(st:List Stmt)(t:TS):Prop :=
 ∀ (pins:A7) (s:Shared) (σ:St) (H:Hp) (D:Ends),Inv X pins σ H s->t D σ H->wpAny (model X.prog X.w) X.A (execs st X.env) (SP X pins D) X.xe s
theorem thn{Q Q':α->Shared->Prop}(h:wpAny M A t Q E s)(hQ:∀ a s,Q a s->Q' a s):wpAny M A t Q' E s:=yb8 h hQ λ_ _ x=>x
section
variable{X:Cx}
def yD(i:Nat):TE:=λσ H Q=>∃ v,σ[i]?=some (some v)/\Q v H
def tC(v:V):TE:=λ_ H Q=>Q v H
theorem ES(hN:X.N[i]?=some x)(hv:Vis X.env.scope x)(hd:(x==("__debug__":AL))=false:=by decide)(hcd:(x==("__classdict__":AL))=false:=by decide):PE X (.Name x pos) (yD i):=by
 intro pins s σ H Q I h;obtain⟨v,e,h⟩:=h;obtain⟨m,hn,hl⟩:=I.loc;obtain⟨u,r,l⟩:=hl i x v hN e hv;have fin:EP X pins σ Q u s:=⟨v,H,I,r,h⟩;rcases l with ⟨hk,hm⟩ | ⟨hk,c,hc,hcell⟩
 ·exact wpAny_Name (wpAny_loadName_local I.ok.kind hk hn hm fin) hd
 ·rcases hk with hk | hk
  ·exact wpAny_Name (wpAny_loadName_cell I.ok.kind hk hc hcell fin) hd
  ·exact wpAny_Name (wpAny_loadName_free I.ok.kind hk hc hcell fin hcd) hd
theorem ad{i j pos}:PE X (.Constant (.int i) j pos) (tC (.int i)):=λ_ _ _ H _ I h=>wpAny_Constant_int ⟨.int i,H,I.tok _,⟨_,rfl⟩,h⟩
theorem jF{b j pos}:PE X (.Constant (.bool b) j pos) (tC (.bl b)):=λ_ _ _ H _ I h=>Constant_bool ⟨.bl b,H,I,rfl,h⟩
theorem tz{j pos}:PE X (.Constant .none j pos) (tC .non):=λ_ _ _ H _ I h=>Constant_none ⟨.non,H,I,rfl,h⟩
theorem ag{x j pos}:PE X (.Constant (.str x) j pos) (tC (.str x)):=λ_ _ _ H _ I h=>Calls.Constant_str ⟨.str x,H,I.tok _,⟨_,rfl⟩,h⟩
def Gl(X:Cx)(x:Str):Prop:=X.env.kindOf x=some .globalImplicit
theorem fb{Q:A9}(I:Inv X pins σ H s)(hg:Gl X x)(hm:X.mg x=some u)(h:Q u s)
  (hd:(x==("__debug__":AL))=false:=by decide):wpAny (model X.prog X.w) X.A (eval (.Name x pos) X.env) Q E s :=
 Calls.Name_function_global I.ok.kind hg (Calls.loadGlobal_global (by rw[I.ok.glob];exact I.mod.glob.keeps I.bk) hm h) hd
theorem iA{Q:A9}(I:Inv X pins σ H s)(hg:Gl X x)(hm:X.mg x=none)(hv:bootBuiltins x=some u)(h:Q u s)
  (hn:x≠"__name__":=by decide) (hd:(x==("__debug__":AL))=false:=by decide):wpAny (model X.prog X.w) X.A (eval (.Name x pos) X.env) Q E s:=by
 obtain⟨mb,h1,h2⟩:=I.mod.blt;exact Calls.Name_function_global I.ok.kind hg (Calls.loadGlobal_builtin (by rw[I.ok.glob];exact I.mod.glob.keeps I.bk) hm (by rw[I.ok.blt];exact h1.keeps I.bk) ((h2 x hn).trans hv) h) hd
theorem aP(hg:Gl X x)(hm:X.mg x=some u)(r:RelV v u)(hd:(x==("__debug__":AL))=false:=by decide):PE X (.Name x pos) (tC v) :=
 λ_ _ _ H _ I h=>fb I hg hm ⟨v,H,I,r,h⟩ hd
theorem cr(hg:Gl X x)(hm:X.mg x=none)(hv:bootBuiltins x=some u)(r:RelV v u)(hn:x≠"__name__":=by decide)(hd:(x==("__debug__":AL))=false:=by decide):PE X (.Name x pos) (tC v) :=
 λ_ _ _ H _ I h=>iA I hg hm hv ⟨v,H,I,r,h⟩ hn hd
variable{a b:AX}{ta tb:TE}{pos:Pos}
def PC(X:Cx)(op:CmpOp)(a b:Expr)(t:TE):Prop :=
 ∀ (pins:A7) (s:Shared) (σ:St) (H:Hp) (Q:VK),Inv X pins σ H s->t σ H Q ->
  wpAny (model X.prog X.w) X.A (eval a X.env) (λv s₁=>wpAny (model X.prog X.w) X.A (eval b X.env) (λu s₂=>wpAny (model X.prog X.w) X.A (compareOp op v u) (EP X pins σ Q) X.xe s₂) X.xe s₁) X.xe s
def tB(t:TE):TT:=λσ H Q=>t σ H λx H1=>∃ c,x=.bl c/\Q c H1
theorem ET(h:PC X op a b t)(h1:behindInMarks op b=false:=by first | exact nobehind _ (by decide) (by decide) | rfl):PE X (.Compare a [op] [b] pos) t:=λpins s σ H Q I hw=>wpAny_Compare1 (h pins s σ H Q I hw) h1
theorem EU(h:PC X op a b t)(h1:behindInMarks op b=false:=by first | exact nobehind _ (by decide) (by decide) | rfl):PT X (.Compare a [op] [b] pos) (tB t):=by
 intro pins s σ H Q I hw;refine wpAny_isTrue_Compare1 (thn (h pins s σ H _ I hw) λv s1 h1=>thn h1 λu s2 h2=>thn h2 λc s3 zz1=>?_) h1;obtain⟨x,H1,I1,r1,q1⟩:=zz1;obtain⟨d,rfl,q⟩:=q1;cases r1;exact yb9 ⟨H1,I1,q⟩
theorem bq{e:AX}(h:PE X e t)(he:∀ whole,isTrue e X.env whole=(do let v <- whole;standAt e.pos;holding [v] (truthy v)):=by intro _;rfl):PT X e (tB t):=by
 intro pins s σ H Q I hw;refine isTrue_plain (thn (h pins s σ H _ I hw) λv s1 zz1=>?_) (he _);obtain⟨x,H1,I1,r1,q1⟩:=zz1;obtain⟨d,rfl,q⟩:=q1;cases r1;exact yb9 ⟨H1,I1,q⟩
variable{tA tB':TT}{rest:AQ}
def tAnd(t u:TT):TT:=λσ H Q=>t σ H λc H1=>if c=true then u σ H1 Q else Q false H1
def tOr(t u:TT):TT:=λσ H Q=>t σ H λc H1=>if c=true then Q true H1 else u σ H1 Q
def tNot(t:TT):TT:=λσ H Q=>t σ H λc H1=>Q (!c) H1
theorem cR(ha:PT X a tA):PW X (.BoolOp .And [a] pos) tA:=by
 intro wh pins s σ H Q I h;refine isTrue_and (thn (ha pins s σ H Q I h) λc s1 e=>?_);cases c with
 | true=>exact isTrue_and_nil e
 | false=>exact e
theorem f6(ha:PT X a tA):PW X (.BoolOp .Or [a] pos) tA:=by
 intro wh pins s σ H Q I h;refine isTrue_or (thn (ha pins s σ H Q I h) λc s1 e=>?_);cases c with
 | false=>exact isTrue_or_nil e
 | true=>exact e
theorem df(ha:PT X a tA)(hb:PW X (.BoolOp .And (b::rest) pos) tB'):PW X (.BoolOp .And (a::b::rest) pos) (tAnd tA tB'):=by
 intro wh pins s σ H Q I h;refine isTrue_and (thn (ha pins s σ H _ I h) λc s1 zz1=>?_);obtain⟨H1,I1,q1⟩:=zz1;cases c with
 | true=>exact hb wh pins s1 σ H1 Q I1 q1
 | false=>exact⟨H1,I1,q1⟩
theorem dZ(ha:PT X a tA)(hb:PW X (.BoolOp .Or (b::rest) pos) tB'):PW X (.BoolOp .Or (a::b::rest) pos) (tOr tA tB'):=by
 intro wh pins s σ H Q I h;refine isTrue_or (thn (ha pins s σ H _ I h) λc s1 zz1=>?_);obtain⟨H1,I1,q1⟩:=zz1;cases c with
 | true=>exact⟨H1,I1,q1⟩
 | false=>exact hb wh pins s1 σ H1 Q I1 q1
theorem cP(ha:PT X a tA):PT X (.UnaryOp .Not a pos) (tNot tA):=by
 intro pins s σ H Q I h;exact isTrue_not (ha pins s σ H (λc H1=>Q (!c) H1) I h)
def tAndV(ta tb:TE):TE:=λσ H Q=>ta σ H λx H1=>∃ c,x=.bl c/\if c=true then tb σ H1 Q else Q (.bl false) H1
def tOrV(ta tb:TE):TE:=λσ H Q=>ta σ H λx H1=>∃ c,x=.bl c/\if c=true then Q (.bl true) H1 else tb σ H1 Q
def tNotV(ta:TE):TE:=λσ H Q=>ta σ H λx H1=>∃ c,x=.bl c/\Q (.bl (!c)) H1
theorem gn{op}(h:PE X a t):PE X (.BoolOp op [a] pos) t:=λpins s σ H Q I hw=>BoolOp_one (h pins s σ H Q I hw)
theorem iz(ha:PE X a ta)(hb:PE X (.BoolOp .And (b::rest) pos) tb):PE X (.BoolOp .And (a::b::rest) pos) (tAndV ta tb):=by
 intro pins s σ H Q I h;refine BoolOp_and (thn (ha pins s σ H _ I h) λv s1 zz1=>?_);obtain⟨x,H1,I1,r1,q1⟩:=zz1;obtain⟨c,rfl,q1⟩:=q1;cases r1;refine yb9 ?_;cases c with
 | true=>exact hb pins s1 σ H1 Q I1 q1
 | false=>exact⟨.bl false,H1,I1,rfl,q1⟩
theorem Ej(ha:PE X a ta)(hb:PE X (.BoolOp .Or (b::rest) pos) tb):PE X (.BoolOp .Or (a::b::rest) pos) (tOrV ta tb):=by
 intro pins s σ H Q I h;refine BoolOp_or (thn (ha pins s σ H _ I h) λv s1 zz1=>?_);obtain⟨x,H1,I1,r1,q1⟩:=zz1;obtain⟨c,rfl,q1⟩:=q1;cases r1;refine yb9 ?_;cases c with
 | false=>exact hb pins s1 σ H1 Q I1 q1
 | true=>exact⟨.bl true,H1,I1,rfl,q1⟩
theorem EV(ha:PE X a ta):PE X (.UnaryOp .Not a pos) (tNotV ta):=by
 intro pins s σ H Q I h;refine UnaryOp_ (thn (ha pins s σ H _ I h) λv s1 zz1=>?_);obtain⟨x,H1,I1,r1,q1⟩:=zz1;obtain⟨c,rfl,q1⟩:=q1;cases r1;exact not_of (yb9 ⟨.bl (!c),H1,I1,rfl,q1⟩)
def tIf(t:TT)(ta tb:TE):TE:=λσ H Q=>t σ H λc H1=>if c=true then ta σ H1 Q else tb σ H1 Q
theorem eN(hc:PT X c tA)(ha:PE X a ta)(hb:PE X b tb):PE X (.IfExp c a b pos) (tIf tA ta tb):=by
 intro pins s σ H Q I h;refine wpAny_IfExp (thn (hc pins s σ H _ I h) λd s1 zz1=>?_);obtain⟨H1,I1,q1⟩:=zz1;cases d with
 | true=>exact ha pins s1 σ H1 Q I1 q1
 | false=>exact hb pins s1 σ H1 Q I1 q1
end
def SqL(K:A2)(H:Hp)(a:Addr)(xs:List V):Prop :=
 Rd H a (.lst xs) \/
  ∃ (o:Obj) (its:Array Value) (n:Nat),K.lookup a=some o/\o.cls=.type "list"/\o.dict=none/\o.data=.seq its n/\its.size<=sizeLine/\kh xs its.toList
def SqT(K:A2)(H:Hp)(a:Addr)(xs:List V):Prop :=
 Rd H a (.tup xs) \/
  ∃ (o:Obj) (its:Array Value) (n:Nat),K.lookup a=some o/\o.cls=.type "tuple"/\o.data=.seq its n/\its.size<=sizeLine/\kh xs its.toList
def absV:Value->Option V
 | .none=>some .non
 | .bool b=>some (.bl b)
 | .int i _=>some (.int i)
 | .str x _=>some (.str x)
 | .bytes b _=>some (.byt b)
 | .float b _=>some (.flt b)
 | .ref a=>some (.ref a)
 | .type n=>some (.ty n)
 | _=>none
theorem RelV.abs(r:RelV x u):absV u=some x:=by
 cases x with
 | non=>cases r;rfl
 | bl _=>cases r;rfl
 | int _=>obtain⟨t,rfl⟩:=r;rfl
 | str _=>obtain⟨t,rfl⟩:=r;rfl
 | byt _=>obtain⟨t,rfl⟩:=r;rfl
 | flt _=>obtain⟨t,rfl⟩:=r;rfl
 | ref _=>cases r;rfl
 | ty _=>cases r;rfl
theorem RelV.inj{x:V}(r:RelV x u)(q:RelV y u):x=y:=yat (r.abs.symm.trans q.abs)
theorem kh.inj:∀ {xs ys:Ac} {us:AB},kh xs us->kh ys us->xs=ys:=by
 intro xs ys us h
 induction h generalizing ys with
 | nil =>
  intro g;cases g;rfl
 | cons r t ih =>
  intro g;cases g with
  | cons r' t'=>rw[r.inj r',ih t']
section
variable{X:Cx}{pins:A7}{σ:St}{H:Hp}{s:AE}{a:AA}{xs ys:Ac}
theorem SqL.of{K:A2}(h:H a=some (.lst xs)):SqL K H a xs:=.inl (.inl h)
theorem SqT.of{K:A2}(h:H a=some (.tup xs)):SqT K H a xs:=.inl (.inl h)
theorem Inv.list(I:Inv X pins σ H s)(h:SqL X.K H a xs):∃ its:List Value,kh xs its/\PlainL s.heap a its.toArray/\xs.length<=sizeLine:=by
 rcases h with h | ⟨o,its,n,hk,hc,hd,hs,hz,r⟩
 ·obtain⟨z,its,n,r,e⟩:=h.ok I.hok
  exact⟨its,r,⟨_,n,e,rfl,rfl,rfl⟩,z⟩
 ·refine⟨its.toList,r,⟨o,n,I.kIn a o hk,hc,hd,by simpa using hs⟩,?_⟩
  have e:=r.length;simp only[zal]at e
  lia
theorem Inv.tuple(I:Inv X pins σ H s)(h:SqT X.K H a xs):∃ its:List Value,kh xs its/\IsTup s.heap a its.toArray/\xs.length<=sizeLine:=by
 rcases h with h | ⟨o,its,n,hk,hc,hs,hz,r⟩
 ·obtain⟨z,its,r,p⟩:=h.ok I.hok
  exact⟨its,r,p.tup,z⟩
 ·refine⟨its.toList,r,⟨o,I.kIn a o hk,hc,n,by simpa using hs⟩,?_⟩
  have e:=r.length;simp only[zal]at e;omega
theorem Inv.yE(I:Inv X pins σ H s)(h:SqL X.K H a xs)(h':SqL X.K H a ys):xs=ys:=by
 obtain⟨its,r,⟨o,n,e,_,_,d⟩,_⟩:=I.list h;obtain⟨its',r',⟨o',n',e',_,_,d'⟩,_⟩:=I.list h';rw[e]at e';cases e';rw[d]at d';injection d' with d1 _
 have:its=its':=by simpa using ybm Array.toList d1
 subst this;exact r.inj r'
end
abbrev Cx.lK(X:Cx)(E:A9):Cx:={ X with xe:=E }
abbrev Cx.nox(X:Cx):Cx:=X.lK λ_ _=>False
theorem Cx.Ok.lK{X:Cx}(ok:X.Ok)(E:A9):(X.lK E).Ok :=
 ⟨ok.mod,ok.kind,ok.glob,ok.blt,ok.above,ok.inj,ok.has,ok.cab,ok.hd,ok.frames,ok.stk,ok.exf,ok.bs,ok.bsz,ok.t9,ok.tj,ok.lI,ok.frf⟩
theorem Cx.Ok.kM{X:Cx}(ok:(X.lK E).Ok):X.Ok :=
 ⟨ok.mod,ok.kind,ok.glob,ok.blt,ok.above,ok.inj,ok.has,ok.cab,ok.hd,ok.frames,ok.stk,ok.exf,ok.bs,ok.bsz,ok.t9,ok.tj,ok.lI,ok.frf⟩
section
variable{X:Cx}{pins:A7}{σ:St}{H:Hp}{s:AE}{E:A9}
theorem Inv.lK(I:Inv X pins σ H s)(E:A9):Inv (X.lK E) pins σ H s:=⟨I.ok.lK E,I.os,I.bare,I.base,I.loc,I.cell,I.free,I.kT,I.pin,I.hok,I.len⟩
theorem Inv.kM(I:Inv (X.lK E) pins σ H s):Inv X pins σ H s:=⟨I.ok.kM,I.os,I.bare,I.base,I.loc,I.cell,I.free,I.kT,I.pin,I.hok,I.len⟩
theorem SP.kM(h:SP (X.lK E) pins D f s'):SP X pins D f s':=by
 cases f with
 | next=>obtain⟨σ',H',I,q⟩:=h;exact⟨σ',H',I.kM,q⟩
 | brk=>obtain⟨σ',H',I,q⟩:=h;exact⟨σ',H',I.kM,q⟩
 | cont=>obtain⟨σ',H',I,q⟩:=h;exact⟨σ',H',I.kM,q⟩
 | ret u=>obtain⟨v,σ',H',I,r,q⟩:=h;exact⟨v,σ',H',I.kM,r,q⟩
theorem PSs.nox{st:List Stmt}{t:TS}(h:PSs X.nox st t):PSs X st t:=λpins s σ H D I hw =>
 yb8 (h pins s σ H D (I.lK _) hw) (λ_ _ q=>q.kM) λ_ _ z=>False.elim z
end
section
variable{X:Cx}{st:Stmt}{rest:List Stmt}{t u:TS}{e:AX}{te:TE}{pos:Pos}
def tNext:TS:=λD σ H=>D.nx σ H
def tSeq(t u:TS):TS:=λD σ H=>t { D with nx:=u D } σ H
theorem ax:PSs X [] tNext:=λ_ _ σ H _ I h=>yd7 ⟨σ,H,I,h⟩
theorem aa(h1:PS X st t)(h2:PSs X rest u):PSs X (st::rest) (tSeq t u):=by
 intro pins s σ H D I h;refine wpAny_execs_cons (thn (h1 pins s σ H { D with nx:=u D } I h) λf s1 q=>?_);cases f with
 | next =>
  obtain⟨σ',H',I',q⟩:=q;exact h2 pins s1 σ' H' D I' q
 | ret v=>exact q
 | brk=>exact q
 | cont=>exact q
theorem ae(h1:PS X st t):PSs X [st] t:=by
 intro pins s σ H D I h;refine wpAny_execs_cons (thn (h1 pins s σ H D I h) λf s1 q=>?_);cases f with
 | next=>exact yd7 q
 | ret v=>exact q
 | brk=>exact q
 | cont=>exact q
theorem Inv.quiet(I:Inv X pins σ H s):interactive X.env=false:=by simp[interactive,I.ok.kind]
def tDrop(te:TE):TS:=λD σ H=>te σ H λ_ H1=>D.nx σ H1
theorem aR(he:PE X e te)(hs:swapsWith e none pos.line X.env=pure false:=by rfl):PS X (.Expr e pos) (tDrop te):=by
 intro pins s σ H D I h;exact wpAny_Expr_any (thn (he pins s σ H _ I h) λv s1 ⟨x,H1,I1,r1,q1⟩=>⟨σ,H1,I1,q1⟩) I.quiet hs
def tRet(te:TE):TS:=λD σ H=>te σ H D.rt
theorem av(he:PE X e te):PS X (.Return (some e) pos) (tRet te):=by
 intro pins s σ H D I h;exact wpAny_Return_some (thn (he pins s σ H _ I h) λv s1 ⟨x,H1,I1,r1,q1⟩=>⟨x,σ,H1,I1,r1,q1⟩)
def tIfS(c:TT)(t u:TS):TS:=λD σ H=>c σ H λb H1=>if b=true then t D σ H1 else u D σ H1
theorem aK{a:List Stmt}(hc:PT X c tc)(ha:PSs X a t)(hb:PSs X b u):PS X (.If c a b pos) (tIfS tc t u):=by
 intro pins s σ H D I h;refine wpAny_If (thn (hc pins s σ H _ I h) λd s1 zz1=>?_);obtain⟨H1,I1,q1⟩:=zz1;cases d with
 | true=>exact ha pins s1 σ H1 D I1 q1
 | false=>exact hb pins s1 σ H1 D I1 q1
def EW:TS:=λ_ _ _=>False
theorem cF:PS X st EW:=λ_ _ _ _ _ _ h=>h.elim
end
abbrev TG:=V->St->Hp->(St->Hp->Prop)->Prop
abbrev TGs:=List V->St->Hp->(St->Hp->Prop)->Prop
def PG(X:Cx)(target:Expr)(t:TG):Prop :=
 ∀ (pins:A7) (s:Shared) (σ:St) (H:Hp) (v:V) (u:Value) (Q:St->Hp->Prop),Inv X pins σ H s->RelV v u->t v σ H Q ->
  wpAny (model X.prog X.w) X.A (assign target X.env u) (λ_ s'=>∃ σ' H',Inv X pins σ' H' s'/\Q σ' H') X.xe s
def PGs(X:Cx)(ts:List Expr)(t:TGs):Prop :=
 ∀ (pins:A7) (s:Shared) (σ:St) (H:Hp) (vs:List V) (us:List Value) (Q:St->Hp->Prop),Inv X pins σ H s->kh vs us->t vs σ H Q ->
  wpAny (model X.prog X.w) X.A (assignInOrder ((assignEach ts X.env).map (·.2)) us) (λ_ s'=>∃ σ' H',Inv X pins σ' H' s'/\Q σ' H') X.xe s
section
variable{X:Cx}{pos:Pos}
def qW(i:Nat):TG:=λv σ H Q=>Q (σ.set i (some v)) H
theorem aQ(hN:X.N.Nodup)(hi:X.N[i]?=some x)(hx:Loc X.env.scope x)(hf:X.fn x=true\/X.env.scope.names.lookup x=some .local:=by first | exact .inl rfl | exact .inr rfl | assumption):PG X (.Name x pos) (qW i):=by
 intro pins s σ H v u Q I r h;exact wpAny_assign_Name (fq I hN hi hx r (λs' I'=>⟨_,H,I',h⟩) hf)
def gNil:TGs:=λvs σ H Q=>vs=[]/\Q σ H
def gCons(t:TG)(u:TGs):TGs:=λvs σ H Q=>∃ v r,vs=v::r/\t v σ H λσ' H'=>u r σ' H' Q
theorem dq:PGs X [] gNil:=by
 intro pins s σ H vs us Q I r h;obtain⟨e,h⟩:=h;subst e;cases r;exact assignInOrder_nil ⟨σ,H,I,h⟩
theorem ba(h1:PG X e t)(h2:PGs X es u)
  (hs:(assignEach (e::es) X.env).map (·.2)=assign e X.env::(assignEach es X.env).map (·.2):=by rfl):PGs X (e::es) (gCons t u):=by
 intro pins s σ H vs us Q I r h;obtain⟨v,vr,e1,h⟩:=h;subst e1;cases r with
 | cons r rr =>
  rw[hs];refine assignInOrder_cons (thn (h1 pins s σ H _ _ _ I r h) λ_ s1 zz1=>?_);obtain⟨σ1,H1,I1,q1⟩:=zz1;exact h2 pins s1 σ1 H1 _ _ Q I1 rr q1
def gTup(K:A2)(n:Nat)(t:TGs):TG:=λv σ H Q=>∃ a xs,v=.ref a/\SqT K H a xs/\xs.length=n/\t xs σ H Q
theorem gl(hc:X.calm=true)(h:PGs X es t)
  (hn:(assignEach es X.env).length=n:=by rfl) (hst:(assignEach es X.env).findIdx? (·.1)=none:=by rfl):PG X (.Tuple es k pos) (gTup X.K n t):=by
 intro pins s σ H v u Q I r hw;obtain⟨a,xs,e1,hq,hl,hw⟩:=hw;subst e1;cases r;obtain⟨its,rv,ht,hz⟩:=I.tuple hq;refine assign_Tuple_tuple (I.ok.hd hc) ht (by simp[hn,<- hl,rv.length]) hst λh' hx=>?_
 have I1:Inv X pins σ H { s with heap:=h' }:=I.kept (t':=s.toks) λb o e=>hx b o (zai (yaj e)) e
 exact h pins _ σ H xs _ Q I1 (by simpa using rv) hw
def tAsg(te:TE)(g:TG):TS:=λD σ H=>te σ H λx H1=>g x σ H1 D.nx
theorem pQ{tg:AX}(he:PE X e te)(hg:PG X tg g)(hs:swapsWithSole [tg] e pos.line X.env=pure false:=by rfl)(hw:swappedStores [tg] e X.env=pure none:=by rfl)
  (h1:(assignEach [tg] X.env).map (·.2)=[assign tg X.env]:=by rfl):PS X (.Assign [tg] e pos) (tAsg te g):=by
 intro pins s σ H D I h;refine wpAny_Assign_stores (thn (he pins s σ H _ I h) λv s1 zz1=>?_) hs hw;obtain⟨x,H1,I1,r1,q1⟩:=zz1;rw[h1];exact thn (hg pins s1 σ H1 x v _ I1 r1 q1) λ_ s2 q=>q
theorem ay(hN:X.N.Nodup)(hi:X.N[i]?=some x)(hx:Loc X.env.scope x)(he:PE X e te)(hs:swapsWith e (some (.Name x pos')) pos.line X.env=pure false:=by rfl)(hf:X.fn x=true\/X.env.scope.names.lookup x=some .local:=by first | exact .inl rfl | exact .inr rfl | assumption) :
  PS X (.Assign [.Name x pos'] e pos) (tAsg te (qW i)):=by
 intro pins s σ H D I h;refine wpAny_Assign_Name (thn (he pins s σ H _ I h) λv s1 zz1=>?_) hs;obtain⟨y,H1,I1,r1,q1⟩:=zz1;exact fq I1 hN hi hx r1 (λs2 I2=>⟨_,H1,I2,q1⟩) hf
def tPar(i j:Nat)(ta:TA):TS:=λD σ H=>ta σ H λvs H1=>∃ v w,vs=[v,w]/\D.nx ((σ.set i (some v)).set j (some w)) H1
theorem EX{i:Nat}{x:AL}{a:AX}{px:Pos}{kt k2 pt2}(hc:X.calm=true)(hN:X.N.Nodup)(hi:X.N[i]?=some x)(hj:X.N[j]?=some y)(hij:i≠j)
  (hx:X.env.scope.names.lookup x=some .local) (hy:X.env.scope.names.lookup y=some .local) (ha:PA X [a,b] ta)
  (hw:swappedStores [.Tuple [.Name x px,.Name y py] kt pt] (.Tuple [a,b] k2 pt2) X.env=pure (some [x,y]))
  (hs:swapsWithSole [.Tuple [.Name x px,.Name y py] kt pt] (.Tuple [a,b] k2 pt2) pos.line X.env=pure false:=by rfl) :
  PS X (.Assign [.Tuple [.Name x px,.Name y py] kt pt] (.Tuple [a,b] k2 pt2) pos) (tPar i j ta):=by
 intro pins s σ H D I h;rw[exec_Assign_arm];refine ya8 (wpAny_standAt ?_);rw[hs];refine ya8 (ya9 ?_);rw[yac (by decide)];refine ya8 (Tuple_ (thn (ha _ pins s σ H _ I h) λus s1 zz1=>?_));obtain⟨vs,H1,I1,r1,q1⟩:=zz1;obtain⟨v,w,e1,q1⟩:=q1;subst e1;obtain⟨u1,u2,rfl,rv,rw'⟩:∃ u1 u2,us=[u1,u2]/\RelV v u1/\RelV w u2:=by
  cases r1 with
  | cons p q =>
   cases q with
   | cons p' q' =>
    cases q';exact⟨_,_,rfl,p,p'⟩
 refine yba ?_ (by show 2<=sizeLine;decide);have I2:Inv X pins σ H1 { s1 with heap:=s1.heap.push { cls:=.type "tuple",data:=.seq [u1,u2].toArray } }:=I1.kept (t':=s1.toks) λb o e=>yai _ e
 rw[hw];refine ya8 (ya9 ?_);show wpAny (model X.prog X.w) X.A (do rule "assign.swapped-stores";let items <- unpackItems (.ref s1.heap.objs.size) 2 none;assignInOrder [λv=>bindName X.env y v,λv=>bindName X.env x v] items.reverse;pure Flow.next) _ _ _;refine ya8 (yaf (ya8 (unpackItems_tuple (items:=#[u1,u2]) (I.ok.hd hc) (IsTup.new s1.heap _) λh' hx'=>?_)));have I3:=I2.kept (h':=h') (t':=s1.toks) λb o e=>hx' b o (zai (yaj e)) e
 show wpAny _ _ (assignInOrder [λv=>bindName X.env y v,λv=>bindName X.env x v] [u2,u1]>>=λ_=>pure Flow.next) _ _ _;refine ya8 (assignInOrder_cons (wpAny_bindName (fq I3 hN hj (.inl hy) rw' (λs2 I4=>?_) (.inr hy))));refine assignInOrder_cons (wpAny_bindName (fq I4 hN hi (.inl hx) rv (λs3 I5=>assignInOrder_nil (ya9 ?_)) (.inr hx)));rw[List.set_comm _ _ (yav hij)]at I5;exact⟨_,H1,I5,q1⟩
def EY(c:TT)(tb:TS):TS:=λD σ H=>∃ W:Nat->St->Hp->Prop,(∃ m,W m σ H)/\∀ m σ H,W m σ H ->
 c σ H λb H1=>if b=true then ∃ N:St->Hp->Prop,(∀ σ' H',N σ' H'->∃ m',m'<m/\W m' σ' H')/\tb { D with nx:=N,ct:=N,bk:=D.nx } σ H1 else D.nx σ H1
theorem ma(hp:PassesOwn (model X.prog X.w) X.A X.env X.xe)(hc:PT X c tc)(hb:PSs X body tb):PS X (.While c body [] pos) (EY tc tb):=by
 intro pins s σ H D I h;obtain⟨W,⟨m0,w0⟩,turn⟩:=h;refine wpAny_While (codeAny_whileLoop (λn s'=>∃ σ' H',Inv X pins σ' H' s'/\W n σ' H') ?_ m0 ⟨σ,H,I,w0⟩);rintro n s1 ⟨σ1,H1,I1,w1⟩;refine ycd hp (thn (hc pins s1 σ1 H1 _ I1 (turn n σ1 H1 w1)) λb s2 zz1=>?_);obtain⟨H2,I2,q2⟩:=zz1;cases b with
 | true =>
  obtain⟨N,hN,q2⟩:=q2;rw[yad rfl];refine ycd hp (thn (hb pins s2 σ1 H2 _ I2 q2) λf s3 q3=>?_);cases f with
  | next =>
   obtain⟨σ3,H3,I3,n3⟩:=q3;obtain⟨m',hm,w3⟩:=hN σ3 H3 n3;exact⟨m',hm,σ3,H3,I3,w3⟩
  | cont =>
   obtain⟨σ3,H3,I3,n3⟩:=q3;obtain⟨m',hm,w3⟩:=hN σ3 H3 n3;exact⟨m',hm,σ3,H3,I3,w3⟩
  | brk=>exact q3
  | ret v=>exact q3
 | false =>
  rw[yac za8];exact yd7 ⟨σ1,H2,I2,q2⟩
end
structure It where
 go:Nat->Hp->Prop
 yld:Nat->Hp->V->Hp->Prop
 stop:Nat->Hp->Prop
def om(X:Cx)(pins:A7)(H:Hp)(b:Addr):Prop :=
 H b=none/\b≠X.env.locals/\b∉X.fs/\(b∈X.ex\/X.s₀.heap.objs.size<=b)/\(∀ x c,X.env.cells.lookup x=some c->c≠b)/\∀ p∈X.pn++pins,p.1≠b
theorem Inv.yF{H H':Hp}{s:AE}(I:Inv X pins σ H s)(hb:s.heap.objs.size<=b)(hn:H' b=none):om X pins H' b:=by
 refine⟨hn,zb3 (zaq I.lt hb),I.nofs hb,.inr (zap I.sz hb),λx c e z=>?_,λp hp z=>?_⟩
 ·obtain⟨v,q⟩:=I.cell x c e
  exact absurd (zaq q.lt (by rw[z];exact hb)) (zbh _)
 ·exact absurd (zaq (yaj (I.pin p hp).1) (by rw[z];exact hb)) (zbh _)
structure Turn(P:Program)(w:World)(K:A2)(tg:Expr)(J:It)(fp:List Addr)(it:Addr)(tn:Nat->Heap->Prop):Prop where
 mem:it∈fp
 obj:∀ i h,tn i h->∀ b∈fp,∃ o,h.get? b=some o/\∀ v,o.data≠.cell v
 keep:∀ i h h',tn i h->(∀ b∈fp,∀ o,h.get? b=some o->h'.get? b=some o)->tn i h'
 item:∀ (X:Cx),X.prog=P->X.w=w->X.K=K->X.calm=true->∀ (i:Nat) (pins:A7) (s:Shared) (σ:St) (H:Hp) (E:A9),Inv X pins σ H s->(∀ b∈fp,om X pins H b)->tn i s.heap->J.go i H ->
  wpAny (model P w) X.A (pyNext (.ref it)) (λr s1=>∃ u,r=some u /\
   wpAny (model P w) X.A (letOwnedTupleGo tg (.ref it) u) (λ_ s2=>∃ x H',Inv X pins σ H' s2/\RelV x u/\J.yld i H x H'/\tn (i+1) s2.heap/\∀ b∈fp,H' b=none) E s1) E s
 done:∀ (X:Cx),X.prog=P->X.w=w->X.K=K->X.calm=true->∀ (i:Nat) (pins:A7) (s:Shared) (σ:St) (H:Hp) (E:A9),Inv X pins σ H s->(∀ b∈fp,om X pins H b)->tn i s.heap->J.stop i H ->
  wpAny (model P w) X.A (pyNext (.ref it)) (λr s1=>r=none/\Inv X pins σ H s1) E s
 self:∀ (A:Around) (i:Nat) (s:Shared) (Q:A9) (E:A9),tn i s.heap->Q (.ref it) s->wpAny (model P w) A (pyIter (.ref it)) Q E s
abbrev TI:=St->Hp->(It->Hp->Prop)->Prop
def PIE(X:Cx)(pins:A7)(σ:St)(tg:Expr)(R:It->Hp->Prop)(itv:Value)(s2:Shared):Prop :=
 ∃ (it:Addr) (fp:List Addr) (tn:Nat->Heap->Prop) (J:It) (H':Hp),itv=.ref it/\Inv X pins σ H' s2/\Turn X.prog X.w X.K tg J fp it tn/\tn 0 s2.heap/\(∀ b∈fp,om X pins H' b)/\R J H'
def PI(X:Cx)(tg iter:Expr)(wi:TI):Prop :=
 ∀ (pins:A7) (s:Shared) (σ:St) (H:Hp) (R:It->Hp->Prop),Inv X pins σ H s->wi σ H R ->
  wpAny (model X.prog X.w) X.A (eval iter X.env) (λv s1=>wpAny (model X.prog X.w) X.A (pyIter v) (PIE X pins σ tg R) X.xe s1) X.xe s
theorem yG{s:AE}{o:Obj}{Q:A0}(ho:s.heap.get? it=some o)(hc:o.cls=.type n)(hd:o.data=.fields vs)
    (hn:["enumerate","zip","dict_itemiterator","dict_reverseitemiterator","odict_iterator","itertools.zip_longest","itertools.pairwise"].contains n=false) (hQ:Q () s):wpAny M A (letOwnedTupleGo tg (.ref it) u) Q E s:=by
  unfold letOwnedTupleGo;cases tg<;>first
    | exact ya9 hQ
    | (cases u<;>first
        | exact ya9 hQ
        | (refine ya8 (wpAny_load ho ?_)
           rw[hc,hd];show wpAny M A (if (["enumerate","zip","dict_itemiterator","dict_reverseitemiterator","odict_iterator","itertools.zip_longest","itertools.pairwise"].contains n&&vs[0]?==some (rawInt _))=true then _ else _) Q E s;rw[yac (by intro h;rw[hn,zbz]at h;cases h)];exact ya9 hQ))
def Itl(K:A2)(a:Addr):It :=
 ⟨λi H=>∃ xs x,SqL K H a xs/\xs[i]?=some x,λi H x H'=>H'=H/\∀ xs,SqL K H a xs->xs[i]?=some x,λi H=>∃ xs,SqL K H a xs/\xs.length<=i⟩
def Itr(lo:Int)(n:Nat):It:=⟨λi _=>i<n,λi H x H'=>H'=H/\x=.int (lo+i),λi _=>n<=i⟩
theorem x6{P:AF}{w:AJ}{K:A2}{tg:AX}(a it:AA):Turn P w K tg (Itl K a) [it] it (λi h=>h.IsListIter it a i) where
 mem:=by simp
 obj:=λi h st b hb=>by
  have e:b=it:=by simpa using hb
  subst e;obtain⟨o,e,c,d⟩:=st;exact⟨o,e,λv z=>by rw[d]at z;cases z⟩
 keep:=λi h h' st k=>st.at λo e=>k it (by simp) o e
 item:=by
  intro X hP hw hK hc i pins s σ H E I hf st hg;subst hP hw hK;obtain⟨xs,x,hq,hx⟩:=hg;obtain⟨its,rv,p,hz⟩:=I.list hq;obtain⟨u,hu,ru⟩:=rv.get hx;obtain⟨f0,f1,f2,f3,f4,f5⟩:=hf it (by simp);refine wpAny_pyNext_list_item st p.isList (x:=u) (by simpa using hu) λh' st' sb=>?_
  have I1:Inv X pins σ H { s with heap:=h' }:=I.turned (t':=s.toks) (λb o hb e=>(sb.2 b hb).trans e) f0 f1 f3 f4 f5;obtain⟨o,e,c,d⟩:=id st';exact⟨u,rfl,yG (s:={ s with heap:=h' }) e c d (by decide) ⟨x,H,I1,ru,⟨rfl,λys hy=>by rw[I.yE hy hq];exact hx⟩,st',λb hb=>(hf b hb).1⟩⟩
 done:=by
  intro X hP hw hK hc i pins s σ H E I hf st hg;subst hP hw hK;obtain⟨xs,hq,hx⟩:=hg;obtain⟨its,rv,p,hz⟩:=I.list hq;obtain⟨f0,f1,f2,f3,f4,f5⟩:=hf it (by simp);have hl:=rv.length;exact wpAny_pyNext_list_end (I.ok.hd hc) st p.isList (by simp;lia) λh' eb=>⟨rfl,I.turned (t':=s.toks) (λb o hb e=>eb b o hb e) f0 f1 f3 f4 f5⟩
 self:=λ_ _ _ _ _ st h=>wpAny_pyIter_listiter st h
theorem tD{P:AF}{w:AJ}{K:PySem.W.Frag}{tg:AX}(it:AA)(lo:Int)(n:Nat):Turn P w K tg (Itr lo n) [it] it (λi h=>IsRangeIter h it (lo+(i:Nat)*1) ((n:Int)-(i:Nat)) 1) where
 mem:=by simp
 obj:=λi h st b hb=>by
  have e:b=it:=by simpa using hb
  subst e;exact⟨_,st,λv z=>by
   have z':Data.fields _=Data.cell v:=z;cases z'⟩
 keep:=λi h h' st k=>k it (by simp) _ st
 item:=by
  intro X hP hw hK hc i pins s σ H E I hf st hg;subst hP hw hK;obtain⟨f0,f1,f2,f3,f4,f5⟩:=hf it (by simp);have W:=Walks.range (prog:=X.prog) (w:=X.w) (I.ok.hd hc) it lo 1 n;refine W.item i s _ _ hg st λv h' tk hv st' kk=>?_
  obtain⟨t,rfl⟩:=hv;have I1:Inv X pins σ H { s with heap:=h',toks:=tk }:=I.turned (λb o hb e=>kk b o (by simpa using hb) e) f0 f1 f3 f4 f5;refine⟨_,rfl,yG (s:={ s with heap:=h',toks:=tk }) (n:="range_iterator") st' rfl rfl (by decide) ⟨.int (lo+i),H,I1,⟨t,?_⟩,⟨rfl,rfl⟩,st',λb hb=>(hf b hb).1⟩⟩;rw[Int.mul_one]
 done:=by
  intro X hP hw hK hc i pins s σ H E I hf st hg;subst hP hw hK;obtain⟨f0,f1,f2,f3,f4,f5⟩:=hf it (by simp);exact wpAny_pyNext_range_end (I.ok.hd hc) st (by have:n<=i:=hg;lia) λh' eb=>⟨rfl,I.turned (t':=s.toks) (λb o hb e=>eb b o hb e) f0 f1 f3 f4 f5⟩
 self:=λ_ _ _ _ _ st h=>wpAny_pyIter_rangeiter st h
section
variable{X:Cx}{tg:AX}
def iList(K:A2)(tl:TE):TI:=λσ H R=>tl σ H λx H1=>∃ a,x=.ref a/\(∃ xs,SqL K H1 a xs)/\R (Itl K a) H1
theorem cT{tl:TE}(hl:PE X l tl):PI X tg l (iList X.K tl):=by
 intro pins s σ H R I h;refine thn (hl pins s σ H _ I h) λv s1 zz1=>?_
 obtain⟨x,H1,I1,r1,q1⟩:=zz1;obtain⟨a,e,⟨xs,hq⟩,q⟩:=q1;subst e;cases r1;obtain⟨its,rv,p,hz⟩:=I1.list hq;refine wpAny_pyIter_list p.isList ?_;refine⟨s1.heap.objs.size,[s1.heap.objs.size],_,_,H1,rfl,I1.kept (t':=s1.toks) λb o e=>yai _ e,x6 a _,⟨_,yak _ rfl,rfl,rfl⟩,λb hb=>?_,q⟩;have e:b=s1.heap.objs.size:=by simpa using hb
 subst e;exact I1.yF (za5 _) (I1.hok.fresh (za5 _))
theorem yH{s:AE}{R:It->Hp->Prop}{lo:Int}{t:Tok}(I:Inv X pins σ H s)(h1:-(2 ^ 62)<=lo)(h2:lo<2 ^ 62)(h3:-(2 ^ 62)<=hi)(h4:hi<2 ^ 62)
  (q:R (Itr lo (hi-lo).toNat) H):wpAny (model X.prog X.w) X.A (pyIter (.ref s.heap.objs.size)) (PIE X pins σ tg R) E { s with heap:=s.heap.push { cls:=.type "range",data:=.fields #[.int lo t,.int hi u,.int 1 v] },toks:=tk }:=by
 refine wpAny_pyIter_range (IsRange.new ..) (small_one h1 h2 h3 h4) ?_;have I1:Inv X pins σ H { s with heap:=s.heap.push { cls:=.type "range",data:=.fields #[.int lo t,.int hi u,.int 1 v] },toks:=tk }:=I.kept λb o e=>yai _ e
 refine⟨(s.heap.push { cls:=.type "range",data:=.fields #[.int lo t,.int hi u,.int 1 v] }).objs.size,[(s.heap.push { cls:=.type "range",data:=.fields #[.int lo t,.int hi u,.int 1 v] }).objs.size],_,_,H,rfl,
  I1.kept (t':=tk) λb o e=>yai _ e,tD _ lo (hi-lo).toNat,?_,λb hb=>?_,q⟩
 ·have e1:lo+((0:Nat):Int)*1=lo:=by simp
  have e2:(((hi-lo).toNat:Nat):Int)-((0:Nat):Int)=Builtin.Range.rangeSize lo hi 1:=by rw[rangeSize_one];split<;>grind
  show IsRangeIter _ _ (lo+((0:Nat):Int)*1) ((((hi-lo).toNat:Nat):Int)-((0:Nat):Int)) 1;rw[e1,e2];exact yak _ rfl
 ·have e:b=(s.heap.push { cls:=.type "range",data:=.fields #[.int lo t,.int hi u,.int 1 v] }).objs.size:=by simpa using hb
  subst e;exact I1.yF (za5 _) (I1.hok.fresh (za5 _))
def iRng1(ta:TA):TI:=λσ H R=>ta σ H λvs H1=>∃ j:Int,vs=[.int j]/\-(2 ^ 62)<=j/\j<2 ^ 62/\R (Itr 0 j.toNat) H1
theorem dD{p:Pos}(hg:Gl X "range")(hm:X.mg "range"=none)(ha:PA X [a] ta)(hs:starEach [a] X.env=[(false,eval a X.env)]:=by rfl):PI X tg (.Call (.Name "range" p) [a] [] pos) (iRng1 ta):=by
 intro pins s σ H R I h;refine Call_ (iA I hg hm boot_range (yca (thn (ha pos pins s σ H _ I h) λus s1 zz1=>?_) hs rfl));obtain⟨vs,H1,I1,r1,q1⟩:=zz1;obtain⟨j,e,q1,q2,q⟩:=q1;subst e;cases r1 with
 | cons r rr =>
  cases rr;obtain⟨t,rfl⟩:=r;exact call_range_1 (yH I1 (by lia) (by lia) q1 q2 (by simpa using q))
def tFor(wi:TI)(g:TG)(tb:TS):TS:=λD σ H=>wi σ H λJ H1=>∃ W:Nat->Nat->St->Hp->Prop,(∃ m,W 0 m σ H1)/\∀ i m σ H,W i m σ H ->
 (J.stop i H/\D.nx σ H)\/(J.go i H/\∃ N:St->Hp->Prop,(∀ σ' H',N σ' H'->∃ m',m'<m/\W (i+1) m' σ' H')/\∀ x H',J.yld i H x H'->g x σ H' λσ2 H2=>tb { D with nx:=N,ct:=N,bk:=D.nx } σ2 H2)
def me(fp:List Addr)(h:Heap):List (Addr×Obj):=fp.filterMap λb=>(h.get? b).map λo=>(b,o)
theorem f9{h:AO}(hb:b∈fp)(e:h.get? b=some o):(b,o)∈me fp h:=List.mem_filterMap.mpr ⟨b,hb,by rw[e];rfl⟩
theorem x8{h:AO}{p:Addr×Obj}(hp:p∈me fp h):p.1∈fp/\h.get? p.1=some p.2:=by
 obtain⟨b,hb,e⟩:=List.mem_filterMap.mp hp;cases q:h.get? b with
 | none=>rw[q]at e;cases e
 | some o =>
  rw[q]at e;have e':(b,o)=p:=yat e;subst e';exact⟨hb,q⟩
theorem Inv.pinned{s:AE}(I:Inv X pins σ H s)(hf:∀ b∈fp,om X pins H b)(ho:∀ b∈fp,∃ o,s.heap.get? b=some o/\∀ v,o.data≠.cell v):Inv X (pins++me fp s.heap) σ H s :=
 I.uV λp hp=>(zaj.mp hp).elim (λz=>I.pin p (zau _ z)) λz=>by
  obtain⟨hb,e⟩:=x8 z;obtain⟨f0,f1,f2,_⟩:=hf p.1 hb;obtain⟨o,e',d⟩:=ho p.1 hb;rw[e]at e';cases e';exact⟨e,f0,f1,f2,d⟩
theorem Inv.lL{pins:A7}(I:Inv X (pins++pl) σ H s):Inv X pins σ H s:=I.uV λp hp=>I.pin p (zau _ (zbk _ hp))
theorem cQ(hp:PassesOwn (model X.prog X.w) X.A X.env X.xe)(hc:X.calm=true)(hi:PI X tg iter wi)(hg:PG X tg g)(hb:PSs X body tb)
  (hs:∀ x,foldedSetIterable iter X.env x=pure x:=by intro _;rfl):PS X (.For tg iter body [] pos) (tFor wi g tb):=by
 intro pins s σ H D I h;refine wpAny_For (thn (hi pins s σ H _ I h) λv s1 h1=>thn h1 λitv s2 h2=>?_) hs;obtain⟨it,fp,tn,J,H2,e,I2,T,st2,f2,W,⟨m0,w0⟩,turn⟩:=h2;subst e;have stat:∀ {H':Hp},(∀ b∈fp,H' b=none)->∀ b∈fp,om X pins H' b:=λhn b hb=>⟨hn b hb,(f2 b hb).2⟩
 refine codeAny_forLoop_any (λn s'=>∃ i σ' H',Inv X pins σ' H' s'/\tn i s'.heap/\(∀ b∈fp,H' b=none)/\W i n σ' H') ?_ m0 ⟨0,σ,H2,I2,st2,λb hb=>(f2 b hb).1,w0⟩;rintro n s3 ⟨i,σ3,H3,I3,st3,fr3,w3⟩;rcases turn i n σ3 H3 w3 with ⟨stop,qn⟩ | ⟨go,N,hN,step⟩
 ·refine ycd hp (thn (T.done X rfl rfl rfl hc i pins s3 σ3 H3 X.xe I3 (stat fr3) st3 stop) λr s4 ⟨hr,I4⟩=>?_)
  subst hr;exact yd7 ⟨σ3,H3,I4,qn⟩
 ·refine ycd hp (thn (T.item X rfl rfl rfl hc i pins s3 σ3 H3 X.xe I3 (stat fr3) st3 go) λr s4 ⟨u,hr,h4⟩=>?_)
  subst hr;refine ycd hp (thn h4 λ_ s5 zz1=>?_);obtain⟨x,H5,I5,r5,y5,st5,fr5⟩:=zz1;have I5':=I5.pinned (stat fr5) (T.obj _ _ st5);refine ycd hp (thn (hg _ s5 σ3 H5 x u _ I5' r5 (step x H5 y5)) λ_ s6 zz1=>?_);obtain⟨σ6,H6,I6,q6⟩:=zz1;refine ycd hp (thn (hb _ s6 σ6 H6 _ I6 q6) λf s7 q7=>?_);have again:∀ {σ7:St} {H7:Hp},Inv X (pins++me fp s5.heap) σ7 H7 s7->N σ7 H7->∃ m,m<n/\∃ i σ' H',Inv X pins σ' H' s7/\tn i s7.heap/\(∀ b∈fp,H' b=none)/\W i m σ' H':=fun {σ7 H7} I7 n7=>by
   obtain⟨m',hm,w7⟩:=hN σ7 H7 n7;refine⟨m',hm,i+1,σ7,H7,I7.lL,T.keep _ _ _ st5 λb hb o e=>(I7.pin (b,o) (zau _ (zau _ (f9 hb e)))).1,λb hb=>?_,w7⟩;obtain⟨o,e,d⟩:=T.obj _ _ st5 b hb;exact(I7.pin (b,o) (zau _ (zau _ (f9 hb e)))).2.1
  cases f with
  | next=>obtain⟨σ7,H7,I7,n7⟩:=q7;exact again I7 n7
  | cont=>obtain⟨σ7,H7,I7,n7⟩:=q7;exact again I7 n7
  | brk=>obtain⟨σ7,H7,I7,q7⟩:=q7;exact⟨σ7,H7,I7.lL,q7⟩
  | ret v=>obtain⟨x7,σ7,H7,I7,r7,q7⟩:=q7;exact⟨x7,σ7,H7,I7.lL,r7,q7⟩
end
theorem cW{K:PySem.W.Frag}{a:AA}{xs:Ac}{g:TG}{tb:TS}{D:Ends}{σ:St}{H:Hp}(Pv:Nat->St->Hp->Prop)(h0:Pv 0 σ H)(hl:∀ i σ H,i<=xs.length->Pv i σ H->SqL K H a xs)
  (hs:∀ i x σ H,xs[i]?=some x->Pv i σ H->g x σ H λσ2 H2=>tb { D with nx:=Pv (i+1),ct:=Pv (i+1),bk:=D.nx } σ2 H2) (hd:∀ σ H,Pv xs.length σ H->D.nx σ H) :
  ∃ W:Nat->Nat->St->Hp->Prop,(∃ m,W 0 m σ H)/\∀ i m σ H,W i m σ H ->
   ((Itl K a).stop i H/\D.nx σ H)\/((Itl K a).go i H/\∃ N:St->Hp->Prop,(∀ σ' H',N σ' H'->∃ m',m'<m/\W (i+1) m' σ' H')/\∀ x H',(Itl K a).yld i H x H'->g x σ H' λσ2 H2=>tb { D with nx:=N,ct:=N,bk:=D.nx } σ2 H2):=by
 refine⟨λi m σ H=>m=xs.length-i/\i<=xs.length/\Pv i σ H,⟨xs.length,by simp,zb6 _,h0⟩,?_⟩;rintro i m σ H ⟨rfl,hi,p⟩;have q:=hl i σ H hi p;by_cases hlt:i<xs.length
 ·refine .inr ⟨⟨xs,xs[i],q,by simp[hlt]⟩,Pv (i+1),λσ' H' p'=>⟨xs.length-(i+1),by grind,rfl,hlt,p'⟩,λx H' y=>?_⟩
  obtain⟨e,y⟩:=y;subst e;exact hs i x σ _ (y xs q) p
 ·have e:i=xs.length:=by lia
  subst e;exact .inl ⟨⟨xs,q,za5 _⟩,hd σ H p⟩
theorem eQ{lo:Int}{n:Nat}{g:TG}{tb:TS}{D:Ends}{σ:St}{H:Hp}(Pv:Nat->St->Hp->Prop)(h0:Pv 0 σ H)
  (hs:∀ i σ H,i<n->Pv i σ H->g (.int (lo+i)) σ H λσ2 H2=>tb { D with nx:=Pv (i+1),ct:=Pv (i+1),bk:=D.nx } σ2 H2) (hd:∀ σ H,Pv n σ H->D.nx σ H) :
  ∃ W:Nat->Nat->St->Hp->Prop,(∃ m,W 0 m σ H)/\∀ i m σ H,W i m σ H ->
   ((Itr lo n).stop i H/\D.nx σ H)\/((Itr lo n).go i H/\∃ N:St->Hp->Prop,(∀ σ' H',N σ' H'->∃ m',m'<m/\W (i+1) m' σ' H')/\∀ x H',(Itr lo n).yld i H x H'->g x σ H' λσ2 H2=>tb { D with nx:=N,ct:=N,bk:=D.nx } σ2 H2):=by
 refine⟨λi m σ H=>m=n-i/\i<=n/\Pv i σ H,⟨n,by simp,zb6 _,h0⟩,?_⟩;rintro i m σ H ⟨rfl,hi,p⟩;by_cases hlt:i<n
 ·refine .inr ⟨hlt,Pv (i+1),λσ' H' p'=>⟨n-(i+1),by grind,rfl,hlt,p'⟩,λx H' y=>?_⟩
  obtain⟨e,y⟩:=y;subst e y;exact hs i σ _ hlt p
 ·have e:i=n:=by lia
  subst e;exact .inl ⟨za5 _,hd σ H p⟩
abbrev R2:=V->V->Hp->VK->Prop
def OpR(X:Cx)(f:Value->Value->Sem Value)(r:R2):Prop :=
 ∀ (pins:A7) (s:Shared) (σ:St) (H:Hp) (x y:V) (v u:Value) (Q:VK),Inv X pins σ H s->RelV x v->RelV y u->r x y H Q ->
  wpAny (model X.prog X.w) X.A (f v u) (EP X pins σ Q) X.xe s
def UnR(X:Cx)(f:Value->Sem Value)(r:V->Hp->VK->Prop):Prop :=
 ∀ (pins:A7) (s:Shared) (σ:St) (H:Hp) (x:V) (v:Value) (Q:VK),Inv X pins σ H s->RelV x v->r x H Q ->
  wpAny (model X.prog X.w) X.A (f v) (EP X pins σ Q) X.xe s
def cY(X:Cx)(f:Value)(r:List V->Hp->VK->Prop):Prop :=
 ∀ (pins:A7) (s:Shared) (σ:St) (H:Hp) (xs:List V) (us:List Value) (Q:VK),Inv X pins σ H s->kh xs us->r xs H Q ->
  wpAny (model X.prog X.w) X.A (call f us) (EP X pins σ Q) X.xe s
def TruR(X:Cx)(r:V->Hp->(Bool->Hp->Prop)->Prop):Prop :=
 ∀ (pins:A7) (s:Shared) (σ:St) (H:Hp) (x:V) (v:Value) (Q:Bool->Hp->Prop),Inv X pins σ H s->RelV x v->r x H Q ->
  wpAny (model X.prog X.w) X.A (truthy v) (TP X pins σ Q) X.xe s
def tOp(r:R2)(ta tb:TE):TE:=λσ H Q=>ta σ H λx H1=>tb σ H1 λy H2=>r x y H2 Q
def tUn(r:V->Hp->VK->Prop)(ta:TE):TE:=λσ H Q=>ta σ H λx H1=>r x H1 Q
def rI(C:Int->Int->Prop)(g:Int->Int->V):R2:=λx y H Q=>∃ i j,x=.int i/\y=.int j/\C i j/\Q (g i j) H
def rI0(g:Int->Int->V):R2:=λx y H Q=>∃ i j,x=.int i/\y=.int j/\Q (g i j) H
def rU(g:Int->V):V->Hp->VK->Prop:=λx H Q=>∃ i,x=.int i/\Q (g i) H
section
variable{X:Cx}{a b c:AX}{ta tb tc:TE}{pos:Pos}
theorem binT(ha:PE X a ta)(hb:PE X b tb){R:V->V->Hp->Prop}(I:Inv X pins σ H s)
  (h:ta σ H λx H1=>tb σ H1 λy H2=>R x y H2) {f:Value->Value->Sem Value}
  (hf:∀ v u s2 x y H2,Inv X pins σ H2 s2->RelV x v->RelV y u->R x y H2->wpAny (model X.prog X.w) X.A (f v u) Q X.xe s2) :
  wpAny (model X.prog X.w) X.A (eval a X.env) (λv s₁=>wpAny (model X.prog X.w) X.A (eval b X.env) (λu s₂=>wpAny (model X.prog X.w) X.A (f v u) Q X.xe s₂) X.xe s₁) X.xe s:=by
 refine thn (ha pins s σ H _ I h) λv s1 zz1=>?_
 obtain⟨x,H1,I1,r1,q1⟩:=zz1;refine thn (hb pins s1 σ H1 _ I1 q1) λu s2 zz1=>?_
 obtain⟨y,H2,I2,r2,q2⟩:=zz1;exact hf v u s2 x y H2 I2 r1 r2 q2
theorem aq(ho:OpR X (binaryOp op) r)(ha:PE X a ta)(hb:PE X b tb):PE X (.BinOp a op b pos) (tOp r ta tb):=by
 intro pins s σ H Q I h;exact wpAny_BinOp (binT ha hb I h λv u s2 x y H2 I2 rx ry q=>ho pins s2 σ H2 x y v u Q I2 rx ry q)
theorem cp(ho:UnR X (unaryOp op) r)(ha:PE X a ta):PE X (.UnaryOp op a pos) (tUn r ta):=by
 intro pins s σ H Q I h;exact UnaryOp_ (thn (ha pins s σ H _ I h) λv s1 ⟨x,H1,I1,r1,q1⟩=>ho pins s1 σ H1 x v Q I1 r1 q1)
theorem opI{f:Value->Value->Sem Value}{C:Int->Int->Prop}{g:Int->Int->Int}
  (rule:∀ (i j:Int) (t u:Tok) (s:AE) (Q:A9) (E:A9),C i j->Q (.int (g i j) s.toks) { s with toks:=s.toks+1 }->wpAny (model X.prog X.w) X.A (f (.int i t) (.int j u)) Q E s) :
  OpR X f (rI C λi j=>.int (g i j)):=by
 intro pins s σ H x y v u Q I rx ry h;obtain⟨i,j,rfl,rfl,hc,q⟩:=h;obtain⟨t,rfl⟩:=rx;obtain⟨t',rfl⟩:=ry;exact rule i j t t' s _ _ hc ⟨.int (g i j),H,I.tok _,⟨_,rfl⟩,q⟩
theorem opI0{f:Value->Value->Sem Value}{g:Int->Int->Int}
  (rule:∀ (i j:Int) (t u:Tok) (s:AE) (Q:A9) (E:A9),Q (.int (g i j) s.toks) { s with toks:=s.toks+1 }->wpAny (model X.prog X.w) X.A (f (.int i t) (.int j u)) Q E s) :
  OpR X f (rI0 λi j=>.int (g i j)):=by
 intro pins s σ H x y v u Q I rx ry h;obtain⟨i,j,rfl,rfl,q⟩:=h;obtain⟨t,rfl⟩:=rx;obtain⟨t',rfl⟩:=ry;exact rule i j t t' s _ _ ⟨.int (g i j),H,I.tok _,⟨_,rfl⟩,q⟩
theorem opB0{f:Value->Value->Sem Value}{g:Int->Int->Bool}
  (rule:∀ (i j:Int) (t u:Tok) (s:AE) (Q:A9) (E:A9),Q (.bool (g i j)) s->wpAny (model X.prog X.w) X.A (f (.int i t) (.int j u)) Q E s) :
  OpR X f (rI0 λi j=>.bl (g i j)):=by
 intro pins s σ H x y v u Q I rx ry h;obtain⟨i,j,rfl,rfl,q⟩:=h;obtain⟨t,rfl⟩:=rx;obtain⟨t',rfl⟩:=ry;exact rule i j t t' s _ _ ⟨.bl (g i j),H,I,rfl,q⟩
def CDiv(i j:Int):Prop:=0<j/\j<1073741824
def CPow(i j:Int):Prop:=0<=j/\j<=1000000/\i.natAbs<2 ^ 64
def yI(i j:Int):Prop:=(-(2 ^ 64)<i/\i<2 ^ 64)\/(-(2 ^ 64)<j/\j<2 ^ 64)
theorem yI.ok{i:Int}(h:yI i j):IntMulOk i j:=by
 rcases h with ⟨h1,h2⟩ | ⟨h1,h2⟩
 ·exact .of_left (intBits_le_64 h1 h2)
 ·exact .of_right (intBits_le_64 h1 h2)
theorem aW:OpR X (binaryOp .Add) (rI0 λi j=>.int (i+j)):=opI0 λ_ _ _ _ _ _ _ q=>add_int q
theorem dQ:OpR X (binaryOp .Sub) (rI0 λi j=>.int (i-j)):=opI0 λ_ _ _ _ _ _ _ q=>sub_int q
theorem dR:OpR X (binaryOp .Mult) (rI yI λi j=>.int (i*j)):=opI λ_ _ _ _ _ _ _ hc q=>mul_int q hc.ok
theorem bZ:OpR X (binaryOp .FloorDiv) (rI CDiv λi j=>.int (i / j)):=opI λi j _ _ _ _ _ hc q=>by
 have h1:(0:Int)<j:=hc.1;have h2:j<1073741824:=hc.2;exact floordiv_int (by lia) (by rw[Int.fdiv_eq_ediv_of_nonneg i (by lia)];exact q) (.inl (PyProof.noPylong_small (by grind)))
theorem aT:OpR X (binaryOp .Mod) (rI (λ_ j=>0<j) λi j=>.int (i % j)):=opI λi j _ _ _ _ _ hc q=>by
 have h1:(0:Int)<j:=hc;exact mod_int' (by lia) (by rw[Int.fmod_eq_emod_of_nonneg i (by lia)];exact q)
theorem EZ:OpR X (binaryOp .Pow) (rI CPow λi j=>.int (i ^ j.toNat)):=opI λ_ _ _ _ _ _ _ hc q=>pow_int_small hc.1 hc.2.1 hc.2.2 q
theorem unI{f:Value->Sem Value}{g:Int->Int}
  (rule:∀ (i:Int) (t:Tok) (s:AE) (Q:A9) (E:A9),Q (.int (g i) s.toks) { s with toks:=s.toks+1 }->wpAny (model X.prog X.w) X.A (f (.int i t)) Q E s) :
  UnR X f (rU λi=>.int (g i)):=by
 intro pins s σ H x v Q I rx h;obtain⟨i,rfl,q⟩:=h;obtain⟨t,rfl⟩:=rx;exact rule i t s _ _ ⟨.int (g i),H,I.tok _,⟨_,rfl⟩,q⟩
theorem bc:UnR X (unaryOp .USub) (rU λi=>.int (-i)):=unI λ_ _ _ _ _ q=>neg_int q
end
def scal:V->V->Bool
 | .non,.non=>true | .non,.int _=>true | .int _,.non=>true | .non,.bl _=>true | .bl _,.non=>true | .non,.str _=>true | .str _,.non=>true
 | .int _,.int _=>true | .bl _,.bl _=>true | .str _,.str _=>true | .byt _,.byt _=>true
 | .int _,.str _=>true | .str _,.int _=>true | .bl _,.str _=>true | .str _,.bl _=>true
 | _,_=>false
def rEq:R2:=λx y H Q=>scal x y=true/\Q (.bl (decide (x=y))) H
def rNe:R2:=λx y H Q=>scal x y=true/\Q (.bl (!decide (x=y))) H
theorem uW{i:Int}:decide (V.int i=V.int j)=(i==j):=by
 rw[yd8];simp
theorem yJ{i:Bool}:decide (V.bl i=V.bl j)=(i==j):=by
 rw[yd8];simp
theorem uZ{i:AL}:decide (V.str i=V.str j)=(i==j):=by
 rw[yd8];simp
theorem v8{i j:Array UInt8}:decide (V.byt i=V.byt j)=(i.toList==j.toList):=by
 rw[yd8];cases i;cases j;simp
section
variable{X:Cx}{a b c:AX}{ta tb tc:TE}{pos:Pos}
theorem b9{Q:VK}{k:Bool}(I:Inv X pins σ H s)(q:Q (.bl k) H)(e:k=k'):EP X pins σ Q (.bool k') s:=by
 subst e;exact⟨.bl k,H,I,rfl,q⟩
theorem aX:OpR X (compareOp .Eq) rEq:=by
 intro pins s σ H x y v u Q I rx ry h;obtain⟨hs,q⟩:=h;cases x with
 | non =>
  cases rx;cases y with
  | non=>cases ry;exact PySem.EqNone.eq_none_none (b9 I q (by simp))
  | bl j=>cases ry;exact PySem.EqNone.eq_none_bool (b9 I q (by simp))
  | int j=>obtain⟨t',rfl⟩:=ry;exact PySem.EqNone.eq_none_int (b9 I q (by simp))
  | str j=>obtain⟨t',rfl⟩:=ry;exact PySem.EqNone.eq_none_str (b9 I q (by simp))
  | _=>exact absurd (show false=true from hs) za8
 | bl i =>
  cases rx;cases y with
  | non=>cases ry;exact PySem.EqNone.eq_bool_none (b9 I q (by simp))
  | bl j=>cases ry;exact eq_bool (b9 I q yJ)
  | str j=>obtain⟨t',rfl⟩:=ry;exact PySem.EqMixed.eq_bool_str (b9 I q (by simp))
  | _=>exact absurd (show false=true from hs) za8
 | int i =>
  obtain⟨t,rfl⟩:=rx;cases y with
  | non=>cases ry;exact PySem.EqNone.eq_int_none (b9 I q (by simp))
  | int j=>obtain⟨t',rfl⟩:=ry;exact eq_int (b9 I q uW)
  | str j=>obtain⟨t',rfl⟩:=ry;exact PySem.EqMixed.eq_int_str (b9 I q (by simp))
  | _=>exact absurd (show false=true from hs) za8
 | str i =>
  obtain⟨t,rfl⟩:=rx;cases y with
  | non=>cases ry;exact PySem.EqNone.eq_str_none (b9 I q (by simp))
  | bl j=>cases ry;exact PySem.EqMixed.eq_str_bool (b9 I q (by simp))
  | int j=>obtain⟨t',rfl⟩:=ry;exact PySem.EqMixed.eq_str_int (b9 I q (by simp))
  | str j=>obtain⟨t',rfl⟩:=ry;exact eq_str (b9 I q uZ)
  | _=>exact absurd (show false=true from hs) za8
 | byt i =>
  obtain⟨t,rfl⟩:=rx;cases y with
  | byt j=>obtain⟨t',rfl⟩:=ry;exact W.eq_bytes (b9 I q v8)
  | _=>exact absurd (show false=true from hs) za8
 | _=>cases y<;>exact absurd (show false=true from hs) za8
theorem ie:OpR X (compareOp .NotEq) rNe:=by
 intro pins s σ H x y v u Q I rx ry h;obtain⟨hs,q⟩:=h;cases x with
 | non =>
  cases rx;cases y with
  | non=>cases ry;exact PySem.EqNone.ne_none_none (b9 I q (by simp))
  | bl j=>cases ry;exact PySem.EqNone.ne_none_bool (b9 I q (by simp))
  | int j=>obtain⟨t',rfl⟩:=ry;exact PySem.EqNone.ne_none_int (b9 I q (by simp))
  | str j=>obtain⟨t',rfl⟩:=ry;exact PySem.EqNone.ne_none_str (b9 I q (by simp))
  | _=>exact absurd (show false=true from hs) za8
 | bl i =>
  cases rx;cases y with
  | non=>cases ry;exact PySem.EqNone.ne_bool_none (b9 I q (by simp))
  | bl j=>cases ry;exact ne_bool (b9 I q (ybm not yJ))
  | str j=>obtain⟨t',rfl⟩:=ry;exact PySem.EqMixed.ne_bool_str (b9 I q (by simp))
  | _=>exact absurd (show false=true from hs) za8
 | int i =>
  obtain⟨t,rfl⟩:=rx;cases y with
  | non=>cases ry;exact PySem.EqNone.ne_int_none (b9 I q (by simp))
  | int j=>obtain⟨t',rfl⟩:=ry;exact ne_int (b9 I q (ybm not uW))
  | str j=>obtain⟨t',rfl⟩:=ry;exact PySem.EqMixed.ne_int_str (b9 I q (by simp))
  | _=>exact absurd (show false=true from hs) za8
 | str i =>
  obtain⟨t,rfl⟩:=rx;cases y with
  | non=>cases ry;exact PySem.EqNone.ne_str_none (b9 I q (by simp))
  | bl j=>cases ry;exact PySem.EqMixed.ne_str_bool (b9 I q (by simp))
  | int j=>obtain⟨t',rfl⟩:=ry;exact PySem.EqMixed.ne_str_int (b9 I q (by simp))
  | str j=>obtain⟨t',rfl⟩:=ry;exact ne_str (b9 I q (ybm not uZ))
  | _=>exact absurd (show false=true from hs) za8
 | byt i =>
  obtain⟨t,rfl⟩:=rx;cases y with
  | byt j=>obtain⟨t',rfl⟩:=ry;exact W.ne_bytes (b9 I q (ybm not v8))
  | _=>exact absurd (show false=true from hs) za8
 | _=>cases y<;>exact absurd (show false=true from hs) za8
theorem mf:OpR X (compareOp .Lt) (rI0 λi j=>.bl (decide (i<j))):=opB0 λ_ _ _ _ _ _ _ q=>lt_int q
theorem iW:OpR X (compareOp .LtE) (rI0 λi j=>.bl (decide (i<=j))):=opB0 λ_ _ _ _ _ _ _ q=>le_int q
theorem eP:OpR X (compareOp .Gt) (rI0 λi j=>.bl (decide (j<i))):=opB0 λ_ _ _ _ _ _ _ q=>gt_int q
theorem v9:OpR X (compareOp .GtE) (rI0 λi j=>.bl (decide (j<=i))):=opB0 λ_ _ _ _ _ _ _ q=>ge_int q
theorem yK:OpR X (compareOp .Is) (λx y H Q=>y=.non/\Q (.bl (decide (x=.non))) H):=by
 intro pins s σ H x y v u Q I rx ry h;obtain⟨rfl,q⟩:=h;cases ry;refine is_none_gen (b9 I q ?_);cases x<;>first
  | (cases rx;rfl)
  | (obtain⟨t,rfl⟩:=rx;rfl)
theorem au(b:AX)(h:op≠.In:=by decide)(h2:op≠.NotIn:=by decide):behindInMarks op b=false:=by
 have e1:(op==CmpOp.In)=false:=by cases op<;>first | rfl | exact absurd rfl h
 have e2:(op==CmpOp.NotIn)=false:=by cases op<;>first | rfl | exact absurd rfl h2
 cases b<;>simp[behindInMarks,e1,e2]
theorem cU(ho:OpR X (compareOp op) r)(ha:PE X a ta)(hb:PE X b tb)(hm:behindInMarks op b=false):PE X (.Compare a [op] [b] pos) (tOp r ta tb):=by
 intro pins s σ H Q I h;exact wpAny_Compare1 (binT ha hb I h λv u s2 x y H2 I2 rx ry q=>ho pins s2 σ H2 x y v u Q I2 rx ry q) hm
def Ek(t:TE):TT:=λσ H Q=>t σ H λx H'=>∃ k,x=.bl k/\Q k H'
theorem ap(ho:OpR X (compareOp op) r)(ha:PE X a ta)(hb:PE X b tb)(hm:behindInMarks op b=false):PT X (.Compare a [op] [b] pos) (Ek (tOp r ta tb)):=by
 intro pins s σ H Q I h;refine wpAny_isTrue_Compare1 (thn (ha pins s σ H _ I h) λv s1 ⟨x,H1,I1,r1,q1⟩=>thn (hb pins s1 σ H1 _ I1 q1) λu s2 ⟨y,H2,I2,r2,q2⟩ =>
  thn (ho pins s2 σ H2 x y v u _ I2 r1 r2 q2) λc s3 ⟨z,H3,I3,r3,k,e,q3⟩=>?_) hm
 subst e;cases r3;exact yb9 ⟨H3,I3,q3⟩
def yL(r r':R2)(ta tb tc:TE):TE:=λσ H Q=>ta σ H λx H1=>tb σ H1 λy H2=>r x y H2 λz H3=>∃ k,z=.bl k /\
 (if k=true then tc σ H3 λw' H4=>r' y w' H4 Q else Q (.bl false) H3)
theorem iS{op:CmpOp}{r:R2}(ho:OpR X (compareOp op) r)(ho':OpR X (compareOp op') r')(ha:PE X a ta)(hb:PE X b tb)(hc:PE X c tc)
  (hm:lastMarks [op,op'] [b,c]=false:=by with_unfolding_all rfl):PE X (.Compare a [op,op'] [b,c] pos) (yL r r' ta tb tc):=by
 intro pins s σ H Q I h;refine Compare_chain (thn (ha pins s σ H _ I h) λv s1 ⟨x,H1,I1,r1,q1⟩=>chain_link (thn (hb pins s1 σ H1 _ I1 q1) λu s2 ⟨y,H2,I2,r2,q2⟩ =>
  thn (ho pins s2 σ H2 x y v u _ I2 r1 r2 q2) λd s3 ⟨z,H3,I3,r3,k,e,q3⟩=>?_)) hm
 subst e;cases r3;refine yb9 ?_;cases k with
 | false=>exact ite_ff ⟨.bl false,H3,I3,rfl,q3⟩
 | true=>exact ite_tt (chain_last (thn (hc pins s3 σ H3 _ I3 q3) λw' s4 ⟨z',H4,I4,r4,q4⟩=>ho' pins s4 σ H4 y z' u w' Q I4 r2 r4 q4))
theorem qX{op:CmpOp}{r:R2}(ho:OpR X (compareOp op) r)(ho':OpR X (compareOp op') r')(ha:PE X a ta)(hb:PE X b tb)(hc:PE X c tc)
  (hm:lastMarks [op,op'] [b,c]=false:=by with_unfolding_all rfl):PT X (.Compare a [op,op'] [b,c] pos) (Ek (yL r r' ta tb tc)):=by
 intro pins s σ H Q I h;refine isTrue_chain (thn (ha pins s σ H _ I h) λv s1 ⟨x,H1,I1,r1,q1⟩=>test_link (thn (hb pins s1 σ H1 _ I1 q1) λu s2 ⟨y,H2,I2,r2,q2⟩ =>
  thn (ho pins s2 σ H2 x y v u _ I2 r1 r2 q2) λd s3 ⟨z,H3,I3,r3,k,e,q3⟩=>?_)) hm
 subst e;cases r3;refine yb9 ?_;cases k with
 | false =>
  obtain⟨k',e',q'⟩:=q3;cases e';exact ite_ff ⟨H3,I3,q'⟩
 | true =>
  refine ite_tt (test_last (thn (hc pins s3 σ H3 _ I3 q3) λw' s4 zz1=>?_));obtain⟨z',H4,I4,r4,q4⟩:=zz1;refine thn (ho' pins s4 σ H4 y z' u w' _ I4 r2 r4 q4) λd' s5 zz2=>?_
  obtain⟨z2,H5,I5,r5,k2,e2,q5⟩:=zz2;subst e2;cases r5;exact yb9 ⟨H5,I5,q5⟩
def TruV(K:A2)(x:V)(H:Hp)(k:Bool):Prop :=
 match x with
 | .non=>k=false
 | .bl b=>k=b
 | .int i=>k=(i !=0)
 | .str y=>y.length<=sizeLine/\k=((y.length:Int) !=0)
 | .byt y=>y.size<=sizeLine/\k=((y.size:Int) !=0)
 | .ref p=>(∃ xs,SqL K H p xs/\k=!xs.isEmpty)\/(∃ xs,SqT K H p xs/\k=!xs.isEmpty)\/∃ kvs,H p=some (.dK kvs)/\k=!kvs.isEmpty
 | _=>False
theorem tE{kvs:List (κ×V)}{vs:List (κ×Value)}(r:KV kvs vs):(!vs.isEmpty)=!kvs.isEmpty:=by
 cases r<;>rfl
theorem mh{xs:Ac}{its:AB}(r:kh xs its):(!its.toArray.isEmpty)=!xs.isEmpty:=by
 cases r<;>simp
theorem jt:(sizeLine:Nat)<2 ^ 63:=by rw[yau];decide
theorem F1:TruR X (λx H Q=>∃ k,TruV X.K x H k/\Q k H):=by
 intro pins s σ H x v Q I rx h;obtain⟨k,e,q⟩:=h;have hl:=jt;have hs:sizeLine=16777216:=yau;cases x with
 | non =>
  cases rx;have e':k=false:=e;subst e';exact truthy_none ⟨H,I,q⟩
 | bl b =>
  cases rx;have e':k=b:=e;subst e';exact yb9 ⟨H,I,q⟩
 | int i =>
  obtain⟨t,rfl⟩:=rx;have e':k=(i !=0):=e;subst e';exact PySem.P.truthy_int ⟨H,I,q⟩
 | str y =>
  obtain⟨t,rfl⟩:=rx;obtain⟨hy,e'⟩:y.length<=sizeLine/\k=((y.length:Int) !=0):=e;subst e';exact PySem.P.truthy_str (by lia) ⟨H,I.tok _,q⟩
 | byt y =>
  obtain⟨t,rfl⟩:=rx;obtain⟨hy,e'⟩:y.size<=sizeLine/\k=((y.size:Int) !=0):=e;subst e';exact W.truthy_bytes (by lia) ⟨H,I.tok _,q⟩
 | ref p =>
  cases rx;have e':(∃ xs,SqL X.K H p xs/\k=!xs.isEmpty)\/(∃ xs,SqT X.K H p xs/\k=!xs.isEmpty)\/∃ kvs,H p=some (.dK kvs)/\k=!kvs.isEmpty:=e;rcases e' with ⟨xs,hx,e'⟩ | ⟨xs,hx,e'⟩ | ⟨kvs,hx,e'⟩
  ·subst e'
   obtain⟨its,r,pl,hz⟩:=I.list hx;have hlen:=r.length;exact wpAny_truthy_list pl.isList (by simp only[zab];lia) ⟨H,I.tok _,by rw[mh r];exact q⟩
  ·subst e'
   obtain⟨its,r,pl,hz⟩:=I.tuple hx;have hlen:=r.length;exact truthy_tuple pl (by simp only[zab];omega) ⟨H,I.tok _,by rw[mh r];exact q⟩
  ·subst e'
   obtain⟨hz,hS,vs,r,m⟩:kvs.length<=sizeLine/\(p==sysModules)=false/\∃ vs,KV kvs vs/\s.heap.DictOf (aU X.prog X.w) p vs:=I.hok p _ hx;have hlen:kvs.length=vs.length:=yce r;exact wpAny_truthy_dict hS m (by lia) ⟨H,I.tok _,by rw[tE r];exact q⟩
 | _=>exact(show False from e).elim
theorem gf(ha:PE X a ta)(he:∀ whole,isTrue a X.env whole=(do let v <- whole;standAt a.pos;holding [v] (truthy v))) :
  PT X a (λσ H Q=>ta σ H λx H'=>∃ k,TruV X.K x H' k/\Q k H'):=by
 intro pins s σ H Q I h;exact isTrue_plain (thn (ha pins s σ H _ I h) λv s1 ⟨x,H1,I1,r1,q1⟩=>F1 pins s1 σ H1 x v Q I1 r1 q1) (he _)
theorem br:OpR X (binaryOp .Add) (λx y H Q=>∃ i j,x=.str i/\y=.str j/\i.length+j.length<=sizeLine/\Q (.str (i++j)) H):=by
 intro pins s σ H x y v u Q I rx ry h;obtain⟨i,j,rfl,rfl,hz,q⟩:=h;obtain⟨t,rfl⟩:=rx;obtain⟨t',rfl⟩:=ry;exact add_str (λt' tk=>⟨.str (i++j),H,I.tok _,⟨_,rfl⟩,q⟩) hz
theorem fm(r:kh [x] us):∃ u,us=[u]/\RelV x u:=by
 cases r with
 | cons r1 r2=>cases r2;exact⟨_,rfl,r1⟩
theorem vals2{x:V}(r:kh [x,y] us):∃ u w',us=[u,w']/\RelV x u/\RelV y w':=by
 cases r with
 | cons r1 r2 =>
  cases r2 with
  | cons r3 r4=>cases r4;exact⟨_,_,rfl,r1,r3⟩
theorem qY:cY X (.builtin "abs") (λxs H Q=>∃ i,xs=[.int i]/\Q (.int (if i<0 then -i else i)) H):=by
 intro pins s σ H xs us Q I r h;obtain⟨i,rfl,q⟩:=h;obtain⟨u,rfl,t,rfl⟩:=fm r;exact call_abs_int λu tk=>⟨.int (if i<0 then -i else i),H,I.tok _,⟨_,rfl⟩,q⟩
theorem oC(hc:X.calm=true):cY X (.builtin "max") (λxs H Q=>∃ i j,xs=[.int i,.int j]/\Q (.int (if j>i then j else i)) H):=by
 intro pins s σ H xs us Q I r h;obtain⟨i,j,rfl,q⟩:=h;obtain⟨u,w',rfl,⟨t,rfl⟩,⟨t',rfl⟩⟩:=vals2 r;refine max_two_ints (I.ok.hd hc) λh' tk k=>⟨_,H,I.kept k,?_,q⟩
 by_cases hj:j>i
 ·rw[yad hj,yad hj];exact⟨_,rfl⟩
 ·rw[yac hj,yac hj];exact⟨_,rfl⟩
theorem c9:cY X (.type "str") (λxs H Q=>∃ i,xs=[.int i]/\i.natAbs.log2<1920/\Q (.str (toString i)) H):=by
 intro pins s σ H xs us Q I r h;obtain⟨i,rfl,hz,q⟩:=h;obtain⟨u,rfl,t,rfl⟩:=fm r;exact PySem.P.str_of_int hz ⟨.str _,H,I.tok _,⟨_,rfl⟩,q⟩
end
structure tF(h:Heap)(x dx C:Addr)(mA:A5):Prop where
 obj:h.get? x=some (W.instObj C dx)
 ns:h.Ns1 dx mA
 ne:dx≠x
theorem x9{h:AO}{mA:A5}(n:h.Ns1 dx mA):∃ od,h.get? dx=some od/\∀ name,W.lookIn name od=some (mA name):=by
 obtain⟨o,es,ep,ho,hd,hk,_,hm⟩:=n;refine⟨o,ho,λname=>?_⟩;have e:=hm name;unfold nsFind findBy at e;rw[<- Array.find?_toList]at e;unfold W.lookIn;rw[hd];dsimp only;split
 ·rename_i y q
  rw[q]at e;exact ybm some e
 ·rename_i q
  rw[q]at e;have a:es.toList.any (·.refKey)=false:=by
   rw[List.any_eq_false];intro y hy;obtain⟨z,t,hkey⟩:=hk y (Array.mem_toList_iff.mp hy);simp[DictEntry.refKey,hkey]
  have a':¬ es.toList.any (·.refKey)=true:=by rw[a];exact za8
  rw[yac a'];exact ybm some e
theorem tF.look{x:AA}{mA:A5}(I:tF h x dx C mA):∃ od,W.InstAt h x (W.instObj C dx) C (some od)/\∀ name,W.lookIn name od=some (mA name) :=
 let ⟨od,ho,hl⟩:=x9 I.ns
 ⟨od,⟨I.obj,rfl,rfl,ho⟩,hl⟩
section
variable{prog:AF}{w:AJ}{A:AK}{E:A9}{s:AE}{K:A2}{x dx C f:AA}{mA:A5}{name:AL}{v:AI}
theorem get_map{Q:A9}(X:K.In s.heap)(I:tF s.heap x dx C mA)(hg:W.plainGet K C name=true)(hh:W.hasDictIn K C=true)
  (ha:W.findIn K (.ref C) name=some none) (hv:mA name=some v) (hv':W.handedIn v=true) (h:Q v { s with toks:=s.toks+1 }) :
  wpAny (model prog w) A (getAttr (.ref x) name expr) Q E s:=by
 obtain⟨od,J,hl⟩:=I.look;exact W.get_value X J (W.plainGet_of hg).1 (W.findObj_own hh ha rfl (by rw[hl,hv])) hv' h
theorem yM{Q:Value×List Value->Shared->Prop}(X:K.In s.heap)(I:tF s.heap x dx C mA)(hg:W.plainGet K C name=true)
  (hf:W.findIn K (.ref C) name=some (some (.ref f))) (ht:W.isFn K (.ref f)=true) (hv:mA name=none) (h:Q (.ref f,[.ref x]) s) :
  wpAny (model prog w) A (getMethod (.ref x) name pl) Q E s:=by
 obtain⟨od,J,hl⟩:=I.look;exact W.method_fn X J (W.plainGet_of hg).1 (W.plainGet_of hg).2 hf (beq_iff_eq.mp ht) (by show(W.lookIn name od).map (·.isSome)=some false;rw[hl,hv];rfl) h
theorem Cf{ns:AH}{Q:A0}(X:K.In s.heap)(I:tF s.heap x dx C mA)
  (hs:W.findIn K (.ref C) "__setattr__"=some (some (.builtin "object.__setattr__"))) (hp:W.plainOver K C=true) (ht:W.takerIn K C name=some none) (hh:W.hasDictIn K C=true)
  (hw:PySem.Within mA ns) (hsz:ns.length<=sizeLine)
  (h:∀ h',tF h' x dx C (λy=>if y=name then some v else mA y)->Heap.SameBut dx s.heap h'->Q () { s with heap:=h',toks:=s.toks+2 }) :
  wpAny (model prog w) A (setAttr (.ref x) name v) Q E s:=by
 obtain⟨od,J,hl⟩:=I.look;refine W.set_plain X J hs (W.osa_open (s:={ s with toks:=s.toks+1 }) (r:=none) X J hp ht λb=>?_);obtain⟨cd,hc,hd'⟩:=W.any_some hh;have hx:s.heap.get? x=some ⟨.ref C,some dx,.plain,#[]⟩:=I.obj;refine ya8 (ya9 (ya8 (ya8 (wpAny_loadPart hx (ya8 (W.Looks.here (s:={ s with toks:=s.toks+1 }) (W.looks_clsIn X hc) ?_))))));rw[hd'];refine ya9 (a:=some dx) (ya8 (ya9 (ya8 ?_)));refine wpAny_nsSet1 (s:={ s with toks:=s.toks+1 }) I.ns λh' hn2 hs2=>?_
 obtain⟨oD,esD,epD,hoD,hdD,hcD⟩:=hn2.count (PySem.Within.cons name v hw);refine ya8 (wpAny_lookBehind hoD (by rw[hdD];exact pastItsLine_dict (zap hcD (by rw[za2];lia))) ?_);exact ya9 (h _ ⟨(hs2.2 _ (yav I.ne)).trans I.obj,hn2,I.ne⟩ hs2)
theorem yN(X:K.In s.heap)(hm:W.makesIn K C=true)
  (hi:W.findIn K (.ref C) "__init__"=some (some (.ref f))) (hf:W.typeIn K (.ref f)=some (.type "function"))
  (h:codeAny (model prog w) (A.under (.builtin "type.__call__" ⟨.ref C::vs,kw⟩)) (.call (.ref f) ⟨.ref (s.heap.objs.size+1)::vs,kw⟩) (W.InitBack (s.heap.objs.size+1) R)
   { s with heap:=(s.heap.push W.emptyDict).push (W.instObj C s.heap.objs.size) }) :
  codeAny (model prog w) A (.call (.ref C) ⟨vs,kw⟩) R s:=by
 obtain⟨hh,g,d,t,os⟩:=s;exact W.make_core (W.makes_of X hm) (W.looks_findIn X hi) (λself=>W.bind_fn X self hf) (.inl rfl) h
end
def kJ(f:Str)(v:V):List (Str×V)->List (Str×V)
 | []=>[(f,v)]
 | (g,x)::r=>if g=f then (g,v)::r else (g,x)::kJ f v r
theorem jG(f g:AL)(v:V):∀ fs:List (Str×V),(kJ f v fs).lookup g=if g=f then some v else fs.lookup g
 | []=>by
  show List.lookup g [(f,v)]=_;by_cases h:g=f
  ·have hb:(g==f)=true:=beq_iff_eq.mpr h
   simp only[List.lookup,hb,yad h]
  ·have hb:(g==f)=false:=yah.mpr h
   simp only[List.lookup,hb,yac h]
 | (k,x)::r=>by
  have ih:=jG f g v r;rw[show kJ f v ((k,x)::r)=(if k=f then (k,v)::r else (k,x)::kJ f v r) from rfl];by_cases hk:k=f
  ·rw[yad hk]
   by_cases h:g=k
   ·have hb:(g==k)=true:=beq_iff_eq.mpr h
    simp only[List.lookup,hb,yad (h.trans hk)]
   ·have hb:(g==k)=false:=yah.mpr h
    simp only[List.lookup,hb,yac (λe:g=f=>h (e.trans hk.symm))]
  ·rw[yac hk]
   by_cases h:g=k
   ·have hb:(g==k)=true:=beq_iff_eq.mpr h
    simp only[List.lookup,hb,yac (λe:g=f=>hk (h.symm.trans e))]
   ·have hb:(g==k)=false:=yah.mpr h
    simp only[List.lookup,hb];exact ih
theorem ju(f:AL)(v:V):∀ fs:List (Str×V),f∈(kJ f v fs).map (·.1)/\∀ g,g∈fs.map (·.1)->g∈(kJ f v fs).map (·.1)
 | []=>⟨by simp[kJ],λg h=>by simp at h⟩
 | (k,x)::r=>by
  obtain⟨i1,i2⟩:=ju f v r;rw[show kJ f v ((k,x)::r)=(if k=f then (k,v)::r else (k,x)::kJ f v r) from rfl];by_cases hk:k=f
  ·rw[yad hk]
   subst hk;exact⟨by simp,λg h=>by simpa using h⟩
  ·rw[yac hk]
   refine⟨?_,λg h=>?_⟩
   ·rw[zaa]
    exact za3 _ i1
   ·rw[zaa]at h ⊢
    rcases za0.mp h with e | e
    ·exact za0.mpr (.inl e)
    ·exact za3 _ (i2 g e)
theorem jH(f:AL)(v:V):∀ fs:List (Str×V),(kJ f v fs).length<=fs.length+1
 | []=>by simp[kJ]
 | (k,x)::r=>by
  have ih:=jH f v r;rw[show kJ f v ((k,x)::r)=(if k=f then (k,v)::r else (k,x)::kJ f v r) from rfl];by_cases hk:k=f
  ·rw[yad hk,za2,za2];lia
  ·rw[yac hk,za2,za2];lia
theorem kW.some_of(r:kW (some v) o):∃ u,o=some u/\RelV v u:=by
 cases o with
 | none=>exact(show False from r).elim
 | some u=>exact⟨u,rfl,r⟩
theorem kW.none_of(r:kW none o):o=none:=by
 cases o with
 | none=>rfl
 | some u=>exact(show False from r).elim
theorem xa(r:RelV v u):W.handedIn u=true:=by
 cases v with
 | non=>cases (show u=Value.none from r);rfl
 | bl b=>cases (show u=Value.bool b from r);rfl
 | int i=>obtain⟨t,e⟩:=(show ∃ t,u=Value.int i t from r);cases e;rfl
 | str x=>obtain⟨t,e⟩:=(show ∃ t,u=Value.str x t from r);cases e;rfl
 | byt b=>obtain⟨t,e⟩:=(show ∃ t,u=Value.bytes b t from r);cases e;rfl
 | flt b=>obtain⟨t,e⟩:=(show ∃ t,u=Value.float b t from r);cases e;rfl
 | ref a=>cases (show u=Value.ref a from r);rfl
 | ty n=>cases (show u=Value.type n from r);rfl
section
variable{P:AF}{w:AJ}{H H':Hp}{h h':AO}{a C dx:AA}{fs fs':Ao}
theorem jX(hok:HOk P w H h)(e:H a=some (.ins C dx fs)):∃ mA,tF h a dx C mA/\(∀ f,kW (fs.lookup f) (mA f))/\PySem.Within mA (fs.map (·.1))/\fs.length<=1000/\H dx=some (.own a):=by
 obtain⟨d,z,ne,ob,mA,n,r,q⟩:=(show bf P w H h a (.ins C dx fs) from hok a _ e);exact⟨mA,⟨ob,n,ne⟩,r,q,z,d⟩
end
structure Cls(K:A2)(C:Addr):Prop where
 pg:W.plainGet K C Str.empty=true
 hd:W.hasDictIn K C=true
 po:W.plainOver K C=true
 sa:W.findIn K (.ref C) "__setattr__"=some (some (.builtin "object.__setattr__"))
theorem Cls.get{K:A2}{C:AA}(c:Cls K C)(f:AL):W.plainGet K C f=true:=c.pg
def dm(K:A2)(C:Addr)(f:Str):Prop:=W.findIn K (.ref C) f=some none
theorem dm.taker{K:A2}{C:AA}{f:AL}(n:dm K C f):W.takerIn K C f=some none:=by
 unfold W.takerIn;rw[show W.findIn K (.ref C) f=some none from n];rfl
structure xb(K:A2)(C:Addr)(m:Str)(f:Addr):Prop where
 at_:W.findIn K (.ref C) m=some (some (.ref f))
 fn:W.isFn K (.ref f)=true
 kp:W.keepIn K (.ref f)=true
section
variable{X:Cx}{pins:A7}{σ:St}{H:Hp}{s:AE}{a C dx:AA}{fs:Ao}{f:AL}{v:V}{A:AK}{E:A9}
theorem mi{Q:A9}(I:Inv X pins σ H s)(e:H a=some (.ins C dx fs))(c:Cls X.K C)(n:dm X.K C f)(l:fs.lookup f=some v)
  (h:∀ u s',Inv X pins σ H s'->RelV v u->Q u s'):wpAny (model X.prog X.w) A (getAttr (.ref a) f b) Q E s:=by
 obtain⟨mA,O,r,_,_,_⟩:=jX I.hok e;obtain⟨u,hu,ru⟩:=kW.some_of (v:=v) (o:=mA f) (by rw[<- l];exact r f);exact get_map I.kIn O (c.get f) c.hd n hu (xa ru) (h u _ (I.tok _) ru)
theorem mj{Q:Value×List Value->Shared->Prop}(I:Inv X pins σ H s)(e:H a=some (.ins C dx fs))(c:Cls X.K C)(k:xb X.K C m g)(l:fs.lookup m=none)
  (h:Q (.ref g,[.ref a]) s):wpAny (model X.prog X.w) A (getMethod (.ref a) m pl) Q E s:=by
 obtain⟨mA,O,r,_,_,_⟩:=jX I.hok e;have hn:mA m=none:=kW.none_of (by rw[<- l];exact r m);exact yM I.kIn O (c.get m) k.at_ k.fn hn h
theorem mn{Q:A0}(I:Inv X pins σ H s)(e:H a=some (.ins C dx fs))(c:Cls X.K C)(n:dm X.K C f)(hl:fs.length<1000)(ry:RelV y u)
  (h:∀ s',Inv X pins σ (upd H a (.ins C dx (kJ f y fs))) s'->Q () s'):wpAny (model X.prog X.w) A (setAttr (.ref a) f u) Q E s:=by
 obtain⟨mA,O,r,wi,_,ho⟩:=jX I.hok e;have hz:(fs.map (·.1)).length<=sizeLine:=by rw[za4,yau];lia
 refine Cf I.kIn O c.sa c.po n.taker c.hd wi hz λh' O' sb=>h _ ?_
 have hd:∃ o,h'.get? dx=some o:=let ⟨o,_,_,e',_⟩:=O'.ns;⟨o,e'⟩
 refine I.write (x:=a) (e:=dx) (by rw[e];exact True.intro) (.inr ho) (λb q hb z=>(sb.2 b hb).trans z) hd ?_;refine⟨by rw[am O.ne];exact ho,?_,O.ne,O'.obj,_,O'.ns,λg=>?_,λg hg=>?_⟩
 ·have:=jH f y fs;lia
 ·show kW ((kJ f y fs).lookup g) (if g=f then some u else mA g)
  rw[jG];by_cases q:g=f
  ·rw[yad q,yad q];exact ry
  ·rw[yac q,yac q];exact r g
 ·by_cases q:g=f
  ·rw[q];exact(ju f y fs).1
  ·refine(ju f y fs).2 g (wi g λz=>hg ?_)
   show(if g=f then some u else mA g)=none;rw[yac q];exact z
theorem Inv.made(I:Inv X pins σ H s):Inv X pins σ (upd (upd H s.heap.objs.size (.own (s.heap.objs.size+1))) (s.heap.objs.size+1) (.ins C s.heap.objs.size []))
  { s with heap:=(s.heap.push W.emptyDict).push (W.instObj C s.heap.objs.size) }:=by
 have e1:(s.heap.push W.emptyDict).get? s.heap.objs.size=some W.emptyDict:=yak s.heap rfl;have e2:((s.heap.push W.emptyDict).push (W.instObj C s.heap.objs.size)).get? (s.heap.objs.size+1)=some (W.instObj C s.heap.objs.size):=by
  have:=yak (s.heap.push W.emptyDict) (o:=W.instObj C s.heap.objs.size) rfl
  rwa [ybi]at this
 have e3:(s.heap.push W.emptyDict).Ns s.heap.objs.size (λ_=>none):=⟨W.emptyDict,#[],_,e1,rfl,(λe he=>absurd he (by simp)),λ_=>rfl⟩;have I1:=I.laid (a:=s.heap.objs.size) (o:=.own (s.heap.objs.size+1)) (h':=s.heap.push W.emptyDict) (t':=s.toks) (λb u q=>yai _ q) (za5 _) ⟨_,e1⟩;refine I1.laid (a:=s.heap.objs.size+1) (o:=.ins C s.heap.objs.size []) (t':=s.toks) (λb u q=>yai _ q) (Nat.le_of_eq (ybi _ _)) ?_;have ne:s.heap.objs.size≠s.heap.objs.size+1:=zai (zbc _);refine⟨by rw[am ne,a8],zb6 _,ne,e2,λ_=>none,(Heap.Ns1.of_empty e3).at λo q=>yai _ q,λ_=>True.intro,λy hy=>absurd rfl hy⟩
theorem Cg(hb:attributeBase e f env (eval e env)=eval e env)
  (h:wpAny (model prog w) A (eval e env) (λo s₁=>wpAny (model prog w) A (getAttr o f true) Q E s₁) E s):wpAny (model prog w) A (eval (.Attribute e f pos) env) Q E s :=
 Attribute_any_ h (by rw[arm_eval_Attribute,hb])
end
def tFld(K:A2)(ta:TE)(f:Str):TE:=λσ H Q=>ta σ H λx H1=>∃ a C dx fs v,x=.ref a/\H1 a=some (.ins C dx fs)/\Cls K C/\dm K C f/\fs.lookup f=some v/\Q v H1
def sFld(K:A2)(ta tv:TE)(f:Str):TS:=λD σ H=>tv σ H λy H1=>ta σ H1 λx H2=>∃ a C dx fs,x=.ref a/\H2 a=some (.ins C dx fs)/\Cls K C/\dm K C f/\fs.length<1000 /\
 D.nx σ (upd H2 a (.ins C dx (kJ f y fs)))
def InOp(X:Cx)(op:Operator)(rd:V->V->Hp->VK->Prop):Prop :=
 ∀ (pins:A7) (s:Shared) (σ:St) (H:Hp) (x y:V) (u v:Value) (Q:VK),Inv X pins σ H s->RelV x u->RelV y v->rd x y H Q->wpAny (model X.prog X.w) X.A (inplaceOp op u v) (EP X pins σ Q) X.xe s
def Ci(K:A2)(ta tv:TE)(rd:V->V->Hp->VK->Prop)(f:Str):TS:=λD σ H=>ta σ H λx H1=>∃ a C dx fs v,x=.ref a/\H1 a=some (.ins C dx fs)/\Cls K C/\dm K C f/\fs.lookup f=some v /\
 tv σ H1 λy H2=>rd v y H2 λz H3=>∃ dx' fs',H3 a=some (.ins C dx' fs')/\fs'.length<1000/\D.nx σ (upd H3 a (.ins C dx' (kJ f z fs')))
section
variable{X:Cx}{o e value:AX}{f:AL}{pos pos' tpos:Pos}{ta tv:TE}
theorem dh(he:PE X e ta)(hb:attributeBase e f X.env (eval e X.env)=eval e X.env):PE X (.Attribute e f pos) (tFld X.K ta f):=by
 intro pins s σ H Q I h;refine Cg hb (thn (he pins s σ H _ I h) λu s1 zz1=>?_);obtain⟨x,H1,I1,rx,a,C,dx,fs,v,ex,ea,c,n,l,q⟩:=zz1;subst ex;obtain rfl:u=Value.ref a:=rx;exact mi I1 ea c n l λu' s2 I2 ru=>⟨v,H1,I2,ru,q⟩
theorem dP(ha:PE X o ta)(hv:PE X value tv)(hs:swapsWith value (some (.Attribute o f pos')) pos.line X.env=pure false):PS X (.Assign [.Attribute o f pos'] value pos) (sFld X.K ta tv f):=by
 intro pins s σ H D I h;refine plainObj_wpAny_Assign_Attribute (thn (hv pins s σ H _ I h) λu s1 zz1=>?_) hs;obtain⟨y,H1,I1,ry,q⟩:=zz1;refine thn (ha pins s1 σ H1 _ I1 q) λov s2 zz2=>?_
 obtain⟨x,H2,I2,rx,a,C,dx,fs,ex,ea,c,n,l,q2⟩:=zz2;subst ex;obtain rfl:ov=Value.ref a:=rx;exact mn I2 ea c n l ry λs3 I3=>⟨σ,_,I3,q2⟩
theorem xc(ha:PE X o ta)(hv:PE X value tv)(hop:InOp X op rd):PS X (.AugAssign (.Attribute o f tpos) op value pos) (Ci X.K ta tv rd f):=by
 intro pins s σ H D I h;refine wpAny_AugAssign_AttributeAny (thn (ha pins s σ H _ I h) λov s1 zz1=>?_);obtain⟨x,H1,I1,rx,a,C,dx,fs,v,ex,ea,c,n,l,q⟩:=zz1;subst ex;obtain rfl:ov=Value.ref a:=rx;refine mi I1 ea c n l λu s2 I2 ru=>thn (hv pins s2 σ H1 _ I2 q) λw3 s3 zz1=>?_
 obtain⟨y,H2,I3,ry,q3⟩:=zz1;refine thn (hop pins s3 σ H2 v y u w3 _ I3 ru ry q3) λw4 s4 zz2=>?_
 obtain⟨z,H3,I4,rz,dx',fs',ea',l',q4⟩:=zz2;exact mn I4 ea' c n l' rz λs5 I5=>⟨σ,_,I5,q4⟩
def rAdd:V->V->Hp->VK->Prop:=λx y H Q=>∃ i j,x=.int i/\y=.int j/\Q (.int (i+j)) H
theorem F2:InOp X .Add rAdd:=by
 rintro pins s σ H x y u v Q I rx ry ⟨i,j,rfl,rfl,q⟩;obtain⟨t,rfl⟩:=(show ∃ t,u=Value.int i t from rx);obtain⟨t',rfl⟩:=(show ∃ t',v=Value.int j t' from ry);exact PyProof.Rows.iadd_int ⟨.int (i+j),H,I.tok _,⟨_,rfl⟩,q⟩
end
section
variable{X:Cx}{pins:A7}{σ:St}{H:Hp}{s:AE}{A:AK}{E:A9}{Q:A9}{c:AI}{b:Bool}
inductive lO(K:A2)(H:Hp):V->Value->Prop where
 | non:lO K H .non (.type "NoneType")
 | bl (x:Bool):lO K H (.bl x) (.type "bool")
 | int (i:Int):lO K H (.int i) (.type "int")
 | str (x:Str):lO K H (.str x) (.type "str")
 | flt (x:UInt64):lO K H (.flt x) (.type "float")
 | lst {a:Addr} {xs:List V} (e:H a=some (.lst xs)):lO K H (.ref a) (.type "list")
 | frz {a:Addr} {o:Obj} {xs:List V} (e:H a=some (.frz o (.lst xs))):lO K H (.ref a) (.type "list")
 | tup {a:Addr} {xs:List V} (e:H a=some (.tup xs)):lO K H (.ref a) (.type "tuple")
 | dK {a:Addr} {kvs:List (Key×V)} (e:H a=some (.dK kvs)):lO K H (.ref a) (.type "dict")
 | dT {a:Addr} {kvs:List (List Key×V)} (e:H a=some (.dT kvs)):lO K H (.ref a) (.type "dict")
 | ins {a C dx:Addr} {fs:List (Str×V)} (e:H a=some (.ins C dx fs)) (cl:Cls K C) (ha:W.findIn K (.ref C) "__class__"=some (some (.builtin "object.__class__")))
   (hn:W.specialIn K (.builtin "object.__class__") "__get__"=some (some (.builtin "getset_descriptor.__get__"))) (htk:W.takesIn K (.builtin "object.__class__")=some true)
   (hm:W.mroIn K C (.type "object")=some true):lO K H (.ref a) (.ref C)
theorem xf{u:AI}(I:Inv X pins σ H s)(rx:RelV x u)(ty:lO X.K H x t)(e:W.kitOne X.K t c=some b)(h:∀ tk,Q (.bool b) { s with toks:=tk }) :
  wpAny (model X.prog X.w) A (call (.builtin "isinstance") [u,c]) Q E s:=by
 cases ty with
 | non=>cases (show u=Value.none from rx);exact ycb W.kitx_none I.kIn True.intro e (λz=>nomatch z) h
 | bl y=>cases (show u=Value.bool y from rx);exact ycb W.kitx_bool I.kIn True.intro e (λz=>nomatch z) h
 | int i=>obtain⟨t,q⟩:=(show ∃ t,u=Value.int i t from rx);cases q;exact ycb W.kitx_int I.kIn True.intro e (λz=>nomatch z) h
 | str y=>obtain⟨t,q⟩:=(show ∃ t,u=Value.str y t from rx);cases q;exact ycb W.kitx_str I.kIn True.intro e (λz=>nomatch z) h
 | flt y=>obtain⟨t,q⟩:=(show ∃ t,u=Value.float y t from rx);cases q;exact ycb W.kitx_float I.kIn True.intro e (λz=>nomatch z) h
 | @lst a xs ea =>
  cases (show u=Value.ref a from rx);obtain⟨_,_,n,_,h1⟩:=(show bf X.prog X.w H s.heap a (.lst xs) from I.hok a _ ea);exact ycb W.kitx_list I.kIn ⟨_,h1,rfl⟩ e (λz=>nomatch z) h
 | @frz a ob xs ea =>
  cases (show u=Value.ref a from rx);obtain⟨_,_,_,n,_,h1⟩:=(show bf X.prog X.w H s.heap a (.frz ob (.lst xs)) from I.hok a _ ea);exact ycb W.kitx_list I.kIn ⟨_,h1,rfl⟩ e (λz=>nomatch z) h
 | @tup a xs ea =>
  cases (show u=Value.ref a from rx);obtain⟨_,_,_,p⟩:=(show bf X.prog X.w H s.heap a (.tup xs) from I.hok a _ ea);obtain⟨o,h1,h2,_⟩:=p;exact ycb W.kitx_tuple I.kIn ⟨o,h1,h2⟩ e (λz=>nomatch z) h
 | @dK a kvs ea =>
  cases (show u=Value.ref a from rx);obtain⟨_,_,vs,_,p⟩:=(show bf X.prog X.w H s.heap a (.dK kvs) from I.hok a _ ea);obtain⟨o,es,ep,h1,h2,_⟩:=p;exact ycb W.kitx_dict I.kIn ⟨o,h1,h2.1⟩ e (λz=>nomatch z) h
 | @dT a kvs ea =>
  cases (show u=Value.ref a from rx);obtain⟨_,_,xs,_,o,es,ep,h1,h2,_⟩:=(show bf X.prog X.w H s.heap a (.dT kvs) from I.hok a _ ea);exact ycb W.kitx_dict I.kIn ⟨o,h1,h2.1⟩ e (λz=>nomatch z) h
 | @ins a C dx fs ea cl ha hn htk hm =>
  cases (show u=Value.ref a from rx);obtain⟨mA,O,_⟩:=jX I.hok ea;obtain⟨od,J,_⟩:=O.look;exact ycb (W.kitx_own (cl.get _) cl.hd ha hn htk hm) I.kIn J e (λz=>nomatch z) h
end
structure ki(k:Nat)(A:Around):Prop where
 hd:A.handled=none
 dp:A.depth+3*k+5<recursionLimit
 un:A.units+16*k+200<cLine
theorem ki.mono{j:Nat}(r:ki k A)(h:j<=k):ki j A:=⟨r.hd,by have:=r.dp;lia,by have:=r.un;lia⟩
theorem ki.deeper{A:AK}(r:ki (k+1) A)(env:Env):ki k (A.deeper env) :=
 ⟨r.hd,by have:=r.dp;show A.depth+1+3*k+5<_;lia,by have:=r.un;show A.units+3+16*k+200<_;lia⟩
theorem tG{A:AK}:(A.under (.builtin "type.__call__" ⟨.ref C::us,kw⟩)).depth=A.depth+1:=by
 first | rfl | simp[Around.under,Code.weight,Code.isCreation,Code.isGuard,Code.isCaller,Code.frames,Code.isFrame,guardIds]
theorem tH{A:AK}:(A.under (.builtin "type.__call__" ⟨.ref C::us,kw⟩)).units=A.units+1:=by
 first | rfl | simp[Around.under,Code.cUnits,Code.frames,Code.isFrame]
theorem ki.make{A:AK}(r:ki (k+1) A)(C:AA)(us:AB)(kw:AY):ki k (A.under (.builtin "type.__call__" ⟨.ref C::us,kw⟩)) :=
 ⟨r.hd,by have:=r.dp;rw[tG];lia,by have:=r.un;rw[tH];lia⟩
theorem ki.depth{A:AK}(r:ki k A):A.depth<recursionLimit:=by have:=r.dp;lia
theorem ki.units{A:AK}(r:ki k A):A.units+64<cLine:=by have:=r.un;lia
theorem ki.F3{A:AK}(r:ki k A):A.units<cLine:=by have:=r.un;lia
def yO:TA:=λ_ H Q=>Q [] H
def vb(ta:TE)(tr:TA):TA:=λσ H Q=>ta σ H λx H1=>tr σ H1 λxs H2=>Q (x::xs) H2
section
variable{X:Cx}{e:AX}{es:AQ}{te:TE}{t:TA}{pos:Pos}
theorem a9:PA X [] yO:=λ_ _ _ _ H Q I h=>ycr ⟨[],H,I,.nil,h⟩
theorem bb(ha:PE X e te)(hr:PA X es t)(hs:starEach (e::es) X.env=(false,eval e X.env)::starEach es X.env:=by rfl):PA X (e::es) (vb te t):=by
 intro pos pins s σ H Q I h;rw[hs];show wpAny _ _ (spliced ((false,eval e X.env)::backTo pos (starEach es X.env))) _ _ s;refine yci (thn (ha pins s σ H _ I h) λu s1 zz1=>?_);obtain⟨x,H1,I1,r1,q1⟩:=zz1;exact thn (hr pos pins s1 σ H1 _ I1 q1) λus s2 ⟨xs,H2,I2,r2,q2⟩=>⟨x::xs,H2,I2,.cons r1 r2,q2⟩
def tTup(t:TA):TE:=λσ H Q=>t σ H λxs H1=>xs.length<=sizeLine/\∀ p,H1 p=none->Q (.ref p) (upd H1 p (.tup xs))
def tLst(t:TA):TE:=λσ H Q=>t σ H λxs H1=>xs.length<=sizeLine/\∀ p,H1 p=none->Q (.ref p) (upd H1 p (.lst xs))
theorem aI{x1}(h:PA X es t):PE X (.Tuple es x1 pos) (tTup t):=by
 intro pins s σ H Q I hq;refine wpAny_Tuple_spliced (thn (h pos pins s σ H _ I hq) λus s1 ⟨xs,H1,I1,r,z,q⟩=>⟨by rw[<- r.length];exact z,?_⟩);have hf:H1 s1.heap.objs.size=none:=I1.hok.fresh (za5 _);refine⟨.ref s1.heap.objs.size,upd H1 s1.heap.objs.size (.tup xs),I1.laid (t':=s1.toks) (λb u e=>yai _ e) (za5 _) ?_,rfl,q _ hf⟩;exact⟨z,us,r,⟨_,yak _ rfl,rfl,_,rfl⟩⟩
theorem aZ(h:PA X es t):PE X (.List es pos) (tLst t):=by
 intro pins s σ H Q I hq;refine wpAny_List_spliced (thn (h pos pins s σ H _ I hq) λus s1 ⟨xs,H1,I1,r,z,q⟩=>⟨by rw[<- r.length];exact z,?_⟩);have hf:H1 s1.heap.objs.size=none:=I1.hok.fresh (za5 _);refine⟨.ref s1.heap.objs.size,upd H1 s1.heap.objs.size (.lst xs),I1.laid (t':=s1.toks) (λb u e=>yai _ e) (za5 _) ?_,rfl,q _ hf⟩;exact⟨z,us,0,r,yak _ rfl⟩
end
abbrev Sp:=List V->Hp->VK->XK->Prop
abbrev CXT:=List Env->Hp->Shared->XK->Value->Shared->Prop
structure tI(P:Program)(w:World)(K:A2)(mg:A5)(base:Heap)(A:Around)(outer:List Env)(s:Shared)(H:Hp):Prop where
 frames:A.frames=some outer
 mod:Mod K mg base
 bs:∀ b o,base.get? b=some o->s.heap.get? b=some o/\H b=none
 bsz:base.objs.size<=s.heap.objs.size
 lI:s.heap.FunFrames base outer
 frf:∀ b∈frs outer,H b=none
 hok:HOk P w H s.heap
 bare:AllBare s.gens
def CE(outer:List Env)(P:Program)(w:World)(H:Hp)(s:Shared)(Q:VK)(u:Value)(s':Shared):Prop :=
 ∃ v H',s'.os=s.os/\AllBare s'.gens/\Un (frs outer) [] H H' s.heap s'.heap/\HOk P w H' s'.heap/\RelV v u/\Q v H'
def CR(CX:CXT)(outer:List Env)(P:Program)(w:World)(H:Hp)(s:Shared)(Q:VK)(E:XK)(r:Result)(s':Shared):Prop :=
 match r with
 | .ok (.ret u)=>CE outer P w H s Q u s'
 | .ok _=>False
 | .error e=>CX outer H s E e s'
structure ke(P:Program)(w:World)(K:A2)(mg:A5)(base:Heap)(CX:CXT)(k:Nat)(f:Addr)(fd:FuncData)(ps:List Str)(sp:Sp):Prop where
 len:∀ vs H Q E,sp vs H Q E->vs.length=ps.length
 run:∀ (A:Around) (outer:List Env) (s:Shared) (H:Hp) (args:Args) (us:List Value) (vs:List V) (Q:VK) (E:XK),ki k A->tI P w K mg base A outer s H->BindsTo s fd args (ps.zip us)->kh vs us->sp vs H Q E ->
  codeAny (model P w) A (.call (.ref f) args) (CR CX outer P w H s Q E) s
theorem ke.mono{P:AF}{w:AJ}{K:A2}{mg:A5}{base:AO}{CX:CXT}{j k:Nat}{f:AA}{fd:AG}{ps:AH}{sp:Sp}(F:ke P w K mg base CX j f fd ps sp)(h:j<=k) :
  ke P w K mg base CX k f fd ps sp:=⟨F.len,λA outer s H args us vs Q E hr=>F.run A outer s H args us vs Q E (hr.mono h)⟩
theorem tI.make{P:AF}{w:AJ}{K:A2}{mg:A5}{base:AO}{A:AK}{outer:AS}{s:AE}{H:Hp}(e:tI P w K mg base A outer s H)(C:AA)(us:AB)(kw:AY) :
  tI P w K mg base (A.under (.builtin "type.__call__" ⟨.ref C::us,kw⟩)) outer s H:=⟨by first | exact e.frames | (simpa [Around.under,Code.envs,Code.isFrame,pushEnvs] using e.frames),e.mod,e.bs,e.bsz,e.lI,e.frf,e.hok,e.bare⟩
section
variable{X:Cx}{pins:A7}{σ:St}{H:Hp}{s s':AE}
theorem Inv.env0(I:Inv X pins σ H s):tI X.prog X.w X.K X.mg X.base X.A X.stack s H :=
 ⟨I.ok.frames,I.ok.mod,I.bs,zap I.ok.bsz I.sz,I.stack,I.lJ,I.hok,I.bare⟩
theorem Inv.after(I:Inv X pins σ H s)(h:CE X.stack X.prog X.w H s Q u s'):EP X pins σ Q u s':=by
 obtain⟨v,H',os,bare,un,hok,r,q⟩:=h;obtain⟨hh,g,d,t,os'⟩:=s';obtain rfl:os'=s.os:=os;exact⟨v,H',I.call (h':=hh) (g':=g) (d':=d) (t':=t) (ch:=[]) un hok bare (λb z=>absurd z (by simp)),r,q⟩
end
def yP(sp:Sp)(dvs:List V)(E:XK)(t:TA):TE:=λσ H Q=>t σ H λvs H1=>sp (vs++dvs) H1 Q E
def El(C:Addr)(m:Str)(sp:Sp)(dvs:List V)(E:XK)(ta:TE)(t:TA):TE:=λσ H Q=>ta σ H λx H1=>∃ a dx fs,x=.ref a/\H1 a=some (.ins C dx fs)/\fs.lookup m=none /\
 t σ H1 λvs H2=>sp (x::(vs++dvs)) H2 Q E
def tMake(C:Addr)(sp:Sp)(dvs:List V)(E:XK)(t:TA):TE:=λσ H Q=>t σ H λvs H1=>∀ x dx,H1 x=none->H1 dx=none->dx≠x ->
 sp (.ref x::(vs++dvs)) (upd (upd H1 dx (.own x)) x (.ins C dx [])) (λv H2=>v=.non/\Q (.ref x) H2) E
def ar(K:A2)(fd:FuncData)(ps:List Str)(ds:List Value):Prop :=
 ∀ (s:Shared) (us:List Value),K.In s.heap->(us++ds).length=ps.length->BindsTo s fd ⟨us,[]⟩ (ps.zip (us++ds))
theorem ar.all{K:A2}{fd:AG}{ps:AH}(h:∀ us:List Value,us.length=ps.length->bindArgs fd ⟨us,[]⟩=pure (ps.zip us)):ar K fd ps []:=λs us _ hl=>by
 rw[zb0]at hl ⊢;exact .of_eq (h us hl)
def eG(CX:CXT)(X:Cx)(E:XK):Prop:=∀ (pins:A7) (σ:St) (H:Hp) (s:Shared) (e:Value) (s':Shared),Inv X pins σ H s->CX X.stack H s E e s'->X.xe e s'
section
variable{X:Cx}{CX:CXT}{k:Nat}{f C:AA}{fd:AG}{ps:AH}{sp:Sp}{dvs:Ac}{ds:AB}{E:XK}{x m:AL}{p pos apos:Pos}{e o:AX}{es:AQ}{ta:TE}{t:TA}
theorem pR(F:ke X.prog X.w X.K X.mg X.base CX k f fd ps sp)(hr:ki k X.A)(hb:ar X.K fd ps ds)(hd:kh dvs ds)(hx:eG CX X E)
  (I:Inv X pins σ H s) (r:kh vs us) (h:sp (vs++dvs) H Q E):wpAny (model X.prog X.w) X.A (call (.ref f) us) (EP X pins σ Q) X.xe s:=by
 have r2:kh (vs++dvs) (us++ds):=r.append hd;have hl:(us++ds).length=ps.length:=by rw[<- r2.length];exact F.len _ _ _ _ h
 refine wpAny_call (ye7 (F.run X.A X.stack s H ⟨us,[]⟩ (us++ds) (vs++dvs) Q E hr I.env0 (hb s us I.kIn hl) r2 h) λr s' hq=>?_);cases r with
 | error e=>exact hx pins σ H s e s' I hq
 | ok fl =>
  cases fl with
  | ret u=>exact I.after hq
  | next=>exact False.elim hq
  | brk=>exact False.elim hq
  | cont=>exact False.elim hq
theorem iU(F:ke X.prog X.w X.K X.mg X.base CX k f fd ps sp)(hr:ki k X.A)(hg:Gl X x)(hm:X.mg x=some (.ref f))(hk:W.keepIn X.K (.ref f)=true)(hb:ar X.K fd ps ds)(hd:kh dvs ds)(hx:eG CX X E)
  (ha:PA X (e::es) t) (hdb:(x==("__debug__":AL))=false:=by decide) (he:starEach (e::es) X.env=(false,eval e X.env)::starEach es X.env:=by rfl) (hpl:(backTo pos (starEach es X.env)).any (·.1)=false:=by rfl) :
  PE X (.Call (.Name x p) (e::es) [] pos) (yP sp dvs E t):=by
 intro pins s σ H Q I h;refine ybr (fb I hg hm ?_ hdb);refine W.callWith_K (h₀:=X.base) I.ok.mod.kin hk (thn (ha pos pins s σ H _ I h) λus s1 zz1=>?_) he hpl;obtain⟨vs,H1,I1,r,q⟩:=zz1;refine ⟨I1.kIn,?_⟩;exact pR F hr hb hd hx I1 r q
theorem iT(F:ke X.prog X.w X.K X.mg X.base CX k f fd ps sp)(hr:ki k X.A)(hg:Gl X x)(hm:X.mg x=some (.ref f))(hk:W.keepIn X.K (.ref f)=true)(hb:ar X.K fd ps ds)(hd:kh dvs ds)(hx:eG CX X E)
  (hdb:(x==("__debug__":AL))=false:=by decide):PE X (.Call (.Name x p) [] [] pos) (yP sp dvs E yO):=by
 intro pins s σ H Q I h;refine ybr (fb I hg hm ?_ hdb);exact W.callWith_K0 I.kIn hk (pR (us:=[]) F hr hb hd hx I .nil h)
theorem pS(he:PE X o ta)(c:Cls X.K C)(hm:xb X.K C m f)(F:ke X.prog X.w X.K X.mg X.base CX k f fd ps sp)(hr:ki k X.A)(hb:ar X.K fd ps ds)(hd:kh dvs ds)(hx:eG CX X E)(ha:PA X (e::es) t)
  (hst:starEach (e::es) X.env=(false,eval e X.env)::starEach es X.env:=by rfl) (hpl:(backTo pos (starEach es X.env)).any (·.1)=false:=by rfl)
  (ht:eval (.Call (.Attribute o m apos) (e::es) [] pos) X.env=(do
   let ov <- eval o X.env
   standAt apos.atName
   let (f,first) <- holding [ov] (getMethod ov m pl)
   callWith pos f first (backTo pos (starEach (e::es) X.env)) (backToKw pos (keywordEach [] X.env))):=by rfl) :
  PE X (.Call (.Attribute o m apos) (e::es) [] pos) (El C m sp dvs E ta t):=by
 intro pins s σ H Q I h;refine W.methodCall_KW (pl:=pl) (thn (he pins s σ H _ I h) λu s1 zz1=>?_) ht;obtain⟨x,H1,I1,rx,a,dx,fs,ex,ea,l,q⟩:=zz1;subst ex;obtain rfl:u=Value.ref a:=rx;refine mj I1 ea c hm l ?_;refine W.callWith_K (first:=[.ref a]) (h₀:=X.base) I.ok.mod.kin hm.kp (thn (ha pos pins s1 σ H1 _ I1 q) λus s2 zz1=>?_) hst hpl;obtain⟨vs,H2,I2,r,q2⟩:=zz1;refine ⟨I2.kIn,?_⟩;exact pR (us:=.ref a::us) (vs:=.ref a::vs) F hr hb hd hx I2 (.cons rfl r) q2
theorem qZ(he:PE X o ta)(c:Cls X.K C)(hm:xb X.K C m f)(F:ke X.prog X.w X.K X.mg X.base CX k f fd ps sp)(hr:ki k X.A)(hb:ar X.K fd ps ds)(hd:kh dvs ds)(hx:eG CX X E)
  (ht:eval (.Call (.Attribute o m apos) [] [] pos) X.env=(do
   let ov <- eval o X.env
   standAt apos.atName
   let (f,first) <- holding [ov] (getMethod ov m pl)
   callWith pos f first (backTo pos (starEach [] X.env)) (backToKw pos (keywordEach [] X.env))):=by rfl) :
  PE X (.Call (.Attribute o m apos) [] [] pos) (El C m sp dvs E ta yO):=by
 intro pins s σ H Q I h;refine W.methodCall_KW (pl:=pl) (thn (he pins s σ H _ I h) λu s1 zz1=>?_) ht;obtain⟨x,H1,I1,rx,a,dx,fs,ex,ea,l,q⟩:=zz1;subst ex;obtain rfl:u=Value.ref a:=rx;refine mj I1 ea c hm l ?_;exact W.callWith_K0 (first:=[.ref a]) I1.kIn hm.kp (pR (us:=[.ref a]) (vs:=[.ref a]) F hr hb hd hx I1 (.cons rfl .nil) q)
structure Mk(K:A2)(C f:Addr):Prop where
 makes:W.makesIn K C=true
 init:W.findIn K (.ref C) "__init__"=some (some (.ref f))
 fn:W.isFn K (.ref f)=true
 kp:W.keepIn K (.ref C)=true
theorem yQ{H:Hp}{Q:VK}(M:Mk X.K C f)(F:ke X.prog X.w X.K X.mg X.base CX k f fd ps sp)(hr:ki (k+1) X.A)(hb:ar X.K fd ps ds)(hd:kh dvs ds)
  (hx:eG CX X E) (I:Inv X pins σ H s) (r:kh vs us)
  (h:∀ x dx,H x=none->H dx=none->dx≠x->sp (.ref x::(vs++dvs)) (upd (upd H dx (.own x)) x (.ins C dx [])) (λv H2=>v=.non/\Q (.ref x) H2) E) :
  wpAny (model X.prog X.w) X.A (call (.ref C) us) (EP X pins σ Q) X.xe s:=by
 have hq:=h (s.heap.objs.size+1) s.heap.objs.size (I.hok.fresh (yd6 _)) (I.hok.fresh (za5 _)) (zai (zbc _));have I2:=Inv.made (C:=C) I;have r2:kh (V.ref (s.heap.objs.size+1)::(vs++dvs)) (Value.ref (s.heap.objs.size+1)::(us++ds)):=.cons rfl (r.append hd);have hl:(Value.ref (s.heap.objs.size+1)::us++ds).length=ps.length:=by
  have e:=r2.length;rw[F.len _ _ _ _ hq]at e;exact e.symm
 refine wpAny_call (yN (f:=f) I.kIn M.makes M.init (beq_iff_eq.mp M.fn) (ye7 (F.run _ X.stack _ _ ⟨Value.ref (s.heap.objs.size+1)::us,[]⟩ (Value.ref (s.heap.objs.size+1)::(us++ds)) _ _ E (hr.make C us [])
  (I2.env0.make C us []) (hb _ (Value.ref (s.heap.objs.size+1)::us) I2.kIn hl) r2 hq) λr s' hq'=>?_))
 cases r with
 | error e=>exact hx pins σ _ _ e s' I2 hq'
 | ok fl =>
  cases fl with
  | ret u =>
   obtain⟨v,H',I3,rv,ev,q3⟩:=I2.after hq';subst ev;exact⟨rv,⟨V.ref (s.heap.objs.size+1),H',I3,rfl,q3⟩⟩
  | next=>exact False.elim hq'
  | brk=>exact False.elim hq'
  | cont=>exact False.elim hq'
theorem yR(M:Mk X.K C f)(F:ke X.prog X.w X.K X.mg X.base CX k f fd ps sp)(hr:ki (k+1) X.A)(hg:Gl X x)(hm:X.mg x=some (.ref C))(hb:ar X.K fd ps ds)(hd:kh dvs ds)(hx:eG CX X E)
  (hdb:(x==("__debug__":AL))=false:=by decide):PE X (.Call (.Name x p) [] [] pos) (tMake C sp dvs E yO):=by
 intro pins s σ H Q I h;refine ybr (fb I hg hm ?_ hdb);exact W.callWith_K0 I.kIn M.kp (yQ (us:=[]) M F hr hb hd hx I .nil h)
end
section
variable{X:Cx}{CX:CXT}{k:Nat}{f C:AA}{fd:AG}{ps ks:AH}{sp:Sp}{E:XK}{x m:AL}{p pos apos kpos:Pos}{e o:AX}{es:AQ}{kws:List Keyword}{te ta:TE}{t tk:TA}{nm:Option Str}
variable{g:List Value->List Value->List Value}{gV:List V->List V->List V}
end
structure az(N P:List Str)(sc:Scope):Prop where
 kind:sc.kind=.function
 co:sc.isCoroutine=false
 gen:sc.isGenerator=false
 nd:N.Nodup
 pre:N.take P.length=P
 par:∀ x∈P,sc.names.lookup x=some .local\/sc.names.lookup x=some .cell
 F4:∀ y∈sc.names,y.2≠.free
theorem fsk{N P:List Str}{sc:Scope}(h:sc.kind=.function/\sc.isCoroutine=false/\sc.isGenerator=false/\N.Nodup/\N.take P.length=P/\(∀ x∈P,sc.names.lookup x=some .local\/sc.names.lookup x=some .cell)/\∀ y∈sc.names,y.2≠.free):az N P sc:=let⟨a,b,c,d,e,f,g⟩:=h;⟨a,b,c,d,e,f,g⟩
theorem oE{kindOf:Str->Option NameKind}:∀ {binds:AY} {m:A5},(∀ v,(x,v)∉binds)->bindL kindOf binds m x=m x
 | [],_,_=>rfl
 | (n,v)::r,m,h=>by
  unfold bindL;rw[oE λw hw=>h w (za3 _ hw)];split
  ·have:x≠n:=by rintro rfl;exact h v za1
   simp[this]
  ·rfl
theorem oF{kindOf:Str->Option NameKind}:∀ {binds:AY} {m:A5},(∀ v,(x,v)∉binds)->bindC kindOf binds m x=m x
 | [],_,_=>rfl
 | (n,v)::r,m,h=>by
  unfold bindC;rw[oF λw hw=>h w (za3 _ hw)];split
  ·rfl
  ·have:x≠n:=by rintro rfl;exact h v za1
   simp[this]
theorem oG{kindOf:Str->Option NameKind}:∀ {P:AH} {vs:AB} {i:Nat} {m:A5},P.Nodup->P[i]?=some x->vs[i]?=some v->kindOf x=some .local ->
  bindL kindOf (P.zip vs) m x=some v
 | [],_,_,_,_,h,_,_=>by simp at h
 | _::_,[],_,_,_,_,h,_=>by simp at h
 | p::P,w::vs,0,m,nd,h1,h2,hk=>by
  simp at h1 h2;subst h1;subst h2;show bindL kindOf ((p,w)::P.zip vs) m p=_;unfold bindL;rw[oE λv hv=>(zak.mp nd).1 (List.of_mem_zip hv).1,yad hk];simp
 | p::P,w::vs,i+1,m,nd,h1,h2,hk=>by
  show bindL kindOf ((p,w)::P.zip vs) m x=_;unfold bindL;exact oG (i:=i) (zak.mp nd).2 (by simpa using h1) (by simpa using h2) hk
theorem oH{kindOf:Str->Option NameKind}:∀ {P:AH} {vs:AB} {i:Nat} {m:A5},P.Nodup->P[i]?=some x->vs[i]?=some v->kindOf x≠some .local ->
  bindC kindOf (P.zip vs) m x=some v
 | [],_,_,_,_,h,_,_=>by simp at h
 | _::_,[],_,_,_,_,h,_=>by simp at h
 | p::P,w::vs,0,m,nd,h1,h2,hk=>by
  simp at h1 h2;subst h1;subst h2;show bindC kindOf ((p,w)::P.zip vs) m p=_;unfold bindC;rw[oF λv hv=>(zak.mp nd).1 (List.of_mem_zip hv).1,yac hk];simp
 | p::P,w::vs,i+1,m,nd,h1,h2,hk=>by
  show bindC kindOf ((p,w)::P.zip vs) m x=_;unfold bindC;exact oH (i:=i) (zak.mp nd).2 (by simpa using h1) (by simpa using h2) hk
def iF(N:List Str)(vs:List V):St:=vs.map some++List.replicate (N.length-vs.length) none
def lr(CX:CXT)(P:Program)(w:World)(K:A2)(mg:A5)(base:Heap)(N:List Str)(qual:Str)(scope:Scope)(f:Addr)(cd:Value)(A:Around)(outer:List Env)(s:Shared)(H:Hp)(E:XK):Cx where
 prog:=P
 w:=w
 K:=K
 mg:=mg
 base:=base
 A:=A.deeper (envOfC qual scope s.heap.objs.size f cd)
 N:=N
 s₀:=s
 H₀:=H
 env:=envOfC qual scope s.heap.objs.size f cd
 outer:=outer
 stack:=envOfC qual scope s.heap.objs.size f cd::outer
 ex:=[]
 calm:=true
 fn:=λ_=>true
 pn:=[]
 xe:=λe s'=>wpAny (model P w) (A.deeper (envOfC qual scope s.heap.objs.size f cd)) (leaving (envOfC qual scope s.heap.objs.size f cd) e) (λ_ s''=>CX outer H s E e s'') (λe' s''=>CX outer H s E e' s'') s'
theorem r6{sc:Scope}(h:sc.names.lookup x=some .cell):∃ c,(cellsFrom n sc.names []).lookup x=some c:=by
 have q:=W.cellsFrom_some sc.names n [] (.inl h);exact Option.isSome_iff_exists.mp q
theorem xg{CX:CXT}{P:AF}{w:AJ}{K:A2}{mg:A5}{base:AO}{N ps:AH}{qual:AL}{scope:Scope}{f:AA}{cd:AI}{A:AK}{outer:AS}{s s1:AE}{H:Hp}{E:XK}{us:AB}{vs:Ac}
  (S:az N ps scope) (hd:A.handled=none) (e0:tI P w K mg base A outer s H) (hl:vs.length=ps.length) (r:kh vs us)
  (x:InCallC s s.heap.objs.size (bindL (envOfC qual scope s.heap.objs.size f cd).kindOf (ps.zip us) λ_=>none) (cellsFrom (s.heap.objs.size+1) scope.names []) (bindC (envOfC qual scope s.heap.objs.size f cd).kindOf (ps.zip us) λ_=>none) s1) :
  Inv (lr CX P w K mg base N qual scope f cd A outer s H E) [] (iF N vs) H s1:=by
 have hpl:ps.length<=N.length:=by have:=ybm List.length S.pre;rw[zaw]at this;lia
 obtain⟨h1,tk,rfl,hk⟩:=x.done;have noA:∀ b:Addr,b∉(lr CX P w K mg base N qual scope f cd A outer s H E).ex:=λb z=>absurd (show b∈([]:AM) from z) (by simp)
 refine⟨⟨e0.mod,S.kind,rfl,rfl,za5 _,λy z c h1 h2=>?_,λy hy=>?_,λy c _ h=>?_,λ_=>hd,Around.frames_deeper e0.frames,.inr ⟨rfl,rfl⟩,λb z=>absurd z (noA b),e0.bs,e0.bsz,λb _ _=>noA b,λb z=>absurd z (noA b),e0.lI,e0.frf⟩,
  rfl,e0.bare,Un.kept hk,⟨_,x.toInCall.ns,λi y v h1 h2 h3=>?_⟩,λy c h=>⟨_,x.cell y c h⟩,e0.hok.fresh (za5 _),λy c h=>?_,λp hp=>absurd (show p∈([]:A7) from hp) (by simp),e0.hok.kept hk,?_⟩
 ·exact name_of_addr x.apart (ybk h1) (ybk h2)
 ·have hy:scope.names.lookup y=some .cell\/scope.names.lookup y=some .free:=hy
  rcases hy with hy | hy
  ·exact r6 hy
  ·exact absurd rfl (S.F4 _ (ybk hy))
 ·exact ye5 (x.above y c (ybk h))
 ·have hi:i<vs.length:=by
   unfold iF at h2;by_cases hi:i<vs.length
   ·exact hi
   ·rw[zbr (by simpa using hi)]at h2
    rw[List.getElem?_replicate]at h2;split at h2<;>cases h2
  have ha:vs[i]?=some v:=by
   unfold iF at h2;rw[yd9 (by simpa using hi),zan]at h2;cases e:vs[i]? with
   | none=>rw[e]at h2;cases h2
   | some a=>rw[e]at h2;cases h2;rfl
  obtain⟨u,hu,rv⟩:=r.get ha;have hp:ps[i]?=some y:=by
   rw[<- S.pre,List.getElem?_take_of_lt (by lia)];exact h1
  have ndP:ps.Nodup:=by rw[<- S.pre];exact S.nd.sublist (zbm _ _)
  refine⟨u,rv,?_⟩;rcases S.par y (zam hp) with k | k
  ·exact .inl ⟨k,oG ndP hp hu k⟩
  ·obtain⟨c,e⟩:=r6 (n:=s.heap.objs.size+1) k
   refine .inr ⟨.inl k,c,e,?_⟩;have q:=x.cell y c e;rw[oH ndP hp hu (by show scope.names.lookup y≠_;rw[k];decide)]at q;exact q
 ·exact e0.hok.fresh (ye5 (x.above y c (ybk h)))
 ·unfold iF
  show _=N.length;rw[za7,za4,List.length_replicate]
  lia
theorem Em{CX:CXT}{P:AF}{w:AJ}{K:A2}{mg:A5}{base:AO}{k:Nat}{f:AA}{name qual:AL}{params:Arguments}{body:List Stmt}{scope:Scope}{dV kV doc pm cdv ct oc:AI}{an od:Aa}
  {osl:A1} {N ps:AH} {sp:Sp} (lk:K.lookup f=some ⟨oc,od,.func (W.fnOf name qual params body scope dV kV doc pm an cdv ct),osl⟩) (hcd:W.codeIn K cdv qual=true) (S:az N ps scope)
  (len:∀ vs H Q E,sp vs H Q E->vs.length=ps.length)
  (hbody:∀ (A:AK) (outer:AS) (s:AE) (H:Hp) (vs:Ac) (Q:VK) (E:XK),ki k (A.deeper (envOfC qual scope s.heap.objs.size f cdv))->sp vs H Q E ->
   ∃ t,PSs (lr CX P w K mg base N qual scope f cdv A outer s H E) body t/\t { nx:=λ_ H'=>Q .non H',rt:=Q } (iF N vs) H) :
  ke P w K mg base CX (k+1) f (W.fnOf name qual params body scope dV kV doc pm an cdv ct) ps sp:=by
 refine⟨len,λA outer s H args us vs Q E hr e0 hb r hsp=>?_⟩;have hl:=len _ _ _ _ hsp;have KX:K.In s.heap:=e0.mod.kin.keeps λb o e=>(e0.bs b o e).1
 have lim:s.heap.NoLimit:=e0.mod.nolimit.keeps λb o e=>(e0.bs b o e).1
 have hkind:∀ y∈ps.zip us,scope.names.lookup y.1=some .local\/(scope.names.lookup y.1=some .cell/\((cellsFrom (s.heap.objs.size+1) scope.names []).lookup y.1).isSome=true):=λ⟨n,v⟩ hy=>by
  rcases S.par n (List.of_mem_zip hy).1 with q | q
  ·exact .inl q
  ·exact .inr ⟨q,W.cellsFrom_some _ _ _ (.inl q)⟩
 refine codeAny_call_function hr.depth (KX _ _ lk) rfl S.co S.gen rfl (W.codeRec_of KX hcd) (hb _ _ _ _ ?_);refine wpAny_newFunctionEnv_cells S.kind hkind λenv he s1 x=>?_
 subst he;refine⟨lim.keeps x.toInCall.keep,codeAny_func ?_⟩;obtain⟨t,ht,hq⟩:=hbody A outer s H vs Q E (hr.deeper _) hsp;have I:Inv (lr CX P w K mg base N qual scope f cdv A outer s H E) [] (iF N vs) H s1:=xg S hr.hd e0 hl r x;refine yb8 (ht [] s1 (iF N vs) H _ I hq) (λfl s' hs=>?_) λe s' hs=>hs
 have fin:∀ {σ':St} {H':Hp} {v:V} {u:AI},Inv (lr CX P w K mg base N qual scope f cdv A outer s H E) [] σ' H' s'->RelV v u->Q v H'->CE outer P w H s Q u s' :=
  fun {σ' H' v u} J rv q=>⟨v,H',J.os,J.bare,J.base,J.hok,rv,q⟩
 cases fl with
 | ret u =>
  obtain⟨v,σ',H',J,rv,q⟩:=hs;exact fin J rv q
 | next =>
  obtain⟨σ',H',J,q⟩:=hs;exact fin (v:=V.non) (u:=Value.none) J rfl q
 | brk =>
  obtain⟨_,_,_,q⟩:=hs;exact False.elim q
 | cont =>
  obtain⟨_,_,_,q⟩:=hs;exact False.elim q
section
variable{X:Cx}{x:AL}{p pos:Pos}{e:AX}{es:AQ}{t:TA}{id T:String}{r:List V->Hp->VK->Prop}
def tCB(r:List V->Hp->VK->Prop)(t:TA):TE:=λσ H Q=>t σ H λvs H1=>r vs H1 Q
theorem aE(hc:cY X (.builtin id) r)(hg:Gl X x)(hm:X.mg x=none)(hv:bootBuiltins x=some (.builtin id))(ha:PA X (e::es) t)(hn:x≠"__name__":=by decide)(hdb:(x==("__debug__":AL))=false:=by decide)
  (he:starEach (e::es) X.env=(false,eval e X.env)::starEach es X.env:=by rfl) (hpl:(backTo pos (starEach es X.env)).any (·.1)=false:=by rfl):PE X (.Call (.Name x p) (e::es) [] pos) (tCB r t):=by
 intro pins s σ H Q I h;refine ybr (iA I hg hm hv ?_ hn hdb);exact PyProof.Rows.callWith_builtin1 (thn (ha pos pins s σ H _ I h) λus s1 ⟨vs,H1,I1,r1,q1⟩=>hc pins s1 σ H1 vs us Q I1 r1 q1) he hpl
theorem b8(hc:cY X (.type T) r)(hg:Gl X x)(hm:X.mg x=none)(hv:bootBuiltins x=some (.type T))(ha:PA X (e::es) t)(hn:x≠"__name__":=by decide)(hdb:(x==("__debug__":AL))=false:=by decide)
  (he:starEach (e::es) X.env=(false,eval e X.env)::starEach es X.env:=by rfl) (hpl:(backTo pos (starEach es X.env)).any (·.1)=false:=by rfl):PE X (.Call (.Name x p) (e::es) [] pos) (tCB r t):=by
 intro pins s σ H Q I h;refine ybr (iA I hg hm hv ?_ hn hdb);exact yca (thn (ha pos pins s σ H _ I h) λus s1 ⟨vs,H1,I1,r1,q1⟩=>hc pins s1 σ H1 vs us Q I1 r1 q1) he hpl
end
end L2
namespace HT
open PySem PyProof.Rows
def cm:List Int->List Int->Bool
 | [],[]=>false
 | [],_::_=>true
 | _::_,[]=>false
 | x::xs,y::ys=>if x=y then cm xs ys else decide (x<y)
theorem tJ(x y:Int)(xs ys:List Int):cm (x::xs) (y::ys)=if x=y then cm xs ys else decide (x<y):=rfl
theorem oo:cm [] []=false:=rfl
theorem mo(y:Int)(ys:List Int):cm [] (y::ys)=true:=rfl
theorem mr(x:Int)(xs:List Int):cm (x::xs) []=false:=rfl
theorem r9(A:AK)(s:AE)(a:Int)(t:Tok)(c:Int)(u:Tok):∃ e,SeqAt.EqAt A s (.int a t) (.int c u) e/\(e=true↔a=c) :=
 ⟨(a==c),SeqAt.EqAt.int_int a t c u,by simp⟩
theorem yS(A:AK)(s:AE)(a:Int)(t:Tok)(c:Int)(u:Tok)(prog:AF)(w:AJ)(E:A9)(Q:A9)(h:Q (.bool (decide (a<c))) s) :
  wpAny (model prog w) A (richCompare .Lt (.int a t) (.int c u)) Q E s :=
 (PyProof.Rows.lt_int h:wpAny (model prog w) A (compareOp .Lt (.int a t) (.int c u)) Q E s)
section
open PySem.SeqAt
open PySem.AutoSeq1 (wpAny_loadPart')
open PySem.MeetsSeq PySem.MeetsSeq2 PySem.MeetsSeq3
theorem oq(l b:AA)(items items2:AN)(n n2:Nat)(dd dd2:Aa)(sl sl2:A1)(ns ms:List Int)(hi:IntsAre items.toList ns)(hj:IntsAre items2.toList ms) :
  Meets (Builtin.«tuple.__lt__» ⟨[.ref l,.ref b],[]⟩)
   (λ_ R s=>s.heap.get? l=some { cls:=.type "tuple",dict:=dd,data:=.seq items n,slots:=sl }/\s.heap.get? b=some { cls:=.type "tuple",dict:=dd2,data:=.seq items2 n2,slots:=sl2 } /\
    R (.ok (.ret (.bool (cm ns ms)))) s) :=
 .of_wp λprog w A R s h=>by
  obtain⟨hp,g,d,tk,os⟩:=s;obtain⟨hl,hb,h⟩:=h;have f2:=ydg;have z1:items.size=ns.length:=by rw[<- hi.length];simp
  have z2:items2.size=ms.length:=by rw[<- hj.length];simp
  wp_walk using ybs hl,ybs hb,ye0 _ (λrest b s'=>b.1=none/\s'=⟨hp,g,d,tk,os⟩/\∃ (vs ws:AB) (ns' ms':List Int),rest=vs.zip ws /\
   IntsAre vs ns'/\IntsAre ws ms'/\ns'.length+items2.size=ms'.length+items.size/\R (.ok (.ret (.bool (cm ns' ms')))) ⟨hp,g,d,tk,os⟩) _
  case turn =>
   rintro⟨y,x⟩ rest b s' ⟨hb',rfl,vs,ws,ns',ms',hz,hvi,hwi,hlen,hR⟩;cases hvi with
   | nil=>rw[ydp]at hz;cases hz
   | cons a t hvi' =>
    cases hwi with
    | nil=>rw[yee]at hz;cases hz
    | cons c u hwi' =>
     rw[zb5]at hz;injection hz with hyx hrest
     injection hyx with hy hx
     subst hy hx;rw[tJ]at hR;simp only[za2]at hlen;obtain⟨e,he,hiff⟩:=r9 A.in1 ⟨hp,g,d,tk,os⟩ a t c u;refine ya8 (he prog w _ _ ?_);cases e with
     | true =>
      rw[yad (hiff.mp rfl)]at hR
      wp_walk
      exact⟨rfl,rfl,_,_,_,_,hrest,hvi',hwi',by lia,hR⟩
     | false =>
      rw[yac (λq=>absurd (hiff.mpr q) za8)]at hR;have hri:=yS A.in1 ⟨hp,g,d,tk,os⟩ a t c u prog w
      wp_walk using hri
      exact⟨_,rfl,by simpa using hR⟩
  case fin =>
   rintro⟨b1,b2⟩ s' ⟨hb',rfl,vs,ws,ns',ms',hz,hvi,hwi,hlen,hR⟩;simp only at hb';subst hb';have hv:cm ns' ms'=decide (items.size<items2.size):=by
    cases hvi with
    | nil =>
     cases hwi with
     | nil =>
      simp only[zb2]at hlen;rw[oo];exact(yaa (by lia)).symm
     | cons c u hw =>
      simp only[zb2,za2]at hlen;rw[mo];exact(yab (by lia)).symm
    | cons a t hv =>
     cases hwi with
     | nil =>
      simp only[zb2,za2]at hlen;rw[mr];exact(yaa (by lia)).symm
     | cons c u hw =>
      rw[zb5]at hz;cases hz
   rw[hv]at hR
   wp_walk
   exact⟨_,rfl,by simpa [Builtin.Tuple.tupleCompareSizes] using hR⟩
  case h =>
   exact⟨rfl,rfl,items.toList,items2.toList,ns,ms,rfl,hi,hj,by lia,h⟩
end
section
variable{prog:AF}{w:AJ}{A:AK}{E:A9}{s:AE}
theorem mw{l:AA}{items items2:AN}{ns:List Int}{Q:A9}(hl:IsTup s.heap l items)(hb:IsTup s.heap b items2)(hi:IntsAre items.toList ns)(hj:IntsAre items2.toList ms)
  (hu:A.units<cLine) (h:Q (.bool (cm ns ms)) s):wpAny (model prog w) A (compareOp .Lt (.ref l) (.ref b)) Q E s:=by
 obtain⟨⟨cls,dd,data,sl⟩,ho,hc,n,hd⟩:=id hl;obtain⟨⟨cls2,dd2,data2,sl2⟩,ho2,hc2,n2,hd2⟩:=id hb;simp only at hc hd hc2 hd2;subst hc hd hc2 hd2;exact ydw (op:=.Lt) ⟨_,ho,rfl⟩ ⟨_,ho2,rfl⟩ F.slot_tuple_lt F.entry_tuple_lt (F.args_tuple_lt_2 _ _) (oq l b items items2 n n2 dd dd2 sl sl2 ns ms hi hj)
  ⟨ho,ho2,show Value.bool (cm ns ms)≠Value.notImplemented/\Q (.bool (cm ns ms)) s from ⟨(λx=>nomatch x),h⟩⟩ hu
theorem Cj{t:AA}{vs ws:AB}{Q:A9}(ht:IsTup s.heap t vs.toArray)(hb:IsTup s.heap b ws.toArray)(hv:vs≠[])
  (h1:ws=[]->Q (.ref t) s) (h2:ws≠[]->Q (.ref s.heap.objs.size) { s with heap:=s.heap.push { cls:=.type "tuple",data:=.seq (vs++ws).toArray } })
  (hsz:vs.length+ws.length<=sizeLine):wpAny (model prog w) A (binaryOp .Add (.ref t) (.ref b)) Q E s:=by
 obtain⟨⟨cls,dd,data,sl⟩,ho,hc,n,hd⟩:=id ht;obtain⟨⟨cls2,dd2,data2,sl2⟩,ho2,hc2,n2,hd2⟩:=id hb;simp only at hc hd hc2 hd2;subst hc hd hc2 hd2;have e:vs.toArray++ws.toArray=(vs++ws).toArray:=by simp
 by_cases hw:ws=[]
 ·exact concat_meets ⟨_,ho,rfl⟩ ⟨_,ho2,rfl⟩ noFill_tuple_add seq_tuple_add F.slot_tuple_add F.entry_tuple_add (F.args_tuple_add_2 _ _)
   (tuple_addW1 t b vs.toArray ws.toArray n n2 dd dd2 sl sl2 (by simpa using hv) (by simp[hw])) ⟨ho,ho2,h1 hw⟩
 ·refine concat_meets ⟨_,ho,rfl⟩ ⟨_,ho2,rfl⟩ noFill_tuple_add seq_tuple_add F.slot_tuple_add F.entry_tuple_add (F.args_tuple_add_2 _ _)
   (tuple_addW2 t b vs.toArray ws.toArray n n2 dd dd2 sl sl2 (by simpa using hv) (by simpa using hw) (by rw[zab,zab];exact hsz)) ⟨ho,ho2,?_⟩
  rw[e];exact h2 hw
def sIx(n d:Nat):Option Int->Nat
 | none=>d
 | some v=>if v<0 then (v+(n:Int)).toNat else min v.toNat n
end
end HT
namespace L2
open PySem PySem.Spec PyProof.Rows
abbrev TO:=St->Hp->(Option Int->Hp->Prop)->Prop
def PO(X:Cx)(e:Option Expr)(t:TO):Prop :=
 ∀ (pins:A7) (s:Shared) (σ:St) (H:Hp) (Q:Option Int->Hp->Prop),Inv X pins σ H s->t σ H Q ->
  wpAny (model X.prog X.w) X.A (evalPart e X.env) (λu s'=>∃ o H',Inv X pins σ H' s'/\IsPart u o/\Q o H') X.xe s
def Ck:TO:=λ_ H Q=>Q none H
def tPart(t:TE):TO:=λσ H Q=>t σ H λx H1=>∃ i,x=.int i/\Q (some i) H1
theorem d0{ns:List Int}:∀ {us:AB},kh (ns.map V.int) us->IntsAre us ns:=by
 induction ns with
 | nil=>intro us r;rw[zbs]at r;cases r;exact .nil
 | cons n ns ih =>
  intro us r;rw[zaa]at r;cases r with
  | cons r1 r2 =>
   obtain⟨t,e⟩:=r1;subst e;exact .cons n t (ih r2)
section
variable{X:Cx}{e:AX}{te:TE}{lo hi:Option Expr}{tl th:TO}{pos p2:Pos}
theorem pT:PO X none Ck:=by
 intro pins s σ H Q I h;rw[evalPart_none];exact ya9 ⟨none,H,I,.none,h⟩
theorem pU(h:PE X e te):PO X (some e) (tPart te):=by
 intro pins s σ H Q I hw;rw[evalPart_some];refine thn (h pins s σ H _ I hw) λu s1 zz1=>?_
 obtain⟨x,H1,I1,r1,q1⟩:=zz1;obtain⟨i,rfl,q⟩:=q1;obtain⟨t,rfl⟩:=r1;exact⟨some i,H1,I1,.int i t,q⟩
def SlR(X:Cx)(r:V->Option Int->Option Int->Hp->VK->Prop):Prop :=
 ∀ (pins:A7) (s:Shared) (σ:St) (H:Hp) (x:V) (v vl vu:Value) (lo hi:Option Int) (sl:Addr) (Q:VK),Inv X pins σ H s->RelV x v->s.heap.IsSliceOf sl vl vu .none->IsPart vl lo->IsPart vu hi->r x lo hi H Q ->
  ∃ T id,typeLookup (.type T) "__getitem__"=pure (some (.builtin id))/\s.TypeIs v T/\wpAny (model X.prog X.w) X.A (getItem v (.ref sl)) (EP X pins σ Q) X.xe s
def tSl(r:V->Option Int->Option Int->Hp->VK->Prop)(te:TE)(tl th:TO):TE:=λσ H Q=>te σ H λx H1=>tl σ H1 λl H2=>th σ H2 λu H3=>r x l u H3 Q
theorem my(hr:SlR X r)(he:PE X e te)(hl:PO X lo tl)(hu:PO X hi th):PE X (.Subscript e (.Slice lo hi none p2) pos) (tSl r te tl th):=by
 intro pins s σ H Q I h;refine Subscript_ (thn (he pins s σ H _ I h) λv s1 zz1=>?_);obtain⟨x,H1,I1,r1,q1⟩:=zz1;refine wpAny_Slice (thn (hl pins s1 σ H1 _ I1 q1) λvl s2 zz1=>?_);obtain⟨l,H2,I2,pl,q2⟩:=zz1;refine thn (hu pins s2 σ H2 _ I2 q2) λvu s3 zz2=>?_
 obtain⟨u,H3,I3,pu,q3⟩:=zz2;rw[evalPart_none];refine ya9 ?_;have I4:Inv X pins σ H3 { s3 with heap:=s3.heap.push { cls:=.type "slice",data:=.fields #[vl,vu,.none] } }:=I3.kept (t':=s3.toks) λb ob q=>yai _ q
 obtain⟨T,id,hT,ht,hg⟩:=hr pins { s3 with heap:=s3.heap.push { cls:=.type "slice",data:=.fields #[vl,vu,.none] } } σ H3 x v vl vu l u s3.heap.objs.size Q I4 r1 (Heap.IsSliceOf.new ..) pl pu q3;show wpAny (model X.prog X.w) X.A (subscriptTail e (.Slice lo hi none p2) v (.ref s3.heap.objs.size)) (EP X pins σ Q) X.xe { s3 with heap:=s3.heap.push { cls:=.type "slice",data:=.fields #[vl,vu,.none] } };exact tail_any (ops:=[.ref s3.heap.objs.size,v]) ht hT hg (by with_unfolding_all rfl)
def tK(xs:List V)(lo hi:Option Int):List V:=(xs.drop (HT.sIx xs.length 0 lo)).take (HT.sIx xs.length xs.length hi-HT.sIx xs.length 0 lo)
theorem ra(xs:Ac)(lo hi:Option Int):(tK xs lo hi).length<=xs.length:=by
 unfold tK;rw[zaw,zbe]
 lia
def rLtT(K:A2):R2:=λx y H Q=>∃ a b ns ms,x=.ref a/\y=.ref b/\SqT K H a (ns.map V.int)/\SqT K H b (ms.map V.int)/\Q (.bl (HT.cm ns ms)) H
theorem F5(hu:X.A.units<cLine):OpR X (compareOp .Lt) (rLtT X.K):=by
 intro pins s σ H x y v u Q I rx ry h;obtain⟨a,b,ns,ms,rfl,rfl,ha,hb,q⟩:=h;cases rx;cases ry;obtain⟨its,r1,p1,_⟩:=I.tuple ha;obtain⟨its2,r2,p2,_⟩:=I.tuple hb;have i1:IntsAre its.toArray.toList ns:=d0 r1;have i2:IntsAre its2.toArray.toList ms:=d0 r2;exact HT.mw p1 p2 i1 i2 hu ⟨.bl (HT.cm ns ms),H,I,rfl,q⟩
def rCatT(K:A2):R2:=λx y H Q=>∃ a b xs ys,x=.ref a/\y=.ref b/\SqT K H a xs/\SqT K H b ys/\xs≠[]/\xs.length+ys.length<=sizeLine /\
 (ys=[]->Q (.ref a) H)/\(ys≠[]->∀ p,H p=none->Q (.ref p) (upd H p (.tup (xs++ys))))
theorem kh.pV(r:kh xs us):us=[]↔xs=[]:=by
 cases r with
 | nil=>simp
 | cons _ _=>simp
theorem ve:OpR X (binaryOp .Add) (rCatT X.K):=by
 intro pins s σ H x y v u Q I rx ry h;obtain⟨a,b,xs,ys,rfl,rfl,ha,hb,hx,hz,q1,q2⟩:=h;cases rx;cases ry;obtain⟨its,r1,p1,_⟩:=I.tuple ha;obtain⟨its2,r2,p2,_⟩:=I.tuple hb;refine HT.Cj p1 p2 (λz=>hx (r1.pV.mp z)) (λz=>⟨.ref a,H,I,rfl,q1 (r2.pV.mp z)⟩) (λz=>?_) (by rw[<- r1.length,<- r2.length];exact hz);refine⟨.ref s.heap.objs.size,_,I.laid (t':=s.toks) (o:=.tup (xs++ys)) (λb ob q=>yai _ q) (za5 _) ?_,rfl,q2 (λw=>z (r2.pV.mpr w)) _ (I.hok.fresh (za5 _))⟩;exact⟨by rw[za7];exact hz,_,r1.append r2,wZ.new _ _⟩
end
def ixN(n:Nat)(i:Int):Option Nat:=if 0<=i then (if i<n then some i.toNat else none) else if -(n:Int)<=i then some (i+n).toNat else none
def atI{α:Type}(xs:List α)(i:Int):Option α:=(ixN xs.length i).bind λj=>xs[j]?
theorem Cm(h:ixN n i=some j):seqIndex? i n=some j/\j<n/\-(n:Int)<=i/\i<n:=by
 unfold ixN at h;by_cases h0:0<=i
 ·rw[yad h0]at h
  by_cases h1:i<n
  ·rw[yad h1]at h
   have e:i.toNat=j:=yat h;exact⟨by rw[seqIndex_of h0 h1,e],by lia,by lia,h1⟩
  ·rw[yac h1]at h;cases h
 ·rw[yac h0]at h
  by_cases h1:-(n:Int)<=i
  ·rw[yad h1]at h
   have e:(i+n).toNat=j:=yat h;exact⟨by rw[seqIndex_neg (by lia) h1,e],by lia,h1,by lia⟩
  ·rw[yac h1]at h;cases h
theorem pW{xs:List α}(h:atI xs i=some v):∃ j,seqIndex? i xs.length=some j/\xs[j]?=some v/\j<xs.length/\-(xs.length:Int)<=i/\i<xs.length:=by
 unfold atI at h;cases e:ixN xs.length i with
 | none=>rw[e]at h;cases h
 | some j =>
  rw[e]at h;obtain⟨h1,h2,h3,h4⟩:=Cm e;exact⟨j,h1,h,h2,h3,h4⟩
theorem fj{α:Type}{xs:List α}{j:Nat}{v:α}(h:xs[j]?=some v):atI xs (j:Int)=some v:=by
 have hj:j<xs.length:=(zaf.mp h).1;have e:ixN xs.length (j:Int)=some j:=by
  unfold ixN;rw[yad (by lia),yad (by lia)];simp
 unfold atI;rw[e];exact h
theorem cc(xs:List α)(v:α):atI (xs++[v]) (-1)=some v:=by
 have hl:(xs++[v]).length=xs.length+1:=by simp
 have e:ixN (xs++[v]).length (-1)=some xs.length:=by
  unfold ixN;rw[hl,yac (by decide),yad (by lia)]
  congr 1
  lia
 unfold atI;rw[e];show(xs++[v])[xs.length]?=some v;simp
def Cn(b:Expr):Prop:=∀ o i,subscripted b false o i=operate [o,i] (getItem o i)
def IxR(X:Cx)(r:R2):Prop :=
 ∀ (value slice:Expr) (pins:A7) (s:Shared) (σ:St) (H:Hp) (x y:V) (v u:Value) (Q:VK),Inv X pins σ H s->RelV x v->RelV y u->r x y H Q ->
  subscripted slice false v u=operate [v,u] (getItem v u)->wpAny (model X.prog X.w) X.A (subscriptTail value slice v u) (EP X pins σ Q) X.xe s
def MtR(X:Cx)(id:String)(r:V->List V->Hp->VK->Prop):Prop :=
 ∀ (pins:A7) (s:Shared) (σ:St) (H:Hp) (x:V) (xs:List V) (v:Value) (us:List Value) (Q:VK),Inv X pins σ H s->RelV x v->kh xs us->r x xs H Q ->
  wpAny (model X.prog X.w) X.A (call (.builtin id) (v::us)) (EP X pins σ Q) X.xe s
section
variable{X:Cx}{a b:AX}{ta tb:TE}{pos:Pos}
theorem aD(hr:IxR X r)(ha:PE X a ta)(hb:PE X b tb)(hs:Cn b):PE X (.Subscript a b pos) (tOp r ta tb):=by
 intro pins s σ H Q I h;exact Subscript_ (binT ha hb I h λv u s2 x y H2 I2 rx ry q=>hr a b pins s2 σ H2 x y v u Q I2 rx ry q (hs _ _))
def rIxL(K:A2):R2:=λx y H Q=>∃ p xs i v,x=.ref p/\y=.int i/\SqL K H p xs/\atI xs i=some v/\Q v H
def rIxT(K:A2):R2:=λx y H Q=>∃ p xs i v,x=.ref p/\y=.int i/\SqT K H p xs/\atI xs i=some v/\Q v H
def rIxS:R2:=λx y H Q=>∃ z i c,x=.str z/\y=.int i/\z.length<=sizeLine/\atI z.cps.toList i=some c/\Q (.str ⟨#[c]⟩) H
theorem aL:IxR X (rIxL X.K):=by
 intro value slice pins s σ H x y v u Q I rx ry h hs;obtain⟨p,xs,i,z,rfl,rfl,hq,he,q⟩:=h;cases rx;obtain⟨t,rfl⟩:=ry;obtain⟨its,r,pl,hz⟩:=I.list hq;obtain⟨j,h1,h2,h3,h4,h5⟩:=pW he;obtain⟨w,ew,rw'⟩:=r.get h2;have hl:=r.length;have hn:=jt;have fin:EP X pins σ Q w s:=⟨z,H,I,rw',q⟩;by_cases h0:0<=i
 ·have hj:i.toNat=j:=by
   rw[seqIndex_of h0 h5]at h1;exact yat h1
  exact item_listR pl.isList h0 (by lia) (by rw[hj];simpa using ew) fin hs
 ·have hj:(i+(its.toArray.size:Int)).toNat=j:=by
   rw[seqIndex_neg (by lia) h4]at h1;rw[zab,<- hl];exact yat h1
  exact subscriptTail_builtinR (x:=w) pl.isList.typeIs slot_list_getitem.lookup
   (wpAny_getItem_list_neg (Q:=λr s'=>r=w/\EP X pins σ Q r s') pl.isList (by omega) (by rw[zab]<;>lia) (by lia) (by rw[hj];simpa using ew) ⟨rfl,fin⟩) hs
theorem aM:IxR X (rIxT X.K):=by
 intro value slice pins s σ H x y v u Q I rx ry h hs;obtain⟨p,xs,i,z,rfl,rfl,hq,he,q⟩:=h;cases rx;obtain⟨t,rfl⟩:=ry;obtain⟨its,r,pl,hz⟩:=I.tuple hq;obtain⟨j,h1,h2,h3,h4,h5⟩:=pW he;obtain⟨w,ew,rw'⟩:=r.get h2;have hl:=r.length;have hn:=jt;have fin:EP X pins σ Q w s:=⟨z,H,I,rw',q⟩;exact subscriptTail_builtinR (x:=w) pl.typeIs slot_tuple_getitem.lookup
  (getItem_tuple (j:=j) (Q:=λr s'=>r=w/\EP X pins σ Q r s') pl (by lia) (by lia) (by rw[zab,<- hl];exact h1) (by simpa using ew) ⟨rfl,fin⟩) hs
theorem yT:IxR X rIxS:=by
 intro value slice pins s σ H x y v u Q I rx ry h hs;obtain⟨z,i,c,rfl,rfl,hz,he,q⟩:=h;obtain⟨t,rfl⟩:=rx;obtain⟨t',rfl⟩:=ry;obtain⟨j,h1,h2,h3,h4,h5⟩:=pW he;have hl:z.cps.toList.length=z.length:=by simp[Str.length]
 rw[hl]at h1 h4 h5;have hn:=jt;exact tail_any (typeIs_str s z t) slot_str_getitem.lookup (getItem_str (c:=c) (by
  have e1:decide (i < -(2 ^ 63:Int))=false:=yaa (by lia);have e2:decide (i ≥ 2 ^ 63)=false:=yaa (by lia);rw[e1,e2,Bool.or_false]) (by rw[h1];simpa using h2) ⟨.str ⟨#[c]⟩,H,I.tok _,⟨_,rfl⟩,q⟩) hs
theorem pX(lo hi:Option Int)(n:Nat):(sliceBounds lo hi none n).1=((HT.sIx n 0 lo:Nat):Int)/\(sliceBounds lo hi none n).2.1=((HT.sIx n n hi:Nat):Int)/\(sliceBounds lo hi none n).2.2=1:=by
 refine⟨?_,?_,rfl⟩
 ·cases lo with
  | none=>simp[sliceBounds,HT.sIx]
  | some i =>
   simp only[sliceBounds,HT.sIx,Option.getD_none,show(1:Int)>0 by decide,ycs];by_cases h:i<0
   ·simp only[h,ycs]<;>grind
   ·simp only[h,ybj]<;>grind
 ·cases hi with
  | none=>simp[sliceBounds,HT.sIx]
  | some i =>
   simp only[sliceBounds,HT.sIx,Option.getD_none,show(1:Int)>0 by decide,ycs];by_cases h:i<0
   ·simp only[h,ycs]<;>omega
   ·simp only[h,ybj]<;>omega
theorem ou(its:AB)(lo hi:Option Int):slicePick its.toArray lo hi none=((its.drop (HT.sIx its.length 0 lo)).take (HT.sIx its.length its.length hi-HT.sIx its.length 0 lo)).toArray:=by
 obtain⟨h1,h2,h3⟩:=pX lo hi its.toArray.size;unfold slicePick;rw[h1,h2,h3];simp only[sliceRange_one,pick_run,zab]<;>rfl
def rSlL(K:A2):V->Option Int->Option Int->Hp->VK->Prop:=λx lo hi H Q=>∃ a xs,x=.ref a/\SqL K H a xs/\∀ p,H p=none->Q (.ref p) (upd H p (.lst (tK xs lo hi)))
theorem Co:SlR X (rSlL X.K):=by
 intro pins s σ H x v vl vu lo hi sl Q I rx hs pl pu h;obtain⟨a,xs,rfl,hx,q⟩:=h;cases rx;obtain⟨its,r,ht,hz⟩:=I.list hx;have hlen:=r.length;refine⟨"list",_,slot_list_getitem.lookup,ht.isList.typeIs,?_⟩;refine wpAny_getItem_list_slice ht.isList hs pl pu .none (by simp) ?_ (by rw[zab]<;>lia);rw[ou,<- hlen];refine⟨.ref s.heap.objs.size,_,I.laid (t':=s.toks) (o:=.lst (tK xs lo hi)) (λb ob q=>yai _ q) (za5 _) ?_,rfl,q _ (I.hok.fresh (za5 _))⟩;exact⟨zap (ra xs lo hi) hz,_,0,(r.drop (HT.sIx xs.length 0 lo)).take (HT.sIx xs.length xs.length hi-HT.sIx xs.length 0 lo),yak _ rfl⟩
def ir:V->Bool
 | .non=>true
 | .bl _=>true
 | .int _=>true
 | .str _=>true
 | _=>false
def eqV:V->V->Bool
 | .non,.non=>true
 | .bl a,.bl b=>a==b
 | .bl a,.int b=>(if a then 1 else 0)==b
 | .int a,.bl b=>a==(if b then 1 else 0)
 | .int a,.int b=>a==b
 | .str a,.str b=>a==b
 | _,_=>false
theorem F6{y:V}{u:AI}(ry:RelV y u)(rx:RelV x v)(fy:ir y=true)(fx:ir x=true):SeqAt.EqAt A s u v (eqV y x):=by
 cases y with
 | non =>
  cases ry;cases x with
  | non=>cases rx;exact SeqAt.EqAt.same _
  | bl b=>cases rx;exact SeqAt.EqAt.none_bool b
  | int b=>obtain⟨t,rfl⟩:=rx;exact SeqAt.EqAt.none_int b t
  | str b=>obtain⟨t,rfl⟩:=rx;exact SeqAt.EqAt.none_str b t
  | _=>exact absurd (show false=true from fx) za8
 | bl a =>
  cases ry;cases x with
  | non=>cases rx;exact SeqAt.EqAt.bool_none a
  | bl b=>cases rx;exact SeqAt.EqAt.bool_bool a b
  | int b=>obtain⟨t,rfl⟩:=rx;exact SeqAt.EqAt.bool_int a b t
  | str b=>obtain⟨t,rfl⟩:=rx;exact SeqAt.EqAt.bool_str a b t
  | _=>exact absurd (show false=true from fx) za8
 | int a =>
  obtain⟨t',rfl⟩:=ry;cases x with
  | non=>cases rx;exact SeqAt.EqAt.int_none a t'
  | bl b=>cases rx;exact SeqAt.EqAt.int_bool a t' b
  | int b=>obtain⟨t,rfl⟩:=rx;exact SeqAt.EqAt.int_int a t' b t
  | str b=>obtain⟨t,rfl⟩:=rx;exact SeqAt.EqAt.int_str a t' b t
  | _=>exact absurd (show false=true from fx) za8
 | str a =>
  obtain⟨t',rfl⟩:=ry;cases x with
  | non=>cases rx;exact SeqAt.EqAt.str_none a t'
  | bl b=>cases rx;exact SeqAt.EqAt.str_bool a t' b
  | int b=>obtain⟨t,rfl⟩:=rx;exact SeqAt.EqAt.str_int a t' b t
  | str b=>obtain⟨t,rfl⟩:=rx;exact SeqAt.EqAt.str_str a t' b t
  | _=>exact absurd (show false=true from fx) za8
 | _=>exact absurd (show false=true from fy) za8
def eqU(x:V)(u:Value):Bool:=match u with
 | .none=>eqV .non x
 | .bool b=>eqV (.bl b) x
 | .int i _=>eqV (.int i) x
 | .str z _=>eqV (.str z) x
 | _=>false
theorem tL{x:V}(r:RelV y u)(f:ir y=true):eqU x u=eqV y x:=by
 cases y with
 | non=>cases r;rfl
 | bl b=>cases r;rfl
 | int i=>obtain⟨t,rfl⟩:=r;rfl
 | str z=>obtain⟨t,rfl⟩:=r;rfl
 | _=>exact absurd (show false=true from f) za8
theorem mz(rx:RelV x v)(fx:ir x=true):∀ {xs:Ac} {us:AB},kh xs us->xs.all ir=true->∀ u∈us,SeqAt.EqAt A s u v (eqU x u)
 | _,_,.nil,_=>λu hu=>by cases hu
 | y::xs,u::us,.cons r t,f=>λu' hu=>by
  rw[List.all_cons,zbj]at f;rcases za0.mp hu with rfl | hu
  ·rw[tL r f.1];exact F6 r rx f.1 fx
  ·exact mz rx fx t f.2 u' hu
theorem bn:cY X (.builtin "len") (λxs H Q=>∃ p ys,xs=[.ref p]/\(SqL X.K H p ys\/SqT X.K H p ys)/\Q (.int ys.length) H):=by
 intro pins s σ H xs us Q I r h;obtain⟨p,ys,rfl,hq,q⟩:=h;obtain⟨u,rfl,rx⟩:=fm r;cases rx;have hn:=jt;rcases hq with hq | hq
 ·obtain⟨its,r',pl,hz⟩:=I.list hq
  have hlen:=r'.length;exact Calls.call_len_list pl.isList (by simp only[zab]<;>lia) ⟨.int ys.length,H,I.tok _,⟨s.toks+1,by rw[zab,hlen]⟩,q⟩
 ·obtain⟨its,r',pl,hz⟩:=I.tuple hq
  have hlen:=r'.length;exact len_tuple pl (by simp only[zab]<;>omega) ⟨.int ys.length,H,I.tok _,⟨s.toks+1,by rw[zab,hlen]⟩,q⟩
theorem dC:cY X (.builtin "len") (λxs H Q=>∃ z,xs=[.str z]/\z.length<=sizeLine/\Q (.int z.length) H):=by
 intro pins s σ H xs us Q I r h;obtain⟨z,rfl,hz,q⟩:=h;obtain⟨u,rfl,t,rfl⟩:=fm r;have hn:=jt;exact len_str (by lia) ⟨.int z.length,H,I.tok _,⟨_,rfl⟩,q⟩
def tyV(K:A2)(T:String)(x:V)(H:Hp):Prop:=match x with
 | .str _=>T="str"
 | .int _=>T="int"
 | .ref p=>(T="list"/\∃ xs,SqL K H p xs)\/(T="tuple"/\∃ o,K.lookup p=some o/\o.cls=.type "tuple"/\o.dict=none) \/
   (T="dict"/\((∃ kvs,H p=some (.dK kvs))\/∃ kvs,H p=some (.dT kvs)))\/(T="set"/\∃ S n,H p=some (.set S n))
 | _=>False
theorem yU{s:AE}(I:Inv X pins σ H s)(r:RelV x v)(ty:tyV X.K T x H) :
  s.TypeIs v T/\∀ a,v=.ref a->∃ ob,s.heap.get? a=some ob/\ob.dict=none:=by
 cases x with
 | str z =>
  obtain⟨t,rfl⟩:=r;cases (show T="str" from ty);exact⟨typeIs_str s z t,λ_ e=>nomatch e⟩
 | int i =>
  obtain⟨t,rfl⟩:=r;cases (show T="int" from ty);exact⟨typeIs_int s i t,λ_ e=>nomatch e⟩
 | ref p =>
  cases r;rcases ty with ⟨rfl,xs,hq⟩ | ⟨rfl,o,hk,hc,hd⟩ | ⟨rfl,hk⟩ | ⟨rfl,S,n,hk⟩
  ·obtain⟨its,_,pl,_⟩:=I.list hq
   refine⟨pl.isList.typeIs,λa e=>?_⟩;cases e;obtain⟨o,n,e,c,hd,_⟩:=pl;exact⟨o,e,hd⟩
  ·refine⟨⟨o,I.kIn p o hk,hc⟩,λa e=>?_⟩
   cases e;exact⟨o,I.kIn _ o hk,hd⟩
  ·have z:∃ o,s.heap.get? p=some o/\o.ExactDict:=by
    rcases hk with ⟨kvs,hk⟩ | ⟨kvs,hk⟩
    ·obtain⟨_,_,_,_,o,_,_,e,ex,_⟩:=I.hok p _ hk
     exact⟨o,e,ex⟩
    ·obtain⟨_,_,_,_,o,_,_,e,ex,_⟩:=I.hok p _ hk
     exact⟨o,e,ex⟩
   obtain⟨o,e,ex⟩:=z;refine⟨⟨o,e,ex.1⟩,λa e2=>?_⟩;cases e2;exact⟨o,e,ex.2.1⟩
  ·obtain⟨o,_,_,_,e,ex,_⟩:=I.hok p _ hk
   refine⟨⟨o,e,ex.1⟩,λa e2=>?_⟩;cases e2;exact⟨o,e,ex.2.1⟩
 | _=>exact False.elim ty
def tBM0(K:A2)(T:String)(r:V->List V->Hp->VK->Prop)(to:TE):TE:=λσ H Q=>to σ H λx H1=>tyV K T x H1/\r x [] H1 Q
def tBM(K:A2)(T:String)(r:V->List V->Hp->VK->Prop)(to:TE)(t:TA):TE:=λσ H Q=>to σ H λx H1=>tyV K T x H1/\t σ H1 λxs H2=>r x xs H2 Q
variable{o e:AX}{es:AQ}{to:TE}{t:TA}{name:AL}{apos cpos:Pos}{T id:String}{r:V->List V->Hp->VK->Prop}
theorem tM(pa:PlainAttrs T)(slot:Slot T name id)(hty:typeOf (.builtin id)=pure (.type "method_descriptor"))(hm:MtR X id r)(ho:PE X o to)
  (hbase:attributeBase o name X.env (eval o X.env)=eval o X.env:=by rfl) (hline:(apos.endLine==cpos.line)=true:=by rfl):PE X (.Call (.Attribute o name apos) [] [] cpos) (tBM0 X.K T r to):=by
 intro pins s σ H Q I h;refine ydn hbase hline (thn (ho pins s σ H _ I h) λv s1 zz1=>?_);obtain⟨x,H1,I1,r1,ty,q1⟩:=zz1;obtain⟨h1,h2⟩:=yU I1 r1 ty;exact⟨T,id,pa,slot,hty,h1,h2,ybt rfl (yec (hm pins s1 σ H1 x [] v [] Q I1 r1 .nil q1))⟩
theorem cX(pa:PlainAttrs T)(slot:Slot T name id)(hty:typeOf (.builtin id)=pure (.type "method_descriptor"))(hm:MtR X id r)(ho:PE X o to)(ha:PA X (e::es) t)
  (hbase:attributeBase o name X.env (eval o X.env)=eval o X.env:=by rfl)
  (hfew:((backTo cpos (starEach (e::es) X.env)).all (λx=>!x.1)&&(backToKw cpos (keywordEach [] X.env)).all (λx=>x.1.isSome)
   && decide ((e::es).length+([]:List Keyword).length+(if ([]:List Keyword).isEmpty then 0 else 1)<30))=true:=by rfl)
  (hline:(apos.endLine==cpos.line)=true:=by rfl) (hs:starEach (e::es) X.env=(false,eval e X.env)::starEach es X.env:=by rfl) (hplain:(backTo cpos (starEach es X.env)).any (·.1)=false:=by rfl) :
  PE X (.Call (.Attribute o name apos) (e::es) [] cpos) (tBM X.K T r to t):=by
 intro pins s σ H Q I h;refine wpAny_Call_method_late hbase hfew hline rfl (thn (ho pins s σ H _ I h) λv s1 zz1=>?_);obtain⟨x,H1,I1,r1,ty,q1⟩:=zz1;obtain⟨h1,h2⟩:=yU I1 r1 ty;refine⟨T,id,pa,slot,hty,h1,h2,?_⟩;have hA:=ha cpos pins s1 σ H1 _ I1 q1;rw[hs]at hA ⊢;refine ybt (by show(false||(backTo cpos (starEach es X.env)).any (·.1))=false;rw[hplain]<;>rfl) (ycy ?_);exact thn hA λus s2 ⟨vs,H2,I2,r2,q2⟩=>hm pins s2 σ H2 x vs v us Q I2 r1 r2 q2
/- xs.append(e),list.index on a module's tuple .. are MtR facts of 06m -/
end
def MtM(X:Cx)(id:String)(r:V->List V->Hp->VK->Prop):Prop :=
 ∀ (pins:A7) (s:Shared) (σ:St) (H:Hp) (x:V) (xs:List V) (v:Value) (us:List Value) (Q:VK),Inv X pins σ H s->RelV x v->kh xs us->r x xs H Q ->
  wpAny (model X.prog X.w) X.A (call (.builtin id) (v::us)) (EP X pins σ Q) X.xe s
theorem kh.one:∀ {x:V} {us:AB},kh [x] us->∃ u,us=[u]/\RelV x u
 | _,_,h=>by
  cases h with
  | cons r t =>
  cases t;exact⟨_,rfl,r⟩
theorem kh.zero:∀ {us:AB},kh [] us->us=[]
 | _,.nil=>rfl
theorem kh.dropLast{xs:Ac}{us:AB}(h:kh xs us):kh xs.dropLast us.dropLast:=by
 induction h with
 | nil=>exact .nil
 | cons r t ih =>
  cases t with
  | nil=>exact .nil
  | cons q t'=>exact .cons r ih
theorem tN(l:List α):l.eraseIdx (l.length-1)=l.dropLast:=by
 induction l with
 | nil=>rfl
 | cons a r ih =>
  cases r with
  | nil=>rfl
  | cons b r =>
   have e:(a::b::r).length-1=((b::r).length-1)+1:=by
    have h1:(a::b::r).length=r.length+2:=rfl;have h2:(b::r).length=r.length+1:=rfl
    assumption
   rw[e,List.eraseIdx_cons_succ,ih]
   all_goals rfl
section
variable{X:Cx}{pins:A7}{σ:St}{H:Hp}{s:AE}{l b:AA}{xs ys zs:Ac}
theorem Inv.lset{its its':AB}{f:Array Value->Array Value}(I:Inv X pins σ H s)(hH:H l=some (.lst xs))
  (e:s.heap.get? l=some { cls:=.type "list",data:=.seq its.toArray n }) (hf:f its.toArray=its'.toArray) (hv:kh ys its') (hz:ys.length<=sizeLine) :
  Inv X pins σ (upd H l (.lst ys)) { s with heap:=s.heap.update l (Obj.mapSeq f),toks:=t' }:=by
 have q:=PySem.IsL.update e f;rw[hf]at q;refine I.write (x:=l) (e:=l) (by rw[hH];exact trivial) (.inl rfl) (λb' u hb hu=>(yas s.heap (Obj.mapSeq f) (yav hb)).trans hu) ⟨_,q⟩ ?_;exact⟨hz,its',_,hv,q⟩
theorem Inv.lnew(I:Inv X pins σ H s)(hv:kh ys its)(hz:ys.length<=sizeLine) :
  Inv X pins σ (upd H s.heap.objs.size (.lst ys)) { s with heap:=s.heap.push { cls:=.type "list",data:=.seq its.toArray },toks:=t' } :=
 I.laid (λ_ _ q=>yai _ q) (za5 _) ⟨hz,its,0,hv,yak _ rfl⟩
theorem Inv.fresh(I:Inv X pins σ H s):H s.heap.objs.size=none:=I.hok.fresh (za5 _)
theorem Inv.tO(I:Inv X pins σ H s)(hH:H l=some (.lst xs)):xs.length<=sizeLine/\∃ (its:AB) (n:Nat),kh xs its/\xs.length=its.length/\s.heap.get? l=some { cls:=.type "list",data:=.seq its.toArray n }:=by
 obtain⟨z,its,n,r,e⟩:=I.hok l _ hH;exact⟨z,its,n,r,r.length,e⟩
end
section
variable{X:Cx}
def Cp:V->List V->Hp->VK->Prop:=λx vs H Q=>∃ l xs y,x=.ref l/\vs=[y]/\H l=some (.lst xs)/\xs.length<sizeLine/\Q .non (upd H l (.lst (xs++[y])))
theorem bJ:MtM X "list.append" Cp:=by
 intro pins s σ H x vs v us Q I rx rv h;obtain⟨l,xs,y,rfl,rfl,hH,hz,q⟩:=h;cases rx;obtain⟨u,rfl,ru⟩:=rv.one;obtain⟨z,its,n,r,hl,e⟩:=I.tO hH;refine ydk yan ⟨_,e,rfl⟩ F.entry_list_append (F.args_list_append_2 _ _) (PySem.list_append l its.toArray n u (by rw[zab];lia)) ⟨e,?_⟩;refine⟨.non,_,I.lset (its':=its++[u]) hH e (by simp) (r.append (.cons ru .nil)) ?_,rfl,q⟩;rw[za7,List.length_singleton]
 assumption
def rPop:V->List V->Hp->VK->Prop:=λx vs H Q=>∃ l xs y,x=.ref l/\vs=[]/\H l=some (.lst xs)/\xs[xs.length-1]?=some y/\Q y (upd H l (.lst xs.dropLast))
theorem tP:MtM X "list.pop" rPop:=by
 intro pins s σ H x vs v us Q I rx rv h;obtain⟨l,xs,y,rfl,rfl,hH,hy,q⟩:=h;cases rx;have hus:=rv.zero;subst hus;obtain⟨z,its,n,r,hl,e⟩:=I.tO hH;obtain⟨u,hu,ru⟩:=r.get hy;have hy':its.toArray[its.toArray.size-1]?=some u:=by
  show its.toArray[its.length-1]?=some u;rw[<- zb4,<- hl];exact hu
 refine ydk ye8 ⟨_,e,rfl⟩ F.entry_list_pop (F.args_list_pop_1 _) (MeetsSeq.list_pop_last l its.toArray n u hy' (by rw[zab];lia)) ⟨e,?_⟩;refine⟨y,_,I.lset (its':=its.dropLast) hH e ?_ r.dropLast ?_,ru,q⟩
 ·show its.toArray.eraseIdxIfInBounds (its.toArray.size-1)=its.dropLast.toArray
  rw[zab,List.eraseIdxIfInBounds_toArray,tN]
 ·rw[List.length_dropLast]
  grind
def rCat:R2:=λx y H Q=>∃ l b xs zs,x=.ref l/\y=.ref b/\H l=some (.lst xs)/\H b=some (.lst zs)/\xs.length+zs.length<=sizeLine/\∀ p,H p=none->Q (.ref p) (upd H p (.lst (xs++zs)))
theorem pY:OpR X (binaryOp .Add) rCat:=by
 intro pins s σ H x y v u Q I rx ry h;obtain⟨l,b,xs,zs,rfl,rfl,hH,hB,hz,q⟩:=h;cases rx;cases ry;obtain⟨z,its,n,r,hl,e⟩:=I.tO hH;obtain⟨z2,its2,n2,r2,hl2,e2⟩:=I.tO hB;refine PySem.P.add_list e e2 ?_ (by rw[zab,zab];omega);have ea:its.toArray++its2.toArray=(its++its2).toArray:=by simp
 rw[ea];exact⟨.ref _,_,I.lnew (t':=s.toks) (r.append r2) (by rw[za7];omega),rfl,q _ I.fresh⟩
end
section
variable{prog:AF}{w:AJ}{A:AK}{E:A9}{s:AE}
end
section
variable{X:Cx}
end
end L2
namespace Att
open PySem PySem.W PySem.Calls PyProof.Rows
theorem jJ:∀ (ns:List Int) (vs:AB),WellAll P h vs (ns.map WData.int)->IntsAre vs ns:=by
 intro ns
 induction ns with
 | nil =>
  intro vs w;rw[zbs]at w;cases w;exact .nil
 | cons n ns ih =>
  intro vs w;rw[zaa]at w;cases w with
  | cons a b =>
   cases a;exact .cons _ _ (ih _ b)
theorem xi{l:OpenLaw}(hn:l.most=some n){h:AO}
  (hpre:l.row.toRowW.claim.pre args=true) (hwl:WellAll P h vals args) :
  ∃ a vs ns,vals=[Value.ref a]/\args=[WData.list (ns.map WData.int)]/\h.get? a=some { cls:=.type "list",data:=.seq vs.toArray }/\IntsAre vs ns/\ns.length<=n:=by
 have hsh:WShape.hasAll [] args [.list .int]=true:=(pre_splitW hpre).1;have hc:l.pre.holds [] { args:=args }=true:=(pre_splitW hpre).2;obtain⟨d,r,rfl,h1,h2⟩:=hasAllW_cons hsh;obtain rfl:=hasAllW_nil h2;obtain⟨xs,rfl,h3⟩:=hasW_list h1;obtain⟨ns,rfl⟩:=items_int h3;have hlen:ns.length<=n:=by
  unfold OpenLaw.pre at hc;have h4:(WTm.not (.lt (.lit (.int (n:Int))) (.len (.arg 0)))).holds [] { args:=[.list (ns.map .int)] }=true:=by
   have h4:=(holds_andW hc).1;rw[hn]at h4;exact h4
  have h5:=condW_of h4 (w_not (w_lt w_lit (w_len_list (w_arg rfl))));rw[za4]at h5;refine Nat.le_of_not_lt λq=>?_
  have q':(n:Int)<((ns.length:Nat):Int):=by omega
  first
   | (rw[yab q']at h5;exact absurd h5 (by decide))
   | (simp at h5;omega)
 cases hwl with
 | cons w1 w2 =>
  cases w2;cases w1 with
  | list ho hall=>exact⟨_,_,ns,rfl,rfl,ho,jJ ns _ hall,hlen⟩
theorem xj(l:OpenLaw)(args:List WData):l.row.toRowW.claim.post args (.bool true) args=true :=
 postW_of (r:=l.row.toRowW) (X:=(true==true))
  (show WShape.has [] (.bool true) .bool=true by first | rfl | decide | simp[WShape.has,WShape.arms,WShape.armsAll])
  (show(WTm.eq .res (.lit (.bool true))).value [] { args:=args,res:=some (.bool true),after:=args }=some (.bool (true==true)) from w_eq_bool (w_res rfl) w_lit) rfl
theorem rb{l:OpenLaw}{YP:World->Heap->Prop}{d:DefRec}
  (hn:l.most=some n) (hdf:d.params.defaults=[])
  (call:∀ (w:AJ) (s₀ s₁:AE) (mg mb:A5) (fa:AA) (o:Obj) (pm cd doc:AI) (a:AA) (vs:AB) (ns:List Int),
   Ground q loose [] XP w s₀ mg mb s₁.heap->YP w s₁.heap ->
   s₁.heap.get? fa=some o->o.data=.func (docDef d.name d.params d.body d.scope pm cd doc)->s₁.heap.CodeRec cd d.name->mg d.name=some (.ref fa) ->
   s₁.heap.get? a=some { cls:=.type "list",data:=.seq vs.toArray }->IntsAre vs ns->ns.length<=n->s₁.gens=#[] ->
   codeAny (model l.prog w) callerA (.call (.ref fa) ⟨[.ref a],[]⟩) (λr s'=>r=.ok (.ret (.bool true))/\OldK s₁.heap s'.heap/\s'.os=s₁.os/\AllBare s'.gens) s₁) :
  WalkO q loose XP YP l.row.toRowW d [] (λf vs=>PySem.call f vs):=by
 intro w s₀ s₁ mg mb G Y fa o pm cd doc dV kV ho hd hcd hD hmg hg args vals as hpre hlay hrd hwl hlo;obtain rfl:dV=.none:=Dflts.none hD hdf;obtain rfl:kV=.none:=Dflts.noKw hD;obtain⟨a,vs,ns,rfl,rfl,hobj,hints,hlen⟩:=xi hn hpre hwl;refine enter_call (ye7 (call w s₀ s₁ mg mb fa o pm cd doc a vs ns G Y ho (fd_plain hd) hcd hmg hobj hints hlen hg) λr s' hq=>?_);obtain⟨rfl,h2,h3,h4⟩:=hq;exact⟨.inl ⟨.bool true,.bool true,[],rfl,λ_=>rfl,.bool true,xj l _,λ_=>⟨List.Pairwise.nil,λ_ hm=>(nomatch hm)⟩⟩,h2,h3,h4⟩
section
variable{prog:AF}{w:AJ}{A:AK}{E:A9}{s:AE}{K:Frag}
end
end Att
namespace L2
open PySem PySem.Spec PyProof.Rows
theorem oJ:∀ {vs:AB} {ns:List Int},IntsAre vs ns->kh (ns.map V.int) vs
 | _,_,.nil=>.nil
 | _,_,.cons n t h=>.cons ⟨t,rfl⟩ (oJ h)
def Only(H:Hp):Prop:=∀ b,H b=none\/∃ o xs,H b=some (.frz o (.lst xs))
theorem yV{K:A2}{mg mb:A5}{CX:CXT}{fa:AA}{sp:Sp}{s₁:AE}{vs:AB}{ns:List Int}
  (KX:K.In s₁.heap) (hns:s₁.heap.Ns mainGlobals mg) (hb:s₁.heap.Ns builtinsNs mb) (hbb:∀ x:Str,x≠"__name__"->mb x=bootBuiltins x) (hlim:s₁.heap.NoLimit) (hg:s₁.gens=#[])
  (ha:s₁.heap.get? a=some { cls:=.type "list",data:=.seq vs.toArray }) (hi:IntsAre vs ns) (hl:ns.length<=sizeLine) (hr:ki k callerA)
  (F:∀ base:Heap,K.In base->base.Ns mainGlobals mg->ke P w K mg base CX k fa fd [x] sp) (hbind:∀ (s:AE) (u:AI),BindsTo s fd ⟨[u],[]⟩ [(x,u)])
  (hsp:∀ H:Hp,Only H->SqL K H a (ns.map V.int)->sp [.ref a] H (λv _=>v=.bl true) λ_ _ _=>False)
  (hCX:∀ H e s',CX [] H s₁ (λ_ _ _=>False) e s'->False) :
  codeAny (model P w) callerA (.call (.ref fa) ⟨[.ref a],[]⟩) (λr s'=>r=.ok (.ret (.bool true))/\OldK s₁.heap s'.heap/\s'.os=s₁.os/\AllBare s'.gens) s₁:=by
 have rv:=oJ hi;have lenV:=hi.length;have core:∀ H:Hp,Only H->SqL K H a (ns.map V.int)->HOk P w H s₁.heap->(∀ b,H b≠none->b=a)->(H a≠none->K.lookup a=none) ->
   codeAny (model P w) callerA (.call (.ref fa) ⟨[.ref a],[]⟩) (λr s'=>r=.ok (.ret (.bool true))/\OldK s₁.heap s'.heap/\s'.os=s₁.os/\AllBare s'.gens) s₁:=by
  intro H hO hS hok hA hK;have base_of:∀ {b:AA} {o:Obj},s₁.heap.get? b=some o->H b=none->(pO s₁.heap H).get? b=some o:=λe n=>yB e n
  have noA:∀ {b:AA} {o:Obj} {es:AR} {ep:Nat},s₁.heap.get? b=some o->o.data=.dict es ep->H b=none:=fun {b o es ep} e d=>by
   cases q:H b with
   | none=>rfl
   | some u =>
    have e':b=a:=hA b (by rw[q];simp);subst e';rw[ha]at e;cases e;have d':Data.seq vs.toArray _=Data.dict es ep:=d;cases d'
  have nsK:∀ {b:AA} {m:A5},s₁.heap.Ns b m->(pO s₁.heap H).Ns b m:=fun {b m} ⟨o,es,ep,e,d,r⟩=>⟨o,es,ep,base_of e (noA e d),d,r⟩
  have hKb:K.In (pO s₁.heap H):=λb o e=>base_of (KX b o e) (by
   cases q:H b with
   | none=>rfl
   | some u =>
    have e':b=a:=hA b (by rw[q];simp);subst e';rw[hK (by rw[q];simp)]at e;cases e)
  have hM:Mod K mg (pO s₁.heap H):=⟨hKb,nsK hns,⟨mb,nsK hb,hbb⟩,let ⟨mc,h1,h2⟩:=hlim;⟨mc,nsK h1,h2⟩⟩;have e0:tI P w K mg (pO s₁.heap H) callerA [] s₁ H:=⟨rfl,hM,λb o e=>Ce e,Nat.le_of_eq (x4 _ _),trivial,λb hb=>absurd (show b∈([]:AM) from hb) (by simp),hok,.of_eq hg⟩;refine ye7 ((F _ hKb (nsK hns)).run callerA [] s₁ H ⟨[.ref a],[]⟩ [.ref a] [.ref a] _ _ hr e0 (hbind s₁ (.ref a)) (.cons rfl .nil) (hsp H hO hS)) λr s' h=>?_
  cases r with
  | error e=>exact(hCX H e s' h).elim
  | ok fl =>
   cases fl with
   | next=>exact False.elim h
   | brk=>exact False.elim h
   | cont=>exact False.elim h
   | ret u =>
    obtain⟨v,H',os,bare,un,hok',r',q⟩:=h;have q':v=.bl true:=q;subst q';obtain rfl:u=Value.bool true:=r';refine⟨rfl,OldK.of_keep λb o e=>?_,os,bare⟩;cases q:H b with
    | none=>exact un.keep b o e q (by intro z;exact absurd (show b∈([]:AM) from z) (by simp)) (by simp)
    | some u =>
     rcases hO b with z | ⟨ob,xs,z⟩
     ·rw[q]at z;cases z
     ·have z2:=un.lq b ob _ z
      obtain⟨e1,_⟩:=hok b _ z;obtain⟨e2,_⟩:=hok' b _ z2;rw[e]at e1;cases e1;exact e2
 cases hk:K.lookup a with
 | some o =>
  have e:=KX a o hk;rw[ha]at e;cases e;refine core (λ_=>none) (λ_=>.inl rfl) (.inr ⟨_,vs.toArray,_,hk,rfl,rfl,rfl,by rw[zab,lenV];exact hl,by simpa using rv⟩) (λb u z=>by have z':(none:Option HO)=some u:=z;cases z') (λb z=>absurd rfl z) λz=>absurd rfl z
 | none =>
  refine core (λb=>if b=a then some (.frz { cls:=.type "list",data:=.seq vs.toArray } (.lst (ns.map V.int))) else none) (λb=>?_) (.inl (.inr ⟨{ cls:=.type "list",data:=.seq vs.toArray },yad rfl⟩)) (λb u z=>?_) (λb z=>?_) λ_=>hk
  ·by_cases hb:b=a
   ·exact .inr ⟨_,_,yad hb⟩
   ·exact .inl (yac hb)
  ·by_cases hb:b=a
   ·have z':=(yad hb).symm.trans z
    cases z';subst hb;exact⟨ha,by rw[za4];exact hl,vs,_,rv,ha⟩
   ·have z':=(yac hb).symm.trans z
    cases z'
  ·by_cases hb:b=a
   ·exact hb
   ·exact absurd (yac hb) z
theorem vf{l:W.OpenLaw}{n:Nat}{YP:World->Heap->Prop}{d:DefRec}{K:Params->W.Frag}{CX:World->CXT}{sp:World->Sp}
  (hn:l.most=some n) (hn2:n<=sizeLine) (hdf:d.params.defaults=[]) (hr:ki k callerA)
  (hY:∀ (w:AJ) (h:AO),YP w h->(K w.params).In h)
  (F:∀ (w:AJ) (mg:A5) (fa:AA) (h:AO),(K w.params).In h->h.Ns mainGlobals mg->mg d.name=some (.ref fa) ->
   ∃ fd:FuncData,(∀ (s:AE) (u:AI),BindsTo s fd ⟨[u],[]⟩ [(x,u)]) /\
    ∀ base:Heap,(K w.params).In base->base.Ns mainGlobals mg->ke l.prog w (K w.params) mg base (CX w) k fa fd [x] (sp w))
  (hsp:∀ (w:AJ) (H:Hp) (a:AA) (ns:List Int),ns.length<=n->Only H->SqL (K w.params) H a (ns.map V.int)->sp w [.ref a] H (λv _=>v=.bl true) λ_ _ _=>False)
  (hCX:∀ (w:AJ) (H:Hp) (s:AE) (e:AI) (s':AE),CX w [] H s (λ_ _ _=>False) e s'->False) :
  W.WalkO q loose XP YP l.row.toRowW d [] (λf vs=>PySem.call f vs):=by
 refine Att.rb hn hdf λw s₀ s₁ mg mb fa o pm cd doc a vs ns G Y ho hd hcd hmg hobj hints hlen hg=>?_
 have KX:=hY w _ Y;obtain⟨fd,hb,hF⟩:=F w mg fa _ KX G.T.g hmg;exact yV KX G.T.g G.T.b G.T.builtins G.T.nolimit hg hobj hints (zap hlen hn2) hr hF hb (λH hO hS=>hsp w H a ns hlen hO hS) λH e s'=>hCX w H s₁ e s'
end L2
/- THE LAST THEOREM (shape;LID,My.* are yours):
   My.Adr: a structure of the addresses that your layer names (classes,functions);My.Txt K t: a structure (Prop) of the equations over K;
   My.txt_mk:{K} {implicit addresses ..} (e1:nsIn K mainGlobals "law"=some (some (.ref f))) (e2:K.lookup f=some ⟨oc,od,.func (fnOf "law" "law" params body scope dV kV doc pm an cdv ct),sl⟩) (e3:codeIn K cdv "law"=true) ..:∃ t,My.Txt K t
set_option maxRecDepth 100000 in
set_option maxHeartbeats 0 in
theorem PySem.Challenge.cw_LID_holds : PySem.Challenge.rw_LID.Holds := by
 w_on;o_law;k_head;(case hw=>w_witness2)
 k_fill
 refine L2.vf (l:=PySem.Challenge.rw_LID) (n:=63) (k:=40) (x:="script") (CX:=λw=>..) (sp:=λ_=>My.sp_law) rfl (by decide) rfl ⟨rfl,by decide,by decide⟩ (λw h Y=>PySem.W.kIn_of Y) ?F ?S ?C
 case F =>
  intro w mg fa h KX G hmg;have T:∃ t,My.Txt (L2.KOf KX) t:=by
   dsimp only[L2.KOf]                          -- K must stand as «<heap const> w.params» for k_is;refine' My.txt_mk ?e1 ?e2 ?e3 ..
   (case e1=>PySem.W.k_is)                    -- in the order: a name -> its address -> its object -> its parts
   (case e2=>PySem.W.k_is)
   ..
  obtain⟨t,T⟩:=T;have e0:=hmg.symm.trans (yam KX G T.law);cases e0                                       -- fa is the law's own address;exact⟨_,λs u=>.of_eq rfl,λbase kb nb=>My.law_fn T kb nb⟩     -- if «.of_eq rfl» comes too early: refine' ⟨_,?b,λbase kb nb=>My.law_fn T kb nb⟩;exact λs u=>.of_eq rfl
 case S=>exact λw H a ns hl hO hS=>..
 case C=>exact ..
(the tactic k_is has no namespace: write k_is) -/
namespace L2
open PySem PySem.Spec PyProof.Rows
def jY(s:Stmt)(j:Nat):Stmt:=match s with
 | .ClassDef _ _ _ body _ _ _ _ _ _ _=>body.getD j (.Pass ⟨0,0,0,0⟩)
 | _=>.Pass ⟨0,0,0,0⟩
def fh(s:Stmt):Arguments:=match s with
 | .FunctionDef _ a _ _ _ _ _ _ _ _=>a
 | _=>{ posonlyargs:=[],args:=[],vararg:=none,kwonlyargs:=[],kw_defaults:=[],kwarg:=none,defaults:=[] }
def dB(s:Stmt):List Stmt:=match s with
 | .FunctionDef _ _ b _ _ _ _ _ _ _=>b
 | _=>[]
def aj(s:Stmt):Scope:=match s with
 | .FunctionDef _ _ _ _ _ _ sc _ _ _=>sc
 | _=>{ kind:=.function,names:=[],isGenerator:=false,isCoroutine:=false }
abbrev CX0:CXT:=λ_ _ _ _ _ _=>False
abbrev E0:XK:=λ_ _ _=>False
theorem aF:eG CX0 X E0:=λ_ _ _ _ _ _ _ h=>h.elim
structure Fun(K:A2)(x qual:Str)(st:Stmt)(f:Addr)(fd:FuncData):Prop where
 ex:∃ (oc:Value) (od:Option Addr) (kV doc pm:Value) (an:Option Addr) (cdv ct:Value) (osl:A1),
  fd=W.fnOf x qual (fh st) (dB st) (aj st) .none kV doc pm an cdv ct/\K.lookup f=some ⟨oc,od,.func fd,osl⟩/\W.codeIn K cdv qual=true
 kp:W.keepIn K (.ref f)=true
section
variable{P:AF}{w:AJ}{K:A2}{mg:A5}{base:AO}
theorem Fun.ok{x qual:AL}{st:Stmt}{f:AA}{fd:AG}{N ps:AH}{k:Nat}{sp:Sp}(F:Fun K x qual st f fd)(S:az N ps (aj st))(len:∀ vs H Q E,sp vs H Q E->vs.length=ps.length)
  (hbody:∀ (cdv:AI) (A:AK) (outer:AS) (s:AE) (H:Hp) (vs:Ac) (Q:VK) (E:XK),ki k (A.deeper (envOfC qual (aj st) s.heap.objs.size f cdv))->sp vs H Q E ->
   ∃ t,PSs (lr CX0 P w K mg base N qual (aj st) f cdv A outer s H E).nox (dB st) t/\t { nx:=λ_ H'=>Q .non H',rt:=Q } (iF N vs) H):ke P w K mg base CX0 (k+1) f fd ps sp:=by
 obtain⟨oc,od,kV,doc,pm,an,cdv,ct,osl,rfl,lk,hcd⟩:=F.ex;refine Em lk hcd S len λA outer s H vs Q E hr hsp=>?_
 obtain⟨t,h,q⟩:=hbody cdv A outer s H vs Q E hr hsp;exact⟨t,h.nox,q⟩
theorem Fun.binds{x qual:AL}{st:Stmt}{f:AA}{fd:AG}{ps:AH}(F:Fun K x qual st f fd)
  (h:∀ (kV doc pm:AI) (an:Aa) (cdv ct:AI) (us:AB),us.length=ps.length->bindArgs (W.fnOf x qual (fh st) (dB st) (aj st) .none kV doc pm an cdv ct) ⟨us,[]⟩=pure (ps.zip us)):ar K fd ps []:=by
 obtain⟨oc,od,kV,doc,pm,an,cdv,ct,osl,rfl,lk,hcd⟩:=F.ex;exact .all (h kV doc pm an cdv ct)
theorem yW{x qual:AL}{st:Stmt}{f:AA}{oc:AI}{od an:Aa}{osl:A1}{kV doc pm cdv ct:AI}(l:K.lookup f=some ⟨oc,od,.func (W.fnOf x qual (fh st) (dB st) (aj st) .none kV doc pm an cdv ct),osl⟩)
  (c:W.codeIn K cdv qual=true) (k:W.keepIn K (.ref f)=true):Fun K x qual st f (W.fnOf x qual (fh st) (dB st) (aj st) .none kV doc pm an cdv ct):=⟨⟨oc,od,kV,doc,pm,an,cdv,ct,osl,rfl,l,c⟩,k⟩
end
theorem bp(h:n<=1000):n<sizeLine:=Nat.lt_of_le_of_lt h (by decide)
section
variable{X:Cx}
theorem pv(i:Nat)(hN:X.N[i]?=some x:=by rfl)(hv:Vis X.env.scope x:=by first | exact Or.inl rfl | exact Or.inr (Or.inl rfl) | exact Or.inr (Or.inr rfl))(hd:(x==("__debug__":AL))=false:=by decide)
  (hcd:(x==("__classdict__":AL))=false:=by decide):PE X (.Name x pos) (yD i):=ES hN hv hd hcd
end
theorem kr{A:Prop}(h:B):if false=true then A else B:=by
 rw[yac za8];exact h
theorem kH{A:Prop}(h:A):if true=true then A else B:=by
 rw[yad rfl];exact h
def kf(H H':Hp):Prop:=∀ b o,H b=some o->H' b=some o
theorem kf.refl(H:Hp):kf H H:=λ_ _ h=>h
theorem kf.trans{H:Hp}(a:kf H H1)(b:kf H1 H2):kf H H2:=λc o h=>b c o (a c o h)
theorem kf.seq{K:A2}{H H':Hp}{a:AA}{xs:Ac}(e:kf H H')(h:SqL K H a xs):SqL K H' a xs:=by
 rcases h with (h | ⟨o,h⟩) | h
 ·exact .inl (.inl (e _ _ h))
 ·exact .inl (.inr ⟨o,e _ _ h⟩)
 ·exact .inr h
section
variable{κ:Type}[DecidableEq κ]
def kB(kvs:List (κ×V))(k:κ):Option V:=(kvs.find? λkv=>decide (kv.1=k)).map (·.2)
def putK(kvs:List (κ×V))(k:κ)(v:V):List (κ×V) :=
 if (kvs.any λkv=>decide (kv.1=k))=true then kvs.map (λkv=>if kv.1=k then (kv.1,v) else kv) else kvs++[(k,v)]
theorem cB{p:κ×V}(e:p.1=k):kB (p::r) k=some p.2:=by simp[kB,zbp,e]
theorem cC{p:κ×V}(e:¬ p.1=k):kB (p::r) k=kB r k:=by simp[kB,zbp,e]
theorem fo(k:κ):∀ kvs:List (κ×V),(kvs.any λkv=>decide (kv.1=k))=(kB kvs k).isSome
 | []=>rfl
 | p::r=>by
  rw[List.any_cons];by_cases e:p.1=k
  ·simp only[cB e,yab e,Bool.true_or,Option.isSome_some]
  ·rw[cC e,yaa e,Bool.false_or];exact fo k r
theorem rf(k j:κ)(y:V):∀ kvs:List (κ×V),kB (kvs.map λkv=>if kv.1=k then (kv.1,y) else kv) j=(kB kvs j).map λx=>if j=k then y else x
 | []=>rfl
 | p::r=>by
  have ih:=rf k j y r;rw[zaa];by_cases h:p.1=k
  ·rw[yad h]
   by_cases e:p.1=j
   ·rw[cB (p:=(p.1,y)) e,cB e,yda,yad (e.symm.trans h)]
   ·rw[cC (p:=(p.1,y)) e,cC e,ih]
  ·rw[yac h]
   by_cases e:p.1=j
   ·rw[cB (p:=p) e,cB e,yda,yac (λz=>h (e.trans z))]
   ·rw[cC (p:=p) e,cC e,ih]
theorem oK(k j:κ)(y:V):∀ kvs:List (κ×V),kB kvs k=none->kB (kvs++[(k,y)]) j=if j=k then some y else kB kvs j
 | [],_=>by
  by_cases e:k=j
  ·rw[yad e.symm];exact cB (p:=(k,y)) e
  ·rw[yac (λz=>e z.symm)];exact cC (p:=(k,y)) e
 | p::r,hn=>by
  rw[zb1];have hk:¬ p.1=k:=λz=>by rw[cB z]at hn;cases hn
  rw[cC hk]at hn;have ih:=oK k j y r hn;by_cases e:p.1=j
  ·rw[cB e,cB e,yac (λz=>hk (e.trans z))]
  ·rw[cC e,cC e,ih]
theorem rg(kvs:List (κ×V))(k j:κ)(y:V):kB (putK kvs k y) j=if j=k then some y else kB kvs j:=by
 unfold putK;by_cases a:(kvs.any λkv=>decide (kv.1=k))=true
 ·rw[yad a,rf]
  rw[fo]at a;by_cases e:j=k
  ·obtain⟨x,hx⟩:=Option.isSome_iff_exists.mp a
   rw[yad e,e,hx,yda,yad rfl]
  ·rw[yac e]
   cases kB kvs j with
   | none=>rfl
   | some x=>rw[yda,yac e]
 ·rw[yac a]
  refine oK k j y kvs ?_;rw[fo]at a;cases q:kB kvs k with
  | none=>rfl
  | some x=>rw[q]at a;exact(a rfl).elim
theorem gw(kvs:List (κ×V))(k:κ)(v:V):(putK kvs k v).length<=kvs.length+1:=by
 unfold putK;split
 ·rw[za4];lia
 ·rw[za7,za2,zb2];lia
theorem kW.kN{o:Option V}{u:Option Value}(r:kW o u):o.isSome=u.isSome:=by
 cases o with
 | none=>cases u with
  | none=>rfl
  | some _=>exact(show False from r).elim
 | some _=>cases u with
  | none=>exact(show False from r).elim
  | some _=>rfl
theorem kW.getD{o:Option V}{u:Option Value}(r:kW o u)(rd:RelV d d'):RelV (o.getD d) (u.getD d'):=by
 cases o with
 | none=>cases u with
  | none=>exact rd
  | some _=>exact(show False from r).elim
 | some _=>cases u with
  | none=>exact(show False from r).elim
  | some _=>exact r
theorem KV.val(r:KV kvs vs)(k:κ):kW (kB kvs k) (valueAt vs k):=by
 unfold KV at r
 induction r with
 | nil=>exact True.intro
 | @cons p q ps qs h t ih =>
  obtain⟨h1,h2⟩:=h;by_cases e:p.1=k
  ·have e':q.1=k:=h1.symm.trans e
   have b:valueAt (q::qs) k=some q.2:=by simp[valueAt,zbp,e']
   rw[cB e,b];exact h2
  ·have e':¬ q.1=k:=λz=>e (h1.trans z)
   have b:valueAt (q::qs) k=valueAt qs k:=by simp[valueAt,zbp,e']
   rw[cC e,b];exact ih
theorem KV.any{kvs:List (κ×V)}{vs:List (κ×Value)}(r:KV kvs vs)(k:κ):(kvs.any λkv=>decide (kv.1=k))=vs.any λkv=>decide (kv.1=k):=by
 unfold KV at r
 induction r with
 | nil=>rfl
 | cons h t ih=>rw[List.any_cons,List.any_cons,ih,h.1]
theorem KV.yX{kvs:List (κ×V)}{vs:List (κ×Value)}(r:KV kvs vs)(k:κ)(ry:RelV y u) :
  KV (kvs.map λkv=>if kv.1=k then (kv.1,y) else kv) (vs.map λkv=>if kv.1=k then (kv.1,u) else kv):=by
 unfold KV at r ⊢
 induction r with
 | nil=>exact .nil
 | @cons p q ps qs h t ih =>
  rw[zaa,zaa];refine .cons ?_ ih;obtain⟨h1,h2⟩:=h;by_cases e:p.1=k
  ·rw[yad e,yad (h1.symm.trans e)];exact⟨h1,ry⟩
  ·rw[yac e,yac (λz=>e (h1.trans z))];exact⟨h1,h2⟩
theorem KV.put(r:KV kvs vs)(k:κ)(ry:RelV y u):KV (putK kvs k y) (stored vs k u):=by
 unfold putK stored;rw[r.any k];by_cases e:(vs.any λkv=>decide (kv.1=k))=true
 ·rw[yad e,yad e];exact r.yX k ry
 ·rw[yac e,yac e];exact Paired.snoc r ⟨rfl,ry⟩
theorem KV.length{kvs:List (κ×V)}{vs:List (κ×Value)}(r:KV kvs vs):kvs.length=vs.length:=yce r
end
theorem iZ(r:RelV (kV k) u):(aU P w).is k u=true:=by
 cases k with
 | inl i=>obtain⟨t,e⟩:=(show ∃ t,u=Value.int i t from r);subst e;exact qU P w i t
 | inr x=>obtain⟨t,e⟩:=(show ∃ t,u=Value.str x t from r);subst e;exact qV P w x t
theorem oM:∀ {ks:List Key} {us:AB},kh (ks.map kV) us->ItemsAre (aU P w) ks us
 | [],_,r=>by rw[zbs]at r;cases r;exact .nil
 | k::ks,_,r=>by
  rw[zaa]at r;cases r with
  | cons h t=>exact .cons (iZ h) (oM t)
abbrev KT(H:Hp):List (List Key×V)->List (List Key×Addr×Value)->Prop:=Paired λp q=>p.1=q.1/\H q.2.1=some (.tup (p.1.map kV))/\RelV p.2 q.2.2
theorem KT.val(r:KT H kvs xs)(k:List Key):kW (kB kvs k) ((atKey xs k).map (·.2)):=by
 induction r with
 | nil=>exact True.intro
 | @cons p q ps qs h t ih =>
  obtain⟨h1,_,h2⟩:=h;by_cases e:p.1=k
  ·have e':q.1=k:=h1.symm.trans e
   have b:atKey (q::qs) k=some q.2:=by simp[atKey,zbp,e']
   rw[cB e,b];exact h2
  ·have e':¬ q.1=k:=λz=>e (h1.trans z)
   have b:atKey (q::qs) k=atKey qs k:=by simp[atKey,zbp,e']
   rw[cC e,b];exact ih
theorem KT.yX{kvs:Am}{xs:List (List Key×Addr×Value)}(r:KT H kvs xs)(k:List Key)(ry:RelV y u) :
  KT H (kvs.map λkv=>if kv.1=k then (kv.1,y) else kv) (xs.map (putAt k u)):=by
 induction r with
 | nil=>exact .nil
 | @cons p q ps qs h t ih =>
  rw[zaa,zaa];refine .cons ?_ ih;obtain⟨h1,h2,h3⟩:=h;unfold putAt;by_cases e:p.1=k
  ·rw[yad e,yad (h1.symm.trans e)];exact⟨h1,h2,ry⟩
  ·rw[yac e,yac (λz=>e (h1.trans z))];exact⟨h1,h2,h3⟩
theorem KT.put{H:Hp}(r:KT H kvs xs)(k:List Key)(hb:H b=some (.tup (k.map kV)))(ry:RelV y u) :
  KT H (putK kvs k y) (storedH xs k b u):=by
 have e:(kvs.any λkv=>decide (kv.1=k))=(atKey xs k).isSome:=by
  rw[fo,(r.val k).kN,ydq]
 unfold putK storedH;rw[e];by_cases q:(atKey xs k).isSome=true
 ·rw[yad q,yad q];exact r.yX k ry
 ·rw[yac q,yac q];exact Paired.snoc r ⟨rfl,hb,ry⟩
theorem KT.keeps{H H':Hp}(r:KT H kvs xs)(ht:∀ b ys,H b=some (.tup ys)->H' b=some (.tup ys)):KT H' kvs xs :=
 Paired.mapP r λ_ _ z=>⟨z.1,ht _ _ z.2.1,z.2.2⟩
section
variable{P:AF}{w:AJ}{H:Hp}{h:AO}{a:AA}
theorem En(ok:HOk P w H h)(e:Rd H a u):bf P w H h a u:=e.ok ok
theorem mE{kvs:Ae}(ok:HOk P w H h)(e:Rd H a (.dK kvs)):kvs.length<=sizeLine/\(a==sysModules)=false/\∃ vs,KV kvs vs/\h.DictOf (aU P w) a vs :=
 show bf P w H h a (.dK kvs) from En ok e
theorem Eo{kvs:Ae}(ok:HOk P w H h)(e:H a=some (.dK kvs)):kvs.length<=sizeLine/\(a==sysModules)=false/\∃ vs,KV kvs vs/\h.DictOf (aU P w) a vs:=mE ok (.inl e)
theorem jv{ks:List Key}(ok:HOk P w H h)(e:H a=some (.tup (ks.map kV))):(tupleKind (aU P w)).is h ks a:=by
 obtain⟨_,its,r,tx⟩:=(show bf P w H h a (.tup (ks.map kV)) from ok a _ e);obtain⟨o,h1,h2,n,h3⟩:=tx.tup;exact⟨o,its.toArray,n,h1,h2,h3,by simpa using oM r⟩
theorem mF{kvs:Am}(ok:HOk P w H h)(e:Rd H a (.dT kvs)):kvs.length<=sizeLine/\(a==sysModules)=false /\
  ∃ xs,KT H kvs xs/\h.DictOfH (tupleKind (aU P w)) a xs:=by
 obtain⟨z,y,xs,r,o,es,ep,h1,h2,h3,h4,h5⟩:=(show bf P w H h a (.dT kvs) from En ok e);refine⟨z,y,xs,r,o,es,ep,h1,h2,h3,h4,λx hx=>?_,h5⟩;have all:∀ {l:Am} {m:List (List Key×Addr×Value)},KT H l m->∀ x∈m,(tupleKind (aU P w)).is h x.1 x.2.1:=by
  intro l m q
  induction q with
  | nil=>intro x hx;exact nomatch hx
  | @cons p q ps qs hq t ih =>
   intro x hx;rcases za0.mp hx with e | hx
   ·subst e
    exact jv ok (by rw[<- hq.1];exact hq.2.1)
   ·exact ih x hx
 exact all r x hx
theorem dt_of{kvs:Am}(ok:HOk P w H h)(e:H a=some (.dT kvs)):kvs.length<=sizeLine/\(a==sysModules)=false /\
  ∃ xs,KT H kvs xs/\h.DictOfH (tupleKind (aU P w)) a xs:=mF ok (.inl e)
end
def kK(H:Hp)(a:Addr)(y:V)(r:Option V):Prop :=
 (∃ kvs k,Rd H a (.dK kvs)/\y=kV k/\r=kB kvs k)\/∃ kvs k b,Rd H a (.dT kvs)/\y=.ref b/\H b=some (.tup (k.map kV))/\r=kB kvs k
def lP(H:Hp)(a:Addr)(y v:V)(H':Hp):Prop :=
 (∃ kvs k,H a=some (.dK kvs)/\y=kV k/\kvs.length<sizeLine/\H'=upd H a (.dK (putK kvs k v))) \/
 ∃ kvs k b,H a=some (.dT kvs)/\y=.ref b/\H b=some (.tup (k.map kV))/\kvs.length<sizeLine/\H'=upd H a (.dT (putK kvs k v))
theorem kK.k{H:Hp}{a:AA}{kvs:Ae}{k:Key}(e:H a=some (.dK kvs)):kK H a (kV k) (kB kvs k):=.inl ⟨kvs,k,.inl e,rfl,rfl⟩
theorem lP.k{H:Hp}{a:AA}{kvs:Ae}{k:Key}{v:V}(e:H a=some (.dK kvs))(hl:kvs.length<sizeLine):lP H a (kV k) v (upd H a (.dK (putK kvs k v))):=.inl ⟨kvs,k,e,rfl,hl,rfl⟩
section
variable{X:Cx}{pins:A7}{σ:St}{H:Hp}{s:AE}{a:AA}{y v:V}{u r:AI}{o:Option V}{A:AK}{E:A9}
theorem Inv.big(I:Inv X pins σ H s):sysModules<s.heap.objs.size:=by
 have h:mainGlobals<s.heap.objs.size:=(I.mod.glob.keeps I.bk).lt;exact zbf (by decide) h
theorem xm{Q:A9}(hu:A.units+1<cLine)(I:Inv X pins σ H s)(g:kK H a y (some v))(ry:RelV y u)(h:∀ w' s',Inv X pins σ H s'->RelV v w'->Q w' s') :
  wpAny (model X.prog X.w) A (getItem (.ref a) u) Q E s:=by
 rcases g with ⟨kvs,k,e,ey,l⟩ | ⟨kvs,k,b,e,ey,eb,l⟩
 ·subst ey
  obtain⟨z,hd,vs,rel,dd⟩:=mE I.hok e;obtain⟨w',hw,rw'⟩:=kW.some_of (v:=v) (o:=valueAt vs k) (by rw[l];exact rel.val k);exact wpAny_getItem_of (iZ ry) dd.mapOf hw (h w' _ (I.tok _) rw')
 ·subst ey
  cases (show u=Value.ref b from ry);obtain⟨z,hd,xs,rel,dd⟩:=mF I.hok e;obtain⟨w',hw,rw'⟩:=kW.some_of (v:=v) (o:=(atKey xs k).map (·.2)) (by rw[l];exact rel.val k);obtain⟨p,hp,hp2⟩:=Option.map_eq_some_iff.mp hw;refine wpAny_getItem_heap (ycj hu) (jv I.hok eb) dd hp ?_;rw[hp2];exact h w' _ (I.tok _) rw'
theorem d_in{Q:A9}(hu:A.units+1<cLine)(I:Inv X pins σ H s)(g:kK H a y o)(ry:RelV y u)(h:∀ s',Inv X pins σ H s'->Q (.bool o.isSome) s') :
  wpAny (model X.prog X.w) A (compareOp .In u (.ref a)) Q E s:=by
 rcases g with ⟨kvs,k,e,ey,l⟩ | ⟨kvs,k,b,e,ey,eb,l⟩
 ·subst ey
  obtain⟨z,hd,vs,rel,dd⟩:=mE I.hok e;refine wpAny_in_of (iZ ry) hd dd.mapOf ?_;rw[<- (rel.val k).kN,<- l];exact h _ (I.tok _)
 ·subst ey
  cases (show u=Value.ref b from ry);obtain⟨z,hd,xs,rel,dd⟩:=mF I.hok e;refine wpAny_in_heap (ycj hu) (jv I.hok eb) hd dd ?_;have q:=(rel.val k).kN;rw[ydq]at q;rw[<- q,<- l];exact h _ (I.tok _)
theorem Cq{Q:A9}(hu:A.units+1<cLine)(I:Inv X pins σ H s)(g:kK H a y o)(ry:RelV y u)(h:∀ s',Inv X pins σ H s'->Q (.bool (!o.isSome)) s') :
  wpAny (model X.prog X.w) A (compareOp .NotIn u (.ref a)) Q E s:=by
 rcases g with ⟨kvs,k,e,ey,l⟩ | ⟨kvs,k,b,e,ey,eb,l⟩
 ·subst ey
  obtain⟨z,hd,vs,rel,dd⟩:=mE I.hok e;refine wpAny_notIn_of (iZ ry) hd dd.mapOf ?_;rw[<- (rel.val k).kN,<- l];exact h _ (I.tok _)
 ·subst ey
  cases (show u=Value.ref b from ry);obtain⟨z,hd,xs,rel,dd⟩:=mF I.hok e;refine wpAny_notIn_heap (ycj hu) (jv I.hok eb) hd dd ?_;have q:=(rel.val k).kN;rw[ydq]at q;rw[<- q,<- l];exact h _ (I.tok _)
theorem jd{h':AO}(I:Inv X pins σ H s)(mu:Mut (H a))(hs:Heap.SameBut a s.heap h')(he:∃ q,h'.get? a=some q)(new:bf X.prog X.w (upd H a ob) h' a ob) :
  Inv X pins σ (upd H a ob) { s with heap:=h',toks:=t' } :=
 I.write (x:=a) (e:=a) mu (.inl rfl) (λb q hb z=>(hs.2 b hb).trans z) he new
theorem yY{h':AO}{kvs:Ae}(z:kvs.length<=sizeLine)(hd:(a==sysModules)=false)(rel:KV kvs vs)(dd:h'.DictOf (aU P w) a vs) :
  bf P w H' h' a (.dK kvs):=⟨z,hd,vs,rel,dd⟩
theorem xo{Q:A0}(hu:A.units+1<cLine)(I:Inv X pins σ H s)(g:lP H a y v H')(ry:RelV y u)(rv:RelV v r)(h:∀ s',Inv X pins σ H' s'->Q () s') :
  wpAny (model X.prog X.w) A (setItem (.ref a) u r) Q E s:=by
 rcases g with ⟨kvs,k,e,ey,l,eH⟩ | ⟨kvs,k,b,e,ey,eb,l,eH⟩
 ·subst ey eH
  obtain⟨z,hd,vs,rel,dd⟩:=Eo I.hok e;have hz:vs.length<=sizeLine:=by rw[<- rel.length];exact z
  have hl:(putK kvs k v).length<=sizeLine:=by have:=gw kvs k v;lia
  refine wpAny_setItem_pairs (hsz:=hz) (iZ ry) dd λh' dd' hs=>h _ ?_
  have he:∃ q,h'.get? a=some q:=let ⟨q,_,_,hq,_⟩:=dd';⟨q,hq⟩
  exact jd I (by rw[e];exact True.intro) hs he (yY hl hd (rel.put k rv) dd')
 ·subst ey eH
  cases (show u=Value.ref b from ry);obtain⟨z,hd,xs,rel,dd⟩:=dt_of I.hok e;have hz:xs.length<=sizeLine:=by rw[<- yce rel];exact z
  have hl:(putK kvs k v).length<=sizeLine:=by have:=gw kvs k v;lia
  refine wpAny_setItem_heap (hsz:=hz) (ycj hu) (jv I.hok eb) dd λh' dd' hs=>h _ ?_
  obtain⟨q,es,ep,hq,h2,h3,h4,_,h5⟩:=dd';refine jd I (by rw[e];exact True.intro) hs ⟨q,hq⟩ ⟨hl,hd,_,(rel.put k eb rv).keeps λc ys ec=>?_,q,es,ep,hq,h2,h3,h4,h5⟩;rw[am (ne_of ec e (λz=>nomatch z))];exact ec
end
section
variable{X:Cx}{pins:A7}{σ:St}{H:Hp}{s:AE}{a:AA}{kvs:Ae}{k:Key}{u:AI}{A:AK}{E:A9}
end
def NoSl(i:Expr):Prop:=∀ ov iv,subscripted i false ov iv=operate [ov,iv] (getItem ov iv)
theorem pZ{E:A9}{env:Env}{value:AX}{T id:String}{Q:A9}
  (hl:typeLookup (.type T) "__getitem__"=pure (some (.builtin id))) (hs:NoSl slice)
  (h:wpAny (model prog w) A (eval value env) (λo s₁=>wpAny (model prog w) A (eval slice env) (λi s₂=>s₂.TypeIs o T/\wpAny (model prog w) A (getItem o i) Q E s₂) E s₁) E s) :
  wpAny (model prog w) A (eval (.Subscript value slice pos) env) Q E s:=by
 refine Subscript_ (yb8 h (λo s₁ h₁=>yb8 h₁ (λi s₂ h₂=>?_) λ_ _ x=>x) λ_ _ x=>x);obtain⟨hT,h₂⟩:=h₂;unfold subscriptTail;refine ya8 ?_;rw[getitemInPython_of_ne hT.not_modules];refine ya8 (ydb hT hl ?_);have fin:wpAny (model prog w) A (subscripted slice false o i) (λr s₃=>wpAny (model prog w) A (letTemporaryGo value o r>>=λ_=>pure r) Q E s₃) E s₂:=by
  rw[hs o i];exact wpAny_operating (yb8 h₂ (λr s₃ h₃=>ya8 (wpAny_letTemporaryGo (ya9 h₃))) λ_ _ x=>x)
 first
  | exact ya9 (ya8 fin)
  | exact ya8 (ya9 (ya8 fin))
  | exact ya8 fin
theorem rh{s:AE}(I:Inv X pins σ H s)(g:kK H a y o):s.TypeIs (.ref a) "dict":=by
 rcases g with ⟨kvs,k,e,_,_⟩ | ⟨kvs,k,b,e,_,_,_⟩
 ·obtain⟨_,_,vs,_,dd⟩:=mE I.hok e
  exact dd.typeIs
 ·obtain⟨_,_,xs,_,dd⟩:=mF I.hok e
  exact dd.typeIs
def tDGet(td ty:TE):TE:=λσ H Q=>td σ H λx H1=>ty σ H1 λy H2=>∃ a v,x=.ref a/\kK H2 a y (some v)/\Q v H2
def tDIn(ty td:TE):TE:=λσ H Q=>ty σ H λy H1=>td σ H1 λx H2=>∃ a o,x=.ref a/\kK H2 a y o/\Q (.bl o.isSome) H2
def Cr(ty td:TE):TE:=λσ H Q=>ty σ H λy H1=>td σ H1 λx H2=>∃ a o,x=.ref a/\kK H2 a y o/\Q (.bl (!o.isSome)) H2
def sDPut(td ty tv:TE):TS:=λD σ H=>tv σ H λv H1=>td σ H1 λx H2=>ty σ H2 λy H3=>∃ a H4,x=.ref a/\lP H3 a y v H4/\D.nx σ H4
section
variable{X:Cx}{o i e value:AX}{pos pos' tpos:Pos}{td ty tv:TE}
theorem bw(hu:X.A.units+1<cLine)(ho:PE X o td)(hi:PE X i ty)(hs:NoSl i):PE X (.Subscript o i pos) (tDGet td ty):=by
 intro pins s σ H Q I h;refine pZ F.slot_dict_getitem.lookup hs (thn (ho pins s σ H _ I h) λu s1 zz1=>?_);obtain⟨x,H1,I1,rx,q1⟩:=zz1;refine thn (hi pins s1 σ H1 _ I1 q1) λiv s2 zz2=>?_
 obtain⟨y,H2,I2,ry,a,v,ex,g,q2⟩:=zz2;subst ex;obtain rfl:u=Value.ref a:=rx;exact⟨rh I2 g,xm hu I2 g ry λw' s3 I3 rw'=>⟨v,H2,I3,rw',q2⟩⟩
theorem F7(hu:X.A.units+1<cLine)(hi:PE X i ty)(ho:PE X o td):PC X .In i o (tDIn ty td):=by
 intro pins s σ H Q I h;refine thn (hi pins s σ H _ I h) λiv s1 zz1=>?_
 obtain⟨y,H1,I1,ry,q1⟩:=zz1;refine thn (ho pins s1 σ H1 _ I1 q1) λu s2 zz2=>?_
 obtain⟨x,H2,I2,rx,a,ov,ex,g,q2⟩:=zz2;subst ex;obtain rfl:u=Value.ref a:=rx;exact d_in hu I2 g ry λs3 I3=>⟨.bl ov.isSome,H2,I3,rfl,q2⟩
theorem xp(hu:X.A.units+1<cLine)(hi:PE X i ty)(ho:PE X o td):PC X .NotIn i o (Cr ty td):=by
 intro pins s σ H Q I h;refine thn (hi pins s σ H _ I h) λiv s1 zz1=>?_
 obtain⟨y,H1,I1,ry,q1⟩:=zz1;refine thn (ho pins s1 σ H1 _ I1 q1) λu s2 zz2=>?_
 obtain⟨x,H2,I2,rx,a,ov,ex,g,q2⟩:=zz2;subst ex;obtain rfl:u=Value.ref a:=rx;exact Cq hu I2 g ry λs3 I3=>⟨.bl (!ov.isSome),H2,I3,rfl,q2⟩
theorem d5(hu:X.A.units+1<cLine)(ho:PE X o td)(hi:PE X i ty)(hv:PE X value tv)(hs:swapsWith value (some (.Subscript o i pos')) pos.line X.env=pure false) :
  PS X (.Assign [.Subscript o i pos'] value pos) (sDPut td ty tv):=by
 intro pins s σ H D I h;refine ydx (thn (hv pins s σ H _ I h) λr s1 zz1=>?_) hs;obtain⟨v,H1,I1,rv,q1⟩:=zz1;refine thn (ho pins s1 σ H1 _ I1 q1) λu s2 zz2=>?_
 obtain⟨x,H2,I2,rx,q2⟩:=zz2;refine thn (hi pins s2 σ H2 _ I2 q2) λiv s3 zz3=>?_
 obtain⟨y,H3,I3,ry,a,H4,ex,g,q3⟩:=zz3;subst ex;obtain rfl:u=Value.ref a:=rx;exact xo hu I3 g ry rv λs4 I4=>⟨σ,H4,I4,q3⟩
end
theorem yZ(h:AO)(hb:sysModules<h.objs.size):bf P w H (h.push { cls:=.type "dict",data:=.dict #[] }) h.objs.size (.dK []) :=
 ⟨zb6 _,yah.mpr (yav (zai hb)),[],.nil,Heap.DictOf.new h⟩
section
variable{X:Cx}{pos:Pos}
end
def tQ:List (TE×TE)->St->Hp->(List (V×V)->Hp->Prop)->Prop
 | [],_,H,Q=>Q [] H
 | (tk,tv)::r,σ,H,Q=>tk σ H λx H1=>tv σ H1 λy H2=>tQ r σ H2 λps H3=>Q ((x,y)::ps) H3
abbrev VV:List (V×V)->List (Value×Value)->Prop:=Paired λp q=>RelV p.1 q.1/\RelV p.2 q.2
def PPs(X:Cx)(pos:Pos)(keys:List (Option Expr))(values:List Expr)(trs:List (TE×TE)):Prop :=
 ∀ (pins:A7) (s:Shared) (σ:St) (H:Hp) (Q:List (V×V)->Hp->Prop),Inv X pins σ H s->tQ trs σ H Q ->
  wpAny (model X.prog X.w) X.A (evalPairs (pairTrees keys values X.env pos)) (λvs s'=>∃ ps H',Inv X pins σ H' s'/\VV ps vs/\Q ps H') X.xe s
theorem vg:PPs X pos [] [] []:=λpins s σ H Q I h=>pairTrees_nil_walk ⟨[],H,I,.nil,h⟩
theorem cS{k:AX}{tk:TE}(hk:PE X k tk)(hv:PE X v tv)(hr:PPs X pos ks vs trs) :
  PPs X pos (some k::ks) (v::vs) ((tk,tv)::trs):=λpins s σ H Q I h =>
 pairTrees_cons_walk (thn (hk pins s σ H _ I h) λu s1 ⟨x,H1,I1,rx,q1⟩=>thn (hv pins s1 σ H1 _ I1 q1) λw2 s2 ⟨y,H2,I2,ry,q2⟩ =>
  thn (hr pins s2 σ H2 _ I2 q2) λws s3 ⟨ps,H3,I3,rel,q3⟩=>⟨(x,y)::ps,H3,I3,.cons ⟨rx,ry⟩ rel,q3⟩)
def f7(kvs more:List (Key×V)):List (Key×V):=more.foldl (λacc kv=>putK acc kv.1 kv.2) kvs
theorem KV.merge:∀ {more:Ae} {rs:List (Key×Value)} {kvs:Ae} {vs:List (Key×Value)},KV more rs->KV kvs vs->KV (f7 kvs more) (merged vs rs):=by
 intro more rs kvs vs r;unfold KV at r
 induction r generalizing kvs vs with
 | nil=>intro q;exact q
 | @cons p q ps qs h t ih =>
  intro r0;have e:KV (putK kvs p.1 p.2) (stored vs q.1 q.2):=by
   have:=r0.put p.1 h.2;rw[<- h.1];exact this
  exact ih e
theorem io:∀ (more kvs:Ae),(f7 kvs more).length<=kvs.length+more.length
 | [],kvs=>by show kvs.length<=kvs.length+0;lia
 | p::r,kvs=>by
  have h1:=io r (putK kvs p.1 p.2);have h2:=gw kvs p.1 p.2;show(f7 (putK kvs p.1 p.2) r).length<=_;rw[za2];lia
theorem mG:∀ {kvs:Ae} {ws:List (Value×Value)},VV (kvs.map λkv=>(kV kv.1,kv.2)) ws->∃ rs,Carries (aU P w) ws rs/\KV kvs rs
 | [],_,r=>by rw[zbs]at r;cases r;exact⟨[],True.intro,.nil⟩
 | p::kvs,_,r=>by
  rw[zaa]at r;cases r with
  | @cons a b as bs h t =>
   obtain⟨rs,c,q⟩:=mG (P:=P) (w:=w) t;obtain⟨b1,b2⟩:=b;exact⟨(p.1,b2)::rs,⟨iZ h.1,rfl,c⟩,.cons ⟨rfl,h.2⟩ q⟩
def tDisp(trs:List (TE×TE)):TE:=λσ H Q=>∀ p,H p=none->tQ trs σ (upd H p (.dK [])) λps H2=>H2 p=some (.dK [])/\∃ kvs:List (Key×V),ps=kvs.map (λkv=>(kV kv.1,kv.2))/\kvs.length<=15/\Q (.ref p) (upd H2 p (.dK (f7 [] kvs)))
theorem vh{keys:List (Option Expr)}{values:AQ}(h:PPs X pos keys values trs)(hall:keys.all (·.isSome)=true)(hl:keys.length=values.length)(h0:keys≠[])
  (h15:keys.length<=15):PE X (.Dict keys values pos) (tDisp trs):=by
 intro pins s σ H Q I q;have hn:=I.hok.fresh (za5 s.heap.objs.size);have I1:=I.laid (a:=s.heap.objs.size) (o:=.dK []) (h':=s.heap.push { cls:=.type "dict",data:=.dict #[] }) (t':=s.toks) (λ_ _ q=>yai _ q) (za5 _) (yZ s.heap I.big);refine wpAny_Dict_walk (knd:=aU X.prog X.w) hall hl h0 h15 (thn (h pins _ σ _ _ I1 (q _ hn)) λws s2 zz1=>?_);obtain⟨ps,H2,I2,rel,e,kvs,ep,lk,q2⟩:=zz1;subst ep;obtain⟨rs,c,rk⟩:=mG (P:=X.prog) (w:=X.w) rel;obtain⟨z,hd,vs0,r0,dd⟩:=Eo I2.hok e;cases r0;refine⟨rs,c,dd,λh' dd' hs=>⟨.ref s.heap.objs.size,_,?_,rfl,q2⟩⟩;have hz:(f7 [] kvs).length<=sizeLine:=by
  have h1:=io kvs [];rw[zb2]at h1;rw[yau];lia
 have he:∃ q,h'.get? s.heap.objs.size=some q:=let ⟨q,_,_,hq,_⟩:=dd';⟨q,hq⟩
 exact jd I2 (by rw[e];exact True.intro) hs he (yY hz hd (rk.merge .nil) dd')
structure M1(X:Cx)(o:Expr)(m:Str)(apos:Pos)(e:Expr)(cpos:Pos):Prop where
 base:attributeBase o m X.env (eval o X.env)=eval o X.env
 few:((backTo cpos (starEach [e] X.env)).all (λx=>!x.1)&&(backToKw cpos (keywordEach [] X.env)).all (λx=>x.1.isSome)
  && decide (([e]:List Expr).length+([]:List Keyword).length+(if ([]:List Keyword).isEmpty then 0 else 1)<30))=true
 line:(apos.endLine==cpos.line)=true
 trees:backTo cpos (starEach [e] X.env)=[(false,eval e X.env)]
def IsD(H:Hp)(a:Addr):Prop:=(∃ kvs,Rd H a (.dK kvs))\/∃ kvs,Rd H a (.dT kvs)
theorem F8{s:AE}(I:Inv X pins σ H s)(d:IsD H a) :
  s.TypeIs (.ref a) "dict"/\(∀ b,Value.ref a=.ref b->∃ ob,s.heap.get? b=some ob/\ob.dict=none)/\(a==sysModules)=false:=by
 rcases d with ⟨kvs,e⟩ | ⟨kvs,e⟩
 ·obtain⟨_,hd,vs,_,dd⟩:=mE I.hok e
  refine⟨dd.typeIs,λb q=>?_,hd⟩;cases q;obtain⟨ob,_,_,h1,h2,_⟩:=dd;exact⟨ob,h1,h2.2.1⟩
 ·obtain⟨_,hd,xs,_,dd⟩:=mF I.hok e
  refine⟨dd.typeIs,λb q=>?_,hd⟩;cases q;obtain⟨ob,_,_,h1,h2,_⟩:=dd;exact⟨ob,h1,h2.2.1⟩
section
variable{X:Cx}{pins:A7}{σ:St}{H:Hp}{s:AE}{a:AA}{y d:V}{u r:AI}{o:Option V}{A:AK}{E:A9}
theorem F9{Q:A9}(hu:A.units+1<cLine)(I:Inv X pins σ H s)(g:kK H a y o)(ry:RelV y u)(h:∀ w' s',Inv X pins σ H s'->RelV (o.getD .non) w'->Q w' s') :
  wpAny (model X.prog X.w) A (call (.builtin "dict.get") [.ref a,u]) Q E s:=by
 rcases g with ⟨kvs,k,e,ey,l⟩ | ⟨kvs,k,b,e,ey,eb,l⟩
 ·subst ey
  obtain⟨z,hd,vs,rel,dd⟩:=mE I.hok e;refine call_meetsIn ydc dd.typeIs F.entry_dict_get (F.args_dict_get_2 _ _) (meets_dict_get (aU X.prog X.w) a (iZ ry) hd) ⟨_,dd.mapOf,h _ _ (I.tok _) ?_⟩;rw[l];exact(rel.val k).getD rfl
 ·subst ey
  cases (show u=Value.ref b from ry);obtain⟨z,hd,xs,rel,dd⟩:=mF I.hok e;refine call_meetsIn ydc dd.typeIs F.entry_dict_get (F.args_dict_get_2 _ _) (meetsH_dict_get (tupleKind (aU X.prog X.w)) a b hd) ⟨ycj hu,k,xs,jv I.hok eb,dd,h _ _ (I.tok _) ?_⟩;rw[l];exact(rel.val k).getD rfl
end
def Fb(td ty:TE):TE:=λσ H Q=>td σ H λx H1=>∃ a,x=.ref a/\IsD H1 a/\ty σ H1 λy H2=>∃ o,kK H2 a y o/\Q (o.getD .non) H2
section
variable{X:Cx}{o e f:AX}{apos cpos:Pos}{td ty tx:TE}
theorem z4(hu:X.A.units+1<cLine)(ho:PE X o td)(he:PE X e ty)(m:M1 X o "get" apos e cpos):PE X (.Call (.Attribute o "get" apos) [e] [] cpos) (Fb td ty):=by
 intro pins s σ H Q I h;refine wpAny_Call_method m.base m.few m.line ydr ydc F.type_dict_get (thn (ho pins s σ H _ I h) λu s1 zz1=>?_);obtain⟨x,H1,I1,rx,a,ex,d,q1⟩:=zz1;subst ex;obtain rfl:u=Value.ref a:=rx;obtain⟨t1,t2,_⟩:=F8 I1 d;refine⟨t1,t2,?_⟩;rw[m.trees];refine ybt rfl (ycy (yci (thn (he pins s1 σ H1 _ I1 q1) λiv s2 zz1=>?_)));obtain⟨y,H2,I2,ry,ov,g,q2⟩:=zz1;refine ycr ?_;exact F9 hu I2 g ry λw' s3 I3 rw'=>⟨_,H2,I3,rw',q2⟩
end
section
variable{X:Cx}{pins:A7}{σ:St}{H:Hp}{s:AE}{a:AA}{kvs:Ae}{A:AK}{E:A9}
end
section
variable{X:Cx}{pins:A7}{σ:St}{H:Hp}{s:AE}{a:AA}{y:V}{u:AI}{A:AK}{E:A9}
end
section
variable{X:Cx}
end
section
variable{κ:Type}[DecidableEq κ]
end
end L2
namespace BF
open PySem PySem.Spec PyProof.Rows L2
theorem Fc{t:TE}(h:PE X e t)(k:∀ σ H Q,t' σ H Q->t σ H Q):PE X e t' :=
 λpins s σ H Q I hw=>h pins s σ H Q I (k σ H Q hw)
inductive Kn where
 | non | bl | int | str | lst | tup | dic
def Kn.nm:Kn->String
 | .non=>"NoneType" | .bl=>"bool" | .int=>"int" | .str=>"str" | .lst=>"list" | .tup=>"tuple" | .dic=>"dict"
inductive Knd(H:Hp):V->Kn->Prop where
 | non:Knd H .non .non
 | bl (b:Bool):Knd H (.bl b) .bl
 | int (i:Int):Knd H (.int i) .int
 | str (x:Str):Knd H (.str x) .str
 | lst {a:Addr} {xs:List V} (e:H a=some (.lst xs)):Knd H (.ref a) .lst
 | tup {a:Addr} {xs:List V} (e:H a=some (.tup xs)):Knd H (.ref a) .tup
 | dic {a:Addr} {kvs:List (Key×V)} (e:H a=some (.dK kvs)):Knd H (.ref a) .dic
theorem Knd.ty{K:A2}{H:Hp}{v:V}{k:Kn}(h:Knd H v k):lO K H v (.type k.nm):=by
 cases h with
 | non=>exact .non
 | bl b=>exact .bl b
 | int i=>exact .int i
 | str x=>exact .str x
 | lst e=>exact .lst e
 | tup e=>exact .tup e
 | dic e=>exact .dK e
def isaK:Kn->Kn->Bool
 | .non,.non=>true
 | .bl,.bl=>true
 | .bl,.int=>true
 | .int,.int=>true
 | .str,.str=>true
 | .lst,.lst=>true
 | .tup,.tup=>true
 | .dic,.dic=>true
 | _,_=>false
theorem Fd(K:A2)(k c:Kn):W.kitOne K (.type k.nm) (.type c.nm)=some (isaK k c):=by
 cases k<;>cases c<;>kernel_rfl
theorem cb:cY X (.builtin "isinstance") (λxs H Q=>∃ x k c,xs=[x,.ty (Kn.nm c)]/\Knd H x k/\Q (.bl (isaK k c)) H):=by
 intro pins s σ H xs us Q I r h;obtain⟨x,k,c,rfl,kd,q⟩:=h;obtain⟨u,w',rfl,r1,r2⟩:=vals2 r;have e:w'=Value.type (Kn.nm c):=r2;subst e;exact xf I r1 kd.ty (Fd X.K k c) λtk=>⟨.bl (isaK k c),H,I.tok tk,rfl,q⟩
theorem oN{j1:Nat}{p1:Pos}:PE X (.BinOp (.Constant (.int 10) j1 p1) .Pow (.Constant (.int 9) j2 p2) pos) (tC (.int 1000000000)) :=
 Fc (aq EZ ad ad) λσ H Q q=>⟨10,9,rfl,rfl,⟨by decide,by decide,by decide⟩,by
  have e:((10:Int) ^ (9:Int).toNat)=1000000000:=by decide
  show Q (V.int _) H;rw[e];exact q⟩
theorem j6[Decidable p]{A:Prop}(h:p)(a:A):if decide p=true then A else B:=by
 rw[yad (yab h)];exact a
theorem j7[Decidable p]{A:Prop}(h:¬ p)(b:B):if decide p=true then A else B:=by
 rw[yac (by intro z;exact h (yae z))];exact b
theorem aw{A:Prop}(h:c=true)(a:A):if c=true then A else B:=by
 rw[yad h];exact a
theorem ah{A:Prop}(h:c=false)(b:B):if c=true then A else B:=by
 rw[yac (by rw[h];exact za8)];exact b
theorem Cs(n:Nat)(k:Nat):decide (V.int (n:Int)=V.int (k:Int))=decide (n=k):=by
 by_cases h:n=k
 ·subst h;simp
 ·rw[yaa h,yaa]
  intro z;injection z with z
  lia
theorem af{H:Hp}(h:H p=none):kf H (upd H p o):=λb u e=>by
 rw[am (bh e h)];exact e
theorem sz(h:n<=1000):n<=sizeLine:=ye5 (bp h)
theorem szr(h:Nat.ble n 1000=true):n<=sizeLine:=sz (Nat.le_of_ble_eq_true h)
def Fe:V->Bool
 | .int _=>true
 | _=>false
def good:V->Bool
 | .int i=>decide (-1000000000<=i)&&decide (i<=1000000000)
 | _=>false
def rj(H:Hp):V->Bool
 | .ref p=>(match H p with | some (.tup xs)=>decide (xs.length=2) | _=>false)
 | _=>false
theorem oO{H:Hp}{xs:Ac}(e:H p=some (.tup xs)):rj H (.ref p)=decide (xs.length=2):=by
 show(match H p with | some (.tup xs)=>decide (xs.length=2) | _=>false)=_;rw[e]
theorem xq{H:Hp}(e:H p=some (.lst xs)):rj H (.ref p)=false:=by
 show(match H p with | some (.tup xs)=>decide (xs.length=2) | _=>false)=_;rw[e]
theorem xr{H:Hp}(e:H p=some (.dK kvs)):rj H (.ref p)=false:=by
 show(match H p with | some (.tup xs)=>decide (xs.length=2) | _=>false)=_;rw[e]
inductive tR(H:Hp):V->Bool->Prop where
 | no {u:V} {k:Kn} (kd:Knd H u k) (h:rj H u=false):tR H u false
 | two {p:Addr} {a b:V} {ka kb:Kn} {r:Bool} (e:H p=some (.tup [a,b])) (ha:Knd H a ka) (hb:Knd H b kb) (hr:(good a&&good b)=r):tR H (.ref p) r
structure Df(K:A2)(mg:A5)(x:Str)(st:Stmt)(f:Addr)(fd:FuncData):Prop where
 F:Fun K x x st f fd
 m:mg x=some (.ref f)
def lE(env:Env):List (Str×NameKind)->List (Str×Addr)->List (Str×Addr)
 | [],acc=>acc
 | (n,k)::r,acc=>if (k==NameKind.free)=true then (match env.cells.lookup n with | some a=>lE env r ((n,a)::acc) | none=>lE env r acc) else lE env r acc
theorem gG(env:Env):∀ (l:List (Str×NameKind)) (acc:List (Str×Addr)),(∀ p∈acc,env.cells.lookup p.1=some p.2)->∀ p∈lE env l acc,env.cells.lookup p.1=some p.2
 | [],_,h=>h
 | (n,k)::r,acc,h=>by
  unfold lE;split
  ·split
   ·rename_i a e
    refine gG env r _ λp hp=>?_
    rcases za0.mp hp with rfl | hp
    ·exact e
    ·exact h p hp
   ·exact gG env r acc h
  ·exact gG env r acc h
theorem je(env:Env):∀ (l:List (Str×NameKind)) (acc:List (Str×Addr)) (x:AL),(∃ c,acc.lookup x=some c)->∃ c,(lE env l acc).lookup x=some c
 | [],_,_,h=>h
 | (n,k)::r,acc,x,h=>by
  unfold lE;split
  ·split
   ·rename_i a e
    refine je env r _ x ?_;rw[ycz];cases q:x==n with
    | true=>exact⟨a,rfl⟩
    | false=>exact h
   ·exact je env r acc x h
  ·exact je env r acc x h
theorem gH(env:Env):∀ (l:List (Str×NameKind)) (acc:List (Str×Addr)) (x:AL),l.lookup x=some NameKind.free->(∃ c,env.cells.lookup x=some c)->∃ c,(lE env l acc).lookup x=some c
 | [],_,_,h,_=>by simp at h
 | (n,k)::r,acc,x,h,hc=>by
  rw[ycz]at h;cases q:x==n with
  | true =>
   rw[q]at h;have ek:k=NameKind.free:=yat h;have en:x=n:=eq_of_beq q;subst ek en;obtain⟨c,e⟩:=hc;unfold lE;rw[yad (by decide:(NameKind.free==NameKind.free)=true),e];refine je env r _ x ⟨c,?_⟩;rw[ycz,q]
  | false =>
   rw[q]at h;unfold lE;split
   ·split
    ·exact gH env r _ x h hc
    ·exact gH env r _ x h hc
   ·exact gH env r _ x h hc
def lab(env:Env)(p:Str×NameKind):Str×NameKind:=if (p.2==NameKind.free&&env.scope.kind==.function&&env.kindOf p.1==some .cell) then (p.1,NameKind.cell) else (p.1,p.2)
theorem Ff(env:Env)(n:AL)(k:NameKind):lab env (n,k)=(n,if (k==NameKind.free&&env.scope.kind==.function&&env.kindOf n==some .cell) then NameKind.cell else k):=by
 unfold lab;split<;>rfl
theorem ic(scope:Scope)(env:Env):(relabel scope env).names=scope.names.map (lab env):=rfl
theorem dO(env:Env):∀ (l:List (Str×NameKind)) (x:AL),
  (l.map (lab env)).lookup x=(l.lookup x).map λk=>if (k==NameKind.free&&env.scope.kind==.function&&env.kindOf x==some .cell) then NameKind.cell else k
 | [],_=>rfl
 | (n,k)::r,x=>by
  have ih:=dO env r x;rw[zaa,Ff,ycz,ycz];cases q:x==n with
  | true =>
   have en:x=n:=eq_of_beq q;subst en;rfl
  | false=>exact ih
def di(X:Cx)(N':List Str)(scope:Scope)(C:Addr)(s₀:Shared)(H₀:Hp)(fp:List Addr)(pn:A7):Cx where
 prog:=X.prog
 w:=X.w
 K:=X.K
 mg:=X.mg
 base:=X.base
 A:=X.A
 N:=N'
 s₀:=s₀
 H₀:=H₀
 env:=compEnvC scope (lE X.env scope.names []) C X.env
 outer:=X.stack
 stack:=X.stack
 ex:=fp
 fn:=λ_=>false
 calm:=X.calm
 pn:=pn
 xe:=λ_ _=>False
def pick(idx:List (Option Nat))(σ:L2.St):L2.St:=idx.map λo=>match o with | none=>none | some i=>(σ[i]?).getD none
structure tS(X:Cx)(scope:Scope)(N':List Str)(idx:List (Option Nat)):Prop where
 kind:scope.kind=.function
 cell:∀ y∈scope.names,y.2≠.cell
 names:∀ y∈scope.names,y.2=.local->scope.names.lookup y.1=some .local
 free:∀ y∈scope.names,y.2=.free->X.env.kindOf y.1=some .cell
 len:idx.length=N'.length
 idx:∀ p∈idx.zip N',∀ i,p.1=some i->X.N[i]?=some p.2/\X.env.kindOf p.2=some .cell/\scope.names.lookup p.2=some .free
def Ep(osc scope:Scope)(ON N':List Str)(idx:List (Option Nat)):Bool :=
 (scope.kind==.function)&&scope.names.all (λy=>y.2 !=.cell)&&scope.names.all (λy=>y.2 !=.local||scope.names.lookup y.1==some .local) &&
  scope.names.all (λy=>y.2 !=.free||osc.names.lookup y.1==some .cell)&&(idx.length==N'.length) &&
  (idx.zip N').all λp=>match p.1 with | none=>true | some i=>(ON[i]?==some p.2)&&(osc.names.lookup p.2==some .cell)&&(scope.names.lookup p.2==some .free)
theorem eR{X:Cx}(h:Ep X.env.scope scope X.N N' idx=true):tS X scope N' idx:=by
 unfold Ep at h;simp only[zbj,List.all_eq_true]at h;obtain⟨⟨⟨⟨⟨h1,h2⟩,h3⟩,h4⟩,h5⟩,h6⟩:=h;refine⟨by simpa using h1,λy hy=>by simpa using h2 y hy,λy hy e=>?_,λy hy e=>?_,by simpa using h5,λp hp i e=>?_⟩
 ·have:=h3 y hy
  rw[e]at this;simpa using this
 ·have:=h4 y hy
  rw[e]at this;show X.env.scope.names.lookup y.1=some .cell;simpa using this
 ·have:=h6 p hp
  rw[e]at this;simp only[zbj]at this;obtain⟨⟨g1,g2⟩,g3⟩:=this;exact⟨by simpa using g1,by show X.env.scope.names.lookup p.2=some .cell;simpa using g2,by simpa using g3⟩
def Er(J:It)(idx:List (Option Nat))(g:TG)(tt:TT)(te:TE)(σ:L2.St)(H1:Hp)(D:Addr)(Q:VK):Prop :=
 ∃ W:Nat->Nat->L2.St->Hp->Prop,(∃ m,W 0 m (pick idx σ) (upd H1 D (.lst [])))/\∀ i m σ2 H2,W i m σ2 H2 ->
  (J.stop i H2/\Q (.ref D) H2) \/
  (J.go i H2/\∀ x H3,J.yld i H2 x H3->g x σ2 H3 λσ4 H4=>tt σ4 H4 λb H5 =>
   if b=true then te σ4 H5 λv H6=>∃ ys,H6 D=some (.lst ys)/\ys.length<sizeLine/\∃ m',m'<m/\W (i+1) m' σ4 (upd H6 D (.lst (ys++[v])))
   else ∃ m',m'<m/\W (i+1) m' σ4 H5)
def tComp(wi:TI)(idx:List (Option Nat))(g:TG)(tt:TT)(te:TE):TE:=λσ H Q=>wi σ H λJ H1=>∀ D,H1 D=none->Er J idx g tt te σ H1 D Q
def PTs(X:Cx)(ifs:List Expr)(t:TT):Prop :=
 ∀ (pins:A7) (s:Shared) (σ:L2.St) (H:Hp) (Q:Bool->Hp->Prop),Inv X pins σ H s->t σ H Q ->
  wpAny (model X.prog X.w) X.A (forIn ifs true λc r=>if r=true then do let ok <- isTrue c X.env (eval c X.env);pure (ForInStep.yield ok) else pure (ForInStep.yield r)) (TP X pins σ Q) X.xe s
def tYes:TT:=λ_ H Q=>Q true H
theorem iQ:PTs X [] tYes:=λpins s σ H Q I h=>wpAny_tests_nil ⟨H,I,h⟩
theorem xu{elt:AX}{it:AI}{R:Result->Shared->Prop}{s:AE}(I:Nat->Shared->Prop)
  (turn:∀ n s,I n s->wpAny (model prog w) A (pyNext it) (λr s₁=>match r with
   | none=>R (.ok .next) s₁
   | some v=>wpAny (model prog w) A (letOwnedTupleGo target it v) (λ_ s₀=>wpAny (model prog w) A (assign target env v) (λ_ s₂ =>
     wpAny (model prog w) A (forIn ifs true λc r=>if r=true then do let ok <- isTrue c env (eval c env);pure (ForInStep.yield ok) else pure (ForInStep.yield r)) (λok s₃ =>
      if ok=true then wpAny (model prog w) A (eval elt env) (λx s₄ =>
       wpAny (model prog w) A (call (.builtin "list.append") [acc,x]) (λ_ s₅=>∃ m,m<n/\I m s₅) (λ_ _=>False) s₄) (λ_ _=>False) s₃
      else ∃ m,m<n/\I m s₃) (λ_ _=>False) s₂) (λ_ _=>False) s₀) (λ_ _=>False) s₁) (λ_ _=>False) s)
  (n:Nat) (h:I n s):codeAny (model prog w) A (.compLoop (.ListComp elt [⟨target,iter,ifs,0⟩] scope pos) 0 it acc env) R s:=by
 refine codeAny_loop rfl I (λn s hI=>?_) n h;show wpAny _ A ((compTurn (.ListComp elt [⟨target,iter,ifs,0⟩] scope pos) 0 it acc env).onRaise (λx=>do noteFrame x env;theTreesLotGoes x)) _ _ s;refine wpAny_noted (yb8 (E:=λ_ _=>False) ?_ (λ_ _ q=>q) λ_ _ z=>z.elim);rw[compTurn_list];refine ya8 (wpAny_standAt (ya8 (yb8 (turn n s hI) (λr s₁ h₁=>?_) λ_ _ h'=>h')));cases r with
 | none=>exact ya9 h₁
 | some v =>
  refine ya8 (yb8 h₁ (λ_ s₀ h₀'=>?_) λ_ _ h'=>h');refine ya8 (yb8 h₀' (λ_ s₂ h₂=>?_) λ_ _ h'=>h');refine ya8 (yb8 h₂ (λok s₃ h₃=>?_) λ_ _ h'=>h');cases ok with
  | false=>exact ya9 ⟨rfl,h₃⟩
  | true =>
   exact ya8 (ya8 (yb8 h₃ (λx s₄ h₄=>ya8 (yb8 h₄ (λ_ s₅ h₅=>ya9 (ya9 ⟨rfl,h₅⟩)) λ_ _ h'=>h')) λ_ _ h'=>h'))
section
variable{X:Cx}{elt tg iter:AX}{ifs:AQ}{scope:Scope}{pos:Pos}{N':AH}{idx:AZ}{wi:TI}{g:TG}{tt:TT}{te:TE}
theorem Ct{s:AE}(S:tS X scope N' idx)(I:Inv X pins σ H s)(hC:s.heap.objs.size<=C)(hf:∀ b∈fp,om X pins H b)(hlt:∀ b∈fp,b<s.heap.objs.size)(pn:A7) :
  (di X N' scope C s H fp pn).Ok:=by
 have sub:∀ x c,(lE X.env scope.names []).lookup x=some c->X.env.cells.lookup x=some c:=λx c e=>gG X.env scope.names [] (λp hp=>(nomatch hp)) (x,c) (ybk e)
 have cne:∀ x c,(lE X.env scope.names []).lookup x=some c->c<s.heap.objs.size:=λx c e=>by
  obtain⟨v,q⟩:=I.cell x c (sub x c e);exact q.lt
 refine⟨I.ok.mod,S.kind,I.ok.glob,I.ok.blt,hC,λx y c h1 h2=>I.ok.inj x y c (sub _ _ h1) (sub _ _ h2),λx hx=>?_,λx c h _=>absurd h za8,I.ok.hd,I.ok.frames,.inl rfl,λb hb=>⟨?_,λx c e z=>?_⟩,I.bs,zap I.ok.bsz I.sz,λb o e hb=>?_,λb hb z=>?_,I.stack,I.lJ⟩
 ·have hx':((relabel scope X.env).names.lookup x=some .cell)\/((relabel scope X.env).names.lookup x=some .free):=hx
  rw[ic,dO]at hx';have hfr:scope.names.lookup x=some .free:=by
   cases q:scope.names.lookup x with
   | none=>rw[q]at hx';rcases hx' with z | z<;>cases z
   | some k =>
    rw[q]at hx';simp only[yda,Option.some.injEq]at hx';cases k with
    | free=>rfl
    | cell=>exact absurd rfl (S.cell _ (ybk q))
    | _=>exfalso;rcases hx' with z | z<;>simp at z
  exact gH X.env scope.names [] x hfr (I.ok.has x (.inl (S.free _ (ybk hfr) rfl)))
 ·exact zai (zaq (hlt b hb) hC)
 ·exact(hf b hb).2.2.2.2.1 x c (sub x c e) z
 ·rcases(hf b hb).2.2.2.1 with z | z
  ·exact I.ok.t9 b o e z
  ·exact absurd (zaq (yaj (I.ok.bs b o e).1) z) (zbh _)
 ·rcases za0.mp (I.pP b z) with e | e
  ·exact(hf b hb).2.1 e
  ·exact(hf b hb).2.2.1 e
theorem iR(S:tS X scope N' idx)(hclos:closureFor scope X.env=pure (lE X.env scope.names []))(hc:X.calm=true)(hi:PI X tg iter wi)
  (hg:∀ C s₀ H₀ fp pn,PG (di X N' scope C s₀ H₀ fp pn) tg g) (ht:∀ C s₀ H₀ fp pn,PTs (di X N' scope C s₀ H₀ fp pn) ifs tt) (he:∀ C s₀ H₀ fp pn,PE (di X N' scope C s₀ H₀ fp pn) elt te)
  (hs:∀ x,foldedSetIterable iter X.env x=pure x:=by intro _;rfl):PE X (.ListComp elt [⟨tg,iter,ifs,0⟩] scope pos) (tComp wi idx g tt te):=by
 intro pins s σ H Q I h;rw[eval_ListComp];refine wpAny_comprehension_free (use:=none) rfl hs hclos S.kind S.names (thn (hi pins s σ H _ I h) λxv s₁ h₁=>thn h₁ λitv s₂ h₂=>?_);obtain⟨it,fp,tn,J,H2,e,I2,T,st2,f2,hJ⟩:=h₂;subst e;obtain⟨W,⟨m0,w0⟩,turn⟩:=hJ s₂.heap.objs.size (I2.hok.fresh (za5 _));have hlt:∀ b∈fp,b<s₂.heap.objs.size:=λb hb=>by
  obtain⟨o,e,_⟩:=T.obj _ _ st2 b hb;exact yaj e
 refine yba (wpAny_newFunctionEnv S.cell (by intro y hy;simp at hy) (λh₁ hns₁ hsb₁=>?_) S.kind);dsimp only at hns₁ hsb₁ ⊢;generalize hH2:s₂.heap.push { cls:=.type "list",dict:=none,data:=.seq ([]:AB).toArray }=P2 at hns₁ hsb₁ ⊢;have hC:P2.objs.size=s₂.heap.objs.size+1:=by rw[<- hH2,ybi]
 have neC:∀ b:Addr,b<s₂.heap.objs.size->b≠P2.objs.size:=λb hb=>zai (by rw[hC];exact yds hb)
 have neD:s₂.heap.objs.size≠P2.objs.size:=zai (by rw[hC];exact zbc _);have old:∀ b o,s₂.heap.get? b=some o->h₁.get? b=some o:=λb o e =>
  hsb₁.extBut b o (neC b (yaj e)) (yai _ (hH2▸yai _ e))
 have hacc:h₁.get? s₂.heap.objs.size=some { cls:=.type "list",data:=.seq ([]:AB).toArray } :=
  hsb₁.extBut _ _ neD (yai _ (hH2▸yak _ rfl))
 have nD:H2 s₂.heap.objs.size=none:=I2.hok.fresh (za5 _);have nC:H2 P2.objs.size=none:=I2.hok.fresh (by lia);have ok:=Ct (C:=P2.objs.size) S I2 (by omega) f2 hlt (X.pn++pins);have pinlt:∀ p∈X.pn++pins,p.1<s₂.heap.objs.size:=λp hp=>yaj (I2.pin p hp).1
 have sub:∀ x c,(lE X.env scope.names []).lookup x=some c->X.env.cells.lookup x=some c:=λx c e=>gG X.env scope.names [] (λp hp=>(nomatch hp)) (x,c) (ybk e)
 have I3:Inv (di X N' scope P2.objs.size s₂ H2 fp (X.pn++pins)) [] (pick idx σ) (upd H2 s₂.heap.objs.size (.lst [])) { s₂ with heap:=h₁,toks:=s₂.toks+([]:AY).length }:=by
  refine⟨ok,rfl,I2.bare,?_,⟨_,hns₁,λj x v h1 h2 h3=>?_⟩,λx c e=>?_,?_,λx c e=>?_,λp hp=>?_,?_,?_⟩
  ·exact Un.laid old (za5 _) nD
  ·have hj:j<idx.length:=by
    have:=(zaf.mp h2).1;unfold pick at this
    rwa [za4]at this
   unfold pick at h2;rw[zan,za6 hj]at h2;have h2':=yat h2;cases q:idx[j] with
   | none=>rw[q]at h2';cases h2'
   | some i =>
    have h2':(σ[i]?).getD none=some v:=by rw[q]at h2';exact h2'
    have hmem:(idx[j],x)∈idx.zip N':=by
     refine zax.mpr ⟨j,?_⟩;rw[zba];exact⟨za6 hj,h1⟩
    obtain⟨z1,z2,z3⟩:=S.idx _ hmem i q;have hσ:σ[i]?=some (some v):=by
     cases r:σ[i]? with
     | none=>rw[r]at h2';cases h2'
     | some y=>rw[r]at h2';rw[show y=some v from h2']
    obtain⟨m,hn,hl⟩:=I2.loc;obtain⟨u,ru,lk⟩:=hl i x v z1 hσ (.inr (.inl z2));refine⟨u,ru,.inr ⟨.inl ?_,?_⟩⟩
    ·show(relabel scope X.env).names.lookup x=some .cell
     rw[ic,dO,z3,I2.ok.kind];simp[z2]
    ·obtain⟨c,hcl⟩:=gH X.env scope.names [] x z3 (I2.ok.has x (.inl z2))
     rcases lk with ⟨k1,_⟩ | ⟨_,c',e1,e2⟩
     ·rw[z2]at k1;cases k1
     ·refine⟨c,hcl,?_⟩
      have e3:=sub x c hcl;rw[e1]at e3;cases e3;obtain⟨o,ho,hd⟩:=e2;exact⟨o,old _ _ ho,hd⟩
  ·obtain⟨v,o,ho,hd⟩:=I2.cell x c (sub x c e)
   exact⟨v,o,old _ _ ho,hd⟩
  ·show upd H2 _ _ P2.objs.size=none
   rw[am (yav neD)];exact nC
  ·obtain⟨v,q⟩:=I2.cell x c (sub x c e)
   rw[am (zai q.lt)];exact I2.kT x c (sub x c e)
  ·rw[zb0]at hp
   obtain⟨e,n,ne,nf,d⟩:=I2.pin p hp;refine⟨old _ _ e,?_,?_,λz=>?_,d⟩
   ·rw[am (zai (pinlt p hp))];exact n
   ·exact neC _ (pinlt p hp)
   ·rcases za0.mp (I2.pP _ z) with z | z
    ·exact ne z
    ·exact nf z
  ·exact I2.hok.laid old (za5 _) ⟨zb6 _,[],0,.nil,hacc⟩
  ·show(pick idx σ).length=N'.length
   unfold pick;rw[za4];exact S.len
 have stat:∀ {pl:A7} {H':Hp},(∀ b∈fp,H' b=none)->(∀ p∈pl,p.1∉fp)->∀ b∈fp,om (di X N' scope P2.objs.size s₂ H2 fp (X.pn++pins)) pl H' b:=fun {pl H'} hn hp b hb=>by
  refine⟨hn b hb,(ok.exf b hb).1,ok.tj b hb,.inl hb,(ok.exf b hb).2,λp hpp z=>?_⟩;rcases zaj.mp hpp with h1 | h1
  ·exact(f2 b hb).2.2.2.2.2 p h1 z
  ·exact hp p h1 (z▸hb)
 have loop:codeAny (model X.prog X.w) X.A (.compLoop (.ListComp elt [⟨tg,iter,ifs,0⟩] scope pos) 0 (.ref it) (.ref s₂.heap.objs.size) (compEnvC scope (lE X.env scope.names []) P2.objs.size X.env))
   (compPost (model X.prog X.w) X.A X.xe none (EP X pins σ Q) (.ref s₂.heap.objs.size) P2.objs.size) { s₂ with heap:=h₁,toks:=s₂.toks+([]:AY).length }:=by
  refine xu (λn s'=>∃ i σ' H',Inv (di X N' scope P2.objs.size s₂ H2 fp (X.pn++pins)) [] σ' H' s'/\tn i s'.heap/\(∀ b∈fp,H' b=none)/\W i n σ' H') ?_ m0
   ⟨0,_,_,I3,T.keep _ _ _ st2 λb _ o e=>old b o e,λb hb=>by rw[am (zai (hlt b hb))];exact(f2 b hb).1,w0⟩
  rintro n s3 ⟨i,σ3,H3,J3,st3,fr3,w3⟩;rcases turn i n σ3 H3 w3 with ⟨stop,q⟩ | ⟨go,step⟩
  ·refine yb8 (T.done (di X N' scope P2.objs.size s₂ H2 fp (X.pn++pins)) rfl rfl rfl hc i [] s3 σ3 H3 (λ_ _=>False) J3 (stat fr3 (λ_ z=>nomatch z)) st3 stop) (λr s4 hr=>?_) λ_ _ z=>z
   obtain⟨rfl,J4⟩:=hr;obtain⟨m,hn,_⟩:=J4.loc;refine⟨m,hn,λh' hs'=>?_⟩;have fC:H3 P2.objs.size=none:=J4.free;have up:∀ b o,b≠P2.objs.size->s4.heap.get? b=some o->h'.get? b=some o:=λb o hb e=>hs'.extBut b o hb e
   have un:Un (frs X.stack) fp H2 H3 s₂.heap h':=by
    have u:=J4.base;refine⟨λb o e n1 h1 h2=>?_,λb o e n1 h1 h2=>?_,u.free,λb o e h2=>?_,u.lA,u.lq,u.lC⟩
    ·exact up b o (neC b (yaj e)) (u.keep b o e n1 h1 h2)
    ·obtain⟨sl,e1⟩:=u.slot b o e n1 h1 h2
     exact⟨sl,up b _ (neC b (yaj e)) e1⟩
    ·obtain⟨o',e1⟩:=u.there b o e h2
     exact⟨o',up b _ (neC b (yaj e)) e1⟩
   have hok:HOk X.prog X.w H3 h':=λb o e=>(J4.hok b o e).lZ (λc v hcc e1=>up c v (λz=>by
    subst z;rcases hcc with z | z
    ·subst z;rw[fC]at e;cases e
    ·rw[fC]at z;cases z) e1) (λ_ z=>z) λ_ _ z=>z
   refine⟨.ref s₂.heap.objs.size,H3,?_,rfl,q⟩;refine I2.yC (s':={ s4 with heap:=h' }) (ch:=fp) ?_ un hok J4.bare λb hb=>?_
   ·exact J4.os
   ·obtain⟨f0,f1,f2',f3,f4,f5⟩:=f2 b hb
    exact⟨f3,f1,f4,f5⟩
  ·refine yb8 (T.item (di X N' scope P2.objs.size s₂ H2 fp (X.pn++pins)) rfl rfl rfl hc i [] s3 σ3 H3 (λ_ _=>False) J3 (stat fr3 (λ_ z=>nomatch z)) st3 go) (λr s4 hr=>?_) λ_ _ z=>z
   obtain⟨u,rfl,h4⟩:=hr;refine yb8 h4 (λ_ s5 h5=>?_) λ_ _ z=>z
   obtain⟨x,H5,J5,r5,y5,st5,fr5⟩:=h5;have J5':=J5.pinned (stat fr5 (λ_ z=>nomatch z)) (T.obj _ _ st5);refine yb8 (hg _ _ _ _ _ _ s5 σ3 H5 x u _ J5' r5 (step x H5 y5)) (λ_ s6 h6=>?_) λ_ _ z=>z
   obtain⟨σ6,H6,J6,q6⟩:=h6;have again:∀ {s9:AE} {σ9:L2.St} {H9:Hp},Inv (di X N' scope P2.objs.size s₂ H2 fp (X.pn++pins)) ([]++me fp s5.heap) σ9 H9 s9->(∃ m',m'<n/\W (i+1) m' σ9 H9) ->
     ∃ m,m<n/\∃ i σ' H',Inv (di X N' scope P2.objs.size s₂ H2 fp (X.pn++pins)) [] σ' H' s9/\tn i s9.heap/\(∀ b∈fp,H' b=none)/\W i m σ' H':=fun {s9 σ9 H9} J9 hw=>by
    obtain⟨m',hm,w9⟩:=hw;refine⟨m',hm,i+1,σ9,H9,J9.lL,T.keep _ _ _ st5 λb hb o e=>(J9.pin (b,o) (zau _ (zau _ (f9 hb e)))).1,λb hb=>?_,w9⟩;obtain⟨o,e,d⟩:=T.obj _ _ st5 b hb;exact(J9.pin (b,o) (zau _ (zau _ (f9 hb e)))).2.1
   refine yb8 (ht _ _ _ _ _ _ s6 σ6 H6 _ J6 q6) (λok' s7 h7=>?_) λ_ _ z=>z
   obtain⟨H7,J7,q7⟩:=h7;cases ok' with
   | false=>exact again J7 q7
   | true =>
    refine yb8 (he _ _ _ _ _ _ s7 σ6 H7 _ J7 q7) (λxv2 s8 h8=>?_) λ_ _ z=>z
    obtain⟨v,H8,J8,r8,ys,hD,hz,hw⟩:=h8;refine yb8 (bJ (X:=di X N' scope P2.objs.size s₂ H2 fp (X.pn++pins)) _ s8 σ6 H8 (.ref s₂.heap.objs.size) [v] (.ref s₂.heap.objs.size) [xv2] (λ_ H9=>∃ m',m'<n/\W (i+1) m' σ6 H9) J8 rfl (.cons r8 .nil) ⟨_,ys,v,rfl,rfl,hD,hz,hw⟩) (λ_ s9 h9=>?_) λ_ _ z=>z
    obtain⟨_,H9,J9,_,q9⟩:=h9;exact again J9 q9
 exact codeAny_compStart_list loop (T.self X.A 0 _ _ _ (T.keep _ _ _ st2 λb _ o e=>old b o e) loop)
end
def Its(x:Str):It:=⟨λi _=>i<x.cps.size,λi H v H'=>H'=H/\∃ c,x.cps[i]?=some c/\v=.str ⟨#[c]⟩,λi _=>i=x.cps.size⟩
theorem rm{P:AF}{w:AJ}{K:PySem.W.Frag}{tg:AX}{T:String}{x:AL}{t:Tok}{it:AA}
  (W:∀ A:Around,A.handled=none->Walks P w A it [it] [it] x.cps.size (SignAt x) (λi h=>h.IsStrIter it T x t i))
  (hT:["enumerate","zip","dict_itemiterator","dict_reverseitemiterator","odict_iterator","itertools.zip_longest","itertools.pairwise"].contains T=false)
  (hs:∀ (A:AK) (i:Nat) (s:AE) (Q:A9) (E:A9),s.heap.IsStrIter it T x t i->Q (.ref it) s->wpAny (model P w) A (pyIter (.ref it)) Q E s) :
  Turn P w K tg (Its x) [it] it (λi h=>h.IsStrIter it T x t i) where
 mem:=by simp
 obj:=λi h st b hb=>by
  have e:b=it:=by simpa using hb
  subst e;obtain⟨o,e,c,d⟩:=st;exact⟨o,e,λv z=>by rw[d]at z;cases z⟩
 keep:=λi h h' st k=>let ⟨o,ho,r⟩:=st;⟨o,k it (by simp) o ho,r⟩
 item:=by
  intro X hP hw hK hc i pins s σ H E I hf st hg;subst hP hw hK;obtain⟨f0,f1,f2,f3,f4,f5⟩:=hf it (by simp);refine(W X.A (I.ok.hd hc)).item i s _ _ hg st λv h' tk hv st' kk=>?_
  obtain⟨c,u,hc',rfl⟩:=hv;have I1:Inv X pins σ H { s with heap:=h',toks:=tk }:=I.turned (λb o hb e=>kk b o (by simpa using hb) e) f0 f1 f3 f4 f5;obtain⟨o,e,c2,d2⟩:=id st';exact⟨_,rfl,yG (s:={ s with heap:=h',toks:=tk }) e c2 d2 hT ⟨.str ⟨#[c]⟩,H,I1,⟨u,rfl⟩,⟨rfl,c,hc',rfl⟩,st',λb hb=>(hf b hb).1⟩⟩
 done:=by
  intro X hP hw hK hc i pins s σ H E I hf st hg;subst hP hw hK;obtain⟨f0,f1,f2,f3,f4,f5⟩:=hf it (by simp);have e:i=x.cps.size:=hg;subst e;exact(W X.A (I.ok.hd hc)).done s _ _ st λh' tk kk=>⟨rfl,I.turned (t':=tk) (λb o hb e=>kk b o (by simpa using hb) e) f0 f1 f3 f4 f5⟩
 self:=λA i s Q E st h=>hs A i s Q E st h
def iStr(tl:TE):TI:=λσ H R=>tl σ H λx H1=>∃ z,x=.str z/\R (Its z) H1
theorem z5{X:Cx}{tg l:AX}{tl:TE}(hl:PE X l tl):PI X tg l (iStr tl):=by
 intro pins s σ H R I h;refine thn (hl pins s σ H _ I h) λv s1 zz1=>?_
 obtain⟨y,H1,I1,r1,q1⟩:=zz1;obtain⟨z,e,q⟩:=q1;subst e;obtain⟨t,rfl⟩:=r1;cases ha:z.cps.all (·<128)
 ·refine wpAny_pyIter_wide ha ?_
  refine⟨s1.heap.objs.size,[s1.heap.objs.size],_,_,H1,rfl,I1.kept (t':=s1.toks) λb o e=>yai _ e,
   rm (T:="str_iterator") (t:=t) (λA hA=>Walks.strWide hA _ z t) (by decide) (λA i s Q E st h=>wpAny_pyIter_striter_wide st h),⟨_,yak _ rfl,rfl,rfl⟩,λb hb=>?_,q⟩
  have e:b=s1.heap.objs.size:=by simpa using hb
  subst e;exact I1.yF (za5 _) (I1.hok.fresh (za5 _))
 ·refine wpAny_pyIter_ascii ha ?_
  refine⟨s1.heap.objs.size,[s1.heap.objs.size],_,_,H1,rfl,I1.kept (t':=s1.toks) λb o e=>yai _ e,
   rm (T:="str_ascii_iterator") (t:=t) (λA hA=>Walks.strAscii hA _ z t) (by decide) (λA i s Q E st h=>wpAny_pyIter_striter_ascii st h),⟨_,yak _ rfl,rfl,rfl⟩,λb hb=>?_,q⟩
  have e:b=s1.heap.objs.size:=by simpa using hb
  subst e;exact I1.yF (za5 _) (I1.hok.fresh (za5 _))
theorem qa:OpR X (compareOp .LtE) (λx y H Q=>∃ i j,x=.str i/\y=.str j/\Q (.bl (!decide (j.cps.toList<i.cps.toList))) H):=by
 intro pins s σ H x y v u Q I rx ry h;obtain⟨i,j,rfl,rfl,q⟩:=h;obtain⟨t,rfl⟩:=rx;obtain⟨t',rfl⟩:=ry;exact PySem.P.le_str (b9 I q rfl)
theorem z7:SlR X (λx lo hi H Q=>∃ z,x=.str z/\z.length<=sizeLine/\Q (.str (Txt.slice z lo hi)) H):=by
 intro pins s σ H x v vl vu lo hi sl Q I rx hs pl pu h;obtain⟨z,rfl,hz,q⟩:=h;obtain⟨t,rfl⟩:=rx;have part:∀ {v:AI} {o:Option Int},IsPart v o->∃ l:Option (Int×Tok),v=partValue l/\l.map (·.1)=o:=λp=>by
  cases p with
  | none=>exact⟨none,rfl,rfl⟩
  | int i t=>exact⟨some (i,t),rfl,rfl⟩
 obtain⟨l,e1,e2⟩:=part pl;obtain⟨u,e3,e4⟩:=part pu;subst e1 e2 e3 e4;refine⟨"str",_,F.slot_str_getitem.lookup,typeIs_str _ _ _,?_⟩;refine wpAny_getItem_str_slice (l:=l) (u:=u) (st:=none) hs rfl (post_val_or_str ⟨zap (Txt.slice_le z _ _) hz,λt' k=>⟨.str _,H,I.tok k,⟨t',rfl⟩,q⟩⟩)
theorem mH:∀ {ys:AH} {us:AB},kh (ys.map V.str) us->StrsAre us ys
 | [],us,r=>by rw[zbs]at r;cases r;exact .nil
 | y::ys,us,r=>by
  rw[zaa]at r;cases r with
  | cons r1 r2 =>
   obtain⟨t,e⟩:=r1;subst e;exact .cons y t (mH r2)
theorem qb{X:Cx}:MtR X "str.join" (λx vs H Q=>∃ z p ys,x=.str z/\vs=[.ref p]/\SqL X.K H p (List.map V.str ys)/\(ys.map (·.length)).sum+ys.length*z.length<=16777216/\Q (.str (Txt.join z ys)) H):=by
 intro pins s σ H x vs v us Q I rx rv h;obtain⟨z,p,ys,rfl,rfl,hp,hz,q⟩:=h;obtain⟨t,rfl⟩:=rx;obtain⟨u,rfl,ru⟩:=fm rv;have e:u=Value.ref p:=ru;subst e;obtain⟨its,r,pl,_⟩:=I.list hp;exact join_list pl.isList (mH r) hz λt' k=>⟨.str _,H,I.tok k,⟨t',rfl⟩,q⟩
def trB(bs:List Bool)(j:Nat):Bool:=(bs[j]?).getD true
theorem Cu(bs:List Bool):(List.range bs.length).all (trB bs)=bs.all id:=by
 rw[yd8,List.all_eq_true,List.all_eq_true];constructor
 ·intro h x hx
  obtain⟨j,hj⟩:=zax.mp hx;have q:=h j (List.mem_range.mpr (zaf.mp hj).1);unfold trB at q;rw[hj]at q;exact q
 ·intro h j hj
  have hj':=List.mem_range.mp hj;unfold trB;rw[za6 hj'];exact h _ (yd0 hj')
theorem rn{X:Cx}(hc:X.calm=true):cY X (.builtin "all") (λxs H Q=>∃ p bs,xs=[.ref p]/\SqL X.K H p (List.map V.bl bs)/\Q (.bl (bs.all id)) H):=by
 intro pins s σ H xs us Q I r h;obtain⟨p,bs,rfl,hp,q⟩:=h;obtain⟨u,rfl,ru⟩:=fm r;have e:u=Value.ref p:=ru;subst e;obtain⟨its,rv,pl,_⟩:=I.list hp;have hlen:=rv.length;rw[za4]at hlen;have hpl:p<s.heap.objs.size:=by
  obtain⟨o,n,e,_⟩:=pl;exact yaj e
 refine call_all_walk (wpAny_pyIter_list pl.isList ?_);refine⟨s.heap.objs.size,_,_,_,_,_,trB bs,rfl,Walks.list (A:=X.A.in1) (I.ok.hd hc) s.heap.objs.size p (zai hpl) its.toArray,
  ⟨⟨_,yak _ rfl,rfl,rfl⟩,pl.isList.push _⟩,?_,λh' tk kk=>?_⟩
 ·intro i v s' Q' E' hi hq
  have hi':its[i]?=some v:=by simpa using hi
  have hlt:i<bs.length:=by rw[hlen];exact(zaf.mp hi').1
  obtain⟨w',hw,rw'⟩:=rv.get (i:=i) (x:=.bl bs[i]) (by rw[zan,za6 hlt];rfl);rw[hi']at hw;cases hw;have e:v=Value.bool bs[i]:=rw';subst e;unfold trB at hq;rw[za6 hlt]at hq;exact yb9 hq
 ·refine⟨.bl (bs.all id),H,I.kept (t':=tk) λb o e=>kk b o (by simpa using zai (yaj e)) (yai _ e),?_,q⟩
  have e:its.toArray.size=bs.length:=by rw[zab];exact hlen.symm
  rw[e,Cu bs];rfl
theorem mI{J:It}{g:TG}{Q:VK}(Pv:Nat->L2.St->Hp->Prop)
  (h0:Pv 0 (pick idx σ) (upd H1 D (.lst []))) (hgo:∀ i σ2 H2,i<n->Pv i σ2 H2->J.go i H2) (hstop:∀ σ2 H2,Pv n σ2 H2->J.stop n H2/\Q (.ref D) H2)
  (hs:∀ i σ2 H2,i<n->Pv i σ2 H2->∀ x H3,J.yld i H2 x H3->g x σ2 H3 λσ4 H4=>tt σ4 H4 λb H5 =>
   if b=true then te σ4 H5 λv H6=>∃ ys,H6 D=some (.lst ys)/\ys.length<sizeLine/\Pv (i+1) σ4 (upd H6 D (.lst (ys++[v]))) else Pv (i+1) σ4 H5) :
  Er J idx g tt te σ H1 D Q:=by
 refine⟨λi m σ H=>m=n-i/\i<=n/\Pv i σ H,⟨n,by simp,zb6 _,h0⟩,?_⟩;rintro i m σ2 H2 ⟨rfl,hi,p⟩;by_cases hlt:i<n
 ·refine .inr ⟨hgo i σ2 H2 hlt p,λx H3 y=>?_⟩
  have key:∀ (σ':L2.St) (H':Hp),(∃ m',m'<n-i/\m'=n-(i+1)/\i+1<=n/\Pv (i+1) σ' H')=Pv (i+1) σ' H':=λσ' H' =>
   propext ⟨λ⟨_,_,_,_,q⟩=>q,λq=>⟨n-(i+1),by grind,rfl,hlt,q⟩⟩
  simp only[key];exact hs i σ2 H2 hlt p x H3 y
 ·have e:i=n:=by lia
  subst e;exact .inl (hstop σ2 H2 p)
theorem z8{α:Type}{xs:List α}{m:Int}(h0:0<=m)(h1:m<xs.length):∃ c,atI xs m=some c/\c∈xs:=by
 obtain⟨j,rfl⟩:=ybh h0;have hj:j<xs.length:=by lia
 exact⟨xs[j],fj (za6 hj),yd0 hj⟩
theorem ci(a b:AL):(a++b).length=a.length+b.length:=by
 show(a.cps++b.cps).size=_;exact Array.size_append
theorem Cv(a:AL):a.length=a.cps.toList.length:=by
 show a.cps.size=_;rw[zal]
theorem lt1(a b:Nat):decide (([a]:List Nat) < [b])=decide (a<b):=by
 rw[decide_eq_decide];simp[List.cons_lt_cons_iff]
def cz(c:Nat):Bool:=decide (97<=c)&&decide (c<=122)
def lS:V->Bool
 | .str z=>decide (1<=z.length)&&decide (z.length<=8)&&z.cps.toList.all cz
 | _=>false
theorem Es:("a":AL).cps.toList=[97]:=by decide +kernel
theorem cps_z:("z":AL).cps.toList=[122]:=by decide +kernel
theorem vi{i:Int}(h1:-(2 ^ 64)<j)(h2:j<2 ^ 64):yI i j:=Or.inr ⟨h1,h2⟩
section
variable{rest:AQ}{env:Env}
theorem vj{x p}:starEach (.Name x p::rest) env=(false,eval (.Name x p) env)::starEach rest env:=rfl
theorem ro{c k p}:starEach (.Constant c k p::rest) env=(false,eval (.Constant c k p) env)::starEach rest env:=rfl
theorem z9{a b p}:starEach (.Subscript a b p::rest) env=(false,eval (.Subscript a b p) env)::starEach rest env:=rfl
theorem lM{f a k p}:starEach (.Call f a k p::rest) env=(false,eval (.Call f a k p) env)::starEach rest env:=rfl
theorem za{a o b p}:starEach (.BinOp a o b p::rest) env=(false,eval (.BinOp a o b p) env)::starEach rest env:=rfl
theorem zb{l k p}:starEach (.Tuple l k p::rest) env=(false,eval (.Tuple l k p) env)::starEach rest env:=rfl
theorem vm{l p}:starEach (.List l p::rest) env=(false,eval (.List l p) env)::starEach rest env:=rfl
theorem vn{e g s p}:starEach (.ListComp e g s p::rest) env=(false,eval (.ListComp e g s p) env)::starEach rest env:=rfl
theorem vo{e n p}:starEach (.Attribute e n p::rest) env=(false,eval (.Attribute e n p) env)::starEach rest env:=rfl
theorem zc{a o b p}:starEach (.Compare a o b p::rest) env=(false,eval (.Compare a o b p) env)::starEach rest env:=rfl
theorem Et{o a p}:starEach (.UnaryOp o a p::rest) env=(false,eval (.UnaryOp o a p) env)::starEach rest env:=rfl
end
section
variable{X:Cx}{e:AX}{es:AQ}{te:TE}{t:TA}{pos:Pos}
theorem pac(ha:PE X e te)(hr:PA X es t)(hs:starEach (e::es) X.env=(false,eval e X.env)::starEach es X.env:=by
  first | exact vj | exact ro | exact z9 | exact lM | exact za | exact zb | exact vm | exact se_dict | exact vn | exact vo | exact zc | exact se_bool | exact Et | exact se_if) :
  PA X (e::es) (vb te t):=bb ha hr hs
variable{CX:CXT}{k:Nat}{f:AA}{fd:AG}{ps:AH}{sp:Sp}{dvs:Ac}{ds:AB}{E:XK}{x:AL}{p:Pos}
theorem pec(F:ke X.prog X.w X.K X.mg X.base CX k f fd ps sp)(hr:ki k X.A)(hg:Gl X x)(hm:X.mg x=some (.ref f))(hk:W.keepIn X.K (.ref f)=true)(hb:ar X.K fd ps ds)(hd:kh dvs ds)(hx:eG CX X E)
  (ha:PA X (e::es) t) (hdb:(x==("__debug__":AL))=false:=by decide)
  (he:starEach (e::es) X.env=(false,eval e X.env)::starEach es X.env:=by
   first | exact vj | exact ro | exact z9 | exact lM | exact za | exact zb | exact vm | exact se_dict | exact vn | exact vo | exact zc | exact se_bool | exact Et | exact se_if)
  (hpl:(backTo pos (starEach es X.env)).any (·.1)=false:=by rfl):PE X (.Call (.Name x p) (e::es) [] pos) (yP sp dvs E t):=iU F hr hg hm hk hb hd hx ha hdb he hpl
end
end BF
namespace BF
open PySem PySem.Spec PyProof.Rows L2 PySem.SeqAt
set_option genInjectivity true in
inductive Dt where
 | int (i:Int)
 | str (x:Str)
 | tup (l:List Dt)
abbrev Af:=List Dt
abbrev Ah:=List (Dt×Addr×Value)
abbrev Al:=List (Dt×V)
mutual
noncomputable def Dt.beq:Dt->Dt->Bool
 | .int i,.int j=>i==j
 | .str x,.str y=>x==y
 | .tup l,.tup m=>Dt.lg l m
 | _,_=>false
noncomputable def Dt.lg:List Dt->List Dt->Bool
 | [],[]=>true
 | a::l,b::m=>Dt.beq a b&&Dt.lg l m
 | _,_=>false
end
mutual
theorem Dt.beq_iff:∀ a b:Dt,Dt.beq a b=true↔a=b
 | .int i,.int j=>by simp[Dt.beq]
 | .str x,.str y=>by simp[Dt.beq]
 | .tup l,.tup m=>by simp[Dt.beq,Dt.lu l m]
 | .int i,.str y=>by simp[Dt.beq]
 | .int i,.tup m=>by simp[Dt.beq]
 | .str x,.int j=>by simp[Dt.beq]
 | .str x,.tup m=>by simp[Dt.beq]
 | .tup l,.int j=>by simp[Dt.beq]
 | .tup l,.str y=>by simp[Dt.beq]
theorem Dt.lu:∀ l m:List Dt,Dt.lg l m=true↔l=m
 | [],[]=>by simp[Dt.lg]
 | a::l,b::m=>by simp[Dt.lg,Dt.beq_iff a b,Dt.lu l m]
 | [],b::m=>by simp[Dt.lg]
 | a::l,[]=>by simp[Dt.lg]
end
theorem Dt.kX(a:Dt):Dt.beq a a=true:=(Dt.beq_iff a a).mpr rfl
mutual
noncomputable def Dt.dp:Dt->Nat
 | .int _=>0
 | .str _=>0
 | .tup l=>Dt.dps l+1
noncomputable def Dt.dps:List Dt->Nat
 | []=>0
 | a::l=>max (Dt.dp a) (Dt.dps l)
end
mutual
inductive kj(H:Hp):V->Dt->Prop where
 | int (i:Int):kj H (.int i) (.int i)
 | str (x:Str):kj H (.str x) (.str x)
 | tup {a:Addr} {xs:List V} {ds:List Dt} (e:H a=some (.tup xs)) (h:aG H xs ds):kj H (.ref a) (.tup ds)
inductive aG(H:Hp):List V->List Dt->Prop where
 | nil:aG H [] []
 | cons {v:V} {d:Dt} {vs:List V} {ds:List Dt} (h:kj H v d) (t:aG H vs ds):aG H (v::vs) (d::ds)
end
mutual
theorem kj.inj:∀ {d:Dt} {v:V} {d':Dt},kj H v d->kj H v d'->d=d'
 | .int i=>by
  intro g h;cases g;cases h;rfl
 | .str x=>by
  intro g h;cases g;cases h;rfl
 | .tup ds=>by
  intro g h;cases g with
  | tup e q =>
  cases h with
  | tup e2 q2 =>
   rw[e]at e2;cases e2;rw[aG.inj q q2]
theorem aG.inj:∀ {ds:Af} {vs:Ac} {ds':Af},aG H vs ds->aG H vs ds'->ds=ds'
 | []=>by
  intro g h;cases g;cases h;rfl
 | d::ds=>by
  intro g h;cases g with
  | cons q t =>
  cases h with
  | cons q2 t2=>rw[kj.inj q q2,aG.inj t t2]
end
mutual
theorem kj.same{H:Hp}(S:kf H H'):∀ {d:Dt} {v:V},kj H v d->kj H' v d
 | .int i=>by intro g;cases g;exact .int i
 | .str x=>by intro g;cases g;exact .str x
 | .tup ds=>by
  intro g;cases g with
  | tup e q=>exact .tup (S _ _ e) (aG.same S q)
theorem aG.same{H:Hp}(S:kf H H'):∀ {ds:Af} {vs:Ac},aG H vs ds->aG H' vs ds
 | []=>by intro g;cases g;exact .nil
 | d::ds=>by
  intro g;cases g with
  | cons q t=>exact .cons (kj.same S q) (aG.same S t)
end
theorem aG.length:∀ {ds:Af} {vs:Ac},aG H vs ds->vs.length=ds.length
 | []=>by intro g;cases g;exact rfl
 | d::ds=>by
  intro g;cases g with
  | cons q t=>exact by rw[za2,za2,aG.length t]
def l8(ds ds':List Dt)(j:Nat):Bool:=match ds[j]?,ds'[j]? with
 | some a,some b=>Dt.beq a b
 | _,_=>true
theorem db:∀ ds ds':List Dt,((List.range (min ds.length ds'.length)).all (l8 ds ds')&&ds.length==ds'.length)=Dt.lg ds ds'
 | [],[]=>rfl
 | [],b::m=>by simp[Dt.lg]
 | a::l,[]=>by simp[Dt.lg]
 | a::l,b::m=>by
  have ih:=db l m;rw[za2,za2,Nat.succ_min_succ,List.range_succ_eq_map,List.all_cons,List.all_map];have e0:l8 (a::l) (b::m) 0=Dt.beq a b:=rfl;have e1:(l8 (a::l) (b::m) ∘ Nat.succ)=l8 l m:=by
   funext j
   simp[l8]
  rw[e0,e1];show _=(Dt.beq a b&&Dt.lg l m);rw[<- ih,Bool.and_assoc];simp
section
variable{X:Cx}{pins:A7}{σ:L2.St}{H:Hp}{s:AE}
theorem zd:∀ {ds:Af} {j:Nat} {d:Dt},ds[j]?=some d->d.dp<=Dt.dps ds
 | [],j,d,e=>by simp at e
 | a::l,0,d,e=>by
  have e':=yat e;subst e';simp only[Dt.dps]
  lia
 | a::l,j+1,d,e=>by
  have:=zd (ds:=l) (j:=j) (d:=d) (by simpa using e);simp only[Dt.dps]
  grind
theorem aG.at:∀ {ds:Af} {vs:Ac},aG H vs ds->∀ (i:Nat) (v:V),vs[i]?=some v->∃ d,ds[i]?=some d/\kj H v d
 | []=>by
  intro g i v e;cases g;cases e
 | d::ds=>by
  intro g i v e;cases g with
  | cons q t =>
  cases i with
  | zero =>
   cases e;exact⟨d,rfl,q⟩
  | succ i=>exact aG.at t i v e
theorem Cw{vs:Ac}{us:AB}(r:kh vs us):∀ {j:Nat} {u:AI},us[j]?=some u->∃ v,vs[j]?=some v/\RelV v u:=by
 induction r with
 | nil =>
  intro j u e;cases e
 | cons r t ih =>
  intro j u e;cases j with
  | zero =>
   cases e;exact⟨_,rfl,r⟩
  | succ j=>exact ih e
theorem mJ{ds:Af}{vs:Ac}{us:AB}(h:aG H vs ds)(r:kh vs us){j:Nat}{u:AI}(e:us[j]?=some u):∃ v d,ds[j]?=some d/\kj H v d/\RelV v u:=by
 obtain⟨v,ev,rv⟩:=Cw r e;obtain⟨d,ed,hd⟩:=h.at _ _ ev;exact⟨v,d,ed,hd,rv⟩
theorem ze(I:Inv X pins σ H s)(n:Nat):∀ {d d':Dt} {v v':V} {u u':AI} (A:AK),d.dp<=n->kj H v d->RelV v u->kj H v' d'->RelV v' u'->A.units+n<cLine->EqAt A s u u' (Dt.beq d d'):=by
 induction n with
 | zero =>
  intro d d' v v' u u' A hn h r h' r' hu;cases h with
  | int i =>
   obtain⟨t,rfl⟩:=r;cases h' with
   | int j=>obtain⟨t',rfl⟩:=r';exact EqAt.int_int i t j t'
   | str y=>obtain⟨t',rfl⟩:=r';exact EqAt.int_str i t y t'
   | tup e q=>cases r';obtain⟨its,_,p,_⟩:=I.tuple (SqT.of e);exact EqAt.int_tuple i t p hu
  | str x =>
   obtain⟨t,rfl⟩:=r;cases h' with
   | int j=>obtain⟨t',rfl⟩:=r';exact EqAt.str_int x t j t'
   | str y=>obtain⟨t',rfl⟩:=r';exact EqAt.str_str x t y t'
   | tup e q=>cases r';obtain⟨its,_,p,_⟩:=I.tuple (SqT.of e);exact EqAt.str_tuple x t p hu
  | tup e q=>simp only[Dt.dp]at hn;lia
 | succ n ih =>
  intro d d' v v' u u' A hn h r h' r' hu;by_cases h0:d.dp<=n
  ·exact ih A h0 h r h' r' (by lia)
  cases h with
  | int i=>simp only[Dt.dp]at h0;lia
  | str x=>simp only[Dt.dp]at h0;lia
  | @tup a xs l e q =>
   cases r;cases h' with
   | int j=>obtain⟨t',rfl⟩:=r';obtain⟨its,_,p,_⟩:=I.tuple (SqT.of e);exact EqAt.tuple_int j t' p (by lia)
   | str y=>obtain⟨t',rfl⟩:=r';obtain⟨its,_,p,_⟩:=I.tuple (SqT.of e);exact EqAt.tuple_str y t' p (by omega)
   | @tup b ys m e' q' =>
    cases r';by_cases hab:a=b
    ·subst hab
     have z:=kj.inj (kj.tup e q) (kj.tup e' q');rw[z,Dt.kX];exact EqAt.same _
    ·obtain⟨its,rv,p,_⟩:=I.tuple (SqT.of e)
     obtain⟨its',rv',p',_⟩:=I.tuple (SqT.of e');have n1:its.toArray.size=l.length:=by rw[zab,<- rv.length,q.length]
     have n2:its'.toArray.size=m.length:=by rw[zab,<- rv'.length,q'.length]
     simp only[Dt.dp]at hn;have R:=RcAt.tuples (A:=A) (s:=s) (e:=l8 l m) p p' (by lia) (λj h1 h2=>by
      obtain⟨v1,d1,a1,b1,c1⟩:=mJ q rv (j:=j) (u:=its.toArray[j]) (by simp);obtain⟨v2,d2,a2,b2,c2⟩:=mJ q' rv' (j:=j) (u:=its'.toArray[j]) (by simp);have z:l8 l m j=Dt.beq d1 d2:=by unfold l8;rw[a1,a2]
      rw[z];exact ih A.in1 (by have:=zd a1;lia) b1 c1 b2 c2 (by show A.units+1+_<_;lia))
     rw[n1,n2,db]at R;exact EqAt.of_refs hab R
theorem zf(I:Inv X pins σ H s){d:Dt}{v:V}{u:AI}(A:AK)(h:kj H v d)(r:RelV v u)(h':kj H v' d')(r':RelV v' u')(hu:A.units+d.dp<cLine):EqAt A s u u' (Dt.beq d d'):=ze I _ A (za5 _) h r h' r' hu
theorem qd(I:Inv X pins σ H s){ds:Af}{vs:Ac}{us:AB}(A:AK)(q:aG H vs ds)(rv:kh vs us)(q':aG H vs' ds')(rv':kh vs' us')(hu:A.units+Dt.dps ds<cLine)
  (j:Nat) (u u':AI) (e:us[j]?=some u) (e':us'[j]?=some u'):EqAt A s u u' (l8 ds ds' j):=by
 obtain⟨v1,d1,a1,b1,c1⟩:=mJ q rv e;obtain⟨v2,d2,a2,b2,c2⟩:=mJ q' rv' e';have z:l8 ds ds' j=Dt.beq d1 d2:=by unfold l8;rw[a1,a2]
 rw[z];exact ze I _ A (zd a1) b1 c1 b2 c2 hu
end
end BF
namespace BF
open PySem
def Trc(B:Heap)(e:Addr)(fl:Value)(vs:Array Value)(h:Heap):Prop :=
 vs[1]?=some .none\/∃ T oT ts,vs[1]?=some (.ref T)/\B.get? T=none/\T≠e/\h.get? T=some oT/\oT.data=.fields ts/\ts[3]?=some fl
structure Air(B:Heap)(l:List Env)(e:Addr)(cls fl:Value)(h:Heap):Prop where
 stays:B.StaysIn h
 new:B.get? e=none
 fr:h.FunFrames B l
 obj:∃ oe vs,h.get? e=some oe/\oe.cls=cls/\oe.dict=none/\oe.data=.fields vs/\2<vs.size/\vs[2]?=some .none/\Trc B e fl vs h
theorem mK(f:Array Value->Array Value)(o:Obj):(Obj.mapFields f o).dict=o.dict:=by
 obtain⟨c,d,dt,sl⟩:=o;cases dt<;>rfl
section
variable{M:Model}{A:AK}{E:A9}{s:AE}
theorem oP{B:AO}{env:Env}{L:AA}{cls:AI}{oe:Obj}{vs:AN}{Q:A0}
  (hfr:A.frames=some (env::outer)) (hf:env.frame=some L) (hB:B.StaysIn s.heap) (hn:B.get? e=none) (hl:s.heap.FunFrames B (env::outer))
  (he:s.heap.get? e=some oe) (hc:oe.cls=cls) (hdi:oe.dict=none) (hd:oe.data=.fields vs) (hz:2<vs.size) (h2:vs[2]?=some .none)
  (hQ:∀ h',Air B (env::outer) e cls (rawInt L) h'->s.heap.UpToSlots h'->Q () { s with heap:=h' }) :
  wpAny M A (do let a <- frameOf env;let pl <- entryPlaceOf L had;let b <- EntryCells.newEntry head a .none (rawInt L) .none pl;setField (.ref e) 1 b) Q E s:=by
 have hne:e∉(env::outer).filterMap (·.frame):=λz=>by
  obtain⟨_,o,ho,k⟩:=hl.mem z;rw[he]at ho;cases ho;exact k vs hd
 refine ya8 (wpAny_frameOf_fun hfr hl hf λh1 so=>?_);refine ya8 (wpAny_entryPlaceOf λpl ip=>?_);unfold EntryCells.newEntry newFields;refine ya8 (yba ?_ (ip.sizeOk5 _ _ _ _ _));have e1:h1.get? e=some oe:=(so.2.1 e hne).trans he;have B1:B.StaysIn h1:=λb o q=>(so.2.1 b λz=>by rw[(hl.mem z).1]at q;cases q).trans (hB b o q)
 generalize htb:({ cls:=.type "traceback",dict:=none,data:=.fields ([head,.ref L,.none,rawInt L,.none]++(if pl.isEmpty then List.replicate 6 Value.none else pl)).toArray }:Obj)=tb;have tbd:tb.data=.fields ([head,.ref L,.none,rawInt L,.none]++(if pl.isEmpty then List.replicate 6 Value.none else pl)).toArray:=by rw[<- htb]
 have e2:(h1.push tb).get? e=some oe:=yai _ e1;refine yct e2 hd (by lia) (hQ _ ?_ ?_)
 ·have ne:h1.objs.size≠e:=zb3 (yaj e1)
  have d3:=yck hd (·.setIfInBounds 1 (Value.ref h1.objs.size));have e3:=yaz (Obj.mapFields (·.setIfInBounds 1 (Value.ref h1.objs.size))) e2 (ye4 d3);have other:∀ b o,b≠e->h1.get? b=some o->((h1.push tb).update e (Obj.mapFields (·.setIfInBounds 1 (Value.ref h1.objs.size)))).get? b=some o:=λb o hb q=>by
   rw[yas _ _ (yav hb)];exact yai _ q
  refine⟨λb o q=>other b o (λz=>by rw[z,hn]at q;cases q) (B1 b o q),hn,hl.of_keeps λb o q k=>?_,_,_,e3,(Obj.cls_mapFields _ _).trans hc,(mK _ _).trans hdi,d3,by simpa using hz,?_,.inr ⟨h1.objs.size,tb,_,?_,B1.fresh,ne,?_,tbd,?_⟩⟩
  ·obtain⟨sl,q1⟩:=so.2.2 b o q
   exact⟨_,other b _ (λz=>by rw[z,he]at q;cases q;exact k vs hd) q1,rfl⟩
  ·rw[Array.getElem?_setIfInBounds_ne (by decide)];exact h2
  ·simp[show 1<vs.size by omega]
  ·rw[yas _ _ (yav ne)]
   exact yak _ (by rw[<- htb];rfl)
  ·simp
 ·intro b o q k
  obtain⟨sl,q1⟩:=so.2.2 b o q;refine⟨sl,?_⟩;rw[yas _ _ (λz=>by rw[<- z,he]at q;cases q;exact k vs hd)];exact yai _ q1
theorem rp{env:Env}{L:AA}{Q:A0}(hfr:A.frames=some (env::outer))(hf:env.frame=some L)
  (a:Air B (env::outer) e cls .none s.heap) (hQ:∀ h',Air B (env::outer) e cls (rawInt L) h'->s.heap.UpToSlots h'->Q () { s with heap:=h' }):wpAny M A (noteFrame (.ref e) env) Q E s:=by
 obtain⟨hB,hn,hl,oe,vs,he,hc,hdi,hd,hz,h2,tr⟩:=a;unfold noteFrame;simp only[hf];rcases tr with h1 | ⟨T,oT,ts,h1,nT,neT,hT,dT,h3⟩
 ·refine ya8 (ybu he hd h1 ?_)
  rw[yac (by decide)];exact oP hfr hf hB hn hl he hc hdi hd hz h2 hQ
 ·refine ya8 (ybu he hd h1 ?_)
  rw[yad (by simp:(Value.ref T !=Value.none)=true)];refine ya8 (ybu hT dT h3 ?_);rw[yac (by simp[rawInt]:¬ ((Value.none==rawInt L)=true))];have zT:3<ts.size:=(Array.getElem?_eq_some_iff.mp h3).1;refine ya8 (yct hT dT zT ?_);have other:∀ b,b≠T->(s.heap.update T (Obj.mapFields (·.setIfInBounds 3 Value.none))).get? b=s.heap.get? b:=λb hb=>yas _ _ (yav hb)
  have rcd:∀ b o,s.heap.get? b=some o->(∀ ws,o.data≠.fields ws)->b≠T:=λb o q k z=>by
   rw[z,hT]at q;cases q;exact k ts dT
  refine oP (s:={ s with heap:=s.heap.update T (Obj.mapFields (·.setIfInBounds 3 Value.none)) }) hfr hf (λb o q=>(other b λz=>by rw[z,nT]at q;cases q).trans (hB b o q)) hn
   (hl.of_keeps λb o q k=>⟨o,(other b (rcd b o q k)).trans q,rfl⟩) ((other e (yav neT)).trans he) hc hdi hd hz h2 λh' x1 x2=>hQ h' x1 λb o q k=>x2 b o ((other b (rcd b o q k)).trans q) k
theorem mM{cls:AI}{Q:A0}(a:Air B l e cls fl s.heap)
  (hQ:∀ h',Air B l e cls .none h'->s.heap.UpToSlots h'->Q () { s with heap:=h' }):wpAny M A (setFlight (.ref e) none) Q E s:=by
 obtain⟨hB,hn,hl,oe,vs,he,hc,hdi,hd,hz,h2,tr⟩:=a;unfold setFlight;rcases tr with h1 | ⟨T,oT,ts,h1,nT,neT,hT,dT,h3⟩
 ·refine ya8 (ybu he hd h1 ?_)
  rw[yac (by decide)];exact ya9 (hQ s.heap ⟨hB,hn,hl,oe,vs,he,hc,hdi,hd,hz,h2,.inl h1⟩ (.refl _))
 ·refine ya8 (ybu he hd h1 ?_)
  rw[yad (by simp:(Value.ref T !=Value.none)=true)];have zT:3<ts.size:=(Array.getElem?_eq_some_iff.mp h3).1;have other:∀ (v:AI) b,b≠T->(s.heap.update T (Obj.mapFields (·.setIfInBounds 3 v))).get? b=s.heap.get? b:=λv b hb=>yas _ _ (yav hb)
  have rcd:∀ b o,s.heap.get? b=some o->(∀ ws,o.data≠.fields ws)->b≠T:=λb o q k z=>by
   rw[z,hT]at q;cases q;exact k ts dT
  refine yct hT dT zT (hQ _ ⟨λb o q=>(other _ b λz=>by rw[z,nT]at q;cases q).trans (hB b o q),hn,hl.of_keeps λb o q k=>⟨o,(other _ b (rcd b o q k)).trans q,rfl⟩,
   oe,vs,(other _ e (yav neT)).trans he,hc,hdi,hd,hz,h2,.inr ⟨T,_,_,h1,nT,neT,yaz _ hT (ye4 (yck dT _)),yck dT _,by simp[zT]⟩⟩
   λb o q k=>⟨o.slots,(other _ b (rcd b o q k)).trans q⟩)
theorem oQ{env:Env}{L:AA}{Q:A0}(hfr:A.frames=some (env::outer))(hf:env.frame=some L)
  (a:Air B (env::outer) e cls .none s.heap) (hQ:∀ h',Air B outer e cls .none h'->s.heap.UpToSlots h'->Q () { s with heap:=h' }):wpAny M A (leaving env (.ref e)) Q E s:=by
 unfold leaving;refine ya8 (rp hfr hf a λh1 a1 u1=>?_);refine mM a1 λh2 a2 u2=>hQ h2 ⟨a2.stays,a2.new,a2.fr.2.2,a2.obj⟩ (u1.trans u2)
theorem zg{B h:AO}(hB:B.StaysIn h)(hl:h.FunFrames B l)(hx:Heap.MadeExcOf h h' e cls args):Air B l e cls .none h':=by
 obtain⟨t,he,_,_⟩:=hx.there;refine⟨λb o q=>hx.keeps b o (hB b o q),?_,hl.of_keeps λb o q _=>⟨o,hx.keeps b o q,rfl⟩,_,_,he,rfl,rfl,rfl,by simp,by simp,.inl (by simp)⟩;cases q:B.get? e with
 | none=>rfl
 | some o =>
  have:=hB e o q;rw[hx.new]at this;cases this
end
end BF
namespace BF
open PySem PySem.Spec PyProof.Rows L2
structure Flew(P:Program)(w:World)(l:List Env)(H H':Hp)(x:Addr)(cls:Value)(h h' B:Heap):Prop where
 air:Air B l x cls .none h'
 hok:HOk P w H' B
 keep:∀ b o,h.get? b=some o->H b=none->b∉frs l->B.get? b=some o
 there:∀ b o,h.get? b=some o->b∉frs l->∃ o',B.get? b=some o'
 slot:∀ b o,h.get? b=some o->H b=none->b∈frs l->∃ sl,h'.get? b=some { o with slots:=sl }
 free:∀ b o,h.get? b=some o->H b=none->H' b=none
 lA:∀ b xs,H b=some (.tup xs)->H' b=some (.tup xs)
 lq:∀ b o u,H b=some (.frz o u)->H' b=some (.frz o u)
 lC:∀ b ps,H b=some (.tbl ps)->∃ more,H' b=some (.tbl (ps++more))
def CXE(P:Program)(w:World):CXT:=λouter H s E e s'=>∃ x cls H' B,e=.ref x/\s'.os=s.os/\AllBare s'.gens/\Flew P w outer H H' x cls s.heap s'.heap B/\E cls none H'
theorem Flew.un{H:Hp}{cls:AI}{h h':AO}(F:Flew P w l H H' x cls h h' B)(frf:∀ b∈frs l,H b=none)(a6:Air B l x cls fl h6)(u:h'.UpToSlots h6) :
  Un (frs l) [] H H' h h6:=by
 have sl:∀ b o,h.get? b=some o->H b=none->b∈frs l->∃ sl,h6.get? b=some { o with slots:=sl }:=λb o q n hb=>by
  obtain⟨s1,q1⟩:=F.slot b o q n hb;obtain⟨_,o',q2,k⟩:=F.air.fr.mem hb;rw[q1]at q2;cases q2;obtain⟨s2,q3⟩:=u b _ q1 k;exact⟨s2,q3⟩
 refine⟨λb o q n hb _=>a6.stays b o (F.keep b o q n hb),λb o q n hb _=>sl b o q n hb,λb o q n _=>F.free b o q n,λb o q _=>?_,F.lA,F.lq,F.lC⟩;by_cases hb:b∈frs l
 ·obtain⟨s2,q3⟩:=sl b o q (frf b hb) hb
  exact⟨_,q3⟩
 ·obtain⟨o',q3⟩:=F.there b o q hb
  exact⟨o',a6.stays b o' q3⟩
theorem Flew.ok{H:Hp}{cls:AI}{h:AO}(F:Flew P w l H H' x cls h h' B)(a6:Air B l x cls fl h6):HOk P w H' h6:=F.hok.kept a6.stays
theorem Fg{K:A2}(q:W.excIn K C bmB newId=true){h:AO}(X:K.In h) :
  ∃ nm qn N bs bm hdct sn sub ab col dd k0 k1 k2 k3 k5 mN,h.get? C=some (excClassObj nm qn C N bs bm hdct sn sub ab col dd k0 k1 k2 k3 k5 newId)/\h.Ns N mN/\mN "__init__"=none/\OwnTail h bmB bm:=by
 unfold W.excIn at q;split at q
 ·rename_i dd cd sl ho
  split at q
  ·rename_i C' bm j0 j1 j2 j3 n j5 hm hs
   simp only[zbj,beq_iff_eq,Bool.not_eq_true']at q;obtain⟨⟨⟨⟨⟨rfl,rfl⟩,hdel⟩,ht⟩,hk⟩,hni⟩:=q;obtain⟨nm,bs,mro,ns,qn,hd,sn,sub,ab,col,del⟩:=cd;dsimp only at hm hdel hk hni;subst hm hdel;obtain⟨l⟩:=sl;simp only at hs;subst hs;exact⟨nm,qn,ns,bs,bm,hd,sn,sub,ab,col,dd,j0,j1,j2,j3,j5,_,X _ _ ho,.of_isNs (W.isNs_of_in X hk),W.nsMap_none_of_in X hk hni,W.tail_of_in X ht⟩
  ·cases q
 ·cases q
section
variable{P:AF}{w:AJ}{K:A2}{mg:A5}{base:AO}{N:AH}{qual:AL}{scope:Scope}{f:AA}{cdv:AI}{A:AK}{outer:AS}{s:AE}{H:Hp}{E:XK}
theorem tT{s2:AE}
  (I:Inv (lr (CXE P w) P w K mg base N qual scope f cdv A outer s H E) pins σ H2 s2) (hx:Heap.MadeExcOf s2.heap h' x cls args) (hE:E cls none H2) :
  (lr (CXE P w) P w K mg base N qual scope f cdv A outer s H E).xe (.ref x) { s2 with heap:=h' }:=by
 generalize hY:lr (CXE P w) P w K mg base N qual scope f cdv A outer s H E=Y at I;have e1:Y.stack=envOfC qual scope s.heap.objs.size f cdv::outer:=by rw[<- hY];rfl
 have e2:Y.fs=frs outer:=by rw[<- hY];rfl
 have e3:Y.ex=[]:=by rw[<- hY];rfl
 have e4:Y.s₀=s:=by rw[<- hY];rfl
 have e5:Y.H₀=H:=by rw[<- hY];rfl
 have e6:Y.env=envOfC qual scope s.heap.objs.size f cdv:=by rw[<- hY];rfl
 have e7:Y.prog=P:=by rw[<- hY];rfl
 have e8:Y.w=w:=by rw[<- hY];rfl
 have fr:=I.stack;have sf:=I.lJ;have hb:=I.base;have hfr:=I.ok.frames;have ab:=I.ok.above;have os:=I.os;have hk:=I.hok;rw[e1]at fr sf hfr;rw[e2,e3,e4,e5]at hb;rw[e4]at ab os;rw[e6]at ab;rw[e7,e8]at hk;have hin:∀ b,b∈frs (envOfC qual scope s.heap.objs.size f cdv::outer)->H2 b=none:=sf;have inB:∀ b o,s2.heap.get? b=some o->b∉frs (envOfC qual scope s.heap.objs.size f cdv::outer)->(W.hideAll s2.heap (frs (envOfC qual scope s.heap.objs.size f cdv::outer))).get? b=some o:=λb o q n=>W.hideAll_get _ q n
 have old:∀ b o,s.heap.get? b=some o->b∉frs outer->b∉frs (envOfC qual scope s.heap.objs.size f cdv::outer):=λb o q n z=>by
  rcases za0.mp (show b∈s.heap.objs.size::frs outer from z) with z | z
  ·exact absurd (yaj q) (by rw[z];exact zbh _)
  ·exact n z
 have a0:=zg (λb o q=>W.of_hideAll _ q) (W.funFrames_hide fr λenv he a ha=>List.mem_filterMap.mpr ⟨env,he,ha⟩) hx;subst hY;refine oQ (s:={ s2 with heap:=h' }) (L:=s.heap.objs.size) hfr rfl a0 λh3 a3 u3=>?_
 refine⟨x,cls,H2,_,rfl,os,I.bare,⟨a3,λb o q=>?_,λb o q n hn=>?_,λb o q hn=>?_,λb o q n hn=>?_,λb o q n=>hb.free b o q n (by simp),hb.lA,hb.lq,hb.lC⟩,hE⟩
 ·refine(hk b o q).lZ (λc u hc qc=>inB c u qc λz=>?_) (λ_ z=>z) λ_ _ z=>z
  have:=hin c z;rcases hc with e | e
  ·rw[e]at this;rw[this]at q;cases q
  ·rw[this]at e;cases e
 ·exact inB b o (hb.keep b o q n hn (by simp)) (old b o q hn)
 ·obtain⟨o',q'⟩:=hb.there b o q (by simp)
  exact⟨o',inB b o' q' (old b o q hn)⟩
 ·obtain⟨sl,q1⟩:=hb.slot b o q n hn (by simp)
  obtain⟨_,o',q2,k⟩:=fr.mem (za3 _ hn:b∈s.heap.objs.size::frs outer);rw[q1]at q2;cases q2;obtain⟨sl2,q3⟩:=u3 b _ (hx.keeps b _ q1) k;exact⟨sl2,q3⟩
theorem gj{np:Pos}(hg:Gl (lr (CXE P w) P w K mg base N qual scope f cdv A outer s H E) x)(hm:mg x=some (.ref C))(hd:A.handled=none)
  (q:W.excIn K C [.type "ValueError",.type "Exception",.type "BaseException",.type "object"] "ValueError.__new__"=true)
  (ha:PE (lr (CXE P w) P w K mg base N qual scope f cdv A outer s H E) a ta)
  (hs:starEach [a] (lr (CXE P w) P w K mg base N qual scope f cdv A outer s H E).env=[(false,eval a (lr (CXE P w) P w K mg base N qual scope f cdv A outer s H E).env)]:=by rfl) (hdb:(x==("__debug__":AL))=false:=by decide) :
  PS (lr (CXE P w) P w K mg base N qual scope f cdv A outer s H E) (.Raise (some (.Call (.Name x np) [a] [] cpos)) none pos) (λD σ H1=>ta σ H1 λv H2=>E (.ref C) none H2):=by
 intro pins s1 σ H1 D I h;obtain⟨nm,qn,N',bs,bm,hdct,sn,sub,ab,col,dd,k0,k1,k2,k3,k5,mN,hC,hN,hni,T⟩:=Fg q I.ok.mod.kin;refine wpAny_Raise_call_subT (C:=C) (nm:=nm) (q:=qn) (N:=N') (bs:=bs) (bm:=bm) (hdct:=hdct) (sn:=sn) (sub:=sub) (ab:=ab) (col:=col) (dd:=dd) (k0:=k0) (k1:=k1) (k2:=k2) (k3:=k3) (k5:=k5)
  F.excBase_ValueError (mN:=mN) (T.hasType F.excBase_ValueError.hasBase) hd (by rw[hs];rfl) hni (fb I hg hm ⟨rfl,?_⟩ hdb)
 rw[hs];refine ycy (yci (thn (ha pins s1 σ H1 _ I h) λu s2 zz1=>?_));obtain⟨v,H2,I2,r2,q2⟩:=zz1;refine ycr ⟨rfl,szr rfl,I2.bk _ _ hC,hN.keeps I2.bk,T.keeps I2.bk,λh' x hx=>?_⟩;exact tT I2 hx q2
end
theorem bf.is{h:AO}(x:bf P w H h a o):∃ u,h.get? a=some u:=by
 cases o with
 | lst xs=>obtain⟨_,_,_,_,e⟩:=x;exact⟨_,e⟩
 | tup xs=>obtain⟨_,_,_,ob,e,_⟩:=x;exact⟨_,e⟩
 | dK kvs=>obtain⟨_,_,_,_,o,_,_,e,_⟩:=x;exact⟨_,e⟩
 | dT kvs=>obtain⟨_,_,_,_,o,_,_,e,_⟩:=x;exact⟨_,e⟩
 | set S n=>obtain⟨o,_,_,_,e,_⟩:=x;exact⟨_,e⟩
 | ins C dx fs=>obtain⟨_,_,_,e,_⟩:=x;exact⟨_,e⟩
 | own y=>exact x
 | xd fs=>obtain⟨_,⟨_,_,_,e,_⟩,_⟩:=x;exact⟨_,e⟩
 | rng lo hi=>obtain⟨_,_,_,e⟩:=x;exact⟨_,e⟩
 | frz ob u=>exact⟨_,x.1⟩
 | tbl ps=>exact⟨_,show h.get? a=some _ from x⟩
 | met f y=>exact⟨_,show h.get? a=some _ from x⟩
 | ext φ=>exact x.2.1
def ExcO(cls:Value)(o:Obj):Prop:=o.cls=cls/\o.dict=none/\∃ vs,o.data=.fields vs/\vs[2]?=some .none
abbrev tU(o:Obj):HO:=.frz o (.ext λ_=>True)
def TryE(X:Cx)(W:L2.St->Value->Hp->Prop)(e:Value)(s':Shared):Prop :=
 ∃ pins σ H1 s1 H' x cls B,e=.ref x/\Inv X pins σ H1 s1/\s'.os=s1.os/\AllBare s'.gens/\Flew X.prog X.w X.stack H1 H' x cls s1.heap s'.heap B/\W σ cls H'
theorem zh{X:Cx}{sp:Sp}{p:Pos}
  (F:ke X.prog X.w X.K X.mg X.base (CXE X.prog X.w) k f fd ps sp) (hr:ki k X.A) (hg:Gl X x) (hm:X.mg x=some (.ref f)) (hk:PySem.W.keepIn X.K (.ref f)=true) (hb:ar X.K fd ps [])
  (ha:PA (X.lK (TryE X W)) (e::es) t) (hdb:(x==("__debug__":AL))=false:=by decide) (he:starEach (e::es) X.env=(false,eval e X.env)::starEach es X.env:=by rfl) (hpl:(backTo pos (starEach es X.env)).any (·.1)=false:=by rfl) :
  PE (X.lK (TryE X W)) (.Call (.Name x p) (e::es) [] pos) (λσ H Q=>t σ H λvs H1=>sp vs H1 Q λcls _ H'=>W σ cls H'):=by
 intro pins s σ H Q I h;refine ybr (fb I hg hm ?_ hdb);refine PySem.W.callWith_K (h₀:=X.base) I.ok.mod.kin hk (thn (ha pos pins s σ H _ I h) λus s1 zz1=>?_) he hpl;obtain⟨vs,H1,I1,r,q⟩:=zz1;refine ⟨I1.kIn,?_⟩;have hl:us.length=ps.length:=by rw[<- r.length];exact F.len _ _ _ _ q
 have bd:=hb s1 us I1.kIn (by rw[zb0];exact hl);rw[zb0]at bd;refine wpAny_call (ye7 (F.run X.A X.stack s1 H1 ⟨us,[]⟩ us vs Q _ hr I1.env0 bd r q) λr' s' hq=>?_);cases r' with
 | error e =>
  obtain⟨x,cls,H',B,rfl,os,bare,fl,hw⟩:=hq;exact⟨pins,σ,H1,s1,H',x,cls,B,rfl,I1.kM,os,bare,fl,hw⟩
 | ok fl =>
  cases fl with
  | ret u=>exact I1.after hq
  | next=>exact False.elim hq
  | brk=>exact False.elim hq
  | cont=>exact False.elim hq
abbrev jM(X:Cx)(x:Addr):Cx:={ X with A:=X.A.mark (some (.ref x)),calm:=false }
section
variable{X:Cx}{pins:A7}{σ:L2.St}{H H':Hp}{s:AE}
theorem Inv.marked(I:Inv X pins σ H s)(x:AA):Inv (jM X x) pins σ H s :=
 ⟨⟨I.ok.mod,I.ok.kind,I.ok.glob,I.ok.blt,I.ok.above,I.ok.inj,I.ok.has,I.ok.cab,(λz=>absurd z za8),I.ok.frames,I.ok.stk,I.ok.exf,I.ok.bs,I.ok.bsz,I.ok.t9,I.ok.tj,I.ok.lI,I.ok.frf⟩,I.os,I.bare,I.base,I.loc,I.cell,I.free,I.kT,I.pin,I.hok,I.len⟩
theorem Inv.unmarked(I:Inv (jM X x) pins σ H s)(ok:X.Ok):Inv X pins σ H s:=⟨ok,I.os,I.bare,I.base,I.loc,I.cell,I.free,I.kT,I.pin,I.hok,I.len⟩
theorem Cx.Ok.mO(ok:X.Ok)(pn:A7):({ X with pn:=pn }:Cx).Ok :=
 ⟨ok.mod,ok.kind,ok.glob,ok.blt,ok.above,ok.inj,ok.has,ok.cab,ok.hd,ok.frames,ok.stk,ok.exf,ok.bs,ok.bsz,ok.t9,ok.tj,ok.lI,ok.frf⟩
theorem Inv.mO(I:Inv X pins σ H s):Inv { X with pn:=X.pn++pins } [] σ H s :=
 ⟨Cx.Ok.mO I.ok _,I.os,I.bare,I.base,I.loc,I.cell,I.free,I.kT,λp hp=>I.pin p (by rw[zb0]at hp;exact hp),I.hok,I.len⟩
theorem Inv.lR(ok:X.Ok)(I:Inv { X with pn:=X.pn++pins } pl σ H s):Inv X pins σ H s :=
 ⟨ok,I.os,I.bare,I.base,I.loc,I.cell,I.free,I.kT,λp hp=>I.pin p (zbk _ hp),I.hok,I.len⟩
theorem Un.more{fs:AM}{h:AO}(u:Un fs ex H H' h h')(hx:h.get? x=none)(hn:H' x=none):Un fs ex H (upd H' x o) h h':=by
 refine⟨u.keep,u.slot,λb ob q n hb=>?_,u.there,λb xs q=>?_,λb ob v q=>?_,λb ps q=>?_⟩
 ·rw[am (λz=>by rw[z,hx]at q;cases q)];exact u.free b ob q n hb
 ·have:=u.lA b xs q
  rw[am (bh this hn)];exact this
 ·have:=u.lq b ob v q
  rw[am (bh this hn)];exact this
 ·obtain⟨more,e⟩:=u.lC b ps q
  exact⟨more,by rw[am (bh e hn)];exact e⟩
theorem HOk.more(k:HOk P w H h)(hn:H x=none)(new:bf P w (upd H x o) h x o):HOk P w (upd H x o) h:=λb u e=>by
 by_cases hb:b=x
 ·subst hb
  rw[a8]at e;cases e;exact new
 ·rw[am hb]at e
  exact(k b u e).lZ (λ_ _ _ q=>q) (λc z=>by rw[am (bh z hn)];exact z) λc xs z=>by rw[am (bh z hn)];exact z
theorem gM{Q:A0}(I:Inv X pins σ H s)(hN:X.N.Nodup)(hi:X.N[i]?=some n)(hk:X.env.scope.names.lookup n=some .local)
  (h:∀ s',Inv X pins (σ.set i none) H s'->Q () s'):wpAny M A (do bindName X.env n .none;unbindBehindTheSuite X.env n pos) Q E s:=by
 obtain⟨m,hn,hl⟩:=id I.loc;have hcls:(X.env.scope.kind==.class||(X.env.scope.kind==.module&&X.env.locals !=X.env.globals))=false:=by rw[I.ok.kind];rfl
 have hiσ:i < σ.length:=by rw[I.len];exact(zaf.mp hi).1
 obtain⟨oL,_,_,hoL,_⟩:=id hn;refine wpAny_nameGoes_keeps hk hn hcls λh' v hn' hs=>?_
 have up:∀ b o,X.s₀.heap.get? b=some o->b≠X.env.locals:=λb o e=>zai (zaq (yaj e) I.ok.above)
 refine h _ ⟨I.ok,I.os,I.bare,⟨λb o e z hb hx=>?_,λb o e z hb hx=>?_,I.base.free,λb o e hx=>?_,I.base.lA,I.base.lq,I.base.lC⟩,⟨_,hn',λj y v' e1 e2 e3=>?_⟩,λy c e=>?_,I.free,I.kT,λp hp=>?_,λb ob e=>?_,by simpa using I.len⟩
 ·exact(hs.2 b (up b o e)).trans (I.base.keep b o e z hb hx)
 ·obtain⟨sl,e1⟩:=I.base.slot b o e z hb hx
  exact⟨sl,(hs.2 b (up b o e)).trans e1⟩
 ·obtain⟨o',e1⟩:=I.base.there b o e hx
  exact⟨o',(hs.2 b (up b o e)).trans e1⟩
 ·by_cases hj:j=i
  ·subst hj
   rw[ycp hiσ]at e2;cases e2
  ·rw[ye6 (yav hj)]at e2
   obtain⟨u',r',q⟩:=hl j y v' e1 e2 e3;refine⟨u',r',?_⟩;rcases q with ⟨k,e⟩ | ⟨k,c,e,z⟩
   ·refine .inl ⟨k,?_⟩
    have:y≠n:=λe=>hj (m9 hN e1 (e▸hi))
    simp[this,e]
   ·exact .inr ⟨k,c,e,z.sameBut hs (I.cne y c e)⟩
 ·obtain⟨w',z⟩:=I.cell y c e
  exact⟨w',z.sameBut hs (I.cne y c e)⟩
 ·obtain⟨e,z,ne,nf,d⟩:=I.pin p hp
  exact⟨(hs.2 p.1 ne).trans e,z,ne,nf,d⟩
 ·refine(I.hok b ob e).lZ (λc u hc q=>(hs.2 c ?_).trans q) (λ_ q=>q) λ_ _ q=>q
  rintro rfl;rcases hc with rfl | hc
  ·rw[I.free]at e;cases e
  ·rw[I.free]at hc;cases hc
end
def tTry(K:A2)(Cc:Addr)(i:Nat)(tb:(L2.St->Value->Hp->Prop)->TS)(ts:Addr->TS):TS:=λD σ H =>
 tb (λσ' cls H'=>W.exmOne K cls (.ref Cc)=some true/\∀ x o,H' x=none->ExcO cls o ->
  ts x { nx:=λσ2 H2=>D.nx (σ2.set i none) H2,bk:=λσ2 H2=>D.bk (σ2.set i none) H2,ct:=λσ2 H2=>D.ct (σ2.set i none) H2,rt:=D.rt } (σ'.set i (some (.ref x))) (upd H' x (tU o))) D σ H
theorem Fh{X:Cx}{body:List Stmt}{c:AL}{np:Pos}{tb:(L2.St->Value->Hp->Prop)->TS}{ts:Addr->TS}(hstk:X.stack=X.env::X.outer)(hfr:X.env.frame=some X.env.locals)
  (hN:X.N.Nodup) (hi:X.N[i]?=some n) (hn:X.env.scope.names.lookup n=some .local) (hg:Gl X c) (hm:X.mg c=some (.ref Cc)) (hxe:∀ e s',¬ X.xe e s')
  (hb:∀ pn W,PSs (({ X with pn:=pn }:Cx).lK (TryE { X with pn:=pn } W)) body (tb W)) (hs:∀ x pn,PSs (jM { X with pn:=pn } x) (b₀::suite) (ts x)) (hdb:(c==("__debug__":AL))=false:=by decide) :
  PS X (.Try body [.ExceptHandler (some (.Name c np)) (some n) (b₀::suite) hpos] [] [] pos) (tTry X.K Cc i tb ts):=by
 intro pins s σ H D I h;refine wpAny_Try_except (yb8 (hb (X.pn++pins) _ [] s σ H D ((Inv.mO I).lK _) h) (λfl s1 q=>?_) λe s1 q=>?_)
 ·cases fl with
  | next=>obtain⟨σ',H',J,q⟩:=q;exact yd7 ⟨σ',H',Inv.lR I.ok J.kM,q⟩
  | brk=>obtain⟨σ',H',J,q⟩:=q;exact⟨σ',H',Inv.lR I.ok J.kM,q⟩
  | cont=>obtain⟨σ',H',J,q⟩:=q;exact⟨σ',H',Inv.lR I.ok J.kM,q⟩
  | ret v=>obtain⟨v',σ',H',J,r,q⟩:=q;exact⟨v',σ',H',Inv.lR I.ok J.kM,r,q⟩
 ·obtain⟨pl,σ1,H1,s0,H',x,cls,B,rfl,J,os,bare,fl,ex,hw⟩:=q
  have frs1:X.A.frames=some (X.env::X.outer):=by rw[<- hstk];exact I.ok.frames
  have fl0:Air B (X.env::X.outer) x cls .none s1.heap:=by rw[<- hstk];exact fl.air
  refine rp frs1 hfr fl0 λh2 a2 u2=>?_
  refine mM a2 λh3 a3 u3=>?_
  have A3:Air B X.stack x cls .none h3:=by rw[hstk];exact a3
  have U3:=u2.trans u3;have J3:Inv { X with pn:=X.pn++pins } pl σ1 H' { s1 with heap:=h3 }:=J.yC (s':={ s1 with heap:=h3 }) (ch:=[]) os (fl.un J.lJ A3 U3) (fl.ok A3) bare λb z=>nomatch z
  obtain⟨oe,vs,he,hc,_⟩:=a3.obj;have LT:PySem.W.Looks (model X.prog X.w) h3 (typeOf (.ref x)) cls:=hc▸(PySem.W.Looks.ld he).andThen .now;refine wpAny_handleBy_cons (codeAny_handlers_test (fb (Inv.marked J3 x) hg hm ((PySem.W.exm_one J3.kIn LT ex).here ?_) hdb)) (by intro z;cases z);refine codeAny_handlers_suite_as ?_;refine mM (s:={ s1 with heap:=h3 }) a3 λh6 a6 u6=>?_
  have A6:Air B X.stack x cls .none h6:=by rw[hstk];exact a6
  have U6:=U3.trans u6;obtain⟨o6,vs6,g6,c6,d6,dt6,z6,n6,_⟩:=a6.obj;have hx':H' x=none:=by
   cases q:H' x with
   | none=>rfl
   | some o =>
    obtain⟨u,qu⟩:=bf.is (fl.hok x o q);rw[A6.new]at qu;cases qu
  have hx0:s0.heap.get? x=none:=by
   cases q:s0.heap.get? x with
   | none=>rfl
   | some o =>
    by_cases hm':x∈frs X.stack
    ·obtain⟨_,o',q2,k⟩:=A6.fr.mem hm'
     rw[g6]at q2;cases q2;exact absurd dt6 (k vs6)
    ·obtain⟨o',q2⟩:=fl.there x o q hm'
     rw[A6.new]at q2;cases q2
  have J6:Inv { X with pn:=X.pn++pins } pl σ1 (upd H' x (tU o6)) { s1 with heap:=h6 } :=
   J.yC (s':={ s1 with heap:=h6 }) (ch:=[]) os (Un.more (fl.un J.lJ A6 U6) hx0 hx') (HOk.more (fl.ok A6) hx' ⟨g6,trivial,⟨_,g6⟩,λ_ _ _ _=>trivial⟩) bare λb z=>nomatch z
  refine fq (X:=jM { X with pn:=X.pn++pins } x) (Inv.marked J6 x) hN hi (Or.inl hn) (v:=.ref x) rfl (λs7 J7=>?_) (Or.inr hn);refine yb8 (hs x (X.pn++pins) pl s7 _ _ _ J7 (hw x o6 hx' ⟨c6,d6,vs6,dt6,n6⟩)) (λf s8 q8=>?_) λe s8 z=>(hxe _ _ z).elim
  cases f with
  | next=>obtain⟨σ8,H8,J8,q8⟩:=q8;exact gM (Inv.lR I.ok (Inv.unmarked J8 (Cx.Ok.mO I.ok _))) hN hi hn λs9 J9=>⟨_,H8,J9,q8⟩
  | brk=>obtain⟨σ8,H8,J8,q8⟩:=q8;exact gM (Inv.lR I.ok (Inv.unmarked J8 (Cx.Ok.mO I.ok _))) hN hi hn λs9 J9=>⟨_,H8,J9,q8⟩
  | cont=>obtain⟨σ8,H8,J8,q8⟩:=q8;exact gM (Inv.lR I.ok (Inv.unmarked J8 (Cx.Ok.mO I.ok _))) hN hi hn λs9 J9=>⟨_,H8,J9,q8⟩
  | ret v=>obtain⟨v',σ8,H8,J8,r,q8⟩:=q8;exact gM (Inv.lR I.ok (Inv.unmarked J8 (Cx.Ok.mO I.ok _))) hN hi hn λs9 J9=>⟨v',_,H8,J9,r,q8⟩
end BF
namespace BF
open PySem PySem.Spec PyProof.Rows
structure xw(K:A2)(C:Addr):Prop where
 hd:W.hasDictIn K C=true
 ga:W.findIn K (.ref C) "__getattribute__"=some (some (.builtin "BaseException.__getattribute__"))
 gh:W.findIn K (.ref C) "__getattr__"=some none
 kl:W.findIn K (.ref C) "__class__"=some (some (.builtin "object.__class__"))
 gg:W.specialIn K (.builtin "object.__class__") "__get__"=some (some (.builtin "getset_descriptor.__get__"))
 tk:W.takesIn K (.builtin "object.__class__")=some true
 ob:W.mroIn K C (.type "object")=some true
 be:W.mroIn K C (.type "BaseException")=some true
section
variable{prog:AF}{w:AJ}{A:AK}{E:A9}{s:AE}{K:A2}{x C:AA}{ox:Obj}
theorem zi(F:xw K C):W.findObj K C none "__class__"=some (.bind (.builtin "getset_descriptor.__get__") (.builtin "object.__class__")):=by
 obtain⟨cd,hc,_⟩:=W.any_some F.hd;unfold W.findObj;rw[hc,Option.bind_some,F.kl,Option.bind_some];simp[F.gg,F.tk]
theorem xx{Q:A8}(F:xw K C)(X:K.In s.heap)(I:W.InstAt s.heap x ox C none)(h:Q (some (.ref C)) { s with toks:=s.toks+1 }) :
  wpAny (model prog w) A (getAttr? (.ref x) "__class__") Q E s:=by
 obtain⟨hh,g,d,t,os⟩:=s;have l0:=I.type (M:=model prog w);have l1:=W.looks_findIn (M:=model prog w) X F.ga;have l2:=W.looks_findIn (M:=model prog w) X F.gh;have l3:=W.looks_find (M:=model prog w) X I (zi F);have l4:W.Looks (model prog w) hh (isInstance (.ref x) (.type "BaseException")) true:=l0.andThen (W.looks_mroIn X F.be);have bd:=PySem.F.attr_ValueError.ga.bind (.ref x);unfold getAttr? getAttrBy? getAttrBy;refine ya8 (wpAny_mkText (ya8 (ych (yay (ya8 (l0.at (ya8 (l1.at ?_))))))));show wpAny _ _ (if (onTheHeap (.ref C)&&Value.builtin "BaseException.__getattribute__"==Value.builtin "object.__getattribute__")=true then _ else _) _ _ _;have hgb:(Value.builtin "BaseException.__getattribute__"==Value.builtin "object.__getattribute__")=false:=by decide +kernel
 rw[yac (by rw[hgb];simp)];unfold getAttrByItsOwn;refine ya8 (m:=hookBefore (.ref C)) (l2.at ?_);refine ya8 (ych (yay ?_));show wpAny _ _ (boundAndCalled (.builtin "BaseException.__getattribute__") (.ref x) _) _ _ _;unfold boundAndCalled;refine ya8 (ycq bd ?_);have hk:builtinKind "BaseException.__getattribute__"=some .slot:=by decide +kernel
 have hsp:splitId "BaseException.__getattribute__"=some ("BaseException","__getattribute__"):=by decide +kernel
 refine wpAny_call (codeAny_call_builtin PySem.F.attr_ValueError.ga.plain PySem.F.entry_bexc_ga ?_);have ha:=PySem.F.args_bexc_ga (.ref x) (.str "__class__" t);show wpAny _ _ (checkBuiltinCall "BaseException.__getattribute__" ⟨[.ref x,.str "__class__" t],[]⟩) _ _ _;simp only[checkBuiltinCall,hk,hsp];refine ya8 (l4.at ?_);rw[yac (by decide)];refine ycq ha ?_;unfold Builtin.«object.__getattribute__»;refine ya8 (ycq (a:=(Value.ref x,[Value.str "__class__" t])) rfl ?_);refine ya8 (ycq (a:=("__class__":AL)) rfl ?_);refine ya8 (l0.at ?_);refine ya8 (l3.at ?_);show wpAny _ _ (holding [Value.builtin "object.__class__"] (call (.builtin "getset_descriptor.__get__") [.builtin "object.__class__",.ref x,.ref C])>>=ret) _ _ _;refine ya8 (yay (wpAny_call (W.class_get (ox:=ox) (od:=none) X I F.ob ?_)));exact ya9 (ya9 (ya9 h))
theorem rA(F:xw K C):W.KitX K (.ref x) (.ref C) (λh=>W.InstAt h x ox C none) where
 ty:=λ_ _ _ I=>I.type
 it:=λ_ _ X _=>by
  obtain⟨cd,hc,_⟩:=W.any_some F.hd;unfold W.clsIn at hc;split at hc
  ·rename_i c' d' cd' sl' ho
   intro A' Q' E' s' k q;unfold isType loadHead;exact ya8 (wpAny_loadPart (k _ _ (X _ _ ho)) (ya9 q))
  ·cases hc
 ne:=λh tp dd its n sl X htp=>by
  obtain⟨cd,hc,_⟩:=W.any_some F.hd;refine Bool.eq_false_iff.mpr λq=>?_
  have e:C=tp:=Value.ref.inj (beq_iff_eq.mp q);subst e;unfold W.clsIn at hc;split at hc
  ·rename_i c' d' cd' sl' ho
   have z:=(X _ _ ho).symm.trans htp;cases z
  ·cases hc
 ca:=λX I k=>xx F X I k
end
theorem i7{X:L2.Cx}:L2.cY X (.builtin "isinstance") (λxs H Q=>∃ x o C c b,xs=[L2.V.ref x,c]/\H x=some (tU o)/\ExcO (.ref C) o/\xw X.K C/\(∃ cv,L2.RelV c cv/\(∀ u,L2.RelV c u->u=cv)/\W.kitOne X.K (.ref C) cv=some b)/\Q (.bl b) H):=by
 intro pins s σ H xs us Q I r h;obtain⟨x,o,C,c,b,rfl,hx,⟨oc,od,vs,odt,_⟩,F,⟨cv,_,rc,kt⟩,q⟩:=h;obtain⟨u,w',rfl,r1,r2⟩:=L2.vals2 r;have e:u=Value.ref x:=r1;subst e;have e2:=rc w' r2;subst e2;have gx:s.heap.get? x=some o:=(show L2.bf X.prog X.w H s.heap x (tU o) from I.hok x _ hx).1;have J:W.InstAt s.heap x o C none:=⟨gx,oc,by unfold W.notCls;rw[odt],by rw[od];trivial⟩;exact ycb (rA F) I.kIn J kt (λz=>nomatch z) λtk=>⟨.bl b,H,I.tok tk,rfl,q⟩
end BF
namespace BF
open PySem PySem.Spec PyProof.Rows L2
theorem zj:MtM X "list.index" (λx vs H Q=>∃ l xs y j,x=.ref l/\vs=[y]/\H l=some (.lst xs)/\ir y=true/\xs.all ir=true/\j<1000/\(∃ z,xs[j]?=some z/\eqV z y=true) /\
  (∀ (m:Nat) z,m<j->xs[m]?=some z->eqV z y=false)/\Q (.int (j:Nat)) H):=by
 intro pins s σ H x vs v us Q I rx rv h;obtain⟨l,xs,y,j,rfl,rfl,hH,fy,fs,hj,⟨z,hz,ez⟩,hno,q⟩:=h;cases rx;obtain⟨u,rfl,ru⟩:=rv.one;obtain⟨_,its,n,r,hl,e⟩:=I.tO hH;have hjl:j<xs.length:=(zaf.mp hz).1;have at_:∀ (m:Nat) z,xs[m]?=some z->∀ (hm:m<its.toArray.size),eqU y its.toArray[m]=eqV z y:=λm z hz hm=>by
  obtain⟨w',hw,rw'⟩:=r.get hz;have e1:its.toArray[m]=w':=by
   have:its[m]?=some its.toArray[m]:=by simp
   rw[hw]at this;exact(yat this).symm
  rw[e1];exact tL rw' (List.all_eq_true.mp fs z (zam hz))
 refine ydk F.slot_list_index ⟨_,e,rfl⟩ F.entry_list_index (F.args_list_index_2 _ _)
  (SeqAt.list_indexAt l its.toArray n _ _ u (eqU y) j (by rw[zab];lia) (by lia) ?_ ?_) ⟨e,λw hw=>mz ru fy r fs w (by simpa using hw),⟨.int (j:Nat),H,I.tok _,⟨_,rfl⟩,q⟩⟩
 ·rw[at_ j z hz];exact ez
 ·intro m hm hlt
  have hm':m<xs.length:=by lia
  rw[at_ m _ (za6 hm') hm];exact hno m _ hlt (za6 hm')
theorem qe{K:A2}{r c:AA}{b:Bool}(k:W.kitOne K (.ref r) (.ref c)=some b):∃ cv,RelV (.ref c) cv/\(∀ u,RelV (.ref c) u->u=cv)/\W.kitOne K (.ref r) cv=some b:=⟨.ref c,rfl,λ_ h=>h,k⟩
section
variable{prog:AF}{w:AJ}{A:AK}{E:A9}{s:AE}
theorem Cy{a b:AI}{Q:A9}(hh:A.handled=none)
  (hcmp:∀ (s':AE) (Q':A9) (E':A9),(∀ c o,s.heap.get? c=some o->s'.heap.get? c=some o)->Q' (.bool bt) s'->wpAny (model prog w) A.in1 (richCompare .Lt b a) Q' E' s')
  (h:∀ h' tk,(∀ c o,s.heap.get? c=some o->h'.get? c=some o)->Q (if bt=true then b else a) { s with heap:=h',toks:=tk }):wpAny (model prog w) A (call (.builtin "min") [a,b]) Q E s:=by
 have nm:(toString "min"++toString ".loop":String)="min.loop":=by decide
 refine call_function_tree F.kind_min F.plain_min F.entry_min (F.args_min2 a b) ?_;refine ya8 (m:=Builtin.Builtins.bindParams "min" ["key","default"] 0 ⟨[],[]⟩) (ycq (a:=[none,none]) rfl ?_);refine ya8 (m:=newTuple [a,b]) (yba ?_);generalize ho:({ cls:=.type "tuple",dict:=none,data:=.seq [a,b].toArray }:Obj)=ot;have k1:∀ c o,s.heap.get? c=some o->(s.heap.push ot).get? c=some o:=λc o e=>yai _ e
 have t1:(s.heap.push ot).IsTuple s.heap.objs.size #[a,b]:=⟨ot,yak _ (by rw[<- ho];rfl),by rw[<- ho],0,by rw[<- ho]⟩;have z1:s.heap.objs.size<(s.heap.push ot).objs.size:=by rw[ybi];exact zbc _
 refine ya8 (wpAny_pyIter_tuple t1 ?_);have zs:∀ c o,s.heap.get? c=some o->c<s.heap.objs.size:=λc o e=>yaj e
 generalize s.heap.push ot=h1 at k1 t1 z1 ⊢;generalize hoi:({ cls:=.type "tuple_iterator",data:=.fields #[.ref s.heap.objs.size,.int 0 0] }:Obj)=oi;dsimp only;have i2:(h1.push oi).IsTupleIter h1.objs.size s.heap.objs.size 0:=⟨oi,yak _ (by rw[<- hoi];rfl),by rw[<- hoi],by rw[<- hoi];rfl⟩;have t2:(h1.push oi).IsTuple s.heap.objs.size #[a,b]:=t1.push _;have z2:h1.objs.size<(h1.push oi).objs.size:=by rw[ybi];exact zbc _
 have k2:∀ c o,s.heap.get? c=some o->(h1.push oi).get? c=some o:=λc o e=>yai _ (k1 c o e)
 generalize hI:h1.objs.size=I at i2 z1 z2 ⊢;generalize hT:s.heap.objs.size=T at i2 t2 z1 zs ⊢;generalize h1.push oi=h2 at i2 t2 z2 k2 ⊢;refine ya8 (m:=newList []) (yba ?_);generalize hol:({ cls:=.type "list",dict:=none,data:=.seq ([]:AB).toArray }:Obj)=ol;have gS:(h2.push ol).get? h2.objs.size=some { cls:=.type "list",dict:=none,data:=.seq #[] 0,slots:=#[] }:=by rw[<- hol];exact yak _ rfl
 have i3:(h2.push ol).IsTupleIter I T 0:=by
  obtain⟨o,e,c,d⟩:=i2;exact⟨o,yai _ e,c,d⟩
 have t3:=t2.push ol;have k3:∀ c o,s.heap.get? c=some o->(h2.push ol).get? c=some o:=λc o e=>yai _ (k2 c o e)
 have nSI:h2.objs.size≠I:=zb3 z2;have nST:h2.objs.size≠T:=zb3 (zbf z1 z2);have nS:∀ c o,s.heap.get? c=some o->c≠h2.objs.size:=λc o e=>zai (zbf (zs c o e) (zbf z1 z2))
 have nI:∀ c o,s.heap.get? c=some o->c≠I:=λc o e=>zai (zbf (zs c o e) z1)
 generalize h2.objs.size=S at gS nSI nST nS ⊢;generalize h2.push ol=h3 at gS i3 t3 k3 ⊢;have W:Walks prog w A.in1 I [I,T] [I] 2 (λi v=>(#[a,b]:AN)[i]?=some v) (λi h=>h.IsTupleIter I T i/\h.IsTuple T #[a,b]):=Walks.tuple (A:=A.in1) hh I T (zai z1) #[a,b];rw[nm];refine ya9 ⟨ybl yc3 _,?_⟩;refine ybo F.entry_min_loop ?_;rw[ybg yc3 _];refine ya8 (m:=seqItems? (.ref S)) (yc4 gS rfl ?_);show wpAny _ A.in1 (tryCatch (pyNext (.ref I)) _>>=_) _ _ _;refine ya8 (yc5 (W.item 0 _ _ _ (by decide) ⟨i3,t3⟩ λv h4 tk hv st4 q4=>?_));have ev:a=v:=yat hv;subst ev;have g4:=q4 S _ (by simpa using nSI) gS;have k4:∀ c o,s.heap.get? c=some o->h4.get? c=some o:=λc o e=>q4 c o (by simpa using nI c o e) (k3 c o e)
 refine ya8 (m:=updateSeq S _) ?_;refine ybp g4 rfl ?_;rw[nm];have st5:=W.frame 1 _ (h4.update S (Obj.mapSeq λ_=>#[a,a])) st4 λc hc o e=>by
  rw[yas _ _ (λz=>by subst z;simp at hc;rcases hc with z | z<;>contradiction)];exact e
 have g5:=yaz (Obj.mapSeq λ_=>#[a,a]) g4 rfl;have k5:∀ c o,s.heap.get? c=some o->(h4.update S (Obj.mapSeq λ_=>#[a,a])).get? c=some o:=λc o e=>(yas _ _ (yav (nS c o e))).trans (k4 c o e)
 dsimp only;generalize h4.update S (Obj.mapSeq λ_=>#[a,a])=h5 at st5 g5 k5 ⊢;refine ya9 ⟨ybl yc3 _,?_⟩;refine ybo F.entry_min_loop ?_;rw[ybg yc3 _];refine ya8 (m:=seqItems? (.ref S)) (yc4 g5 rfl ?_);show wpAny _ A.in1 (tryCatch (pyNext (.ref I)) _>>=_) _ _ _;refine ya8 (yc5 (W.item 1 _ _ _ (by decide) st5 λv h6 tk6 hv st6 q6=>?_));have ev:b=v:=yat hv;subst ev;have g6:=q6 S _ (by simpa using nSI) g5;have k6:∀ c o,s.heap.get? c=some o->h6.get? c=some o:=λc o e=>q6 c o (by simpa using nI c o e) (k5 c o e)
 show wpAny _ A.in1 (tryCatch (holding [b,b] (richCompare .Lt b a>>=_)) _>>=_) _ _ _;refine ya8 (yc5 (yay (ya8 (hcmp _ _ _ k6 ?_))));refine ya8 (yay (yb9 ?_));refine ya8 (yc9 (ya9 ?_));have fin:∀ (s7:AE) (v:AI) (c:Nat),s7.heap.IsTupleIter I T 2/\s7.heap.IsTuple T #[a,b]->s7.heap.get? S=some { cls:=.type "list",dict:=none,data:=.seq #[v,v] c,slots:=#[] } ->
   (∀ c o,s.heap.get? c=some o->s7.heap.get? c=some o)->(∀ h' tk,(∀ c o,s.heap.get? c=some o->h'.get? c=some o)->Q v { s7 with heap:=h',toks:=tk }) ->
   codeAny (model prog w) A (.builtin "min.loop" ⟨[.ref I,.none,.ref S],[]⟩) (λr s'=>match r with | .ok (.ret v)=>Q v s' | .ok _=>False | .error e=>E e s') s7:=λs7 v c st7 g7 k7 hq=>by
  refine ybo F.entry_min_loop ?_;rw[ybg yc3 _];refine ya8 (m:=seqItems? (.ref S)) (yc4 g7 rfl ?_);show wpAny _ A.in1 (tryCatch (pyNext (.ref I)) _>>=_) _ _ _;refine ya8 (yc5 (W.done _ _ _ st7 λh8 tk8 q8=>?_));have g8:=q8 S _ (by simpa using nSI) g7;refine ya8 (m:=updateSeq S _) ?_;refine ybp g8 rfl (ya8 (yc9 (ya9 ?_)));exact hq _ tk8 λc o e=>(yas _ _ (yav (nS c o e))).trans (q8 c o (by simpa using nI c o e) (k7 c o e))
 cases bt with
 | true =>
  simp only[ycs];refine ya8 (m:=updateSeq S _) ?_;refine ybp g6 rfl (ya8 (yc9 ?_));rw[nm];refine ya9 ⟨ybl yc3 _,fin _ b _ (W.frame 2 _ _ st6 λc hc o e=>?_) (yaz _ g6 rfl) (λc o e=>?_) λh' tk k=>?_⟩
  ·exact(yas _ _ (λz=>by subst z;simp at hc;rcases hc with z | z<;>contradiction)).trans e
  ·exact(yas _ _ (yav (nS c o e))).trans (k6 c o e)
  ·have:=h h' tk k
   rw[yad rfl]at this;exact this
 | false =>
  simp only[zag,ybj];refine ya8 (yc9 ?_);rw[nm];refine ya9 ⟨ybl yc3 _,fin _ a _ st6 g6 k6 λh' tk k=>?_⟩;have:=h h' tk k;rw[yac za8]at this;exact this
theorem Cz{a b:AI}{Q:A9}(hh:A.handled=none)
  (hcmp:∀ (s':AE) (Q':A9) (E':A9),(∀ c o,s.heap.get? c=some o->s'.heap.get? c=some o)->Q' (.bool bt) s'->wpAny (model prog w) A.in1 (richCompare .Gt b a) Q' E' s')
  (h:∀ h' tk,(∀ c o,s.heap.get? c=some o->h'.get? c=some o)->Q (if bt=true then b else a) { s with heap:=h',toks:=tk }):wpAny (model prog w) A (call (.builtin "max") [a,b]) Q E s:=by
 have nm:(toString "max"++toString ".loop":String)="max.loop":=by decide
 refine call_function_tree F.kind_max F.plain_max F.entry_max (F.args_max2 a b) ?_;refine ya8 (m:=Builtin.Builtins.bindParams "max" ["key","default"] 0 ⟨[],[]⟩) (ycq (a:=[none,none]) rfl ?_);refine ya8 (m:=newTuple [a,b]) (yba ?_);generalize ho:({ cls:=.type "tuple",dict:=none,data:=.seq [a,b].toArray }:Obj)=ot;have k1:∀ c o,s.heap.get? c=some o->(s.heap.push ot).get? c=some o:=λc o e=>yai _ e
 have t1:(s.heap.push ot).IsTuple s.heap.objs.size #[a,b]:=⟨ot,yak _ (by rw[<- ho];rfl),by rw[<- ho],0,by rw[<- ho]⟩;have z1:s.heap.objs.size<(s.heap.push ot).objs.size:=by rw[ybi];exact zbc _
 refine ya8 (wpAny_pyIter_tuple t1 ?_);have zs:∀ c o,s.heap.get? c=some o->c<s.heap.objs.size:=λc o e=>yaj e
 generalize s.heap.push ot=h1 at k1 t1 z1 ⊢;generalize hoi:({ cls:=.type "tuple_iterator",data:=.fields #[.ref s.heap.objs.size,.int 0 0] }:Obj)=oi;dsimp only;have i2:(h1.push oi).IsTupleIter h1.objs.size s.heap.objs.size 0:=⟨oi,yak _ (by rw[<- hoi];rfl),by rw[<- hoi],by rw[<- hoi];rfl⟩;have t2:(h1.push oi).IsTuple s.heap.objs.size #[a,b]:=t1.push _;have z2:h1.objs.size<(h1.push oi).objs.size:=by rw[ybi];exact zbc _
 have k2:∀ c o,s.heap.get? c=some o->(h1.push oi).get? c=some o:=λc o e=>yai _ (k1 c o e)
 generalize hI:h1.objs.size=I at i2 z1 z2 ⊢;generalize hT:s.heap.objs.size=T at i2 t2 z1 zs ⊢;generalize h1.push oi=h2 at i2 t2 z2 k2 ⊢;refine ya8 (m:=newList []) (yba ?_);generalize hol:({ cls:=.type "list",dict:=none,data:=.seq ([]:AB).toArray }:Obj)=ol;have gS:(h2.push ol).get? h2.objs.size=some { cls:=.type "list",dict:=none,data:=.seq #[] 0,slots:=#[] }:=by rw[<- hol];exact yak _ rfl
 have i3:(h2.push ol).IsTupleIter I T 0:=by
  obtain⟨o,e,c,d⟩:=i2;exact⟨o,yai _ e,c,d⟩
 have t3:=t2.push ol;have k3:∀ c o,s.heap.get? c=some o->(h2.push ol).get? c=some o:=λc o e=>yai _ (k2 c o e)
 have nSI:h2.objs.size≠I:=zb3 z2;have nST:h2.objs.size≠T:=zb3 (zbf z1 z2);have nS:∀ c o,s.heap.get? c=some o->c≠h2.objs.size:=λc o e=>zai (zbf (zs c o e) (zbf z1 z2))
 have nI:∀ c o,s.heap.get? c=some o->c≠I:=λc o e=>zai (zbf (zs c o e) z1)
 generalize h2.objs.size=S at gS nSI nST nS ⊢;generalize h2.push ol=h3 at gS i3 t3 k3 ⊢;have W:Walks prog w A.in1 I [I,T] [I] 2 (λi v=>(#[a,b]:AN)[i]?=some v) (λi h=>h.IsTupleIter I T i/\h.IsTuple T #[a,b]):=Walks.tuple (A:=A.in1) hh I T (zai z1) #[a,b];rw[nm];refine ya9 ⟨ybl yc6 _,?_⟩;refine ybo F.entry_max_loop ?_;rw[ybg yc6 _];refine ya8 (m:=seqItems? (.ref S)) (yc4 gS rfl ?_);show wpAny _ A.in1 (tryCatch (pyNext (.ref I)) _>>=_) _ _ _;refine ya8 (yc5 (W.item 0 _ _ _ (by decide) ⟨i3,t3⟩ λv h4 tk hv st4 q4=>?_));have ev:a=v:=yat hv;subst ev;have g4:=q4 S _ (by simpa using nSI) gS;have k4:∀ c o,s.heap.get? c=some o->h4.get? c=some o:=λc o e=>q4 c o (by simpa using nI c o e) (k3 c o e)
 refine ya8 (m:=updateSeq S _) ?_;refine ybp g4 rfl ?_;rw[nm];have st5:=W.frame 1 _ (h4.update S (Obj.mapSeq λ_=>#[a,a])) st4 λc hc o e=>by
  rw[yas _ _ (λz=>by subst z;simp at hc;rcases hc with z | z<;>contradiction)];exact e
 have g5:=yaz (Obj.mapSeq λ_=>#[a,a]) g4 rfl;have k5:∀ c o,s.heap.get? c=some o->(h4.update S (Obj.mapSeq λ_=>#[a,a])).get? c=some o:=λc o e=>(yas _ _ (yav (nS c o e))).trans (k4 c o e)
 dsimp only;generalize h4.update S (Obj.mapSeq λ_=>#[a,a])=h5 at st5 g5 k5 ⊢;refine ya9 ⟨ybl yc6 _,?_⟩;refine ybo F.entry_max_loop ?_;rw[ybg yc6 _];refine ya8 (m:=seqItems? (.ref S)) (yc4 g5 rfl ?_);show wpAny _ A.in1 (tryCatch (pyNext (.ref I)) _>>=_) _ _ _;refine ya8 (yc5 (W.item 1 _ _ _ (by decide) st5 λv h6 tk6 hv st6 q6=>?_));have ev:b=v:=yat hv;subst ev;have g6:=q6 S _ (by simpa using nSI) g5;have k6:∀ c o,s.heap.get? c=some o->h6.get? c=some o:=λc o e=>q6 c o (by simpa using nI c o e) (k5 c o e)
 show wpAny _ A.in1 (tryCatch (holding [b,b] (richCompare .Gt b a>>=_)) _>>=_) _ _ _;refine ya8 (yc5 (yay (ya8 (hcmp _ _ _ k6 ?_))));refine ya8 (yay (yb9 ?_));refine ya8 (yc9 (ya9 ?_));have fin:∀ (s7:AE) (v:AI) (c:Nat),s7.heap.IsTupleIter I T 2/\s7.heap.IsTuple T #[a,b]->s7.heap.get? S=some { cls:=.type "list",dict:=none,data:=.seq #[v,v] c,slots:=#[] } ->
   (∀ c o,s.heap.get? c=some o->s7.heap.get? c=some o)->(∀ h' tk,(∀ c o,s.heap.get? c=some o->h'.get? c=some o)->Q v { s7 with heap:=h',toks:=tk }) ->
   codeAny (model prog w) A (.builtin "max.loop" ⟨[.ref I,.none,.ref S],[]⟩) (λr s'=>match r with | .ok (.ret v)=>Q v s' | .ok _=>False | .error e=>E e s') s7:=λs7 v c st7 g7 k7 hq=>by
  refine ybo F.entry_max_loop ?_;rw[ybg yc6 _];refine ya8 (m:=seqItems? (.ref S)) (yc4 g7 rfl ?_);show wpAny _ A.in1 (tryCatch (pyNext (.ref I)) _>>=_) _ _ _;refine ya8 (yc5 (W.done _ _ _ st7 λh8 tk8 q8=>?_));have g8:=q8 S _ (by simpa using nSI) g7;refine ya8 (m:=updateSeq S _) ?_;refine ybp g8 rfl (ya8 (yc9 (ya9 ?_)));exact hq _ tk8 λc o e=>(yas _ _ (yav (nS c o e))).trans (q8 c o (by simpa using nI c o e) (k7 c o e))
 cases bt with
 | true =>
  simp only[ycs];refine ya8 (m:=updateSeq S _) ?_;refine ybp g6 rfl (ya8 (yc9 ?_));rw[nm];refine ya9 ⟨ybl yc6 _,fin _ b _ (W.frame 2 _ _ st6 λc hc o e=>?_) (yaz _ g6 rfl) (λc o e=>?_) λh' tk k=>?_⟩
  ·exact(yas _ _ (λz=>by subst z;simp at hc;rcases hc with z | z<;>contradiction)).trans e
  ·exact(yas _ _ (yav (nS c o e))).trans (k6 c o e)
  ·have:=h h' tk k
   rw[yad rfl]at this;exact this
 | false =>
  simp only[zag,ybj];refine ya8 (yc9 ?_);rw[nm];refine ya9 ⟨ybl yc6 _,fin _ a _ st6 g6 k6 λh' tk k=>?_⟩;have:=h h' tk k;rw[yac za8]at this;exact this
end
end BF
namespace BF
open PySem PySem.Spec PyProof.Rows
section
def im:List Int->List Int->Bool
 | x::xs,y::ys=>if x=y then im xs ys else decide (y<x)
 | _::_,[]=>true
 | [],_=>false
theorem rB:∀ (xs ys:List Int),im xs ys=HT.cm ys xs
 | [],[]=>rfl
 | [],_::_=>rfl
 | _::_,[]=>rfl
 | x::xs,y::ys=>by
  show(if x=y then im xs ys else decide (y<x))=(if y=x then HT.cm ys xs else decide (y<x));by_cases h:x=y
  ·rw[yad h,yad h.symm,rB xs ys]
  ·rw[yac h,yac (yav h)]
open PySem.SeqAt
open PySem.AutoSeq1 (wpAny_loadPart')
open PySem.MeetsSeq PySem.MeetsSeq2 PySem.MeetsSeq3
theorem oy(l b:AA)(pa pb:AN)(n n2:Nat)(dd dd2:Aa)(sl sl2:A1)(ns ms:List Int)(hi:IntsAre pa.toList ns)(hj:IntsAre pb.toList ms) :
  Meets (Builtin.«tuple.__gt__» ⟨[.ref l,.ref b],[]⟩)
   (λ_ R s=>s.heap.get? l=some { cls:=.type "tuple",dict:=dd,data:=.seq pa n,slots:=sl }/\s.heap.get? b=some { cls:=.type "tuple",dict:=dd2,data:=.seq pb n2,slots:=sl2 } /\
    R (.ok (.ret (.bool (im ns ms)))) s) :=
 .of_wp λprog w A R s h=>by
  obtain⟨hp,g,d,tk,os⟩:=s;obtain⟨hl,hb,h⟩:=h;have f2:=ydg;have z1:pa.size=ns.length:=by rw[<- hi.length];simp
  have z2:pb.size=ms.length:=by rw[<- hj.length];simp
  wp_walk using ybs hl,ybs hb,ye0 _ (λrest q s'=>q.1=none/\s'=⟨hp,g,d,tk,os⟩/\∃ (vs ws:AB) (xs ys:List Int),rest=vs.zip ws /\
   IntsAre vs xs/\IntsAre ws ys/\xs.length+pb.size=ys.length+pa.size/\R (.ok (.ret (.bool (im xs ys)))) ⟨hp,g,d,tk,os⟩) _
  case turn =>
   rintro⟨y,x⟩ rest q s' ⟨hq,rfl,vs,ws,xs,ys,hz,ix,iy,hlen,hR⟩;cases ix with
   | nil=>rw[ydp]at hz;cases hz
   | cons a t ix' =>
    cases iy with
    | nil=>rw[yee]at hz;cases hz
    | cons c u iy' =>
     rw[zb5]at hz;injection hz with hd hrest
     injection hd with e1 e2
     subst e1 e2;simp only[za2]at hlen;obtain⟨e,he,hiff⟩:=HT.r9 A.in1 ⟨hp,g,d,tk,os⟩ a t c u;refine ya8 (he prog w _ _ ?_);cases e with
     | true =>
      have hR':=hR;rw[show im (a::_) (c::_)=_ from yad (hiff.mp rfl)]at hR'
      wp_walk
      exact⟨rfl,rfl,_,_,_,_,hrest,ix',iy',by lia,hR'⟩
     | false =>
      have hR':=hR;rw[show im (a::_) (c::_)=_ from yac (λq=>absurd (hiff.mpr q) za8)]at hR';have hri:∀ (E:A9) (Q:A9),Q (.bool (decide (a>c))) ⟨hp,g,d,tk,os⟩->wpAny (model prog w) A.in1 (richCompare .Gt (.int a t) (.int c u)) Q E ⟨hp,g,d,tk,os⟩:=
       λE Q h=>(PyProof.Rows.gt_int h:wpAny (model prog w) A.in1 (compareOp .Gt (.int a t) (.int c u)) Q E ⟨hp,g,d,tk,os⟩)
      wp_walk using hri
      exact⟨_,rfl,by simpa using hR'⟩
  case fin =>
   rintro⟨b1,b2⟩ s' ⟨hq,rfl,vs,ws,xs,ys,hz,ix,iy,hlen,hR⟩;simp only at hq;subst hq;have hv:im xs ys=decide (pb.size<pa.size):=by
    cases ix with
    | nil =>
     simp only[zb2]at hlen;exact(yaa (by lia)).symm
    | cons a t hv =>
     cases iy with
     | nil =>
      simp only[zb2,za2]at hlen;exact(yab (by lia)).symm
     | cons c u hw =>
      rw[zb5]at hz;cases hz
   rw[hv]at hR
   wp_walk
   exact⟨_,rfl,by simpa [Builtin.Tuple.tupleCompareSizes] using hR⟩
  case h =>
   exact⟨rfl,rfl,pa.toList,pb.toList,ns,ms,rfl,hi,hj,by lia,h⟩
end
section
variable{prog:AF}{w:AJ}{A:AK}{E:A9}{s:AE}
theorem tV{l:AA}{pa pb:AN}{ns:List Int}{Q:A9}(hl:IsTup s.heap l pa)(hb:IsTup s.heap b pb)(hi:IntsAre pa.toList ns)(hj:IntsAre pb.toList ms)
  (hu:A.units<cLine) (h:Q (.bool (HT.cm ms ns)) s):wpAny (model prog w) A (compareOp .Gt (.ref l) (.ref b)) Q E s:=by
 obtain⟨⟨cls,dd,data,sl⟩,ho,hc,n,hd⟩:=id hl;obtain⟨⟨cls2,dd2,data2,sl2⟩,ho2,hc2,n2,hd2⟩:=id hb;simp only at hc hd hc2 hd2;subst hc hd hc2 hd2;rw[<- rB]at h;exact ydw (op:=.Gt) ⟨_,ho,rfl⟩ ⟨_,ho2,rfl⟩ F.slot_tuple_gt F.entry_tuple_gt (F.args_tuple_gt_2 _ _) (oy l b pa pb n n2 dd dd2 sl sl2 ns ms hi hj)
  ⟨ho,ho2,show Value.bool (im ns ms)≠Value.notImplemented/\Q (.bool (im ns ms)) s from ⟨(λx=>nomatch x),h⟩⟩ hu
end
section
open L2
variable{X:Cx}
theorem fc{h h':AO}(p:IsTup h l xs)(k:∀ c o,h.get? c=some o->h'.get? c=some o):IsTup h' l xs:=by
 obtain⟨o,e,r⟩:=p;exact⟨o,k _ _ e,r⟩
theorem oR(hc:X.calm=true)(hu:X.A.units+1<cLine):cY X (.builtin "min") (λxs H Q=>∃ a b ns ms,xs=[.ref a,.ref b]/\SqT X.K H a (ns.map V.int)/\SqT X.K H b (ms.map V.int)/\Q (if HT.cm ms ns=true then .ref b else .ref a) H):=by
 intro pins s σ H xs us Q I r h;obtain⟨a,b,ns,ms,rfl,ha,hb,q⟩:=h;obtain⟨u,w',rfl,r1,r2⟩:=vals2 r;cases r1;cases r2;obtain⟨its,r1,p1,_⟩:=I.tuple ha;obtain⟨its2,r2,p2,_⟩:=I.tuple hb;refine Cy (bt:=HT.cm ms ns) (I.ok.hd hc) (λs' Q' E' k hq=>?_) λh' tk k=>⟨_,H,I.kept k,?_,q⟩
 ·exact HT.mw (A:=X.A.in1) (fc p2 k) (fc p1 k) (d0 r2) (d0 r1) hu hq
 ·cases HT.cm ms ns<;>rfl
theorem oS(hc:X.calm=true)(hu:X.A.units+1<cLine):cY X (.builtin "max") (λxs H Q=>∃ a b ns ms,xs=[.ref a,.ref b]/\SqT X.K H a (ns.map V.int)/\SqT X.K H b (ms.map V.int)/\Q (if HT.cm ns ms=true then .ref b else .ref a) H):=by
 intro pins s σ H xs us Q I r h;obtain⟨a,b,ns,ms,rfl,ha,hb,q⟩:=h;obtain⟨u,w',rfl,r1,r2⟩:=vals2 r;cases r1;cases r2;obtain⟨its,r1,p1,_⟩:=I.tuple ha;obtain⟨its2,r2,p2,_⟩:=I.tuple hb;refine Cz (bt:=HT.cm ns ms) (I.ok.hd hc) (λs' Q' E' k hq=>?_) λh' tk k=>⟨_,H,I.kept k,?_,q⟩
 ·exact tV (A:=X.A.in1) (fc p2 k) (fc p1 k) (d0 r2) (d0 r1) hu hq
 ·cases HT.cm ns ms<;>rfl
end
end BF
namespace BF
open PySem PySem.Spec PyProof.Rows L2
theorem lex2(x y z w:Int):HT.cm [x,y] [z,w]=(decide (x<z)||(decide (x=z)&&decide (y<w))):=by
 show(if x=z then (if y=w then false else decide (y<w)) else decide (x<z))=_;by_cases h:x=z
 ·rw[yad h,yab h,yaa (by lia:¬ x<z)]
  by_cases k:y=w
  ·rw[yad k,yaa (by lia:¬ y<w)];rfl
  ·rw[yac k];simp
 ·rw[yac h,yaa h];simp
theorem vp{x:Int}(h:HT.cm [x,y] [z,w]=true):HT.cm [z,w] [x,y]=false:=by
 rw[lex2]at h ⊢;simp at h ⊢
 lia
theorem d8{P:AF}{w:AJ}{K:A2}{mg:A5}{base:AO}{x qual:AL}{st:Stmt}{f:AA}{fd:AG}{N ps:AH}{k:Nat}{sp:Sp}(F:Fun K x qual st f fd)(S:az N ps (aj st))(len:∀ vs H Q E,sp vs H Q E->vs.length=ps.length)
  (hbody:∀ (cdv:AI) (A:AK) (outer:AS) (s:AE) (H:Hp) (vs:Ac) (Q:VK) (E:XK),ki k (A.deeper (envOfC qual (aj st) s.heap.objs.size f cdv))->sp vs H Q E ->
   ∃ t,PSs (lr (CXE P w) P w K mg base N qual (aj st) f cdv A outer s H E) (dB st) t/\t { nx:=λ_ H'=>Q .non H',rt:=Q } (iF N vs) H):ke P w K mg base (CXE P w) (k+1) f fd ps sp:=by
 obtain⟨oc,od,kV,doc,pm,an,cdv,ct,osl,rfl,lk,hcd⟩:=F.ex;exact Em lk hcd S len λA outer s H vs Q E hr hsp=>hbody cdv A outer s H vs Q E hr hsp
def qtr(p:Int×Int):Int×Int:=(-p.2,p.1)
def tW:Nat->Int×Int->Int×Int
 | 0,p=>p
 | n+1,p=>qtr (tW n p)
def mir(k:Nat)(p:Int×Int):Int×Int:=if 4<=k then (-p.1,p.2) else p
def aA(k:Nat)(p:Int×Int):Int×Int:=tW (k % 4) (mir k p)
def tabN(k:Nat)(p:Int×Int):Int×Int:=match k with
 | 0=>(p.1,p.2)
 | 1=>(0-p.2,p.1)
 | 2=>(0-p.1,0-p.2)
 | 3=>(p.2,0-p.1)
 | 4=>(0-p.1,p.2)
 | 5=>(0-p.2,0-p.1)
 | 6=>(p.1,0-p.2)
 | _=>(p.2,p.1)
theorem dG(h:k<8)(p:Int×Int):aA k p=tabN k p:=by
 obtain⟨x,y⟩:=p
 match k,h with
 | 0,_=>rfl
 | 1,_=>show(-y,x)=(0-y,x);rw[ybv]
 | 2,_=>show(-x,-y)=(0-x,0-y);rw[ybv,ybv]
 | 3,_=>show(- -y,-x)=(y,0-x);rw[ybv,Int.neg_neg]
 | 4,_=>show(-x,y)=(0-x,y);rw[ybv]
 | 5,_=>show(-y,-x)=(0-y,0-x);rw[ybv,ybv]
 | 6,_=>show(- -x,-y)=(x,0-y);rw[ybv,Int.neg_neg]
 | 7,_=>show(- -y,- -x)=(y,x);rw[Int.neg_neg,Int.neg_neg]
def two(H:Hp)(q:Addr)(p:Int×Int):Prop:=H q=some (.tup [.int p.1,.int p.2])
theorem eE{p:Int×Int}(h:two H q p):kj H (.ref q) (.tup [.int p.1,.int p.2]):=.tup h (.cons (.int _) (.cons (.int _) .nil))
theorem Fi{G:Prop}{A:Addr->Hp->Prop}(C:Addr->Hp->Prop)(main:(∀ q H',C q H'->A q H')->G)(last:∀ q H',C q H'->A q H'):G:=main last
end BF
namespace BF
open PySem PyProof.Rows
structure Ord(M:Model)(A:Around)(E:A9)(s:Shared)(kd:SortKind) where
 O:KeyOrd
 key:Keyed->O.α
 G:Keyed->Prop
 lt:∀ {st:SortSt} {x y:Keyed} {Q:Option Bool->SortSt->Prop},kindOf st=kd->G x->G y->Q (some (O.blt (key x) (key y))) st->wpS M A E s (lt' x y) Q st
section
variable{M:Model}{A:AK}{E:A9}{s:AE}{kd:SortKind}
def Ord.le(o:Ord M A E s kd)(x y:Keyed):Prop:=o.O.kle (o.key x) (o.key y)
def Ord.b(o:Ord M A E s kd)(x y:Keyed):Bool:=o.O.blt (o.key x) (o.key y)
theorem Ord.le_refl(o:Ord M A E s kd)(x:AV):o.le x x:=KeyOrd.kle_refl _
theorem Ord.le_trans(o:Ord M A E s kd){x:AV}(h:o.le x y)(k:o.le y z):o.le x z:=KeyOrd.kle_trans h k
theorem Ord.kF(o:Ord M A E s kd){x:AV}(h:o.b x y=true):o.le x y:=KeyOrd.kle_of_klt h
theorem Ord.kC(o:Ord M A E s kd){x:AV}(h:o.b x y=false):o.le y x:=h
theorem Ord.b_le(o:Ord M A E s kd){x:AV}(h:o.b x y=true)(k:o.le y z):o.b x z=true:=KeyOrd.klt_of_klt_of_kle h k
theorem Ord.le_b(o:Ord M A E s kd){x:AV}(h:o.le x y)(k:o.b y z=true):o.b x z=true:=KeyOrd.klt_of_kle_of_klt h k
theorem Ord.zk(o:Ord M A E s kd){x:AV}(h:o.le x y):o.b y x=false:=h
def Ord.up(o:Ord M A E s kd)(xs:Array Keyed)(lo hi:Nat):Prop:=∀ i j x y,lo<=i->i<=j->j<hi->xs[i]?=some x->xs[j]?=some y->o.le x y
def Ord.all(o:Ord M A E s kd)(xs:Array Keyed):Prop:=∀ (i:Nat) x,xs[i]?=some x->o.G x
theorem aV{xs:AD}{i:Nat}{x:AV}{Q:Keyed->SortSt->Prop}{st:AW}(e:xs[i]?=some x)(h:Q x st):wpS M A E s (elem' xs i) Q st:=by
 rw[elem'_eq,e];exact yar h
def gal:Bool->Keyed->Array Keyed->Nat->Nat->Nat->StateT SortSt Sem (Option Nat):=sortPriv% PySem.Builtin.gallop
def byd(left:Bool)(key:Keyed)(xs:Array Keyed)(base i:Nat):StateT SortSt Sem (Option Bool):=do
 let x <- elem' xs (base+i)
 if left then lt' x key else return (<- lt' key x).map (!·)
def jw(left:Bool)(key:Keyed)(xs:Array Keyed)(base n l r:Nat):StateT SortSt Sem (Option Nat):=do
 let mut l:=l
 let mut r:=r
 for _ in [0:n] do
  if l ≥ r then break
  let some more <- byd left key xs base (l+(r-l) / 2) | return none
  if more then l:=l+(r-l) / 2+1 else r:=l+(r-l) / 2
 return some r
def zm(left:Bool)(key:Keyed)(xs:Array Keyed)(base n hint:Nat):StateT SortSt Sem (Option Nat):=do
 let mut p:=0
 let mut q:=1
 for _ in [0:n] do
  if q ≥ n-hint then break
  let some more <- byd left key xs base (hint+q) | return none
  if !more then break
  p:=q
  q:=2*q+1
 jw left key xs base n (hint+p+1) (hint+min q (n-hint))
def zo(left:Bool)(key:Keyed)(xs:Array Keyed)(base n hint:Nat):StateT SortSt Sem (Option Nat):=do
 let mut p:=0
 let mut q:=1
 for _ in [0:n] do
  if q ≥ hint+1 then break
  let some more <- byd left key xs base (hint-q) | return none
  if more then break
  p:=q
  q:=2*q+1
 jw left key xs base n (hint+1-min q (hint+1)) (hint-p)
theorem Fj(left:Bool)(key:AV)(xs:AD)(base n hint:Nat):gal left key xs base n hint=(do
  let some right <- byd left key xs base hint | return none
  if right then zm left key xs base n hint else zo left key xs base n hint):=rfl
def Ord.byB(o:Ord M A E s kd)(left:Bool)(key x:Keyed):Bool:=if left then o.b x key else !o.b key x
theorem jL(o:Ord M A E s kd){left:Bool}{key x:AV}{xs:AD}{base i:Nat}{Q:Option Bool->SortSt->Prop}{st:AW}(hk:kindOf st=kd)(gk:o.G key)(gx:o.G x)(e:xs[base+i]?=some x)
  (h:Q (some (o.byB left key x)) st):wpS M A E s (byd left key xs base i) Q st:=by
 unfold byd;refine yaq (aV e ?_);cases left with
 | true=>exact o.lt hk gx gk h
 | false=>exact yaq (o.lt hk gk gx (yar h))
theorem gK(o:Ord M A E s kd){left:Bool}{key:AV}{xs:AD}{base n hint:Nat}{Q:Option Nat->SortSt->Prop}{st:AW}(hk:kindOf st=kd)(gk:o.G key)(ga:o.all xs)(hsz:base+n<=xs.size)(hh:hint<n)
  (up:o.up xs base (base+n)) (h:∀ k,k<=n->(∀ i x,i<k->xs[base+i]?=some x->o.byB left key x=true)->(∀ i x,k<=i->i<n->xs[base+i]?=some x->o.byB left key x=false)->Q (some k) st) :
  wpS M A E s (gal left key xs base n hint) Q st:=by
 rw[Fj];have at':∀ i,i<n->∃ x,xs[base+i]?=some x:=λi hi=>⟨_,getElem?_pos _ _ (by lia)⟩
 have mono:∀ i j x y,i<=j->j<n->xs[base+i]?=some x->xs[base+j]?=some y->o.byB left key y=true->o.byB left key x=true:=λi j x y hij hj ex ey hb=>by
  have le:=up (base+i) (base+j) x y (by lia) (by lia) (by lia) ex ey;unfold Ord.byB at hb ⊢;cases left with
  | true=>exact o.le_b le hb
  | false =>
   have hb':o.b key y=false:=by simpa using hb
   have:o.b key x=false:=o.zk (o.le_trans le hb');simp[this]
 have down:∀ m,m<n->(∃ x,xs[base+m]?=some x/\o.byB left key x=true)->∀ i x,i<m+1->xs[base+i]?=some x->o.byB left key x=true:=λm hm ⟨y,ey,hy⟩ i x hi ex=>mono i m x y (by lia) hm ex ey hy
 have upp:∀ m,(∃ x,xs[base+m]?=some x/\o.byB left key x=false)->∀ i x,m<=i->i<n->xs[base+i]?=some x->o.byB left key x=false:=λm ⟨y,ey,hy⟩ i x hi hn ex=>by
  cases hb:o.byB left key x with
  | false=>rfl
  | true=>rw[mono m i y x hi hn ey ex hb]at hy;cases hy
 have fin:∀ l r,l<=r->r<=n->(∀ i x,i<l->xs[base+i]?=some x->o.byB left key x=true)->(∀ i x,r<=i->i<n->xs[base+i]?=some x->o.byB left key x=false)->wpS M A E s (jw left key xs base n l r) Q st:=λl r hlr hrn h1 h2=>by
  unfold jw;refine yaq (ybb (ybf (I:=λt c st'=>st'=st/\∃ l r,c=(none,l,r)/\l<=r/\r<=n/\r-l<=n-t/\(∀ i x,i<l->xs[base+i]?=some x->o.byB left key x=true)/\(∀ i x,r<=i->i<n->xs[base+i]?=some x->o.byB left key x=false))
   (Q:=λc st'=>st'=st/\∃ l,c=(none,l,l)/\l<=n/\(∀ i x,i<l->xs[base+i]?=some x->o.byB left key x=true)/\(∀ i x,l<=i->i<n->xs[base+i]?=some x->o.byB left key x=false)) ?step ?fin ⟨rfl,l,r,rfl,hlr,hrn,by grind,h1,h2⟩) ?post)
  case post =>
   rintro c st' ⟨rfl,l,rfl,hl,a1,a2⟩;exact yar (h l hl a1 a2)
  case fin =>
   rintro c st' ⟨rfl,l,r,rfl,h3,h4,h5,a1,a2⟩;have:l=r:=by grind
   subst this;exact⟨rfl,l,rfl,h4,a1,a2⟩
  case step =>
   rintro t c st' _ ht ⟨rfl,l,r,rfl,h3,h4,h5,a1,a2⟩;dsimp only;by_cases hge:l ≥ r
   ·rw[yad hge]
    have:l=r:=by lia
    subst this;exact yar ⟨rfl,l,rfl,h4,a1,a2⟩
   ·rw[yac hge]
    obtain⟨y,ey⟩:=at' (l+(r-l) / 2) (by grind);refine yaq (jL o hk gk (ga _ _ ey) ey ?_);cases hb:o.byB left key y with
    | true =>
     refine yar ⟨rfl,l+(r-l) / 2+1,r,rfl,by grind,h4,by grind,λi x hi ex=>down _ (by grind) ⟨y,ey,hb⟩ i x hi ex,a2⟩
    | false =>
     refine yar ⟨rfl,l,l+(r-l) / 2,rfl,by lia,by grind,by grind,a1,λi x hi hn ex=>upp _ ⟨y,ey,hb⟩ i x hi hn ex⟩
 obtain⟨xh,eh⟩:=at' hint hh;refine yaq (jL o hk gk (ga _ _ eh) eh ?_);cases hb:o.byB left key xh with
 | true =>
  show wpS M A E s (zm left key xs base n hint) Q st;unfold zm;refine yaq (ybb (ybf (I:=λt c st'=>st'=st/\∃ p q,c=(none,p,q)/\p<q/\t<q/\hint+p<n/\∃ x,xs[base+(hint+p)]?=some x/\o.byB left key x=true)
   (Q:=λc st'=>st'=st/\∃ p q,c=(none,p,q)/\p<q/\hint+p<n/\(∃ x,xs[base+(hint+p)]?=some x/\o.byB left key x=true)/\(n-hint<=q\/(hint+q<n/\∃ x,xs[base+(hint+q)]?=some x/\o.byB left key x=false))) ?step ?fin ⟨rfl,0,1,rfl,by lia,by omega,by omega,xh,eh,hb⟩) ?post)
  case post =>
   rintro c st' ⟨rfl,p,q,rfl,h1,h2,a1,a2⟩;show wpS M A E s (jw left key xs base n (hint+p+1) (hint+min q (n-hint))) Q _;refine fin _ _ ?_ ?_ (λi x hi ex=>down _ h2 a1 i x hi ex) λi x hi hn ex=>?_
   ·rcases a2 with z | ⟨z,_⟩<;>omega
   ·omega
   ·rcases a2 with z | ⟨z,y⟩
    ·omega
    ·exact upp _ y i x (by omega) hn ex
  case fin =>
   rintro c st' ⟨rfl,p,q,rfl,h1,h2,h3,a1⟩;exact⟨rfl,p,q,rfl,h1,h3,a1,.inl (by grind)⟩
  case step =>
   rintro t c st' _ ht ⟨rfl,p,q,rfl,h1,h2,h3,a1⟩;dsimp only;by_cases hge:q ≥ n-hint
   ·rw[yad hge]
    exact yar ⟨rfl,p,q,rfl,h1,h3,a1,.inl hge⟩
   ·rw[yac hge]
    obtain⟨y,ey⟩:=at' (hint+q) (by grind);refine yaq (jL o hk gk (ga _ _ ey) ey ?_);cases hy:o.byB left key y with
    | true=>exact yar ⟨rfl,q,2*q+1,rfl,by lia,by lia,by omega,y,ey,hy⟩
    | false=>exact yar ⟨rfl,p,q,rfl,h1,h3,a1,.inr ⟨by omega,y,ey,hy⟩⟩
 | false =>
  show wpS M A E s (zo left key xs base n hint) Q st;unfold zo;refine yaq (ybb (ybf (I:=λt c st'=>st'=st/\∃ p q,c=(none,p,q)/\p<q/\t<q/\p<=hint/\∃ x,xs[base+(hint-p)]?=some x/\o.byB left key x=false)
   (Q:=λc st'=>st'=st/\∃ p q,c=(none,p,q)/\p<q/\p<=hint/\(∃ x,xs[base+(hint-p)]?=some x/\o.byB left key x=false)/\(hint+1<=q\/(q<=hint/\∃ x,xs[base+(hint-q)]?=some x/\o.byB left key x=true))) ?step ?fin ⟨rfl,0,1,rfl,by omega,by omega,by lia,xh,eh,hb⟩) ?post)
  case post =>
   rintro c st' ⟨rfl,p,q,rfl,h1,h2,a1,a2⟩;show wpS M A E s (jw left key xs base n (hint+1-min q (hint+1)) (hint-p)) Q _;refine fin _ _ ?_ ?_ (λi x hi ex=>?_) λi x hi hn ex=>upp _ a1 i x hi hn ex
   ·rcases a2 with z | ⟨z,_⟩<;>omega
   ·grind
   ·rcases a2 with z | ⟨z,y⟩
    ·omega
    ·exact down _ (by grind) y i x (by grind) ex
  case fin =>
   rintro c st' ⟨rfl,p,q,rfl,h1,h2,h3,a1⟩;exact⟨rfl,p,q,rfl,h1,h3,a1,.inl (by lia)⟩
  case step =>
   rintro t c st' _ ht ⟨rfl,p,q,rfl,h1,h2,h3,a1⟩;dsimp only;by_cases hge:q ≥ hint+1
   ·rw[yad hge]
    exact yar ⟨rfl,p,q,rfl,h1,h3,a1,.inl hge⟩
   ·rw[yac hge]
    obtain⟨y,ey⟩:=at' (hint-q) (by grind);refine yaq (jL o hk gk (ga _ _ ey) ey ?_);cases hy:o.byB left key y with
    | false=>exact yar ⟨rfl,q,2*q+1,rfl,by omega,by omega,by lia,y,ey,hy⟩
    | true=>exact yar ⟨rfl,p,q,rfl,h1,h3,a1,.inr ⟨by omega,y,ey,hy⟩⟩
structure Ord.Mg(o:Ord M A E s kd)(la lb out:List Keyed)(i j:Nat):Prop where
 perm:out.Perm (la.take i++lb.take j)
 up:out.Pairwise o.le
 la:∀ x∈out,∀ y∈la.drop i,o.le x y
 lb:∀ x∈out,∀ y∈lb.drop j,o.le x y
def Ord.kU(o:Ord M A E s kd)(la lb out:List Keyed):Prop:=out.Perm (la++lb)/\out.Pairwise o.le
variable{o:Ord M A E s kd}{la lb out:AU}{i j k:Nat}
theorem Ord.Mg.zero:o.Mg la lb [] 0 0:=⟨by simp,.nil,by simp,by simp⟩
theorem oz{l:AU}{i:Nat}(h:x∈(l.drop i).take k):x∈l.drop i:=zbl h
theorem Ord.Mg.mP(m:o.Mg la lb out i j)(ua:la.Pairwise o.le)(h:∀ x∈(la.drop i).take k,∀ y∈lb.drop j,o.le x y):o.Mg la lb (out++(la.drop i).take k) (i+k) j:=by
 have e:la.take (i+k)=la.take i++(la.drop i).take k:=List.take_add;have ud:(la.drop i).Pairwise o.le:=ua.sublist (zbv _ _);have ed:(la.drop i).take k++la.drop (i+k)=la.drop i:=by rw[<- List.drop_drop];exact zay k _
 refine⟨?_,?_,?_,?_⟩
 ·rw[e]
  refine(m.perm.append_right _).trans ?_;rw[zah,zah];exact ybq _ zbi
 ·exact zas.mpr ⟨m.up,ud.sublist (zbm _ _),λx hx y hy=>m.la x hx y (oz hy)⟩
 ·intro x hx y hy
  rcases zaj.mp hx with hx | hx
  ·exact m.la x hx y (by rw[<- ed];exact zau _ hy)
  ·rw[<- ed]at ud
   exact(zas.mp ud).2.2 x hx y hy
 ·intro x hx y hy
  rcases zaj.mp hx with hx | hx
  ·exact m.lb x hx y hy
  ·exact h x hx y hy
theorem Ord.Mg.swap(m:o.Mg la lb out i j):o.Mg lb la out j i:=⟨m.perm.trans zbi,m.up,m.lb,m.la⟩
theorem Ord.Mg.rC(m:o.Mg la lb out i j)(ub:lb.Pairwise o.le)(h:∀ x∈(lb.drop j).take k,∀ y∈la.drop i,o.le x y):o.Mg la lb (out++(lb.drop j).take k) i (j+k):=(m.swap.mP ub h).swap
theorem Ord.Mg.endB(m:o.Mg la lb out i j)(ua:la.Pairwise o.le)(ub:lb.Pairwise o.le)(h:∀ x∈lb.drop j,∀ y∈la.drop i,o.le x y):o.kU la lb (out++lb.drop j++la.drop i):=by
 refine⟨?_,?_⟩
 ·refine((m.perm.append_right _).append_right _).trans ?_
  have e1:la=la.take i++la.drop i:=(zay _ _).symm;have e2:lb=lb.take j++lb.drop j:=(zay _ _).symm;refine List.Perm.trans ?_ (show(la.take i++la.drop i++(lb.take j++lb.drop j)).Perm (la++lb) by rw[<- e1,<- e2]);simp only[zah];refine ybq _ ?_;rw[<- zah];exact zbi
 ·have ua':(la.drop i).Pairwise o.le:=ua.sublist (zbv _ _)
  have ub':(lb.drop j).Pairwise o.le:=ub.sublist (zbv _ _);refine zas.mpr ⟨zas.mpr ⟨m.up,ub',m.lb⟩,ua',λx hx y hy=>?_⟩;rcases zaj.mp hx with hx | hx
  ·exact m.la x hx y hy
  ·exact h x hx y hy
theorem Ord.kU.swap(m:o.kU la lb out):o.kU lb la out:=⟨m.1.trans zbi,m.2⟩
theorem Ord.Mg.endA(m:o.Mg la lb out i j)(ua:la.Pairwise o.le)(ub:lb.Pairwise o.le)(h:∀ x∈la.drop i,∀ y∈lb.drop j,o.le x y):o.kU la lb (out++la.drop i++lb.drop j):=(m.swap.endB ub ua h).swap
end
theorem Eu{m:StateT SortSt Sem α}{f:α->StateT SortSt Sem β}(h:m=m')(k:f=f'):m>>=f=m'>>=f':=by rw[h,k]
def setG(g:Nat):StateT SortSt Sem Unit:=modify λst=>SortSt.mk' (kindOf st) (arrOf st) (pendingOf st) g (failedOf st)
section
abbrev MT1:=Option (Array Keyed)×Array Keyed×Nat×Nat×Nat×Nat
abbrev MT2:=Option (Array Keyed)×Array Keyed×Nat×Nat×Nat×Nat×Nat
abbrev MT0:=Option (Array Keyed)×Array Keyed×Nat×Nat×Nat
variable(u v:AD)
def loU(r:Array Keyed)(p q:Nat):Array Keyed:=r++u.extract p u.size++v.extract q v.size
def loV(r:Array Keyed)(p q:Nat):Array Keyed:=r++v.extract q v.size++u.extract p u.size
def zp(g:Nat)(t:MT1):StateT SortSt Sem (ForInStep MT1):=do
 let y <- elem' v t.2.2.2.1
 let x <- elem' u t.2.2.1
 match <- lt' y x with
 | some less =>
  if less then do
   let y <- elem' v t.2.2.2.1
   if t.2.2.2.1+1==v.size then pure (.done (some (loU u v (t.2.1.push y) t.2.2.1 (t.2.2.2.1+1)),t.2.1.push y,t.2.2.1,t.2.2.2.1+1,0,t.2.2.2.2.2+1))
   else if t.2.2.2.2.2+1 ≥ g then pure (.done (none,t.2.1.push y,t.2.2.1,t.2.2.2.1+1,0,t.2.2.2.2.2+1))
   else pure (.yield (none,t.2.1.push y,t.2.2.1,t.2.2.2.1+1,0,t.2.2.2.2.2+1))
  else do
   let x <- elem' u t.2.2.1
   if t.2.2.1+1+1==u.size then pure (.done (some (loV u v (t.2.1.push x) (t.2.2.1+1) t.2.2.2.1),t.2.1.push x,t.2.2.1+1,t.2.2.2.1,t.2.2.2.2.1+1,0))
   else if t.2.2.2.2.1+1 ≥ g then pure (.done (none,t.2.1.push x,t.2.2.1+1,t.2.2.2.1,t.2.2.2.2.1+1,0))
   else pure (.yield (none,t.2.1.push x,t.2.2.1+1,t.2.2.2.1,t.2.2.2.2.1+1,0))
 | _=>pure (.done (some (loU u v t.2.1 t.2.2.1 t.2.2.2.1),t.2.1,t.2.2.1,t.2.2.2.1,t.2.2.2.2.1,t.2.2.2.2.2))
def lo4(r:Array Keyed)(p q g cu cv:Nat):StateT SortSt Sem (ForInStep MT2):=do
 let x <- elem' u p
 if p+1+1==u.size then pure (.done (some (loV u v (r.push x) (p+1) q),r.push x,p+1,q,g,cu,cv))
 else if cu<7&&cv<7 then pure (.done (none,r.push x,p+1,q,g,cu,cv))
 else pure (.yield (none,r.push x,p+1,q,g,cu,cv))
def lo3(r:Array Keyed)(p q g cu cv:Nat):StateT SortSt Sem (ForInStep MT2):=do
 let x <- elem' u p
 match <- gal true x v q (v.size-q) 0 with
 | some k =>
  if k>0 then
   if q+k==v.size then pure (.done (some (loU u v (r++v.extract q (q+k)) p (q+k)),r++v.extract q (q+k),p,q+k,g,cu,k))
   else lo4 u v (r++v.extract q (q+k)) p (q+k) g cu k
  else lo4 u v r p q g cu k
 | _=>pure (.done (some (loU u v r p q),r,p,q,g,cu,cv))
def lo2(r:Array Keyed)(p q g cu cv:Nat):StateT SortSt Sem (ForInStep MT2):=do
 let y <- elem' v q
 if q+1==v.size then pure (.done (some (loU u v (r.push y) p (q+1)),r.push y,p,q+1,g,cu,cv))
 else lo3 u v (r.push y) p (q+1) g cu cv
def lo1(r:Array Keyed)(p q g cu cv:Nat):StateT SortSt Sem (ForInStep MT2):=do
 setG g
 let y <- elem' v q
 match <- gal false y u p (u.size-p) 0 with
 | some k =>
  if k>0 then
   if p+k+1==u.size then pure (.done (some (loV u v (r++u.extract p (p+k)) (p+k) q),r++u.extract p (p+k),p+k,q,g,k,cv))
   else if p+k==u.size then pure (.done (some (loU u v (r++u.extract p (p+k)) (p+k) q),r++u.extract p (p+k),p+k,q,g,k,cv))
   else lo2 u v (r++u.extract p (p+k)) (p+k) q g k cv
  else lo2 u v r p q g k cv
 | _=>pure (.done (some (loU u v r p q),r,p,q,g,cu,cv))
def lo0(t:MT2):StateT SortSt Sem (ForInStep MT2) :=
 if t.2.2.2.2.1>1 then lo1 u v t.2.1 t.2.2.1 t.2.2.2.1 (t.2.2.2.2.1-1) t.2.2.2.2.2.1 t.2.2.2.2.2.2 else lo1 u v t.2.1 t.2.2.1 t.2.2.2.1 t.2.2.2.2.1 t.2.2.2.2.2.1 t.2.2.2.2.2.2
def zq(t:MT0):StateT SortSt Sem (ForInStep MT0):=do
 let t1 <- forIn [0:u.size+v.size] ((none,t.2.1,t.2.2.1,t.2.2.2.1,0,0):MT1) (λ_ t1=>zp u v t.2.2.2.2 t1)
 match t1.1 with
 | some z=>pure (.done (some z,t1.2.1,t1.2.2.1,t1.2.2.2.1,t.2.2.2.2))
 | none=>do
  rule "list.sort.gallop"
  let t2 <- forIn [0:u.size+v.size] ((none,t1.2.1,t1.2.2.1,t1.2.2.2.1,t.2.2.2.2+1,t1.2.2.2.2.1,t1.2.2.2.2.2):MT2) (λ_ t2=>lo0 u v t2)
  match t2.1 with
  | some z=>pure (.done (some z,t2.2.1,t2.2.2.1,t2.2.2.2.1,t2.2.2.2.2.1))
  | none=>do
   setG (t2.2.2.2.2.1+1)
   pure (.yield (none,t2.2.1,t2.2.2.1,t2.2.2.2.1,t2.2.2.2.2.1+1))
def mlo:Array Keyed->Array Keyed->StateT SortSt Sem (Array Keyed):=sortPriv% PySem.Builtin.mergeLo
theorem Fl:mlo u v=(do
  rule "list.sort.merge-lo"
  let y <- elem' v 0
  if 1==v.size then pure (loU u v #[y] 0 1)
  else if 0+1==u.size then pure (loV u v #[y] 0 1)
  else do
   let st <- get
   let t <- forIn [0:u.size+v.size] ((none,#[y],0,1,gallopOf st):MT0) (λ_ t=>zq u v t)
   match t.1 with
   | some z=>pure z
   | none=>unsupported "internal:list.sort.merge-bound"):=by kernel_rfl
end
section
variable{M:Model}{A:AK}{E:A9}{s:AE}{kd:SortKind}
structure Gs(st st':SortSt):Prop where
 k:kindOf st'=kindOf st
 a:arrOf st'=arrOf st
 p:pendingOf st'=pendingOf st
 f:failedOf st'=failedOf st
theorem Gs.refl(st:AW):Gs st st:=⟨rfl,rfl,rfl,rfl⟩
theorem iD{st:AW}{Q:Unit->SortSt->Prop}(h:Gs st st')(k:∀ st2,Gs st st2->Q () st2):wpS M A E s (setG g) Q st' :=
 wpS_modify (k _ ⟨h.k,h.a,h.p,h.f⟩)
theorem xt{u:AD}:(u.extract p u.size).toList=u.toList.drop p:=by
 rw[yd1];show(u.toList.drop p).take (u.size-p)=_;exact zav (by simp)
theorem xk{u:AD}{p:Nat}:(u.extract p (p+k)).toList=(u.toList.drop p).take k:=by simp[yd1,List.extract]
theorem cN{u:AD}(h:p<u.size):∃ x,u[p]?=some x:=⟨u[p],getElem?_pos u p h⟩
theorem rD{u:AD}(e:u[p]?=some x):(u.toList.drop p).take 1=[x]:=by
 have e':u.toList[p]?=some x:=by simpa using e
 obtain⟨h,rfl⟩:=zaf.mp e';rw[ydd h];rfl
theorem du{u:AD}:y∈u.toList.drop p↔∃ i,p<=i/\u[i]?=some y:=by
 rw[zax];constructor
 ·rintro⟨n,e⟩
  rw[zb7]at e;exact⟨p+n,by lia,by simpa using e⟩
 ·rintro⟨i,hi,e⟩
  exact⟨i-p,by rw[zb7,show p+(i-p)=i by grind];simpa using e⟩
theorem vq{o:Ord M A E s kd}{u:AD}(uu:u.toList.Pairwise o.le){i:Nat}{x:AV}(hij:i<=j)(ex:u[i]?=some x)(ey:u[j]?=some y):o.le x y:=by
 have ex':u.toList[i]?=some x:=by simpa using ex
 have ey':u.toList[j]?=some y:=by simpa using ey
 obtain⟨h1,rfl⟩:=zaf.mp ex';obtain⟨h2,rfl⟩:=zaf.mp ey';rcases Nat.lt_or_eq_of_le hij with h | h
 ·exact zbu.mp uu i j h1 h2 h
 ·subst h;exact o.le_refl _
theorem vt{o:Ord M A E s kd}{u:AD}(uu:u.toList.Pairwise o.le)(lo hi:Nat):o.up u lo hi:=λi j x y _ h _ ex ey=>vq uu h ex ey
theorem j9{o:Ord M A E s kd}{u:AD}(uu:u.toList.Pairwise o.le)(e:u[p]?=some x):∀ y∈u.toList.drop p,o.le x y:=λy hy=>by
 obtain⟨i,hi,ey⟩:=du.mp hy;exact vq uu hi e ey
section
variable(o:Ord M A E s kd)(u v:AD)
structure jg:Prop where
 gu:o.all u
 gv:o.all v
 uu:u.toList.Pairwise o.le
 uv:v.toList.Pairwise o.le
 h2:∀ x y,x∈v.toList->u[u.size-1]?=some y->o.le x y
def lN(r:Array Keyed)(p q:Nat):Prop:=o.Mg u.toList v.toList r.toList p q/\p+1<u.size/\q<v.size
def Res(z:Array Keyed):Prop:=o.kU u.toList v.toList z.toList
end
variable{o:Ord M A E s kd}{u v:AD}{r:AD}{p q:Nat}
theorem Ord.Mg.oU(m:o.Mg u.toList v.toList r.toList p q)(uu:u.toList.Pairwise o.le)(e:u[p]?=some x)(h:∀ y∈v.toList.drop q,o.le x y):o.Mg u.toList v.toList (r.push x).toList (p+1) q:=by
 have:=m.mP (k:=1) uu (by rw[rD e];intro a ha y hy;rw[zac.mp ha];exact h y hy);rw[rD e]at this;simpa using this
theorem Ord.Mg.oV(m:o.Mg u.toList v.toList r.toList p q)(uv:v.toList.Pairwise o.le)(e:v[q]?=some y)(h:∀ x∈u.toList.drop p,o.le y x):o.Mg u.toList v.toList (r.push y).toList p (q+1):=by
 have:=m.rC (k:=1) uv (by rw[rD e];intro a ha y hy;rw[zac.mp ha];exact h y hy);rw[rD e]at this;simpa using this
theorem zr(m:o.Mg u.toList v.toList r.toList p q)(uu:u.toList.Pairwise o.le)(uv:v.toList.Pairwise o.le)(h:u.size<=p\/v.size<=q):Res o u v (loU u v r p q):=by
 unfold Res loU;rw[zao,zao,xt,xt];refine m.endA uu uv λx hx y hy=>?_
 rcases h with h | h
 ·rw[zb9 (by simpa using h)]at hx;cases hx
 ·rw[zb9 (by simpa using h)]at hy;cases hy
theorem resV(L:jg o u v)(m:o.Mg u.toList v.toList r.toList p q)(h:p+1=u.size):Res o u v (loV u v r p q):=by
 unfold Res loV;rw[zao,zao,xt,xt];refine m.endB L.uu L.uv λx hx y hy=>?_
 obtain⟨i,hi,ey⟩:=du.mp hy;have hi':i<u.size:=by
  rcases Nat.lt_or_ge i u.size with z | z
  ·exact z
  ·rw[getElem?_neg _ _ (by omega)]at ey;cases ey
 have:i=u.size-1:=by lia
 subst this;exact L.h2 x y (yd2 hx) ey
def lp(u v:Array Keyed)(o:Ord M A E s kd)(c:Nat):ForInStep MT1->Prop
 | .done (some z,_)=>Res o u v z
 | .done (none,r,p,q,_)=>lN o u v r p q/\c<p+q
 | .yield (some _,_)=>False
 | .yield (none,r,p,q,_)=>lN o u v r p q/\c<p+q
theorem xy(L:jg o u v){g a b:Nat}{st:AW}(hk:kindOf st=kd)(l:lN o u v r p q):wpS M A E s (zp u v g (none,r,p,q,a,b)) (λt st'=>st'=st/\lp u v o (p+q) t) st:=by
 obtain⟨m,hp,hq⟩:=l;obtain⟨x,ex⟩:=cN (u:=u) (p:=p) (by lia);obtain⟨y,ey⟩:=cN hq;unfold zp;refine yaq (aV ey (yaq (aV ex (yaq (o.lt hk (L.gv _ _ ey) (L.gu _ _ ex) ?_)))));dsimp only;cases hb:o.O.blt (o.key y) (o.key x) with
 | true =>
  refine yaq (aV ey ?_);have m':=m.oV L.uv ey λz hz=>o.le_trans (o.kF hb) (j9 L.uu ex z hz)
  by_cases h1:q+1=v.size
  ·rw[yad (by simpa using h1)]
   exact yar ⟨rfl,zr m' L.uu L.uv (.inr (by lia))⟩
  ·rw[yac (by simpa using h1)]
   split
   ·exact yar ⟨rfl,⟨m',hp,by lia⟩,by lia⟩
   ·exact yar ⟨rfl,⟨m',hp,by omega⟩,by omega⟩
 | false =>
  refine yaq (aV ex ?_);have m':=m.oU L.uu ex λz hz=>o.le_trans (o.kC hb) (j9 L.uv ey z hz)
  by_cases h1:p+1+1=u.size
  ·rw[yad (by simpa using h1)]
   exact yar ⟨rfl,resV L m' h1⟩
  ·rw[yac (by simpa using h1)]
   split
   ·exact yar ⟨rfl,⟨m',by lia,hq⟩,by lia⟩
   ·exact yar ⟨rfl,⟨m',by omega,hq⟩,by omega⟩
end
section
variable{M:Model}{A:AK}{E:A9}{s:AE}{kd:SortKind}{o:Ord M A E s kd}{u v:AD}{r:AD}{p q g cu cv c:Nat}{st:AW}
theorem f8{u:AD}{p:Nat}(h:y∈(u.toList.drop p).take k):∃ i,i<k/\u[p+i]?=some y:=by
 obtain⟨n,e⟩:=zax.mp h;rw[zb8]at e;split at e
 ·rw[zb7]at e
  exact⟨n,by assumption,by simpa using e⟩
 ·cases e
theorem rE{u:AD}(e:u[i]?=some y):i<u.size:=by
 rcases Nat.lt_or_ge i u.size with z | z
 ·exact z
 ·rw[getElem?_neg u i (by lia)]at e;cases e
def gp(u v:Array Keyed)(o:Ord M A E s kd)(c:Nat):ForInStep MT2->Prop
 | .done (some z,_)=>Res o u v z
 | .done (none,r,p,q,_)=>lN o u v r p q/\c<p+q
 | .yield (some _,_)=>False
 | .yield (none,r,p,q,_)=>lN o u v r p q/\c<p+q
theorem vx(L:jg o u v)(m:o.Mg u.toList v.toList r.toList p q)(hp:p+1<u.size)(hq:q<v.size)(hc:c<=p+q)(ex:u[p]?=some x)(hx:∀ y∈v.toList.drop q,o.le x y) :
  wpS M A E s (lo4 u v r p q g cu cv) (λt st'=>st'=st/\gp u v o c t) st:=by
 unfold lo4;refine yaq (aV ex ?_);have m':=m.oU L.uu ex hx;by_cases h1:p+1+1=u.size
 ·rw[yad (by simpa using h1)]
  exact yar ⟨rfl,resV L m' h1⟩
 ·rw[yac (by simpa using h1)]
  split
  ·exact yar ⟨rfl,⟨m',by lia,hq⟩,by lia⟩
  ·exact yar ⟨rfl,⟨m',by omega,hq⟩,by omega⟩
theorem CA(L:jg o u v)(hk:kindOf st=kd)(m:o.Mg u.toList v.toList r.toList p q)(hp:p+1<u.size)(hq:q<v.size)(hc:c<=p+q) :
  wpS M A E s (lo3 u v r p q g cu cv) (λt st'=>st'=st/\gp u v o c t) st:=by
 unfold lo3;obtain⟨x,ex⟩:=cN (u:=u) (p:=p) (by lia);refine yaq (aV ex ?_);refine yaq (gK o hk (L.gu _ _ ex) L.gv (by grind) (by grind) (vt L.uv _ _) λk hkn h1 h2=>?_);have rest:∀ y∈v.toList.drop (q+k),o.le x y:=λy hy=>by
  obtain⟨i,hi,ey⟩:=du.mp hy;have:=rE ey;exact o.kC (h2 (i-q) y (by lia) (by lia) (by rw[show q+(i-q)=i by lia];exact ey))
 dsimp only;split
 ·have m':=m.rC (k:=k) L.uv λa ha y hy=>by
   obtain⟨i,hi,ea⟩:=f8 ha;exact o.le_trans (o.kF (h1 i a hi ea)) (j9 L.uu ex y hy)
  have m'':o.Mg u.toList v.toList (r++v.extract q (q+k)).toList p (q+k):=by rw[zao,xk];exact m'
  by_cases h3:q+k=v.size
  ·rw[yad (by simpa using h3)]
   exact yar ⟨rfl,zr m'' L.uu L.uv (.inr (by lia))⟩
  ·rw[yac (by simpa using h3)]
   exact vx L m'' hp (by grind) (by lia) ex rest
 ·have:k=0:=by lia
  subst this;exact vx L m hp hq hc ex rest
theorem vy(L:jg o u v)(hk:kindOf st=kd)(m:o.Mg u.toList v.toList r.toList p q)(hp:p+1<u.size)(hq:q<v.size)(hc:c<=p+q)(ey:v[q]?=some y)(hy:∀ x∈u.toList.drop p,o.le y x) :
  wpS M A E s (lo2 u v r p q g cu cv) (λt st'=>st'=st/\gp u v o c t) st:=by
 unfold lo2;refine yaq (aV ey ?_);have m':=m.oV L.uv ey hy;by_cases h1:q+1=v.size
 ·rw[yad (by simpa using h1)]
  exact yar ⟨rfl,zr m' L.uu L.uv (.inr (by lia))⟩
 ·rw[yac (by simpa using h1)]
  exact CA L hk m' hp (by lia) (by lia)
theorem vA(L:jg o u v)(hs:Gs st0 st)(hk:kindOf st0=kd)(l:lN o u v r p q) :
  wpS M A E s (lo1 u v r p q g cu cv) (λt st'=>Gs st0 st'/\gp u v o (p+q) t) st:=by
 obtain⟨m,hp,hq⟩:=l;unfold lo1;refine yaq (iD hs λst2 hs2=>?_);have hk2:kindOf st2=kd:=hs2.k.trans hk;obtain⟨y,ey⟩:=cN hq;refine yaq (aV ey ?_);refine yaq (gK o hk2 (L.gv _ _ ey) L.gu (by grind) (by grind) (vt L.uu _ _) λk hkn h1 h2=>?_);have rest:∀ x∈u.toList.drop (p+k),o.le y x:=λx hx=>by
  obtain⟨i,hi,ex⟩:=du.mp hx;have:=rE ex;have z:=h2 (i-p) x (by lia) (by lia) (by rw[show p+(i-p)=i by lia];exact ex);exact o.kF (by simpa [Ord.byB] using z)
 dsimp only;split
 ·have m':=m.mP (k:=k) L.uu λa ha b hb=>by
   obtain⟨i,hi,ea⟩:=f8 ha;have z:=h1 i a hi ea;have z':o.b y a=false:=by simpa [Ord.byB] using z
   exact o.le_trans (o.kC z') (j9 L.uv ey b hb)
  have m'':o.Mg u.toList v.toList (r++u.extract p (p+k)).toList (p+k) q:=by rw[zao,xk];exact m'
  by_cases h3:p+k+1=u.size
  ·rw[yad (by simpa using h3)]
   exact yar ⟨hs2,resV L m'' h3⟩
  ·rw[yac (by simpa using h3)]
   by_cases h4:p+k=u.size
   ·rw[yad (by simpa using h4)]
    exact yar ⟨hs2,zr m'' L.uu L.uv (.inl (by lia))⟩
   ·rw[yac (by simpa using h4)]
    exact ybb (vy L hk2 m'' (by grind) hq (by lia) ey rest) λt st' ⟨e,z⟩=>⟨e▸hs2,z⟩
 ·have:k=0:=by lia
  subst this;exact ybb (vy L hk2 m hp hq (by lia) ey rest) λt st' ⟨e,z⟩=>⟨e▸hs2,z⟩
theorem CB(L:jg o u v)(hs:Gs st0 st)(hk:kindOf st0=kd)(l:lN o u v r p q) :
  wpS M A E s (lo0 u v (none,r,p,q,g,cu,cv)) (λt st'=>Gs st0 st'/\gp u v o (p+q) t) st:=by
 unfold lo0;split
 ·exact vA L hs hk l
 ·exact vA L hs hk l
def op0(u v:Array Keyed)(o:Ord M A E s kd)(c:Nat):ForInStep MT0->Prop
 | .done (some z,_)=>Res o u v z
 | .done (none,_)=>False
 | .yield (some _,_)=>False
 | .yield (none,r,p,q,_)=>lN o u v r p q/\c<p+q
theorem xA(L:jg o u v)(hs:Gs st0 st)(hk:kindOf st0=kd)(l:lN o u v r p q) :
  wpS M A E s (zq u v (none,r,p,q,g)) (λt st'=>Gs st0 st'/\op0 u v o (p+q) t) st:=by
 unfold zq;have hk1:kindOf st=kd:=hs.k.trans hk;have hpos:0<u.size+v.size:=by have:=l.2.1;lia
 refine yaq (ybb (ybf (I:=λi t st'=>st'=st/\∃ r1 p1 q1 a b,t=(none,r1,p1,q1,a,b)/\lN o u v r1 p1 q1/\p+q+i<=p1+q1)
  (Q:=λt st'=>st'=st/\((∃ z t',t=(some z,t')/\Res o u v z)\/∃ r1 p1 q1 a b,t=(none,r1,p1,q1,a,b)/\lN o u v r1 p1 q1/\p+q<p1+q1)) ?step ?fin ⟨rfl,r,p,q,0,0,rfl,l,by lia⟩) ?post)
 case fin =>
  rintro t st' ⟨rfl,r1,p1,q1,a,b,rfl,l1,hc⟩;exact⟨rfl,.inr ⟨r1,p1,q1,a,b,rfl,l1,by lia⟩⟩
 case step =>
  rintro i t st' _ hi ⟨rfl,r1,p1,q1,a,b,rfl,l1,hc⟩;refine ybb (xy L hk1 l1) λt st'' zz1=>?_
  obtain⟨e,z⟩:=zz1;subst e
  match t,z with
  | .done (some z,t'),hz=>exact⟨rfl,.inl ⟨z,t',rfl,hz⟩⟩
  | .done (none,r2,p2,q2,a2,b2),hz=>exact⟨rfl,.inr ⟨r2,p2,q2,a2,b2,rfl,hz.1,by have:=hz.2;lia⟩⟩
  | .yield (none,r2,p2,q2,a2,b2),hz=>exact⟨rfl,r2,p2,q2,a2,b2,rfl,hz.1,by have:=hz.2;lia⟩
 case post =>
  rintro t st' ⟨rfl,⟨z,t',rfl,hz⟩ | ⟨r1,p1,q1,a,b,rfl,l1,hc⟩⟩
  ·exact yar ⟨hs,hz⟩
  ·dsimp only
   refine yaq (wpS_lift (yaf ⟨rfl,?_⟩));refine yaq (ybb (ybf (I:=λi t st2=>Gs st0 st2/\∃ r2 p2 q2 g2 a b,t=(none,r2,p2,q2,g2,a,b)/\lN o u v r2 p2 q2/\p+q<p2+q2)
    (Q:=λt st2=>Gs st0 st2/\((∃ z t',t=(some z,t')/\Res o u v z)\/∃ r2 p2 q2 g2 a b,t=(none,r2,p2,q2,g2,a,b)/\lN o u v r2 p2 q2/\p+q<p2+q2)) ?step2 ?fin2 ⟨hs,r1,p1,q1,_,_,_,rfl,l1,hc⟩) ?post2)
   case fin2 =>
    rintro t st2 ⟨hs2,r2,p2,q2,g2,a,b,rfl,l2,hc2⟩;exact⟨hs2,.inr ⟨r2,p2,q2,g2,a,b,rfl,l2,hc2⟩⟩
   case step2 =>
    rintro i t st2 _ hi ⟨hs2,r2,p2,q2,g2,a,b,rfl,l2,hc2⟩;refine ybb (CB L hs2 hk l2) λt st3 zz1=>?_
    obtain⟨hs3,z⟩:=zz1
    match t,z with
    | .done (some z,t'),hz=>exact⟨hs3,.inl ⟨z,t',rfl,hz⟩⟩
    | .done (none,r3,p3,q3,g3,a3,b3),hz=>exact⟨hs3,.inr ⟨r3,p3,q3,g3,a3,b3,rfl,hz.1,by have:=hz.2;lia⟩⟩
    | .yield (none,r3,p3,q3,g3,a3,b3),hz=>exact⟨hs3,r3,p3,q3,g3,a3,b3,rfl,hz.1,by have:=hz.2;omega⟩
   case post2 =>
    rintro t st2 ⟨hs2,⟨z,t',rfl,hz⟩ | ⟨r2,p2,q2,g2,a,b,rfl,l2,hc2⟩⟩
    ·exact yar ⟨hs2,hz⟩
    ·exact yaq (iD hs2 λst3 hs3=>yar ⟨hs3,l2,hc2⟩)
theorem CC(L:jg o u v){Q:Array Keyed->SortSt->Prop}(hk:kindOf st=kd)(hu:0<u.size)(hv:0<v.size)
  (h1:∀ x y,v[0]?=some x->y∈u.toList->o.le x y) (h:∀ st' out,Gs st st'->o.kU u.toList v.toList out.toList->Q out st'):wpS M A E s (mlo u v) Q st:=by
 rw[Fl];refine yaq (wpS_lift (yaf ⟨rfl,?_⟩));obtain⟨y,ey⟩:=cN hv;refine yaq (aV ey ?_);have m:o.Mg u.toList v.toList (#[y]:AD).toList 0 1:=by
  have:=(Ord.Mg.zero (o:=o) (la:=u.toList) (lb:=v.toList)).oV (r:=#[]) L.uv ey (λx hx=>h1 y x ey (by simpa using hx));simpa using this
 by_cases h3:1=v.size
 ·rw[yad (by simpa using h3)]
  exact yar (h _ _ (.refl _) (zr m L.uu L.uv (.inr (by lia))))
 ·rw[yac (by simpa using h3)]
  by_cases h4:0+1=u.size
  ·rw[yad (by simpa using h4)]
   exact yar (h _ _ (.refl _) (resV L m h4))
  ·rw[yac (by simpa using h4)]
   refine yaq (wpS_get ?_);refine yaq (ybb (ybf (I:=λi t st2=>Gs st st2/\∃ r2 p2 q2 g2,t=(none,r2,p2,q2,g2)/\lN o u v r2 p2 q2/\i<p2+q2)
    (Q:=λt st2=>Gs st st2/\∃ z t',t=(some z,t')/\Res o u v z) ?step ?fin ⟨.refl _,_,0,1,_,rfl,⟨m,by lia,by lia⟩,by lia⟩) ?post)
   case fin =>
    rintro t st2 ⟨hs2,r2,p2,q2,g2,rfl,l2,hc⟩;have:=l2.2.1;have:=l2.2.2
    lia
   case step =>
    rintro i t st2 _ hi ⟨hs2,r2,p2,q2,g2,rfl,l2,hc⟩;refine ybb (xA L hs2 hk l2) λt st3 zz1=>?_
    obtain⟨hs3,z⟩:=zz1
    match t,z with
    | .done (some z,t'),hz=>exact⟨hs3,z,t',rfl,hz⟩
    | .yield (none,r3,p3,q3,g3),hz=>exact⟨hs3,r3,p3,q3,g3,rfl,hz.1,by have:=hz.2;lia⟩
   case post =>
    rintro t st2 ⟨hs2,z,t',rfl,hz⟩;exact yar (h _ _ hs2 hz)
end
section
abbrev NT1:=Option (Array Keyed)×Nat×Nat×Array Keyed×Nat×Nat
abbrev NT2:=Option (Array Keyed)×Nat×Nat×Array Keyed×Nat×Nat×Nat
abbrev NT0:=Option (Array Keyed)×Nat×Nat×Array Keyed×Nat
variable(u v:AD)
def hiU(p q:Nat)(r:Array Keyed):Array Keyed:=u.extract 0 p++v.extract 0 q++r.reverse
def hiV(p q:Nat)(r:Array Keyed):Array Keyed:=v.extract 0 q++u.extract 0 p++r.reverse
def zt(g:Nat)(t:NT1):StateT SortSt Sem (ForInStep NT1):=do
 let y <- elem' v (t.2.2.1-1)
 let x <- elem' u (t.2.1-1)
 match <- lt' y x with
 | some less =>
  if less then do
   let x <- elem' u (t.2.1-1)
   if t.2.1-1==0 then pure (.done (some (hiU u v (t.2.1-1) t.2.2.1 (t.2.2.2.1.push x)),t.2.1-1,t.2.2.1,t.2.2.2.1.push x,t.2.2.2.2.1+1,0))
   else if t.2.2.2.2.1+1 ≥ g then pure (.done (none,t.2.1-1,t.2.2.1,t.2.2.2.1.push x,t.2.2.2.2.1+1,0))
   else pure (.yield (none,t.2.1-1,t.2.2.1,t.2.2.2.1.push x,t.2.2.2.2.1+1,0))
  else do
   let y <- elem' v (t.2.2.1-1)
   if t.2.2.1-1==1 then pure (.done (some (hiV u v t.2.1 (t.2.2.1-1) (t.2.2.2.1.push y)),t.2.1,t.2.2.1-1,t.2.2.2.1.push y,0,t.2.2.2.2.2+1))
   else if t.2.2.2.2.2+1 ≥ g then pure (.done (none,t.2.1,t.2.2.1-1,t.2.2.2.1.push y,0,t.2.2.2.2.2+1))
   else pure (.yield (none,t.2.1,t.2.2.1-1,t.2.2.2.1.push y,0,t.2.2.2.2.2+1))
 | _=>pure (.done (some (hiU u v t.2.1 t.2.2.1 t.2.2.2.1),t.2.1,t.2.2.1,t.2.2.2.1,t.2.2.2.2.1,t.2.2.2.2.2))
def hi4(p q:Nat)(r:Array Keyed)(g cu cv:Nat):StateT SortSt Sem (ForInStep NT2):=do
 let x <- elem' u (p-1)
 if p-1==0 then pure (.done (some (hiU u v (p-1) q (r.push x)),p-1,q,r.push x,g,cu,cv))
 else if cu<7&&cv<7 then pure (.done (none,p-1,q,r.push x,g,cu,cv))
 else pure (.yield (none,p-1,q,r.push x,g,cu,cv))
def hi3(p q:Nat)(r:Array Keyed)(g cu cv:Nat):StateT SortSt Sem (ForInStep NT2):=do
 let x <- elem' u (p-1)
 match <- gal true x v 0 q (q-1) with
 | some k =>
  if q-k>0 then
   if k==1 then pure (.done (some (hiV u v p k (r++(v.extract k q).reverse)),p,k,r++(v.extract k q).reverse,g,cu,q-k))
   else if k==0 then pure (.done (some (hiU u v p k (r++(v.extract k q).reverse)),p,k,r++(v.extract k q).reverse,g,cu,q-k))
   else hi4 u v p k (r++(v.extract k q).reverse) g cu (q-k)
  else hi4 u v p q r g cu (q-k)
 | _=>pure (.done (some (hiU u v p q r),p,q,r,g,cu,cv))
def hi2(p q:Nat)(r:Array Keyed)(g cu cv:Nat):StateT SortSt Sem (ForInStep NT2):=do
 let y <- elem' v (q-1)
 if q-1==1 then pure (.done (some (hiV u v p (q-1) (r.push y)),p,q-1,r.push y,g,cu,cv))
 else hi3 u v p (q-1) (r.push y) g cu cv
def hi1(p q:Nat)(r:Array Keyed)(g cu cv:Nat):StateT SortSt Sem (ForInStep NT2):=do
 setG g
 let y <- elem' v (q-1)
 match <- gal false y u 0 p (p-1) with
 | some k =>
  if p-k>0 then
   if k==0 then pure (.done (some (hiU u v k q (r++(u.extract k p).reverse)),k,q,r++(u.extract k p).reverse,g,p-k,cv))
   else hi2 u v k q (r++(u.extract k p).reverse) g (p-k) cv
  else hi2 u v p q r g (p-k) cv
 | _=>pure (.done (some (hiU u v p q r),p,q,r,g,cu,cv))
def hi0(t:NT2):StateT SortSt Sem (ForInStep NT2) :=
 if t.2.2.2.2.1>1 then hi1 u v t.2.1 t.2.2.1 t.2.2.2.1 (t.2.2.2.2.1-1) t.2.2.2.2.2.1 t.2.2.2.2.2.2 else hi1 u v t.2.1 t.2.2.1 t.2.2.2.1 t.2.2.2.2.1 t.2.2.2.2.2.1 t.2.2.2.2.2.2
def zu(t:NT0):StateT SortSt Sem (ForInStep NT0):=do
 let t1 <- forIn [0:u.size+v.size] ((none,t.2.1,t.2.2.1,t.2.2.2.1,0,0):NT1) (λ_ t1=>zt u v t.2.2.2.2 t1)
 match t1.1 with
 | some z=>pure (.done (some z,t1.2.1,t1.2.2.1,t1.2.2.2.1,t.2.2.2.2))
 | none=>do
  rule "list.sort.gallop"
  let t2 <- forIn [0:u.size+v.size] ((none,t1.2.1,t1.2.2.1,t1.2.2.2.1,t.2.2.2.2+1,t1.2.2.2.2.1,t1.2.2.2.2.2):NT2) (λ_ t2=>hi0 u v t2)
  match t2.1 with
  | some z=>pure (.done (some z,t2.2.1,t2.2.2.1,t2.2.2.2.1,t2.2.2.2.2.1))
  | none=>do
   setG (t2.2.2.2.2.1+1)
   pure (.yield (none,t2.2.1,t2.2.2.1,t2.2.2.2.1,t2.2.2.2.2.1+1))
def mhi:Array Keyed->Array Keyed->StateT SortSt Sem (Array Keyed):=sortPriv% PySem.Builtin.mergeHi
theorem Fm:mhi u v=(do
  rule "list.sort.merge-hi"
  let x <- elem' u (u.size-1)
  if u.size-1==0 then pure (hiU u v (u.size-1) v.size #[x])
  else if v.size==1 then pure (hiV u v (u.size-1) v.size #[x])
  else do
   let st <- get
   let t <- forIn [0:u.size+v.size] ((none,u.size-1,v.size,#[x],gallopOf st):NT0) (λ_ t=>zu u v t)
   match t.1 with
   | some z=>pure z
   | none=>unsupported "internal:list.sort.merge-bound"):=by kernel_rfl
end
section
variable{M:Model}{A:AK}{E:A9}{s:AE}{kd:SortKind}
structure Ord.Hg(o:Ord M A E s kd)(la lb out:List Keyed)(i j:Nat):Prop where
 perm:out.Perm (la.drop i++lb.drop j)
 up:out.Pairwise o.le
 la:∀ x∈out,∀ y∈la.take i,o.le y x
 lb:∀ x∈out,∀ y∈lb.take j,o.le y x
section
variable{o:Ord M A E s kd}{la lb out:AU}{i j k:Nat}
theorem Ord.Hg.mP(m:o.Hg la lb out i j)(ua:la.Pairwise o.le)(hk:k<=i)(h:∀ x∈(la.take i).drop k,∀ y∈lb.take j,o.le y x):o.Hg la lb ((la.take i).drop k++out) k j:=by
 have ut:(la.take i).Pairwise o.le:=ua.sublist (zbm _ _);have et:la.take k++(la.take i).drop k=la.take i:=by
  have:=zay k (la.take i)
  rwa [List.take_take,Nat.min_eq_left hk]at this
 have ed:(la.take i).drop k++la.drop i=la.drop k:=by
  have:(la.take i++la.drop i).drop k=la.drop k:=by rw[zay]
  rw[<- this,List.drop_append];by_cases hl:k<=(la.take i).length
  ·rw[Nat.sub_eq_zero_of_le hl,ydl]
  ·have hl':la.length<k:=by
    rw[zaw]at hl
    lia
   rw[zb9 (show(la.take i).length<=k by rw[zaw];grind),zb9 (show la.length<=i by lia)];simp
 refine⟨?_,?_,?_,?_⟩
 ·rw[<- ed,zah]
  exact ybq _ m.perm
 ·exact zas.mpr ⟨ut.sublist (zbv _ _),m.up,λx hx y hy=>m.la y hy x (yd2 hx)⟩
 ·intro x hx y hy
  rcases zaj.mp hx with hx | hx
  ·rw[<- et]at ut
   exact(zas.mp ut).2.2 y hy x hx
  ·exact m.la x hx y (by rw[<- et];exact zbk _ hy)
 ·intro x hx y hy
  rcases zaj.mp hx with hx | hx
  ·exact h x hx y hy
  ·exact m.lb x hx y hy
theorem Ord.Hg.swap(m:o.Hg la lb out i j):o.Hg lb la out j i:=⟨m.perm.trans zbi,m.up,m.lb,m.la⟩
theorem Ord.Hg.rC(m:o.Hg la lb out i j)(ub:lb.Pairwise o.le)(hk:k<=j)(h:∀ x∈(lb.take j).drop k,∀ y∈la.take i,o.le y x):o.Hg la lb ((lb.take j).drop k++out) i k:=(m.swap.mP ub hk h).swap
theorem Ord.Hg.endA(m:o.Hg la lb out i j)(ua:la.Pairwise o.le)(ub:lb.Pairwise o.le)(h:∀ x∈la.take i,∀ y∈lb.take j,o.le x y):o.kU la lb (la.take i++lb.take j++out):=by
 refine⟨?_,?_⟩
 ·refine(ybq _ m.perm).trans ?_
  have e1:la=la.take i++la.drop i:=(zay _ _).symm;have e2:lb=lb.take j++lb.drop j:=(zay _ _).symm;refine List.Perm.trans ?_ (show(la.take i++la.drop i++(lb.take j++lb.drop j)).Perm (la++lb) by rw[<- e1,<- e2]);simp only[zah];refine ybq _ ?_;rw[<- zah,<- zah];exact List.Perm.append_right _ zbi
 ·refine zas.mpr ⟨zas.mpr ⟨ua.sublist (zbm _ _),ub.sublist (zbm _ _),h⟩,m.up,λx hx y hy=>?_⟩
  rcases zaj.mp hx with hx | hx
  ·exact m.la y hy x hx
  ·exact m.lb y hy x hx
theorem Ord.Hg.endB(m:o.Hg la lb out i j)(ua:la.Pairwise o.le)(ub:lb.Pairwise o.le)(h:∀ x∈lb.take j,∀ y∈la.take i,o.le x y):o.kU la lb (lb.take j++la.take i++out):=(m.swap.endA ub ua h).swap
end
theorem x0{u:AD}:(u.extract 0 p).toList=u.toList.take p:=by
 rw[yd1];show(u.toList.drop 0).take (p-0)=_;simp
theorem xd{u:AD}{k:Nat}:(u.extract k p).toList=(u.toList.take p).drop k:=by
 rw[yd1,List.drop_take]
theorem iX{u:AD}(h:y∈u.toList.take p):∃ i,i<p/\u[i]?=some y:=by
 obtain⟨i,hi,e⟩:=f8 (u:=u) (p:=0) (k:=p) (by simpa using h);exact⟨i,hi,by simpa using e⟩
theorem vB{u:AD}{k:Nat}(h:y∈(u.toList.take p).drop k):∃ i,k<=i/\i<p/\u[i]?=some y:=by
 obtain⟨n,e⟩:=zax.mp h;rw[zb7,zb8]at e;split at e
 ·exact⟨k+n,by lia,by assumption,by simpa using e⟩
 ·cases e
theorem seg1{u:AD}(h0:0<p)(e:u[p-1]?=some x):(u.toList.take p).drop (p-1)=[x]:=by
 rw[List.drop_take,show p-(p-1)=1 by grind];exact rD e
theorem iY{o:Ord M A E s kd}{u:AD}(uu:u.toList.Pairwise o.le)(e:u[p-1]?=some x):∀ y∈u.toList.take p,o.le y x:=λy hy=>by
 obtain⟨i,hi,ey⟩:=iX hy;exact vq uu (by omega) ey e
section
variable(o:Ord M A E s kd)(u v:AD)
structure jh:Prop where
 gu:o.all u
 gv:o.all v
 uu:u.toList.Pairwise o.le
 uv:v.toList.Pairwise o.le
 h1:∀ x y,v[0]?=some x->y∈u.toList->o.le x y
def dc(p q:Nat)(r:Array Keyed):Prop:=o.Hg u.toList v.toList r.toList.reverse p q/\0<p/\1<q/\p<=u.size/\q<=v.size
end
variable{o:Ord M A E s kd}{u v:AD}{r:AD}{p q g cu cv c:Nat}{st:AW}
theorem Ord.Hg.oU(m:o.Hg u.toList v.toList r.toList.reverse p q)(uu:u.toList.Pairwise o.le)(h0:0<p)(e:u[p-1]?=some x)(h:∀ y∈v.toList.take q,o.le y x):o.Hg u.toList v.toList (r.push x).toList.reverse (p-1) q:=by
 have:=m.mP (k:=p-1) uu (by omega) (by rw[seg1 h0 e];intro a ha y hy;rw[zac.mp ha];exact h y hy);rw[seg1 h0 e]at this;simpa using this
theorem Ord.Hg.oV(m:o.Hg u.toList v.toList r.toList.reverse p q)(uv:v.toList.Pairwise o.le)(h0:0<q)(e:v[q-1]?=some y)(h:∀ x∈u.toList.take p,o.le x y):o.Hg u.toList v.toList (r.push y).toList.reverse p (q-1):=by
 have:=m.rC (k:=q-1) uv (by omega) (by rw[seg1 h0 e];intro a ha y hy;rw[zac.mp ha];exact h y hy);rw[seg1 h0 e]at this;simpa using this
theorem rF(m:o.Hg u.toList v.toList r.toList.reverse p q)(uu:u.toList.Pairwise o.le)(uv:v.toList.Pairwise o.le)(h:p=0\/q=0):Res o u v (hiU u v p q r):=by
 unfold Res hiU;rw[zao,zao,x0,x0,yd3];refine m.endA uu uv λx hx y hy=>?_
 rcases h with rfl | rfl
 ·rw[List.take_zero]at hx;cases hx
 ·rw[List.take_zero]at hy;cases hy
theorem vC(L:jh o u v)(m:o.Hg u.toList v.toList r.toList.reverse p q)(h:q=1):Res o u v (hiV u v p q r):=by
 unfold Res hiV;rw[zao,zao,x0,x0,yd3];refine m.endB L.uu L.uv λx hx y hy=>?_
 subst h;obtain⟨i,hi,ex⟩:=iX hx;have:i=0:=by lia
 subst this;exact L.h1 x y ex (zbl hy)
def hlp(u v:Array Keyed)(o:Ord M A E s kd)(c:Nat):ForInStep NT1->Prop
 | .done (some z,_)=>Res o u v z
 | .done (none,p,q,r,_)=>dc o u v p q r/\p+q<c
 | .yield (some _,_)=>False
 | .yield (none,p,q,r,_)=>dc o u v p q r/\p+q<c
theorem xB(L:jh o u v){a:Nat}(hk:kindOf st=kd)(l:dc o u v p q r):wpS M A E s (zt u v g (none,p,q,r,a,b)) (λt st'=>st'=st/\hlp u v o (p+q) t) st:=by
 obtain⟨m,hp,hq,hpu,hqv⟩:=l;obtain⟨x,ex⟩:=cN (u:=u) (p:=p-1) (by omega);obtain⟨y,ey⟩:=cN (u:=v) (p:=q-1) (by omega);unfold zt;refine yaq (aV ey (yaq (aV ex (yaq (o.lt hk (L.gv _ _ ey) (L.gu _ _ ex) ?_)))));dsimp only;cases hb:o.O.blt (o.key y) (o.key x) with
 | true =>
  refine yaq (aV ex ?_);have m':=m.oU L.uu hp ex λz hz=>o.le_trans (iY L.uv ey z hz) (o.kF hb)
  by_cases h1:p-1=0
  ·rw[yad (by simpa using h1)]
   exact yar ⟨rfl,rF m' L.uu L.uv (.inl h1)⟩
  ·rw[yac (by simpa using h1)]
   split
   ·exact yar ⟨rfl,⟨m',by lia,hq,by grind,hqv⟩,by grind⟩
   ·exact yar ⟨rfl,⟨m',by omega,hq,by omega,hqv⟩,by omega⟩
 | false =>
  refine yaq (aV ey ?_);have m':=m.oV L.uv (by lia) ey λz hz=>o.le_trans (iY L.uu ex z hz) (o.kC hb)
  by_cases h1:q-1=1
  ·rw[yad (by simpa using h1)]
   exact yar ⟨rfl,vC L m' h1⟩
  ·rw[yac (by simpa using h1)]
   split
   ·exact yar ⟨rfl,⟨m',hp,by lia,hpu,by grind⟩,by grind⟩
   ·exact yar ⟨rfl,⟨m',hp,by omega,hpu,by omega⟩,by omega⟩
def hgp(u v:Array Keyed)(o:Ord M A E s kd)(c:Nat):ForInStep NT2->Prop
 | .done (some z,_)=>Res o u v z
 | .done (none,p,q,r,_)=>dc o u v p q r/\p+q<c
 | .yield (some _,_)=>False
 | .yield (none,p,q,r,_)=>dc o u v p q r/\p+q<c
theorem vD(L:jh o u v)(l:dc o u v p q r)(hc:p+q<=c)(ex:u[p-1]?=some x)(hx:∀ y∈v.toList.take q,o.le y x) :
  wpS M A E s (hi4 u v p q r g cu cv) (λt st'=>st'=st/\hgp u v o c t) st:=by
 obtain⟨m,hp,hq,hpu,hqv⟩:=l;unfold hi4;refine yaq (aV ex ?_);have m':=m.oU L.uu hp ex hx;by_cases h1:p-1=0
 ·rw[yad (by simpa using h1)]
  exact yar ⟨rfl,rF m' L.uu L.uv (.inl h1)⟩
 ·rw[yac (by simpa using h1)]
  split
  ·exact yar ⟨rfl,⟨m',by lia,hq,by lia,hqv⟩,by grind⟩
  ·exact yar ⟨rfl,⟨m',by omega,hq,by omega,hqv⟩,by omega⟩
theorem CD(L:jh o u v)(hk:kindOf st=kd)(l:dc o u v p q r)(hc:p+q<=c) :
  wpS M A E s (hi3 u v p q r g cu cv) (λt st'=>st'=st/\hgp u v o c t) st:=by
 obtain⟨m,hp,hq,hpu,hqv⟩:=l;unfold hi3;obtain⟨x,ex⟩:=cN (u:=u) (p:=p-1) (by lia);refine yaq (aV ex ?_);refine yaq (gK o hk (L.gu _ _ ex) L.gv (by lia) (by omega) (vt L.uv _ _) λk hkn h1 h2=>?_);have rest:∀ y∈v.toList.take k,o.le y x:=λy hy=>by
  obtain⟨i,hi,ey⟩:=iX hy;exact o.kF (h1 i y hi (by rw[ydh];exact ey))
 dsimp only;split
 ·have m':=m.rC (k:=k) L.uv hkn λb hb a ha=>by
   obtain⟨i,hi,hi2,eb⟩:=vB hb;exact o.le_trans (iY L.uu ex a ha) (o.kC (h2 i b hi hi2 (by rw[ydh];exact eb)))
  have m'':o.Hg u.toList v.toList (r++(v.extract k q).reverse).toList.reverse p k:=by
   rw[zao,List.reverse_append,yd3,ye9,xd];exact m'
  by_cases h3:k=1
  ·rw[yad (by simpa using h3)]
   exact yar ⟨rfl,vC L m'' h3⟩
  ·rw[yac (by simpa using h3)]
   by_cases h4:k=0
   ·rw[yad (by simpa using h4)]
    exact yar ⟨rfl,rF m'' L.uu L.uv (.inr h4)⟩
   ·rw[yac (by simpa using h4)]
    exact vD L ⟨m'',hp,by lia,hpu,by lia⟩ (by lia) ex rest
 ·have:k=q:=by grind
  subst this;exact vD L ⟨m,hp,hq,hpu,hqv⟩ hc ex rest
theorem vE(L:jh o u v)(hk:kindOf st=kd)(l:dc o u v p q r)(hc:p+q<=c)(ey:v[q-1]?=some y)(hy:∀ x∈u.toList.take p,o.le x y) :
  wpS M A E s (hi2 u v p q r g cu cv) (λt st'=>st'=st/\hgp u v o c t) st:=by
 obtain⟨m,hp,hq,hpu,hqv⟩:=l;unfold hi2;refine yaq (aV ey ?_);have m':=m.oV L.uv (by lia) ey hy;by_cases h1:q-1=1
 ·rw[yad (by simpa using h1)]
  exact yar ⟨rfl,vC L m' h1⟩
 ·rw[yac (by simpa using h1)]
  exact CD L hk ⟨m',hp,by lia,hpu,by lia⟩ (by lia)
theorem vF(L:jh o u v)(hs:Gs st0 st)(hk:kindOf st0=kd)(l:dc o u v p q r) :
  wpS M A E s (hi1 u v p q r g cu cv) (λt st'=>Gs st0 st'/\hgp u v o (p+q) t) st:=by
 obtain⟨m,hp,hq,hpu,hqv⟩:=id l;unfold hi1;refine yaq (iD hs λst2 hs2=>?_);have hk2:kindOf st2=kd:=hs2.k.trans hk;obtain⟨y,ey⟩:=cN (u:=v) (p:=q-1) (by omega);refine yaq (aV ey ?_);refine yaq (gK o hk2 (L.gv _ _ ey) L.gu (by lia) (by omega) (vt L.uu _ _) λk hkn h1 h2=>?_);have rest:∀ x∈u.toList.take k,o.le x y:=λx hx=>by
  obtain⟨i,hi,ex⟩:=iX hx;have z:=h1 i x hi (by rw[ydh];exact ex);have z':o.b y x=false:=by simpa [Ord.byB] using z
  exact o.kC z'
 dsimp only;split
 ·have m':=m.mP (k:=k) L.uu hkn λa ha b hb=>by
   obtain⟨i,hi,hi2,ea⟩:=vB ha;have z:=h2 i a hi hi2 (by rw[ydh];exact ea);have z':o.b y a=true:=by simpa [Ord.byB] using z
   exact o.le_trans (iY L.uv ey b hb) (o.kF z')
  have m'':o.Hg u.toList v.toList (r++(u.extract k p).reverse).toList.reverse k q:=by
   rw[zao,List.reverse_append,yd3,ye9,xd];exact m'
  by_cases h4:k=0
  ·rw[yad (by simpa using h4)]
   exact yar ⟨hs2,rF m'' L.uu L.uv (.inl h4)⟩
  ·rw[yac (by simpa using h4)]
   exact ybb (vE L hk2 ⟨m'',by lia,hq,by lia,hqv⟩ (by lia) ey rest) λt st' ⟨e,z⟩=>⟨e▸hs2,z⟩
 ·have:k=p:=by grind
  subst this;exact ybb (vE L hk2 l (by lia) ey rest) λt st' ⟨e,z⟩=>⟨e▸hs2,z⟩
theorem CF(L:jh o u v)(hs:Gs st0 st)(hk:kindOf st0=kd)(l:dc o u v p q r) :
  wpS M A E s (hi0 u v (none,p,q,r,g,cu,cv)) (λt st'=>Gs st0 st'/\hgp u v o (p+q) t) st:=by
 unfold hi0;split
 ·exact vF L hs hk l
 ·exact vF L hs hk l
def hop(u v:Array Keyed)(o:Ord M A E s kd)(c:Nat):ForInStep NT0->Prop
 | .done (some z,_)=>Res o u v z
 | .done (none,_)=>False
 | .yield (some _,_)=>False
 | .yield (none,p,q,r,_)=>dc o u v p q r/\p+q<c
theorem xC(L:jh o u v)(hs:Gs st0 st)(hk:kindOf st0=kd)(l:dc o u v p q r) :
  wpS M A E s (zu u v (none,p,q,r,g)) (λt st'=>Gs st0 st'/\hop u v o (p+q) t) st:=by
 unfold zu;have hk1:kindOf st=kd:=hs.k.trans hk;have hpos:0<u.size+v.size:=by have:=l.2.2.2.1;have:=l.2.1;lia
 refine yaq (ybb (ybf (I:=λi t st'=>st'=st/\∃ p1 q1 r1 a b,t=(none,p1,q1,r1,a,b)/\dc o u v p1 q1 r1/\p1+q1+i<=p+q)
  (Q:=λt st'=>st'=st/\((∃ z t',t=(some z,t')/\Res o u v z)\/∃ p1 q1 r1 a b,t=(none,p1,q1,r1,a,b)/\dc o u v p1 q1 r1/\p1+q1<p+q)) ?step ?fin ⟨rfl,p,q,r,0,0,rfl,l,by lia⟩) ?post)
 case fin =>
  rintro t st' ⟨rfl,p1,q1,r1,a,b,rfl,l1,hc⟩;exact⟨rfl,.inr ⟨p1,q1,r1,a,b,rfl,l1,by lia⟩⟩
 case step =>
  rintro i t st' _ hi ⟨rfl,p1,q1,r1,a,b,rfl,l1,hc⟩;refine ybb (xB L hk1 l1) λt st'' zz1=>?_
  obtain⟨e,z⟩:=zz1;subst e
  match t,z with
  | .done (some z,t'),hz=>exact⟨rfl,.inl ⟨z,t',rfl,hz⟩⟩
  | .done (none,p2,q2,r2,a2,b2),hz=>exact⟨rfl,.inr ⟨p2,q2,r2,a2,b2,rfl,hz.1,by have:=hz.2;lia⟩⟩
  | .yield (none,p2,q2,r2,a2,b2),hz=>exact⟨rfl,p2,q2,r2,a2,b2,rfl,hz.1,by have:=hz.2;lia⟩
 case post =>
  rintro t st' ⟨rfl,⟨z,t',rfl,hz⟩ | ⟨p1,q1,r1,a,b,rfl,l1,hc⟩⟩
  ·exact yar ⟨hs,hz⟩
  ·dsimp only
   refine yaq (wpS_lift (yaf ⟨rfl,?_⟩));refine yaq (ybb (ybf (I:=λi t st2=>Gs st0 st2/\∃ p2 q2 r2 g2 a b,t=(none,p2,q2,r2,g2,a,b)/\dc o u v p2 q2 r2/\p2+q2<p+q)
    (Q:=λt st2=>Gs st0 st2/\((∃ z t',t=(some z,t')/\Res o u v z)\/∃ p2 q2 r2 g2 a b,t=(none,p2,q2,r2,g2,a,b)/\dc o u v p2 q2 r2/\p2+q2<p+q)) ?step2 ?fin2 ⟨hs,p1,q1,r1,_,_,_,rfl,l1,hc⟩) ?post2)
   case fin2 =>
    rintro t st2 ⟨hs2,p2,q2,r2,g2,a,b,rfl,l2,hc2⟩;exact⟨hs2,.inr ⟨p2,q2,r2,g2,a,b,rfl,l2,hc2⟩⟩
   case step2 =>
    rintro i t st2 _ hi ⟨hs2,p2,q2,r2,g2,a,b,rfl,l2,hc2⟩;refine ybb (CF L hs2 hk l2) λt st3 zz1=>?_
    obtain⟨hs3,z⟩:=zz1
    match t,z with
    | .done (some z,t'),hz=>exact⟨hs3,.inl ⟨z,t',rfl,hz⟩⟩
    | .done (none,p3,q3,r3,g3,a3,b3),hz=>exact⟨hs3,.inr ⟨p3,q3,r3,g3,a3,b3,rfl,hz.1,by have:=hz.2;lia⟩⟩
    | .yield (none,p3,q3,r3,g3,a3,b3),hz=>exact⟨hs3,p3,q3,r3,g3,a3,b3,rfl,hz.1,by have:=hz.2;omega⟩
   case post2 =>
    rintro t st2 ⟨hs2,⟨z,t',rfl,hz⟩ | ⟨p2,q2,r2,g2,a,b,rfl,l2,hc2⟩⟩
    ·exact yar ⟨hs2,hz⟩
    ·exact yaq (iD hs2 λst3 hs3=>yar ⟨hs3,l2,hc2⟩)
theorem CG(L:jh o u v){Q:Array Keyed->SortSt->Prop}(hk:kindOf st=kd)(hu:0<u.size)(hv:0<v.size)
  (h2:∀ x y,x∈v.toList->u[u.size-1]?=some y->o.le x y) (h:∀ st' out,Gs st st'->o.kU u.toList v.toList out.toList->Q out st'):wpS M A E s (mhi u v) Q st:=by
 rw[Fm];refine yaq (wpS_lift (yaf ⟨rfl,?_⟩));obtain⟨x,ex⟩:=cN (u:=u) (p:=u.size-1) (by omega);refine yaq (aV ex ?_);have m0:o.Hg u.toList v.toList (#[]:AD).toList.reverse u.size v.size:=⟨by simp,by simp,by simp,by simp⟩;have m:o.Hg u.toList v.toList (#[x]:AD).toList.reverse (u.size-1) v.size:=by
  have:=m0.oU L.uu hu ex (λy hy=>h2 y x (zbl hy) ex);simpa using this
 by_cases h3:u.size-1=0
 ·rw[yad (by simpa using h3)]
  exact yar (h _ _ (.refl _) (rF m L.uu L.uv (.inl h3)))
 ·rw[yac (by simpa using h3)]
  by_cases h4:v.size=1
  ·rw[yad (by simpa using h4)]
   exact yar (h _ _ (.refl _) (vC L m h4))
  ·rw[yac (by simpa using h4)]
   refine yaq (wpS_get ?_);refine yaq (ybb (ybf (I:=λi t st2=>Gs st st2/\∃ p2 q2 r2 g2,t=(none,p2,q2,r2,g2)/\dc o u v p2 q2 r2/\p2+q2+i<u.size+v.size)
    (Q:=λt st2=>Gs st st2/\∃ z t',t=(some z,t')/\Res o u v z) ?step ?fin ⟨.refl _,u.size-1,v.size,_,_,rfl,⟨m,by lia,by lia,by omega,by lia⟩,by grind⟩) ?post)
   case fin =>
    rintro t st2 ⟨hs2,p2,q2,r2,g2,rfl,l2,hc⟩
    lia
   case step =>
    rintro i t st2 _ hi ⟨hs2,p2,q2,r2,g2,rfl,l2,hc⟩;refine ybb (xC L hs2 hk l2) λt st3 zz1=>?_
    obtain⟨hs3,z⟩:=zz1
    match t,z with
    | .done (some z,t'),hz=>exact⟨hs3,z,t',rfl,hz⟩
    | .yield (none,p3,q3,r3,g3),hz=>exact⟨hs3,p3,q3,r3,g3,rfl,hz.1,by have:=hz.2;lia⟩
   case post =>
    rintro t st2 ⟨hs2,z,t',rfl,hz⟩;exact yar (h _ _ hs2 hz)
end
section
theorem oW:∀ (zs:AU) (n L:Nat) (xs:AD),L+n+zs.length<=xs.size ->
  ((zs.zipIdx n).foldl (λa (pj:Keyed×Nat)=>a.setIfInBounds (L+pj.2) pj.1) xs).toList=xs.toList.take (L+n)++zs++xs.toList.drop (L+n+zs.length)
 | [],n,L,xs,h=>by simp
 | z::zs,n,L,xs,h=>by
  rw[List.zipIdx_cons,List.foldl_cons];simp only[za2]at h;rw[oW zs (n+1) L (xs.setIfInBounds (L+n) z) (by rw[Array.size_setIfInBounds];lia)];have hlt:L+n<xs.toList.length:=by rw[zal];lia
  rw[Array.toList_setIfInBounds];have e1:(xs.toList.set (L+n) z).take (L+(n+1))=xs.toList.take (L+n)++[z]:=by
   rw[show L+(n+1)=(L+n)+1 by lia,ydm,List.take_set,ycp hlt]
   congr 1
   exact List.set_eq_of_length_le (by rw[zaw];grind)
  have e2:(xs.toList.set (L+n) z).drop (L+(n+1)+zs.length)=xs.toList.drop (L+n+(z::zs).length):=by
   rw[List.drop_set_of_lt (by lia),za2]
   congr 1
   lia
  rw[e1,e2];simp
theorem Fn(zs xs:AD)(L:Nat)(h:L+zs.size<=xs.size) :
  (zs.toList.zipIdx.foldl (λa (pj:Keyed×Nat)=>a.setIfInBounds (L+pj.2) pj.1) xs).toList=xs.toList.take L++zs.toList++xs.toList.drop (L+zs.size):=by
 have:=oW zs.toList 0 L xs (by rw[zal];omega);simpa using this
end
section
variable{M:Model}{A:AK}{E:A9}{s:AE}{kd:SortKind}{o:Ord M A E s kd}
theorem qg{xs:AD}{pre B:AU}(e:xs.toList=pre++B++post)(hi:i<B.length):xs[pre.length+i]?=B[i]?:=by
 have:xs.toList[pre.length+i]?=B[i]?:=by
  rw[e,zah,zbr (by lia),zbw,yd9 hi]
 rw[<- this];simp
theorem iH{xs:AD}{l:AU}(e:xs.toList=l):xs.size=l.length:=by rw[<- e];simp
theorem zv{xs:AD}{pre B:AU}(e:xs.toList=pre++B++post)(ub:B.Pairwise o.le):o.up xs pre.length (pre.length+B.length):=λi j x y h1 h2 h3 ex ey=>by
 have ex':=qg e (i:=i-pre.length) (by grind);have ey':=qg e (i:=j-pre.length) (by lia);rw[show pre.length+(i-pre.length)=i by grind,ex]at ex';rw[show pre.length+(j-pre.length)=j by lia,ey]at ey';have bu:(B.toArray).toList.Pairwise o.le:=by simpa using ub
 exact vq (u:=B.toArray) bu (i:=i-pre.length) (j:=j-pre.length) (by grind) (by simpa using ex'.symm) (by simpa using ey'.symm)
def mAt:Nat->StateT SortSt Sem Bool:=sortPriv% PySem.Builtin.mergeAt
theorem Fo(i:Nat):mAt i=(do
  let st <- get
  let (some (p,n,pw),some (q,m,_)):=((pendingOf st)[i]?,(pendingOf st)[i+1]?) | unsupported "internal:list.sort.pending"
  set (SortSt.mk' (kindOf st) (arrOf st) (((pendingOf st).setIfInBounds i (p,n+m,pw)).eraseIdxIfInBounds (i+1)) (gallopOf st) (failedOf st))
  let some k <- gal false (<- elem' (arrOf st) q) (arrOf st) p n 0 | return false
  let (p,n):=(p+k,n-k)
  if n==0 then return true
  let some m <- gal true (<- elem' (arrOf st) (p+n-1)) (arrOf st) q m (m-1) | return false
  if m==0 then return true
  let x:=(arrOf st).extract p q
  let y:=(arrOf st).extract q (q+m)
  let z <- if n<=m then mlo x y else mhi x y
  modify λst=>setArr st (z.toList.zipIdx.foldl (λa (pj:Keyed×Nat)=>a.setIfInBounds (p+pj.2) pj.1) (arrOf st))
  return (failedOf (<- get)).isNone):=rfl
theorem CH{st:σ}{Q:PUnit->σ->Prop}(h:Q ⟨⟩ st2):wpS M A E s (set st2:StateT σ Sem PUnit) Q st:=by
 unfold wpS;rw[StateT.run_set];exact ya9 ⟨rfl,h⟩
theorem js{l:AU}(h:x∈l):∃ i,i<l.length/\l[i]?=some x:=by
 obtain⟨i,e⟩:=zax.mp h;exact⟨i,(zaf.mp e).1,e⟩
theorem CI{st:AW}{i:Nat}{Q:Bool->SortSt->Prop}{pre B C post:AU}{P1 P2:Ab}{pw pw2:Nat}(hk:kindOf st=kd)(hf:failedOf st=none)(ga:o.all (arrOf st))
  (e:(arrOf st).toList=pre++B++C++post) (uB:B.Pairwise o.le) (uC:C.Pairwise o.le) (hB:0<B.length) (hC:0<C.length)
  (ep:(pendingOf st).toList=P1++(pre.length,B.length,pw)::(pre.length+B.length,C.length,pw2)::P2) (hi:i=P1.length)
  (h:∀ st' D,kindOf st'=kd->failedOf st'=none->(arrOf st').toList=pre++D++post->D.Pairwise o.le->D.Perm (B++C)->(pendingOf st').toList=P1++(pre.length,B.length+C.length,pw)::P2->Q true st') :
  wpS M A E s (mAt i) Q st:=by
 subst hi;have g1:(pendingOf st)[P1.length]?=some (pre.length,B.length,pw):=by
  rw[<- zb4,ep];simp
 have g2:(pendingOf st)[P1.length+1]?=some (pre.length+B.length,C.length,pw2):=by
  rw[<- zb4,ep,zbr (by lia)];simp
 rw[Fo];refine yaq (wpS_get ?_);rw[g1,g2];dsimp only;refine yaq (CH ?_);have pp:(((pendingOf st).setIfInBounds P1.length (pre.length,B.length+C.length,pw)).eraseIdxIfInBounds (P1.length+1)).toList=P1++(pre.length,B.length+C.length,pw)::P2:=by
  rw[Array.toList_eraseIdxIfInBounds,Array.toList_setIfInBounds,ep,List.set_append_right _ _ (za5 _),Nat.sub_self,List.set_cons_zero,List.eraseIdx_append_of_length_le (by omega),zbw];rfl
 have eB:(arrOf st).toList=pre++B++(C++post):=by rw[e];simp
 have eC:(arrOf st).toList=(pre++B)++C++post:=e;have lB:(pre++B).length=pre.length+B.length:=by simp
 have sz:=iH e;simp only[za7]at sz;have aB:∀ j,j<B.length->(arrOf st)[pre.length+j]?=B[j]?:=λj hj=>qg eB hj
 have aC:∀ j,j<C.length->(arrOf st)[pre.length+B.length+j]?=C[j]?:=λj hj=>by have:=qg eC hj;rwa [lB]at this
 have gB:∀ x∈B,o.G x:=λx hx=>by
  obtain⟨j,hj,ej⟩:=js hx;exact ga _ x ((aB j hj).trans ej)
 have gC:∀ x∈C,o.G x:=λx hx=>by
  obtain⟨j,hj,ej⟩:=js hx;exact ga _ x ((aC j hj).trans ej)
 obtain⟨c0,ec0⟩:∃ c,C[0]?=some c:=⟨C[0],za6 hC⟩;have ac0:(arrOf st)[pre.length+B.length]?=some c0:=by have:=aC 0 hC;rw[Nat.add_zero]at this;rw[this,ec0]
 have c0C:∀ c∈C,o.le c0 c:=λc hc=>j9 (u:=C.toArray) (by simpa using uC) (p:=0) (x:=c0) (by simpa using ec0) c (by simpa using hc)
 refine yaq (aV ac0 ?_);refine yaq (gK o (by exact hk) (gC _ (zam ec0)) ga (by lia) hB (zv eB uB) λk hkn k1 k2=>?_);have lo1:∀ x∈B.take k,o.le x c0:=λx hx=>by
  obtain⟨j,hj,ej⟩:=js hx;rw[zaw]at hj;rw[zb8,yad (by lia)]at ej;have z:=k1 j x (by omega) ((aB j (by grind)).trans ej);have z':o.b c0 x=false:=by simpa [Ord.byB] using z
  exact o.kC z'
 have hi1:∀ x∈B.drop k,o.le c0 x:=λx hx=>by
  obtain⟨j,hj,ej⟩:=js hx;rw[zbe]at hj;rw[zb7]at ej;have z:=k2 (k+j) x (by lia) (by grind) ((aB (k+j) (by omega)).trans ej);exact o.kF (by simpa [Ord.byB] using z)
 dsimp only;by_cases hn:B.length-k=0
 ·rw[yad (by simpa using hn)]
  refine yar (h _ (B++C) hk hf (by rw[e];simp) (zas.mpr ⟨uB,uC,λx hx y hy=>?_⟩) (List.Perm.refl _) pp);rw[<- zav (show B.length<=k by grind)]at hx;exact o.le_trans (lo1 x hx) (c0C y hy)
 ·rw[yac (by simpa using hn)]
  obtain⟨bl,ebl⟩:∃ b,B[B.length-1]?=some b:=⟨B[B.length-1],za6 (by omega)⟩;have abl:(arrOf st)[pre.length+k+(B.length-k)-1]?=some bl:=by
   rw[show pre.length+k+(B.length-k)-1=pre.length+(B.length-1) by lia,aB _ (by omega),ebl]
  have Bbl:∀ b∈B,o.le b bl:=λb hb=>iY (u:=B.toArray) (by simpa using uB) (p:=B.length) (x:=bl) (by simpa using ebl) b (by simpa using hb)
  refine yaq (aV abl ?_);have upC:=zv eC uC;rw[lB]at upC;refine yaq (gK o (by exact hk) (gB _ (zam ebl)) ga (by lia) (by grind) upC λm hmn m1 m2=>?_);have lo2:∀ x∈C.take m,o.le x bl:=λx hx=>by
   obtain⟨j,hj,ej⟩:=js hx;rw[zaw]at hj;rw[zb8,yad (by lia)]at ej;exact o.kF (m1 j x (by omega) ((aC j (by grind)).trans ej))
  have hi2:∀ x∈C.drop m,o.le bl x:=λx hx=>by
   obtain⟨j,hj,ej⟩:=js hx;rw[zbe]at hj;rw[zb7]at ej;exact o.kC (m2 (m+j) x (by lia) (by grind) ((aC (m+j) (by omega)).trans ej))
  dsimp only;by_cases hm:m=0
  ·rw[yad (by simpa using hm)]
   subst hm;refine yar (h _ (B++C) hk hf (by rw[e];simp) (zas.mpr ⟨uB,uC,λx hx y hy=>?_⟩) (List.Perm.refl _) pp);exact o.le_trans (Bbl x hx) (hi2 y (by simpa using hy))
  ·rw[yac (by simpa using hm)]
   generalize hX:(arrOf st).extract (pre.length+k) (pre.length+B.length)=X;generalize hY:(arrOf st).extract (pre.length+B.length) (pre.length+B.length+m)=Y;have lX:X.toList=B.drop k:=by
    rw[<- hX,xd,eB,<- lB,List.take_left,List.drop_append,zb9 (by lia),zbw,zbd]
   have lY:Y.toList=C.take m:=by
    rw[<- hY,xk,eC,<- lB,zah,List.drop_left,List.take_append_of_le_length (by omega)]
   have szX:X.size=B.length-k:=by rw[iH lX,zbe]
   have szY:Y.size=m:=by rw[iH lY,zaw];lia
   have gX:o.all X:=λi x ex=>gB x (yd2 (by rw[<- lX];exact Array.mem_toList_iff.mpr (ycu ex)))
   have gY:o.all Y:=λi x ex=>gC x (zbl (by rw[<- lY];exact Array.mem_toList_iff.mpr (ycu ex)))
   have uX:X.toList.Pairwise o.le:=by rw[lX];exact uB.sublist (zbv _ _)
   have uY:Y.toList.Pairwise o.le:=by rw[lY];exact uC.sublist (zbm _ _)
   have p1:∀ x y,Y[0]?=some x->y∈X.toList->o.le x y:=λx y ex hy=>by
    have:x=c0:=by
     have e1:Y.toList[0]?=some x:=by simpa using ex
     rw[lY,zb8,yad (by lia),ec0]at e1;exact(yat e1).symm
    rw[this];exact hi1 y (by rw[<- lX];exact hy)
   have p2:∀ x y,x∈Y.toList->X[X.size-1]?=some y->o.le x y:=λx y hx ey=>by
    have:y=bl:=by
     have e1:X.toList[X.size-1]?=some y:=by simpa using ey
     rw[lX,zb7,szX,show k+(B.length-k-1)=B.length-1 by lia,ebl]at e1;exact(yat e1).symm
    rw[this];exact lo2 x (by rw[<- lY];exact hx)
   have fin:∀ (st':AW) (out:AD),kindOf st'=kd->arrOf st'=arrOf st->(pendingOf st').toList=P1++(pre.length,B.length+C.length,pw)::P2->failedOf st'=none->o.kU X.toList Y.toList out.toList ->
     wpS M A E s (do modify λst=>setArr st (out.toList.zipIdx.foldl (λa (pj:Keyed×Nat)=>a.setIfInBounds (pre.length+k+pj.2) pj.1) (arrOf st));return (failedOf (<- get)).isNone) Q st':=λst' out hk' ha' hp' hf' hm'=>by
    refine yaq (wpS_modify (yaq (wpS_get ?_)));have hm1:=hm'.1;rw[lX,lY]at hm1;have szO:out.size=B.length-k+m:=by
     have:=hm1.length_eq;rw[zal,za7,zbe,zaw]at this
     lia
    have ef:(failedOf (setArr st' (out.toList.zipIdx.foldl (λa (pj:Keyed×Nat)=>a.setIfInBounds (pre.length+k+pj.2) pj.1) (arrOf st')))).isNone=true:=by
     show(failedOf st').isNone=true;rw[hf'];rfl
    rw[ef];refine yar (h _ (B.take k++out.toList++C.drop m) hk' hf' ?_ ?_ ?_ hp')
    ·show(out.toList.zipIdx.foldl (λa (pj:Keyed×Nat)=>a.setIfInBounds (pre.length+k+pj.2) pj.1) (arrOf st')).toList=_
     rw[ha',Fn _ _ _ (by rw[szO];grind),szO];have t1:(arrOf st).toList.take (pre.length+k)=pre++B.take k:=by
      rw[eB,zah,List.take_append,zav (by lia),zbw,List.take_append_of_le_length (by omega)]
     have t2:(arrOf st).toList.drop (pre.length+k+(B.length-k+m))=C.drop m++post:=by
      rw[eC,zah,List.drop_append,zb9 (by grind),lB,show pre.length+k+(B.length-k+m)-(pre.length+B.length)=m by lia,zbd,List.drop_append_of_le_length (by omega)]
     rw[t1,t2];simp
    ·have inO:∀ x∈out.toList,x∈B.drop k\/x∈C.take m:=λx hx=>zaj.mp (hm1.mem_iff.mp hx)
     have uB':=uB;rw[<- zay k B]at uB';have uC':=uC;rw[<- zay m C]at uC';refine zas.mpr ⟨zas.mpr ⟨uB.sublist (zbm _ _),hm'.2,λx hx y hy=>?_⟩,uC.sublist (zbv _ _),λx hx y hy=>?_⟩
     ·rcases inO y hy with z | z
      ·exact(zas.mp uB').2.2 x hx y z
      ·exact o.le_trans (lo1 x hx) (c0C y (zbl z))
     ·rcases zaj.mp hx with hx | hx
      ·exact o.le_trans (Bbl x (zbl hx)) (hi2 y hy)
      ·rcases inO x hx with z | z
       ·exact o.le_trans (Bbl x (yd2 z)) (hi2 y hy)
       ·exact(zas.mp uC').2.2 x z y hy
    ·refine((ybq _ hm1).append_right _).trans ?_
     rw[<- zah,zay,zah,zay]
   by_cases hnm:B.length-k<=m
   ·rw[yad hnm]
    refine yaq (CC ⟨gX,gY,uX,uY,p2⟩ (by exact hk) (by lia) (by lia) p1 λst' out gs mg=>?_);exact fin st' out (gs.k.trans hk) gs.a (by rw[gs.p];exact pp) (gs.f.trans hf) mg
   ·rw[yac hnm]
    refine yaq (CG ⟨gX,gY,uX,uY,p1⟩ (by exact hk) (by lia) (by omega) p2 λst' out gs mg=>?_);exact fin st' out (gs.k.trans hk) gs.a (by rw[gs.p];exact pp) (gs.f.trans hf) mg
structure As(lo:Nat)(st st':SortSt):Prop where
 k:kindOf st'=kindOf st
 p:pendingOf st'=pendingOf st
 f:failedOf st'=failedOf st
 perm:(arrOf st').Perm (arrOf st)
 pre:∀ j,j<lo->(arrOf st')[j]?=(arrOf st)[j]?
theorem As.refl(lo:Nat)(st:AW):As lo st st:=⟨rfl,rfl,rfl,.refl _,λ_ _=>rfl⟩
theorem As.arr{lo:Nat}{st st':AW}(h:As lo st st'){xs:AD}(hp:xs.Perm (arrOf st'))(hq:∀ j,j<lo->xs[j]?=(arrOf st')[j]?):As lo st (setArr st' xs) :=
 ⟨h.k,h.p,h.f,hp.trans h.perm,λj hj=>(hq j hj).trans (h.pre j hj)⟩
theorem As.all{lo:Nat}{st st':AW}(h:As lo st st')(ga:o.all (arrOf st)):o.all (arrOf st'):=λi x e=>by
 have:x∈(arrOf st'):=ycu e;have:x∈(arrOf st):=h.perm.mem_iff.mp this;obtain⟨j,e2⟩:=Array.getElem?_of_mem this;exact ga j x e2
theorem As.size{lo:Nat}{st st':AW}(h:As lo st st'):(arrOf st').size=(arrOf st).size:=h.perm.size_eq
theorem gJ{st:AW}{i j:Nat}{x y:AV}{Q:Option Bool->SortSt->Prop}(hk:kindOf st=kd)(ga:o.all (arrOf st))(ex:(arrOf st)[i]?=some x)(ey:(arrOf st)[j]?=some y)(h:Q (some (o.b x y)) st):wpS M A E s (ltAt' i j) Q st:=by
 rw[ltAt'_eq];refine yaq (wpS_get ?_);exact yaq (aV ex (yaq (aV ey (o.lt hk (ga _ _ ex) (ga _ _ ey) h))))
def zw:Nat->Nat->Nat->StateT SortSt Sem Bool:=sortPriv% PySem.Builtin.binarySort
theorem zx(lo n ok:Nat):zw lo n ok=(do
  for t in [max ok 1:n] do
   let mut a:=0
   let mut b:=t
   for _ in [0:t] do
    if a ≥ b then break
    let some less <- ltAt' (lo+t) (lo+(a+b) / 2) | return false
    if less then b:=(a+b) / 2 else a:=(a+b) / 2+1
   moveDown' (lo+t) (lo+a)
  return true):=rfl
theorem xD{st:AW}{lo n ok:Nat}{Q:Bool->SortSt->Prop}(hk:kindOf st=kd)(ga:o.all (arrOf st))(hn:lo+n<=(arrOf st).size)(hok:ok<=n)(hs:o.up (arrOf st) lo (lo+ok))
  (h:∀ st',As lo st st'->o.up (arrOf st') lo (lo+n)->Q true st'):wpS M A E s (zw lo n ok) Q st:=by
 rw[zx];refine yaq (ybb (ybf (I:=λt c st'=>c=(none,())/\As lo st st'/\o.up (arrOf st') lo (lo+min t n)) (Q:=λc st'=>c=(none,())/\As lo st st'/\o.up (arrOf st') lo (lo+n)) ?step ?fin ?init) ?post)
 case post =>
  rintro c st' ⟨rfl,h1,h2⟩;exact yar (h st' h1 h2)
 case init =>
  refine⟨rfl,.refl _ _,λi j x y h1 h2 h3 ex ey=>?_⟩;by_cases hz:ok=0
  ·have:i=j:=by lia
   subst this;rw[ex]at ey;cases ey;exact o.le_refl _
  ·exact hs i j x y h1 h2 (by lia) ex ey
 case fin =>
  rintro c st' ⟨hc,h1,h2⟩;refine⟨hc,h1,?_⟩
  rwa [show min (max (max ok 1) n) n=n by lia]at h2
 case step =>
  rintro t c st' h1 h2 ⟨rfl,hA,hU⟩;rw[show min t n=t by lia]at hU;have hk':kindOf st'=kd:=hA.k.trans hk;have ga':=hA.all ga;have hsz:=hA.size;obtain⟨x,ex⟩:=cN (u:=arrOf st') (p:=lo+t) (by lia);refine yaq (ybb (ybf (I:=λz c st''=>st''=st'/\∃ a b,c=(none,a,b)/\a<=b/\b<=t/\b-a<=t-z/\(∀ i y,i<a->(arrOf st')[lo+i]?=some y->o.le y x)/\(∀ i y,b<=i->i<t->(arrOf st')[lo+i]?=some y->o.b x y=true))
   (Q:=λc st''=>st''=st'/\∃ a,c=(none,a,a)/\a<=t/\(∀ i y,i<a->(arrOf st')[lo+i]?=some y->o.le y x)/\(∀ i y,a<=i->i<t->(arrOf st')[lo+i]?=some y->o.b x y=true)) ?istep ?ifin ⟨rfl,0,t,rfl,by lia,by lia,by lia,λi y hi=>by lia,λi y p q=>by lia⟩) ?ipost)
  case ifin =>
   rintro c st'' ⟨rfl,a,b,rfl,h3,h4,h5,a1,a2⟩;have:a=b:=by grind
   subst this;exact⟨rfl,a,rfl,h4,a1,a2⟩
  case istep =>
   rintro z c st'' _ hz ⟨rfl,a,b,rfl,h3,h4,h5,a1,a2⟩;dsimp only;by_cases hge:a ≥ b
   ·rw[yad hge]
    have:a=b:=by lia
    subst this;exact yar ⟨rfl,a,rfl,h4,a1,a2⟩
   ·rw[yac hge]
    obtain⟨y,ey⟩:=cN (u:=arrOf st'') (p:=lo+(a+b) / 2) (by lia);refine yaq (gJ hk' ga' ex ey ?_);cases hb:o.b x y with
    | true =>
     refine yar ⟨rfl,a,(a+b) / 2,rfl,by lia,by lia,by grind,a1,λi y' hi hi2 ey'=>?_⟩;exact o.b_le hb (hU _ _ y y' (by lia) (by lia) (by lia) ey ey')
    | false =>
     refine yar ⟨rfl,(a+b) / 2+1,b,rfl,by lia,by omega,by grind,λi y' hi ey'=>?_,a2⟩;exact o.le_trans (hU _ _ y' y (by lia) (by lia) (by lia) ey' ey) (o.kC hb)
  case ipost =>
   rintro c st'' ⟨rfl,a,rfl,h3,a1,a2⟩;show wpS _ _ _ _ (do moveDown' (lo+t) (lo+a);pure (ForInStep.yield (none,()))) _ _;rw[moveDown'_eq];have hb:=getElem?_bubble (xs:=arrOf st'') (src:=lo+t) (by lia) (lo+t-(lo+a)) (by grind);rw[show lo+t-(lo+t-(lo+a))=lo+a by grind]at hb;refine yaq (wpS_modify (yar ⟨rfl,hA.arr (bubble_perm _ _ _) λj hj=>?_,?_⟩))
   ·rw[hb j,yac (by lia),yac (by lia)]
   ·rw[show min (t+1) n=t+1 by lia]
    intro i j p q h5 h6 h7 ep eq;have ep':(bubble (arrOf st'') (lo+t) (lo+t-(lo+a)))[i]?=some p:=ep;have eq':(bubble (arrOf st'') (lo+t) (lo+t-(lo+a)))[j]?=some q:=eq;rw[hb i]at ep';rw[hb j]at eq';by_cases c1:i=lo+a
    ·rw[yad c1]at ep'
     rw[ex]at ep';cases ep';by_cases c2:j=lo+a
     ·rw[yad c2,ex]at eq'
      cases eq';exact o.le_refl _
     ·rw[yac c2,yad (by lia)]at eq'
      exact o.kF (a2 (j-1-lo) q (by lia) (by grind) (by rw[show lo+(j-1-lo)=j-1 by lia];exact eq'))
    ·rw[yac c1]at ep'
     by_cases c3:lo+a<i/\i<=lo+t
     ·rw[yad c3]at ep'
      rw[yac (by grind),yad (by grind)]at eq';exact hU _ _ p q (by lia) (by grind) (by lia) ep' eq'
     ·rw[yac c3]at ep'
      by_cases c2:j=lo+a
      ·rw[yad c2,ex]at eq'
       cases eq';exact a1 (i-lo) p (by lia) (by rw[show lo+(i-lo)=i by grind];exact ep')
      ·rw[yac c2]at eq'
       by_cases c4:lo+a<j/\j<=lo+t
       ·rw[yad c4]at eq'
        exact hU _ _ p q (by omega) (by grind) (by omega) ep' eq'
       ·rw[yac c4]at eq'
        exact hU _ _ p q (by omega) (by omega) (by grind) ep' eq'
def crun:Nat->Nat->StateT SortSt Sem (Option Nat):=sortPriv% PySem.Builtin.countRun
end
section
def cr3(lo left n:Nat):StateT SortSt Sem (Option Nat):=do
 let mut n:=n
 for _ in [n:left] do
  let some less <- ltAt' (lo+n) (lo+n-1) | return none
  if less then break
  n:=n+1
 return some n
def cr2b(lo left n:Nat):StateT SortSt Sem (Option Nat):=do
 reverseSlice' lo (lo+n)
 cr3 lo left n
def cr2a(lo left n same:Nat):StateT SortSt Sem (Option Nat) :=
 if same>0 then do
  reverseSlice' (lo+n-(same+1)) (lo+n)
  cr2b lo left n
 else cr2b lo left n
abbrev CT:=Option (Option Nat)×Nat×Nat
def cr2s(lo:Nat)(t:CT):StateT SortSt Sem (ForInStep CT):=do
 match <- ltAt' (lo+t.2.1) (lo+t.2.1-1) with
 | some less =>
  if less then
   if t.2.2>0 then do
    reverseSlice' (lo+t.2.1-(t.2.2+1)) (lo+t.2.1)
    pure (.yield (none,t.2.1+1,0))
   else pure (.yield (none,t.2.1+1,0))
  else do
   match <- ltAt' (lo+t.2.1-1) (lo+t.2.1) with
   | some more=>if more then pure (.done (none,t.2.1,t.2.2)) else pure (.yield (none,t.2.1+1,t.2.2+1))
   | _=>pure (.done (some none,t.2.1,t.2.2))
 | _=>pure (.done (some none,t.2.1,t.2.2))
def cr2(lo left n:Nat):StateT SortSt Sem (Option Nat):=do
 rule "list.sort.descending-run"
 let t <- forIn [n+1:left] ((none,n+1,0):CT) (λ_ t=>cr2s lo t)
 match t.1 with
 | some z=>pure z
 | none=>cr2a lo left t.2.1 t.2.2
def cr1(lo left n:Nat):StateT SortSt Sem (Option Nat) :=
 if n==left then pure (some n)
 else if n>1 then do
  match <- ltAt' lo (lo+n-1) with
  | some rose=>if rose then pure (some n) else do
   reverseSlice' lo (lo+n)
   cr2 lo left n
  | _=>pure none
 else cr2 lo left n
theorem zy(lo left:Nat):crun lo left=(do
  let t <- forIn [1:left] ((none,1):Option (Option Nat)×Nat) (λ_ t=>do
   match <- ltAt' (lo+t.2) (lo+t.2-1) with
   | some less=>if less then pure (.done (none,t.2)) else pure (.yield (none,t.2+1))
   | _=>pure (.done (some none,t.2)))
  match t.1 with
  | some z=>pure z
  | none=>cr1 lo left t.2):=by kernel_rfl
end
section
variable{M:Model}{A:AK}{E:A9}{s:AE}{kd:SortKind}{o:Ord M A E s kd}
def Ord.dn(o:Ord M A E s kd)(xs:Array Keyed)(lo hi:Nat):Prop:=∀ i j x y,lo<=i->i<=j->j<hi->xs[i]?=some x->xs[j]?=some y->o.le y x
def Ord.eqs(o:Ord M A E s kd)(xs:Array Keyed)(a b:Nat):Prop:=∀ i j x y,a<=i->i<b->a<=j->j<b->xs[i]?=some x->xs[j]?=some y->o.le x y
abbrev rv(xs:Array Keyed)(i j:Nat):Array Keyed:=mirror xs i j ((j-i) / 2)
theorem jE{xs:AD}{i j:Nat}(h:j<=xs.size)(k:Nat):(rv xs i j)[k]?=if i<=k/\k<j then xs[i+j-1-k]? else xs[k]?:=getElem?_mirror_all h k
theorem up_rv{xs:AD}{lo:Nat}(h:hi<=xs.size)(d:o.dn xs lo hi):o.up (rv xs lo hi) lo hi:=λi j x y h1 h2 h3 ex ey=>by
 rw[jE h,yad (by grind)]at ex ey;exact d _ _ y x (by omega) (by omega) (by omega) ey ex
theorem Ew{xs:AD}{lo:Nat}(h:hi<=xs.size)(ha:lo<=a)(d:o.dn xs lo hi)(q:o.eqs xs a hi):o.dn (rv xs a hi) lo hi:=λi j x y h1 h2 h3 ex ey=>by
 rw[jE h]at ex ey;by_cases c1:a<=i
 ·rw[yad (by grind)]at ex ey
  exact q _ _ y x (by omega) (by omega) (by omega) (by omega) ey ex
 ·rw[yac (by lia)]at ex
  by_cases c2:a<=j
  ·rw[yad (by lia)]at ey
   exact d _ _ x y h1 (by omega) (by omega) ex ey
  ·rw[yac (by lia)]at ey
   exact d _ _ x y h1 h2 h3 ex ey
theorem jK{st:AW}{i j:Nat}{Q:Unit->SortSt->Prop}(h:Q () (setArr st (rv (arrOf st) i j))):wpS M A E s (reverseSlice' i j) Q st:=by
 rw[reverseSlice'_eq];exact wpS_modify h
theorem As.rv{lo:Nat}{st:AW}(h:As lo st st')(hb:b<=(arrOf st').size)(ha:lo<=a):As lo st (setArr st' (BF.rv (arrOf st') a b)) :=
 h.arr (mirror_perm _ _ _ _) λj hj=>by rw[jE hb,yac (by lia)]
variable{st st':AW}{lo left n:Nat}{Q:Option Nat->SortSt->Prop}
theorem vG(h1:1<=n)(u:o.up xs lo (lo+n)){x:AV}(ex:xs[lo+n]?=some x)(ey:xs[lo+n-1]?=some y)(hle:o.le y x):o.up xs lo (lo+(n+1)):=λi j a b h2 h3 h4 ea eb=>by
 by_cases c:j=lo+n
 ·subst c
  rw[ex]at eb;cases eb;by_cases c2:i=lo+n
  ·subst c2
   rw[ex]at ea;cases ea;exact o.le_refl _
  ·exact o.le_trans (u i (lo+n-1) a y h2 (by lia) (by omega) ea ey) hle
 ·exact u i j a b h2 h3 (by lia) ea eb
theorem CJ(hk:kindOf st=kd)(ga:o.all (arrOf st))(hA:As lo st st')(hsz:lo+left<=(arrOf st).size)(h1:1<=n)(hn:n<=left)(u:o.up (arrOf st') lo (lo+n))
  (h:∀ m st2,As lo st st2->1<=m->m<=left->o.up (arrOf st2) lo (lo+m)->Q (some m) st2):wpS M A E s (cr3 lo left n) Q st':=by
 unfold cr3;have sz:=hA.size;refine yaq (ybb (ybf (I:=λt c st2=>st2=st'/\c=(none,t)/\t<=left/\1<=t/\o.up (arrOf st') lo (lo+t)) (Q:=λc st2=>st2=st'/\∃ t,c=(none,t)/\t<=left/\1<=t/\o.up (arrOf st') lo (lo+t)) ?step ?fin ⟨rfl,rfl,hn,h1,u⟩) ?post)
 case fin =>
  rintro c st2 ⟨rfl,rfl,h2,h3,h4⟩;exact⟨rfl,_,rfl,h2,h3,h4⟩
 case post =>
  rintro c st2 ⟨rfl,t,rfl,h2,h3,h4⟩;exact yar (h t _ hA h3 h2 h4)
 case step =>
  rintro t c st2 _ ht ⟨rfl,rfl,h2,h3,h4⟩;obtain⟨x,ex⟩:=cN (u:=arrOf st2) (p:=lo+t) (by lia);obtain⟨y,ey⟩:=cN (u:=arrOf st2) (p:=lo+t-1) (by lia);dsimp only;refine yaq (gJ (hA.k.trans hk) (hA.all ga) ex ey ?_);cases hb:o.b x y with
  | true=>exact yar ⟨rfl,t,rfl,h2,h3,h4⟩
  | false=>exact yar ⟨rfl,rfl,by assumption,by lia,vG h3 h4 ex ey (o.kC hb)⟩
theorem rG(hk:kindOf st=kd)(ga:o.all (arrOf st))(hA:As lo st st')(hsz:lo+left<=(arrOf st).size)(h1:1<=n)(hn:n<=left)(d:o.dn (arrOf st') lo (lo+n))
  (h:∀ m st2,As lo st st2->1<=m->m<=left->o.up (arrOf st2) lo (lo+m)->Q (some m) st2):wpS M A E s (cr2b lo left n) Q st':=by
 unfold cr2b;have sz:=hA.size;exact yaq (jK (CJ hk ga (hA.rv (by lia) (za5 _)) hsz h1 hn (up_rv (by omega) d) h))
theorem zA(hk:kindOf st=kd)(ga:o.all (arrOf st))(hA:As lo st st')(hsz:lo+left<=(arrOf st).size)(hs:same+1<=n)(hn:n<=left)(d:o.dn (arrOf st') lo (lo+n))(q:o.eqs (arrOf st') (lo+n-(same+1)) (lo+n))
  (h:∀ m st2,As lo st st2->1<=m->m<=left->o.up (arrOf st2) lo (lo+m)->Q (some m) st2):wpS M A E s (cr2a lo left n same) Q st':=by
 unfold cr2a;have sz:=hA.size;split
 ·exact yaq (jK (rG hk ga (hA.rv (by lia) (by lia)) hsz (by lia) hn (Ew (by omega) (by omega) d q) h))
 ·exact rG hk ga hA hsz (by lia) hn d h
theorem jc(h1:1<=n)(d:o.dn xs lo (lo+n)){x:AV}(ex:xs[lo+n]?=some x)(ey:xs[lo+n-1]?=some y)(hle:o.le x y):o.dn xs lo (lo+(n+1)):=λi j a b h2 h3 h4 ea eb=>by
 by_cases c:j=lo+n
 ·subst c
  rw[ex]at eb;cases eb;by_cases c2:i=lo+n
  ·subst c2
   rw[ex]at ea;cases ea;exact o.le_refl _
  ·exact o.le_trans hle (d i (lo+n-1) a y h2 (by omega) (by omega) ea ey)
 ·exact d i j a b h2 h3 (by omega) ea eb
theorem vH(hk:kindOf st=kd)(ga:o.all (arrOf st))(hA:As lo st st')(hsz:lo+left<=(arrOf st).size)(h1:1<=n)(hn:n+1<=left)(d:o.dn (arrOf st') lo (lo+(n+1)))
  (h:∀ m st2,As lo st st2->1<=m->m<=left->o.up (arrOf st2) lo (lo+m)->Q (some m) st2):wpS M A E s (cr2 lo left n) Q st':=by
 unfold cr2;refine yaq (wpS_lift (yaf ⟨rfl,?_⟩));refine yaq (ybb (ybf (I:=λt c st2=>As lo st st2/\∃ same,c=(none,t,same)/\t<=left/\same+1<=t/\o.dn (arrOf st2) lo (lo+t)/\o.eqs (arrOf st2) (lo+t-(same+1)) (lo+t))
  (Q:=λc st2=>As lo st st2/\∃ t same,c=(none,t,same)/\t<=left/\same+1<=t/\o.dn (arrOf st2) lo (lo+t)/\o.eqs (arrOf st2) (lo+t-(same+1)) (lo+t)) ?step ?fin ⟨hA,0,rfl,hn,by lia,d,?init⟩) ?post)
 case init =>
  intro i j x y h2 h3 h4 h5 ex ey;have:i=j:=by lia
  subst this;rw[ex]at ey;cases ey;exact o.le_refl _
 case fin =>
  rintro c st2 ⟨hA2,same,rfl,h2,h3,h4,h5⟩;exact⟨hA2,_,same,rfl,h2,h3,h4,h5⟩
 case post =>
  rintro c st2 ⟨hA2,t,same,rfl,h2,h3,h4,h5⟩;exact zA hk ga hA2 hsz h3 h2 h4 h5 h
 case step =>
  rintro t c st2 ht0 ht ⟨hA2,same,rfl,h2,h3,h4,h5⟩;have sz:=hA2.size;obtain⟨x,ex⟩:=cN (u:=arrOf st2) (p:=lo+t) (by lia);obtain⟨y,ey⟩:=cN (u:=arrOf st2) (p:=lo+t-1) (by lia);unfold cr2s;dsimp only;refine yaq (gJ (hA2.k.trans hk) (hA2.all ga) ex ey ?_);have one:∀ (zs:AD),o.eqs zs (lo+(t+1)-(0+1)) (lo+(t+1)):=λzs i j p q a1 a2 a3 a4 ep eq=>by
   have:i=j:=by lia
   subst this;rw[ep]at eq;cases eq;exact o.le_refl _
  cases hb:o.b x y with
  | true =>
   dsimp only;rw[yad rfl];split
   ·refine yaq (jK (yar ⟨hA2.rv (by lia) (by omega),0,rfl,by assumption,by lia,?_,one _⟩))
    have ex':(rv (arrOf st2) (lo+t-(same+1)) (lo+t))[lo+t]?=some x:=by rw[jE (by omega),yac (by lia)];exact ex
    obtain⟨y',ey'⟩:=cN (u:=rv (arrOf st2) (lo+t-(same+1)) (lo+t)) (p:=lo+t-1) (by rw[mirror_size];grind);refine jc (by lia) (Ew (by omega) (by omega) h4 h5) ex' ey' ?_;rw[jE (by omega),yad (by omega)]at ey';exact o.le_trans (o.kF hb) (h5 _ _ y y' (by omega) (by omega) (by omega) (by omega) ey ey')
   ·exact yar ⟨hA2,0,rfl,by assumption,by omega,jc (by lia) h4 ex ey (o.kF hb),one _⟩
  | false =>
   dsimp only;rw[yac za8];refine yaq (gJ (hA2.k.trans hk) (hA2.all ga) ey ex ?_);cases hc:o.b y x with
   | true=>exact yar ⟨hA2,t,same,rfl,h2,h3,h4,h5⟩
   | false =>
    refine yar ⟨hA2,same+1,rfl,by assumption,by lia,jc (by lia) h4 ex ey (o.kC hc),λi j p q a1 a2 a3 a4 ep eq=>?_⟩;have lx:∀ i p,lo+t-(same+1)<=i->i<lo+(t+1)->(arrOf st2)[i]?=some p->o.le p x/\o.le x p:=λi p b1 b2 e=>by
     by_cases c:i=lo+t
     ·subst c
      rw[ex]at e;cases e;exact⟨o.le_refl _,o.le_refl _⟩
     ·exact⟨o.le_trans (h5 _ _ p y b1 (by lia) (by lia) (by omega) e ey) (o.kC hb),o.le_trans (o.kC hc) (h5 _ _ y p (by omega) (by omega) b1 (by omega) ey e)⟩
    exact o.le_trans (lx i p (by lia) (by omega) ep).1 (lx j q (by lia) (by omega) eq).2
theorem zB(hk:kindOf st=kd)(ga:o.all (arrOf st))(hsz:lo+left<=(arrOf st).size)(hl:1<=left)
  (h:∀ m st2,As lo st st2->1<=m->m<=left->o.up (arrOf st2) lo (lo+m)->Q (some m) st2):wpS M A E s (crun lo left) Q st:=by
 rw[zy];have at0:∀ zs:Array Keyed,o.up zs lo (lo+1):=λzs i j p q a1 a2 a3 ep eq=>by
  have:i=j:=by lia
  subst this;rw[ep]at eq;cases eq;exact o.le_refl _
 refine yaq (ybb (ybf (I:=λt c st2=>st2=st/\c=(none,t)/\t<=left/\1<=t/\o.up (arrOf st) lo (lo+t))
  (Q:=λc st2=>st2=st/\∃ t,c=(none,t)/\t<=left/\1<=t/\o.up (arrOf st) lo (lo+t)/\(t=left\/∃ x y,(arrOf st)[lo+t]?=some x/\(arrOf st)[lo+t-1]?=some y/\o.b x y=true)) ?step ?fin ⟨rfl,rfl,hl,by lia,at0 _⟩) ?post)
 case fin =>
  rintro c st2 ⟨rfl,rfl,h2,h3,h4⟩;exact⟨rfl,_,rfl,h2,h3,h4,.inl (by lia)⟩
 case step =>
  rintro t c st2 _ ht ⟨rfl,rfl,h2,h3,h4⟩;obtain⟨x,ex⟩:=cN (u:=arrOf st2) (p:=lo+t) (by lia);obtain⟨y,ey⟩:=cN (u:=arrOf st2) (p:=lo+t-1) (by omega);dsimp only;refine yaq (gJ hk ga ex ey ?_);cases hb:o.b x y with
  | true=>exact yar ⟨rfl,t,rfl,h2,h3,h4,.inr ⟨x,y,ex,ey,hb⟩⟩
  | false=>exact yar ⟨rfl,rfl,by assumption,by lia,vG h3 h4 ex ey (o.kC hb)⟩
 case post =>
  rintro c st2 ⟨rfl,t,rfl,h2,h3,h4,h5⟩;dsimp only;unfold cr1;by_cases c1:t=left
  ·rw[yad (by simpa using c1)]
   exact yar (h t _ (.refl _ _) h3 h2 h4)
  ·rw[yac (by simpa using c1)]
   rcases h5 with h5 | ⟨x,y,ex,ey,hb⟩
   ·exact absurd h5 c1
   ·split
    ·obtain⟨z,ez⟩:=cN (u:=arrOf st2) (p:=lo) (by lia)
     refine yaq (gJ hk ga ez ey ?_);cases hr:o.b z y with
     | true=>exact yar (h t _ (.refl _ _) h3 h2 h4)
     | false =>
      refine yaq (jK (vH hk ga ((As.refl lo st2).rv (by lia) (za5 _)) hsz h3 (by lia) ?_ h));have all:∀ i p,lo<=i->i<lo+t->(arrOf st2)[i]?=some p->o.le p y/\o.le y p:=λi p b1 b2 e =>
       ⟨h4 i (lo+t-1) p y b1 (by omega) (by omega) e ey,o.le_trans (o.kC hr) (h4 lo i z p (za5 _) b1 b2 ez e)⟩
      have q:o.dn (rv (arrOf st2) lo (lo+t)) lo (lo+t):=λi j p q a1 a2 a3 ep eq=>by
       rw[jE (by omega),yad (by grind)]at ep eq;exact o.le_trans (all _ q (by omega) (by omega) eq).1 (all _ p (by omega) (by omega) ep).2
      have ex':(rv (arrOf st2) lo (lo+t))[lo+t]?=some x:=by rw[jE (by omega),yac (by lia)];exact ex
      obtain⟨y',ey'⟩:=cN (u:=rv (arrOf st2) lo (lo+t)) (p:=lo+t-1) (by rw[mirror_size];grind);refine jc h3 q ex' ey' ?_;rw[jE (by omega),yad (by omega)]at ey';exact o.le_trans (o.kF hb) (all _ y' (by omega) (by omega) ey').2
    ·have:t=1:=by lia
     subst this;refine vH hk ga (.refl _ _) hsz (za5 _) (by lia) (jc (za5 _) ?_ ex ey (o.kF hb)) h;intro i j p q a1 a2 a3 ep eq;have:i=j:=by lia
     subst this;rw[ep]at eq;cases eq;exact o.le_refl _
end
section
def mrun:Nat->Nat->Nat->Nat:=sortPriv% PySem.Builtin.minRun
def pwr:Nat->Nat->Nat->Nat->Nat:=sortPriv% PySem.Builtin.power
def Ex:StateT SortSt Sem Unit:=sortPriv% PySem.Builtin.sortRuns
abbrev jO(st:SortSt)(p:Array (Nat×Nat×Nat)):SortSt:=SortSt.mk' (kindOf st) (arrOf st) p (gallopOf st) (failedOf st)
theorem zC:Ex=(do
  let all:=(arrOf (<- get)).size
  let least:=mrun all all 0
  let mut at_:=0
  for _ in [0:all] do
   if at_ ≥ all then break
   let some met <- crun at_ (all-at_) | return
   let mut n:=met
   if n<least then
    rule "list.sort.binary-insertion"
    let most:=min (all-at_) least
    if !(<- zw at_ most n) then return
    n:=most
   if let some (s1,n1,_):=(pendingOf (<- get)).back? then
    let w:=pwr all (2*s1+n1) (2*s1+n1+n1+n) all
    for _ in [0:all] do
     let p:=pendingOf (<- get)
     let some (_,_,older):=(if p.size>1 then p[p.size-2]? else none) | break
     if older<=w then break
     if !(<- mAt (p.size-2)) then return
    modify λst=>jO st ((pendingOf st).modify ((pendingOf st).size-1) λ(x,y,_)=>(x,y,w))
   modify λst=>jO st ((pendingOf st).push (at_,n,0))
   at_:=at_+n
  for _ in [0:all] do
   let p:=pendingOf (<- get)
   if p.size<=1 then break
   let i:=p.size-2
   let before:=if i>0 then p[i-1]?.map (·.2.1) else none
   let i:=if before.any (·<(p[i+1]?.elim 0 (·.2.1))) then i-1 else i
   if !(<- mAt i) then return):=rfl
def srM(w:Nat):StateT SortSt Sem (ForInStep (Option Unit×Unit)):=do
 let st <- get
 match (if (pendingOf st).size>1 then (pendingOf st)[(pendingOf st).size-2]? else none) with
 | some (_,_,older) =>
  if older<=w then pure (.done (none,()))
  else do
   let b <- mAt ((pendingOf st).size-2)
   if !b then pure (.done (some (),())) else pure (.yield (none,()))
 | _=>pure (.done (none,()))
def srP(lo n:Nat):StateT SortSt Sem (ForInStep (Option Unit×Nat)):=do
 modify λst=>jO st ((pendingOf st).push (lo,n,0))
 pure (.yield (none,lo+n))
def srT(all lo n:Nat):StateT SortSt Sem (ForInStep (Option Unit×Nat)):=do
 let st <- get
 match (pendingOf st).back? with
 | some (s1,n1,_)=>do
  let t <- forIn [0:all] ((none,()):Option Unit×Unit) (λ_ _=>srM (pwr all (2*s1+n1) (2*s1+n1+n1+n) all))
  match t.1 with
  | some r=>pure (.done (some r,lo))
  | none=>do
   modify λst=>jO st ((pendingOf st).modify ((pendingOf st).size-1) λx=>(x.1,x.2.1,pwr all (2*s1+n1) (2*s1+n1+n1+n) all))
   srP lo n
 | _=>srP lo n
end
section
variable{M:Model}{A:AK}{E:A9}{s:AE}{kd:SortKind}
inductive kY(o:Ord M A E s kd):Nat->List (Nat×Nat×Nat)->List (List Keyed)->Prop where
 | nil (n:Nat):kY o n [] []
 | cons {n w:Nat} {R:List Keyed} {ps:List (Nat×Nat×Nat)} {Rs:List (List Keyed)} (u:R.Pairwise o.le) (h:0<R.length) (t:kY o (n+R.length) ps Rs):kY o n ((n,R.length,w)::ps) (R::Rs)
variable{o:Ord M A E s kd}
theorem kY.length{ps:Ab}{Rs:List (List Keyed)}(p:kY o n ps Rs):ps.length=Rs.length:=by
 induction p with
 | nil=>rfl
 | cons u h t ih=>simp[ih]
theorem kY.le{ps:Ab}{Rs:List (List Keyed)}(p:kY o n ps Rs):ps.length<=Rs.flatten.length:=by
 induction p with
 | nil=>simp
 | cons u h t ih=>simp only[za2,zbn,za7];lia
theorem kY.snoc{n:Nat}{Rs:List (List Keyed)}(p:kY o n ps Rs){R:AU}(u:R.Pairwise o.le)(h:0<R.length):kY o n (ps++[(n+Rs.flatten.length,R.length,w)]) (Rs++[R]):=by
 induction p with
 | nil n=>exact .cons u h (.nil _)
 | @cons n w' R' ps Rs u' h' t ih =>
  refine .cons u' h' ?_;have:n+(R'::Rs).flatten.length=n+R'.length+Rs.flatten.length:=by simp;lia
  rw[this];exact ih
theorem kY.other{ps:Ab}(p:kY o n ps Rs):∀ {ps':Ab},ps'.map (λx=>(x.1,x.2.1))=ps.map (λx=>(x.1,x.2.1))->kY o n ps' Rs:=by
 induction p with
 | nil n =>
  intro ps' e;cases ps' with
  | nil=>exact .nil n
  | cons a l=>simp at e
 | @cons n w R ps Rs u h t ih =>
  intro ps' e;cases ps' with
  | nil=>simp at e
  | cons a l =>
   obtain⟨a1,a2,a3⟩:=a;simp only[zaa,ycl,Prod.mk.injEq]at e;obtain⟨⟨rfl,rfl⟩,e2⟩:=e;exact .cons u h (ih e2)
theorem kY.pick{ps:Ab}(p:kY o n ps Rs):∀ (i:Nat),i+1<ps.length->∃ P1 P2 Rs1 Rs2 B C w w2,P1.length=i/\ps=P1++(n+Rs1.flatten.length,B.length,w)::(n+Rs1.flatten.length+B.length,C.length,w2)::P2 /\
  Rs=Rs1++B::C::Rs2/\B.Pairwise o.le/\C.Pairwise o.le/\0<B.length/\0<C.length/\∀ D:List Keyed,D.Pairwise o.le->D.length=B.length+C.length->kY o n (P1++(n+Rs1.flatten.length,B.length+C.length,w)::P2) (Rs1++D::Rs2):=by
 induction p with
 | nil n=>intro i hi;simp at hi
 | @cons n w R ps Rs u h t ih =>
  intro i hi;cases i with
  | zero =>
   cases t with
   | nil=>simp at hi
   | @cons _ w2 R2 ps2 Rs2 u2 h2 t2 =>
    refine⟨[],ps2,[],Rs2,R,R2,w,w2,rfl,by simp,rfl,u,u2,h,h2,λD uD lD=>?_⟩;have t3:kY o (n+D.length) ps2 Rs2:=by rw[lD,<- Nat.add_assoc];exact t2
    have:=kY.cons (w:=w) uD (by lia) t3;rw[lD]at this;simpa using this
  | succ i =>
   simp only[za2]at hi;obtain⟨P1,P2,Rs1,Rs2,B,C,v,v2,e1,e2,e3,uB,uC,hB,hC,k⟩:=ih i (by lia);have e:n+(R::Rs1).flatten.length=n+R.length+Rs1.flatten.length:=by simp;lia
   refine⟨(n,R.length,w)::P1,P2,R::Rs1,Rs2,B,C,v,v2,by simp[e1],?_,by simp[e3],uB,uC,hB,hC,λD uD lD=>?_⟩
   ·rw[e,e2];rfl
   ·rw[e]
    exact .cons u h (k D uD lD)
structure SRun(o:Ord M A E s kd)(a₀:Array Keyed)(lo:Nat)(rest:List Keyed)(st:SortSt):Prop where
 k:kindOf st=kd
 f:failedOf st=none
 perm:(arrOf st).Perm a₀
 ex:∃ Rs,(arrOf st).toList=Rs.flatten++rest/\Rs.flatten.length=lo/\kY o 0 (pendingOf st).toList Rs
variable{a₀:AD}{lo:Nat}{rest:AU}{st:AW}
theorem mQ{xs ys:AD}(p:ys.Perm xs)(ga:o.all xs):o.all ys:=λi x e=>by
 obtain⟨j,e2⟩:=Array.getElem?_of_mem (p.mem_iff.mp (ycu e));exact ga j x e2
theorem SRun.merge(S:SRun o a₀ lo rest st)(ga:o.all a₀)(hi:i+1<(pendingOf st).size){Q:Bool->SortSt->Prop}(h:∀ st',SRun o a₀ lo rest st'->(pendingOf st').size+1=(pendingOf st).size->Q true st'):wpS M A E s (mAt i) Q st:=by
 obtain⟨Rs,e,el,p⟩:=S.ex;obtain⟨P1,P2,Rs1,Rs2,B,C,w,w2,e1,e2,e3,uB,uC,hB,hC,k⟩:=p.pick i (by simpa using hi);simp only[ydh]at e2 k;have ea:(arrOf st).toList=Rs1.flatten++B++C++(Rs2.flatten++rest):=by rw[e,e3];simp
 refine CI S.k S.f (mQ S.perm ga) ea uB uC hB hC e2 e1.symm λst' D hk' hf' ha' uD pD hp'=>?_
 have lD:D.length=B.length+C.length:=by rw[pD.length_eq,za7]
 refine h st' ⟨hk',hf',?_,Rs1++D::Rs2,by rw[ha'];simp,?_,by rw[hp'];exact k D uD lD⟩ ?_
 ·refine Array.Perm.trans ?_ S.perm
  rw[Array.perm_iff_toList_perm,ha',ea];refine List.Perm.append_right _ ?_;rw[zah];exact ybq _ pD
 ·rw[<- el,e3]
  simp[lD]
  lia
 ·have a1:=ybm List.length hp'
  have a2:=ybm List.length e2;simp at a1 a2
  grind
theorem CK(S:SRun o a₀ lo rest st)(ga:o.all a₀):wpS M A E s (srM w) (λt st'=>SRun o a₀ lo rest st'/\(t=.done (none,())\/t=.yield (none,()))) st:=by
 unfold srM;refine yaq (wpS_get ?_);by_cases h1:(pendingOf st).size>1
 ·rw[yad h1]
  obtain⟨x,ex⟩:∃ x,(pendingOf st)[(pendingOf st).size-2]?=some x:=⟨(pendingOf st)[(pendingOf st).size-2],getElem?_pos _ _ (by omega)⟩;rw[ex];obtain⟨x1,x2,x3⟩:=x;dsimp only;split
  ·exact yar ⟨S,.inl rfl⟩
  ·exact yaq (S.merge ga (by lia) λst' S' _=>yar ⟨S',.inr rfl⟩)
 ·rw[yac h1]
  exact yar ⟨S,.inl rfl⟩
theorem vI(S:SRun o a₀ lo rest st)(hn:0<n)(hr:n<=rest.length)(u:(rest.take n).Pairwise o.le):wpS M A E s (srP lo n) (λt st'=>t=.yield (none,lo+n)/\SRun o a₀ (lo+n) (rest.drop n) st') st:=by
 unfold srP;refine yaq (wpS_modify (yar ⟨rfl,S.k,S.f,S.perm,?_⟩));obtain⟨Rs,e,el,p⟩:=S.ex;have ln:(rest.take n).length=n:=by rw[zaw];lia
 refine⟨Rs++[rest.take n],?_,by simp[el];grind,?_⟩
 ·show(arrOf st).toList=_
  rw[e];simp
 ·have:=p.snoc (w:=0) u (by lia)
  rw[ydh,el,ln]at this;show kY o 0 ((pendingOf st).push (lo,n,0)).toList _;rw[Array.toList_push];exact this
theorem CL(S:SRun o a₀ lo rest st)(ga:o.all a₀){all:Nat}(hn:0<n)(hr:n<=rest.length)(u:(rest.take n).Pairwise o.le):wpS M A E s (srT all lo n) (λt st'=>t=.yield (none,lo+n)/\SRun o a₀ (lo+n) (rest.drop n) st') st:=by
 unfold srT;refine yaq (wpS_get ?_);cases hb:(pendingOf st).back? with
 | none=>exact vI S hn hr u
 | some x =>
  obtain⟨s1,n1,w1⟩:=x;dsimp only;refine yaq (ybb (ybf (I:=λt c st2=>c=(none,())/\SRun o a₀ lo rest st2) (Q:=λc st2=>c=(none,())/\SRun o a₀ lo rest st2) ?step (λc st2 hh=>hh) ⟨rfl,S⟩) ?post)
  case step =>
   rintro t c st2 _ _ ⟨rfl,S2⟩;refine ybb (CK S2 ga) λt st3 zz1=>?_
   obtain⟨S3,ht⟩:=zz1;rcases ht with rfl | rfl
   ·exact⟨rfl,S3⟩
   ·exact⟨rfl,S3⟩
  case post =>
   rintro c st2 ⟨rfl,S2⟩;dsimp only;refine yaq (wpS_modify ?_);refine vI (lo:=lo) (rest:=rest) (SRun.mk (by exact S2.k) (by exact S2.f) (by exact S2.perm) ?_) hn hr u;obtain⟨Rs,e,el,p⟩:=S2.ex;refine⟨Rs,e,el,p.other ?_⟩;show(((pendingOf st2).modify ((pendingOf st2).size-1) _).toList).map _=_;rw[Array.toList_modify];refine ydt λi=>?_
   rw[zan,zan,List.getElem?_modify];split
   ·cases (pendingOf st2).toList[i]?<;>rfl
   ·cases (pendingOf st2).toList[i]?<;>rfl
end
section
variable{M:Model}{A:AK}{E:A9}{s:AE}{kd:SortKind}{o:Ord M A E s kd}{a₀:AD}{lo:Nat}{rest:AU}{st st':AW}
theorem SRun.as(S:SRun o a₀ lo rest st)(h:As lo st st'):SRun o a₀ lo ((arrOf st').toList.drop lo) st'/\lo+((arrOf st').toList.drop lo).length=a₀.size:=by
 obtain⟨Rs,e,el,p⟩:=S.ex;have sz:(arrOf st').size=a₀.size:=(h.perm.trans S.perm).size_eq;have sz0:(arrOf st).size=a₀.size:=S.perm.size_eq;have le:lo<=a₀.size:=by
  have:=iH e;rw[za7]at this
  lia
 have et:(arrOf st').toList.take lo=Rs.flatten:=by
  have:(arrOf st').toList.take lo=(arrOf st).toList.take lo:=by
   refine ydt λi=>?_
   rw[zb8,zb8];split
   ·have:=h.pre i (by assumption)
    simpa using this
   ·rfl
  rw[this,e,<- el,List.take_left]
 refine⟨⟨h.k.trans S.k,h.f.trans S.f,h.perm.trans S.perm,Rs,?_,el,by rw[h.p];exact p⟩,?_⟩
 ·rw[<- et,zay]
 ·rw[zbe,zal,sz];grind
theorem CM{xs:AD}(h:o.up xs lo (lo+m)):((xs.toList.drop lo).take m).Pairwise o.le:=by
 rw[zbu];intro i j hi hj hij;have bi:i<m:=by rw[zaw]at hi;lia
 have bj:j<m:=by rw[zaw]at hj;grind
 have ei:xs[lo+i]?=some ((xs.toList.drop lo).take m)[i]:=by
  have:=za6 hi;rw[zb8,yad bi,zb7]at this;simpa using this
 have ej:xs[lo+j]?=some ((xs.toList.drop lo).take m)[j]:=by
  have:=za6 hj;rw[zb8,yad bj,zb7]at this;simpa using this
 exact h _ _ _ _ (by lia) (by lia) (by lia) ei ej
theorem CN(c:Prop)[Decidable c](k:Nat)(h:1<k):(if c then k-2-1 else k-2)+1<k:=by split<;>omega
theorem rH{m:StateT SortSt Sem α}(e:m=m')(h:wpS M A E s m Q st):wpS M A E s m' Q st:=e▸h
theorem xE{Q:Unit->SortSt->Prop}(hk:kindOf st=kd)(hf:failedOf st=none)(ga:o.all (arrOf st))(hp:pendingOf st=#[])
  (h:∀ st',failedOf st'=none->(arrOf st').Perm (arrOf st)->(arrOf st').toList.Pairwise o.le->Q () st'):wpS M A E s Ex Q st:=by
 rw[zC];refine yaq (wpS_get ?_);dsimp only;have S0:SRun o (arrOf st) 0 (arrOf st).toList st:=⟨hk,hf,.refl _,[],rfl,rfl,by rw[hp];exact .nil 0⟩;have z0:0+(arrOf st).toList.length=(arrOf st).size:=by simp
 refine yaq (ybb (ybf (I:=λt c st2=>∃ lo rest,c=(none,lo)/\SRun o (arrOf st) lo rest st2/\t<=lo/\lo+rest.length=(arrOf st).size)
  (Q:=λc st2=>c=(none,(arrOf st).size)/\SRun o (arrOf st) (arrOf st).size [] st2) ?step ?fin ⟨0,_,rfl,S0,za5 _,z0⟩) ?post)
 case fin =>
  rintro c st2 ⟨lo,rest,rfl,S,h1,h2⟩;have h3:rest.length=0:=by lia
  have e1:rest=[]:=zaz h3;subst e1;have e2:lo=(arrOf st).size:=by simpa using h2
  subst e2;exact⟨rfl,S⟩
 case step =>
  rintro t c st2 _ ht ⟨lo,rest,rfl,S,h1,h2⟩;dsimp only;by_cases hge:lo ≥ (arrOf st).size
  ·rw[yad hge]
   have h3:rest.length=0:=by lia
   have e1:rest=[]:=zaz h3;subst e1;have e2:lo=(arrOf st).size:=by simpa using h2
   subst e2;exact yar ⟨rfl,S⟩
  ·rw[yac hge]
   have ga2:=mQ S.perm ga;have sz2:(arrOf st2).size=(arrOf st).size:=S.perm.size_eq;refine yaq (zB S.k ga2 (by lia) (by lia) λm st3 A3 m1 m2 u3=>?_);obtain⟨S3,l3⟩:=S.as A3;have ga3:=mQ S3.perm ga;have sz3:(arrOf st3).size=(arrOf st).size:=S3.perm.size_eq;have tail:∀ (n:Nat) (st4:AW) (Q':ForInStep (Option Unit×Nat)->SortSt->Prop),SRun o (arrOf st) lo ((arrOf st4).toList.drop lo) st4->lo+((arrOf st4).toList.drop lo).length=(arrOf st).size->0<n->n<=(arrOf st).size-lo->o.up (arrOf st4) lo (lo+n) ->
     (∀ st',(∃ lo' rest,((none,lo+n):Option Unit×Nat)=(none,lo')/\SRun o (arrOf st) lo' rest st'/\t+1<=lo'/\lo'+rest.length=(arrOf st).size)->Q' (.yield (none,lo+n)) st')->wpS M A E s (srT (arrOf st).size lo n) Q' st4:=λn st4 Q' S4 l4 n0 n1 u4 hq=>by
    refine ybb (CL S4 ga n0 (by grind) (CM u4)) λr st5 zz1=>?_
    obtain⟨er,S5⟩:=zz1;subst er;exact hq st5 ⟨lo+n,_,rfl,S5,by lia,by rw[zbe];lia⟩
   dsimp only;split
   ·refine yaq (wpS_lift (yaf ⟨rfl,?_⟩))
    refine yaq (xD S3.k ga3 (by grind) (by grind) u3 λst4 A4 u4=>?_);obtain⟨S4,l4⟩:=S3.as A4;rw[yac (by decide)];refine rH (m:=srT (arrOf st).size lo (min ((arrOf st).size-lo) (mrun (arrOf st).size (arrOf st).size 0))) ?_ (tail _ st4 _ S4 l4 (by grind) (by omega) u4 λst' hh=>hh)
    ·dsimp only[srT,srM,srP]
     refine bind_congr λsx=>?_
     cases (pendingOf sx).back? with
     | none=>rfl
     | some x =>
      obtain⟨s1,n1,w1⟩:=x;refine Eu (ybm (forIn _ _) (funext λ_=>funext λ_=>bind_congr λsy=>?_)) (funext λtt=>?_)
      ·generalize (if (pendingOf sy).size>1 then (pendingOf sy)[(pendingOf sy).size-2]? else none)=zz
       rcases zz with _ | ⟨_,_,_⟩<;>rfl
      ·obtain⟨z,_⟩:=tt
       cases z<;>rfl
   ·refine rH (m:=srT (arrOf st).size lo m) ?_ (tail m st3 _ S3 l3 (by assumption) m2 u3 λst' hh=>hh)
    ·dsimp only[srT,srM,srP]
     refine bind_congr λsx=>?_
     cases (pendingOf sx).back? with
     | none=>rfl
     | some x =>
      obtain⟨s1,n1,w1⟩:=x;refine Eu (ybm (forIn _ _) (funext λ_=>funext λ_=>bind_congr λsy=>?_)) (funext λtt=>?_)
      ·generalize (if (pendingOf sy).size>1 then (pendingOf sy)[(pendingOf sy).size-2]? else none)=zz
       rcases zz with _ | ⟨_,_,_⟩<;>rfl
      ·obtain⟨z,_⟩:=tt
       cases z<;>rfl
 case post =>
  rintro c st2 ⟨rfl,S⟩;dsimp only;have p2:(pendingOf st2).size<=(arrOf st).size:=by
   obtain⟨Rs,e,el,p⟩:=S.ex;have:=p.le;rw[el]at this;simpa using this
  refine yaq (ybb (ybf (I:=λt c st2=>c=(none,())/\SRun o (arrOf st) (arrOf st).size [] st2/\((pendingOf st2).size+t<=(arrOf st).size\/(pendingOf st2).size<=1))
   (Q:=λc st2=>c=(none,())/\SRun o (arrOf st) (arrOf st).size [] st2/\(pendingOf st2).size<=1) ?step2 ?fin2 ⟨rfl,S,.inl (by omega)⟩) ?post2)
  case fin2 =>
   rintro c st3 ⟨rfl,S3,h3⟩;exact⟨rfl,S3,by lia⟩
  case step2 =>
   rintro t c st3 _ ht ⟨rfl,S3,h3⟩;refine yaq (wpS_get ?_);by_cases h4:(pendingOf st3).size<=1
   ·rw[yad h4]
    exact yar ⟨rfl,S3,h4⟩
   ·rw[yac h4]
    refine yaq (S3.merge ga ?_ λst4 S4 e4=>?_)
    ·exact CN _ _ (by lia)
    ·exact yar ⟨rfl,S4,.inl (by lia)⟩
  case post2 =>
   rintro c st3 ⟨rfl,S3,h3⟩;refine yar (h st3 S3.f S3.perm ?_);obtain⟨Rs,e,el,p⟩:=S3.ex;rw[e,zb0];have hl:=p.length;have hl2:Rs.length<=1:=by rw[<- hl];simpa using h3
   cases Rs with
   | nil=>exact List.Pairwise.nil
   | cons R Rs' =>
    cases Rs' with
    | cons R2 Rs2=>simp at hl2
    | nil =>
     generalize (pendingOf st3).toList=ps at p;cases p with
     | cons u _ _=>simpa using u
end
section
variable{prog:AF}{w:AJ}{A:AK}{E:A9}{s:AE}
abbrev cJ(h:Heap)(a:Addr)(vs:List Value):Heap:=((h.update a (Obj.mapSeq λ_=>#[])).push (seqObj "tuple" vs.toArray 0)).push (seqObj "list" #[] 0)
theorem zD:∀ {L:List α},L.length<2->L.Pairwise R
 | [],_=>.nil
 | [_],_=>zbx _ _
 | _::_::_,h=>absurd h (by simp)
theorem ig{vs:AB}{P:Fin->Shared->Prop}(ho:s.heap.get? a=some (seqObj "list" vs.toArray n))(hle:vs.length<=sizeLine)
  (hkk:2<=vs.length->∀ Q:SortKind->Shared->Prop,Q kd { s with heap:=cJ s.heap a vs }->wpAny (model prog w) A (keyKind' vs.toArray) Q E { s with heap:=cJ s.heap a vs })
  (o:Ord (model prog w) A E { s with heap:=cJ s.heap a vs } kd) (ga:o.all (pairsOf vs))
  (h:∀ ks:Array Keyed,ks.Perm (pairsOf vs)->ks.toList.Pairwise o.le->P (.done (.ret .none)) { s with heap:=sortedHeap s.heap a vs (ks.map (·.2)) }) :
  wpAny (model prog w) A (Builtin.«list.sort» ⟨[.ref a],[]⟩) P E s:=by
 rw[list_sort_plain];have ha:=yaj ho;refine ya8 (listItems_at ho rfl (ya8 (listUpdate_at ho rfl ?_)));obtain⟨e1,h1⟩:∃ e1,(s.heap.update a (Obj.mapSeq λ_=>#[])).get? a=some (seqObj "list" #[] e1):=⟨_,get?_update_seq ho (λ_=>#[])⟩;refine ya8 (seqEpoch_at h1 rfl (ya8 (wpAny_newTuple (ya8 (wpAny_newList (yay ?_))))));have h6:(cJ s.heap a vs).get? a=some (seqObj "list" #[] e1):=by
  have n1:a≠(s.heap.update a (Obj.mapSeq λ_=>#[])).objs.size:=zai (by rw[Heap.size_update];exact ha);have n2:a≠((s.heap.update a (Obj.mapSeq λ_=>#[])).push (seqObj "tuple" vs.toArray 0)).objs.size:=zai (by rw[size_push',Heap.size_update];exact yds ha);rw[Heap.get?_push_ne _ _ _ n2,Heap.get?_push_ne _ _ _ n1];exact h1
 show wpAny (model prog w) A _ P E { s with heap:=cJ s.heap a vs };dsimp only;by_cases h2:vs.toArray.size<2
 ·rw[yad h2,yad h2]
  refine ya8 (ya9 ?_);rw[StateT.run_pure];refine ya8 (ya9 (ya8 (seqEpoch_at h6 rfl (ya8 (listUpdate_at h6 rfl ?_ (hsz2:=?_))))))
  ·simp only[bne_self_eq_false,zag,ybj]
   refine ya9 (h (pairsOf vs) (Array.Perm.refl _) ?_);have hl:(pairsOf vs).toList.length<2:=by rw[zal,pairsOf_size];simpa using h2
   exact zD hl
  ·rw[Array.size_map]
   show(pairsOf vs).size<=_;rw[pairsOf_size]
   lia
 ·rw[yac h2,yac h2]
  have h3:2<=vs.length:=by simpa using h2
  refine ya8 (hkk h3 _ ?_);refine ya8 (yb8 (xE (o:=o) (st:=SortSt.mk' kd (pairsOf vs) #[] 7 none) (Q:=λ_ st'=>failedOf st'=none/\(arrOf st').Perm (pairsOf vs)/\(arrOf st').toList.Pairwise o.le) rfl rfl ga rfl λst' a1 a2 a3=>⟨a1,a2,a3⟩) ?_ λ_ _ e=>e);rintro⟨⟨⟩,st'⟩ s' ⟨rfl,hf,hp,hs⟩;refine ya8 (seqEpoch_at h6 rfl (ya8 (listUpdate_at h6 rfl ?_ (hsz2:=?_))))
  ·dsimp only at hf ⊢
   rw[hf];simp only[bne_self_eq_false,zag,ybj];exact ya9 (h _ hp hs)
  ·refine zap (Nat.le_of_eq ((Array.size_map ..).trans (hp.size_eq.trans (pairsOf_size _)))) ?_
   omega
abbrev eA(h:Heap)(vs:List Value):Heap:=((h.push (seqObj "list" #[] 0)).update h.objs.size (Obj.mapSeq (·++vs.toArray))).push (seqObj "list" vs.toArray 0)
theorem tX{vs:AB}{Q:A9}(hl:s.heap.IsList l vs.toArray)(hle:vs.length<=sizeLine)(le:Keyed->Keyed->Prop)
  (hkk:2<=vs.length->∀ (A':AK) (E':A9) (Q:SortKind->Shared->Prop),Q kd { s with heap:=cJ (eA s.heap vs) (s.heap.objs.size+1) vs }->wpAny (model prog w) A' (keyKind' vs.toArray) Q E' { s with heap:=cJ (eA s.heap vs) (s.heap.objs.size+1) vs })
  (ord:∀ (A':AK) (E':A9),A'.units<=A.units+4->∃ o:Ord (model prog w) A' E' { s with heap:=cJ (eA s.heap vs) (s.heap.objs.size+1) vs } kd,o.all (pairsOf vs)/\∀ x y,o.le x y->le x y)
  (h:∀ ks:Array Keyed,ks.Perm (pairsOf vs)->ks.toList.Pairwise le->Q (.ref (s.heap.objs.size+1)) { s with heap:=sortedAll s.heap vs (ks.map (·.2)) }) :
  wpAny (model prog w) A (call (.builtin "sorted") [.ref l]) Q E s:=by
 refine Calls.call_function_entry kind_sorted plain_sorted entry_sorted (args_sorted1 _) ?_;unfold Builtin.«sorted»;refine ya8 (m:=checkCount "sorted" 1 1 _) (ya9 (ya8 (collect_list hl (ya8 (wpAny_newList ?_)) hle)));have hsz:((s.heap.push (seqObj "list" #[] 0)).update s.heap.objs.size (Obj.mapSeq (·++vs.toArray))).objs.size=s.heap.objs.size+1:=by
  rw[Heap.size_update,size_push']
 have hb:(eA s.heap vs).get? (s.heap.objs.size+1)=some (seqObj "list" vs.toArray 0):=by
  rw[<- hsz];exact yak _ rfl
 show wpAny _ _ _ _ _ { s with heap:=eA s.heap vs };rw[hsz];obtain⟨o,ga,ho⟩:=ord A.in1.in1 E (by show A.units+1+1<=_;lia);refine ya8 (yay (ybd slot_list_sort ⟨_,hb,rfl⟩ entry_list_sort (ig (s:={ s with heap:=eA s.heap vs }) (kd:=kd) hb hle (λh2 Q q=>hkk h2 _ _ Q q) o ga λks kp ku=>⟨_,rfl,?_⟩) (args_list_sort _)));exact ya9 ⟨_,rfl,h ks kp (ku.imp fun {x y} z=>ho x y z)⟩
end
mutual
noncomputable def Dt.blt:Dt->Dt->Bool
 | .int i,.int j=>decide (i<j)
 | .int _,.str _=>true
 | .int _,.tup _=>true
 | .str _,.int _=>false
 | .str x,.str y=>decide (x.cps.toList<y.cps.toList)
 | .str _,.tup _=>true
 | .tup _,.int _=>false
 | .tup _,.str _=>false
 | .tup l,.tup m=>Dt.kD l m
noncomputable def Dt.kD:List Dt->List Dt->Bool
 | [],[]=>false
 | [],_::_=>true
 | _::_,[]=>false
 | a::l,b::m=>if Dt.beq a b=true then Dt.kD l m else Dt.blt a b
end
theorem Dt.beq_false{a:Dt}:Dt.beq a b=false↔a≠b:=by
 rw[<- Bool.not_eq_true,Dt.beq_iff]
mutual
theorem Dt.irr:∀ a:Dt,Dt.blt a a=false
 | .int i=>by simp[Dt.blt]
 | .str x=>by simp only[Dt.blt,ydo];exact List.lt_irrefl _
 | .tup l=>by simp only[Dt.blt];exact Dt.irrs l
theorem Dt.irrs:∀ l:List Dt,Dt.kD l l=false
 | []=>by simp[Dt.kD]
 | a::l=>by simp only[Dt.kD,Dt.kX,ycs];exact Dt.irrs l
end
mutual
theorem Dt.tot:∀ a b:Dt,Dt.blt a b=false->Dt.blt b a=false->a=b
 | .int i,.int j=>by simp only[Dt.blt,ydo];intro h1 h2;congr 1;lia
 | .int i,.str y=>by simp[Dt.blt]
 | .int i,.tup m=>by simp[Dt.blt]
 | .str x,.int j=>by simp[Dt.blt]
 | .str x,.str y=>by
  simp only[Dt.blt,ydo];intro h1 h2;have:x.cps.toList=y.cps.toList:=List.le_antisymm (List.not_lt.mp h2) (List.not_lt.mp h1);cases x with | mk cx =>
  cases y with | mk cy =>
  have:cx=cy:=Array.toList_inj.mp this;rw[this]
 | .str x,.tup m=>by simp[Dt.blt]
 | .tup l,.int j=>by simp[Dt.blt]
 | .tup l,.str y=>by simp[Dt.blt]
 | .tup l,.tup m=>by simp only[Dt.blt];intro h1 h2;rw[Dt.tots l m h1 h2]
theorem Dt.tots:∀ l m:List Dt,Dt.kD l m=false->Dt.kD m l=false->l=m
 | [],[]=>by simp
 | [],b::m=>by simp[Dt.kD]
 | a::l,[]=>by simp[Dt.kD]
 | a::l,b::m=>by
  simp only[Dt.kD];intro h1 h2;by_cases e:a=b
  ·subst e
   rw[yad (Dt.kX a)]at h1 h2;rw[Dt.tots l m h1 h2]
  ·rw[yac (by rw[Dt.beq_iff];exact e)]at h1
   rw[yac (by rw[Dt.beq_iff];exact λz=>e z.symm)]at h2;exact absurd (Dt.tot a b h1 h2) e
end
mutual
theorem Dt.trn:∀ a b c:Dt,Dt.blt a b=true->Dt.blt b c=true->Dt.blt a c=true
 | .int i,.int j,.int k=>by simp only[Dt.blt,decide_eq_true_eq];lia
 | .int i,.int j,.str z=>by simp[Dt.blt]
 | .int i,.int j,.tup n=>by simp[Dt.blt]
 | .int i,.str y,.int k=>by simp[Dt.blt]
 | .int i,.str y,.str z=>by simp[Dt.blt]
 | .int i,.str y,.tup n=>by simp[Dt.blt]
 | .int i,.tup m,.int k=>by simp[Dt.blt]
 | .int i,.tup m,.str z=>by simp[Dt.blt]
 | .int i,.tup m,.tup n=>by simp[Dt.blt]
 | .str x,.int j,c=>by intro h;simp only[Dt.blt,zag]at h
 | .str x,.str y,.int k=>by simp[Dt.blt]
 | .str x,.str y,.str z=>by simp only[Dt.blt,decide_eq_true_eq];exact List.lt_trans
 | .str x,.str y,.tup n=>by simp[Dt.blt]
 | .str x,.tup m,.int k=>by simp[Dt.blt]
 | .str x,.tup m,.str z=>by simp[Dt.blt]
 | .str x,.tup m,.tup n=>by simp[Dt.blt]
 | .tup l,.int j,c=>by intro h;simp only[Dt.blt,zag]at h
 | .tup l,.str y,c=>by intro h;simp only[Dt.blt,zag]at h
 | .tup l,.tup m,.int k=>by simp[Dt.blt]
 | .tup l,.tup m,.str z=>by simp[Dt.blt]
 | .tup l,.tup m,.tup n=>by simp only[Dt.blt];exact Dt.trns l m n
theorem Dt.trns:∀ l m n:List Dt,Dt.kD l m=true->Dt.kD m n=true->Dt.kD l n=true
 | [],[],n=>by intro h;simp only[Dt.kD,zag]at h
 | [],b::m,[]=>by simp[Dt.kD]
 | [],b::m,c::n=>by simp[Dt.kD]
 | a::l,[],n=>by intro h;simp only[Dt.kD,zag]at h
 | a::l,b::m,[]=>by simp[Dt.kD]
 | a::l,b::m,c::n=>by
  simp only[Dt.kD];intro h1 h2;by_cases e1:a=b
  ·subst e1
   rw[yad (Dt.kX a)]at h1;by_cases e2:a=c
   ·subst e2
    rw[yad (Dt.kX a)]at h2 ⊢;exact Dt.trns l m n h1 h2
   ·have ne:¬ Dt.beq a c=true:=by rw[Dt.beq_iff];exact e2
    rw[yac ne]at h2 ⊢;exact h2
  ·rw[yac (by rw[Dt.beq_iff];exact e1)]at h1
   by_cases e2:b=c
   ·subst e2
    rw[yac (by rw[Dt.beq_iff];exact e1)];exact h1
   ·rw[yac (by rw[Dt.beq_iff];exact e2)]at h2
    have t:=Dt.trn a b c h1 h2;by_cases e3:a=c
    ·subst e3
     rw[Dt.irr]at t;cases t
    ·rw[yac (by rw[Dt.beq_iff];exact e3)]
     exact t
end
def Ey:KeyOrd where
 α:=Dt
 blt:=Dt.blt
 irrefl:=Dt.irr
 trans:=Dt.trn
 negTrans a b c h:=by
  cases hb:Dt.blt a b with
  | true=>exact .inl rfl
  | false =>
   cases hc:Dt.blt b a with
   | true=>exact .inr (Dt.trn _ _ _ hc h)
   | false=>rw[<- Dt.tot a b hb hc];exact .inr h
 total:=Dt.tot
end BF
namespace BF
open PySem PySem.Spec PyProof.Rows L2 PySem.SeqAt
def LtAt(A:Around)(s:Shared)(x y:Value)(b:Bool):Prop:=∀ (prog:Program) (w:World) (Q E:A9),Q (.bool b) s->wpAny (model prog w) A (richCompare .Lt x y) Q E s
inductive Lx(A:Around)(s:Shared):List Value->List Value->Bool->Prop where
 | both:Lx A s [] [] false
 | left (y:Value) (ys:List Value):Lx A s [] (y::ys) true
 | right (x:Value) (xs:List Value):Lx A s (x::xs) [] false
 | kG {x y:Value} {xs ys:List Value} {r:Bool} (h:EqAt A s x y true) (t:Lx A s xs ys r):Lx A s (x::xs) (y::ys) r
 | part {x y:Value} {r:Bool} (xs ys:List Value) (h:EqAt A s x y false) (k:LtAt A s x y r):Lx A s (x::xs) (y::ys) r
section
open PySem.AutoSeq1 (wpAny_loadPart')
open PySem.MeetsSeq PySem.MeetsSeq2 PySem.MeetsSeq3
theorem rJ(l b:AA)(pa pb:AN)(n n2:Nat)(dd dd2:Aa)(sl sl2:A1)(r:Bool) :
  Meets (Builtin.«tuple.__lt__» ⟨[.ref l,.ref b],[]⟩)
   (λA R s=>Lx A.in1 s pa.toList pb.toList r/\s.heap.get? l=some { cls:=.type "tuple",dict:=dd,data:=.seq pa n,slots:=sl }/\s.heap.get? b=some { cls:=.type "tuple",dict:=dd2,data:=.seq pb n2,slots:=sl2 } /\
    R (.ok (.ret (.bool r))) s) :=
 .of_wp λprog w A R s h=>by
  obtain⟨hp,g,d,tk,os⟩:=s;obtain⟨lx,hl,hb,h⟩:=h;have f2:=ydg
  wp_walk using ybs hl,ybs hb,ye0 _ (λrest q s'=>q.1=none/\s'=⟨hp,g,d,tk,os⟩/\∃ (vs ws:AB),rest=vs.zip ws /\
   Lx A.in1 ⟨hp,g,d,tk,os⟩ vs ws r/\vs.length+pb.size=ws.length+pa.size) _
  case turn =>
   rintro⟨y,x⟩ rest q s' ⟨hq,rfl,vs,ws,hz,lx,hlen⟩;cases lx with
   | both=>rw[ydp]at hz;cases hz
   | left=>rw[ydp]at hz;cases hz
   | right=>rw[yee]at hz;cases hz
   | @kG x' y' xs ys _ he t =>
    rw[zb5]at hz;injection hz with e1 e2
    injection e1 with e3 e4
    subst e3 e4;simp only[za2]at hlen;refine ya8 (he prog w _ _ ?_)
    wp_walk
    exact⟨rfl,rfl,_,_,e2,t,by lia⟩
   | @part x' y' _ xs ys he k =>
    rw[zb5]at hz;injection hz with e1 e2
    injection e1 with e3 e4
    subst e3 e4;refine ya8 (he prog w _ _ ?_);have kk:∀ (E:A9) (Q:A9),Q (.bool r) ⟨hp,g,d,tk,os⟩->wpAny (model prog w) A.in1 (richCompare .Lt y x) Q E ⟨hp,g,d,tk,os⟩:=λE Q z=>k prog w Q E z
    wp_walk using kk
    exact⟨_,rfl,by simpa using h⟩
  case fin =>
   rintro⟨b1,b2⟩ s' ⟨hq,rfl,vs,ws,hz,lx,hlen⟩;simp only at hq;subst hq;have hv:r=decide (pa.size<pb.size):=by
    cases lx with
    | both=>simp only[zb2]at hlen;exact(yaa (by lia)).symm
    | left=>simp only[zb2,za2]at hlen;exact(yab (by lia)).symm
    | right=>simp only[zb2,za2]at hlen;exact(yaa (by lia)).symm
    | kG=>rw[zb5]at hz;cases hz
    | part=>rw[zb5]at hz;cases hz
   subst hv
   wp_walk
   exact⟨_,rfl,by simpa [Builtin.Tuple.tupleCompareSizes] using h⟩
  case h =>
   exact⟨rfl,rfl,pa.toList,pb.toList,rfl,lx,by simp;lia⟩
end
theorem rK{A:AK}{s:AE}{l:AA}{pa pb:AN}(hl:IsTup s.heap l pa)(hb:IsTup s.heap b pb)(lx:Lx A.in1 s pa.toList pb.toList r)(hu:A.units<cLine):LtAt A s (.ref l) (.ref b) r:=by
 intro prog w Q E h;obtain⟨⟨cls,dd,data,sl⟩,ho,hc,n,hd⟩:=id hl;obtain⟨⟨cls2,dd2,data2,sl2⟩,ho2,hc2,n2,hd2⟩:=id hb;simp only at hc hd hc2 hd2;subst hc hd hc2 hd2;exact ydw (op:=.Lt) ⟨_,ho,rfl⟩ ⟨_,ho2,rfl⟩ F.slot_tuple_lt F.entry_tuple_lt (F.args_tuple_lt_2 _ _) (rJ l b pa pb n n2 dd dd2 sl sl2 r)
  ⟨lx,ho,ho2,show Value.bool r≠Value.notImplemented/\Q (.bool r) s from ⟨(λx=>nomatch x),h⟩⟩ hu
mutual
noncomputable def Dt.kG:Dt->Dt->Bool
 | .int _,.int _=>true
 | .str _,.str _=>true
 | .tup l,.tup m=>Dt.l9 l m
 | _,_=>false
noncomputable def Dt.l9:List Dt->List Dt->Bool
 | a::l,b::m=>Dt.kG a b&&Dt.l9 l m
 | _,_=>true
end
section
variable{X:Cx}{pins:A7}{σ:L2.St}{H:Hp}{s:AE}
mutual
theorem zE(I:Inv X pins σ H s):∀ {d d':Dt} {v v':V} {u u':AI} (A:AK),kj H v d->RelV v u->kj H v' d'->RelV v' u'->Dt.kG d d'=true->A.units+d.dp<cLine->LtAt A s u u' (Dt.blt d d')
 | .int i,.int j=>by
  intro A h r h' r' hk hu;cases h;cases h';obtain⟨t,rfl⟩:=r;obtain⟨t',rfl⟩:=r';intro prog w Q E h;rw[show Dt.blt (.int i) (.int j)=decide (i<j) by simp only[Dt.blt]]at h;exact(PyProof.Rows.lt_int h:wpAny (model prog w) A (compareOp .Lt (.int i t) (.int j t')) Q E s)
 | .str x,.str y=>by
  intro A h r h' r' hk hu;cases h;cases h';obtain⟨t,rfl⟩:=r;obtain⟨t',rfl⟩:=r';intro prog w Q E h;rw[show Dt.blt (.str x) (.str y)=decide (x.cps.toList<y.cps.toList) by simp only[Dt.blt]]at h;exact(PyProof.Rows.lt_str h:wpAny (model prog w) A (compareOp .Lt (.str x t) (.str y t')) Q E s)
 | .tup l,.tup m=>by
  intro A h r h' r' hk hu;cases h with
  | tup e q =>
  cases h' with
  | tup e' q' =>
  cases r;cases r';obtain⟨its,rv,p,_⟩:=I.tuple (SqT.of e);obtain⟨its',rv',p',_⟩:=I.tuple (SqT.of e');have hd:A.units+(Dt.dps l+1)<cLine:=by simpa only[Dt.dp] using hu
  have hk':Dt.l9 l m=true:=by simpa only[Dt.kG] using hk
  rw[show Dt.blt (.tup l) (.tup m)=Dt.kD l m by simp only[Dt.blt]];exact rK p p' (lx_D I A.in1 q rv q' rv' hk' (by show A.units+1+_<_;lia)) (by lia)
 | .int _,.str _=>by
  intro A h r h' r' hk hu;simp only[Dt.kG,zag]at hk
 | .int _,.tup _=>by
  intro A h r h' r' hk hu;simp only[Dt.kG,zag]at hk
 | .str _,.int _=>by
  intro A h r h' r' hk hu;simp only[Dt.kG,zag]at hk
 | .str _,.tup _=>by
  intro A h r h' r' hk hu;simp only[Dt.kG,zag]at hk
 | .tup _,.int _=>by
  intro A h r h' r' hk hu;simp only[Dt.kG,zag]at hk
 | .tup _,.str _=>by
  intro A h r h' r' hk hu;simp only[Dt.kG,zag]at hk
theorem lx_D(I:Inv X pins σ H s):∀ {ds ds':Af} {vs vs':Ac} {us us':AB} (A:AK),aG H vs ds->kh vs us->aG H vs' ds'->kh vs' us'->Dt.l9 ds ds'=true->A.units+Dt.dps ds<cLine->Lx A s us us' (Dt.kD ds ds')
 | [],[]=>by
  intro A h r h' r' hk hu;cases h;cases r;cases h';cases r';rw[show Dt.kD [] []=false by simp only[Dt.kD]];exact .both
 | [],_::_=>by
  intro A h r h' r' hk hu;cases h;cases r;cases h';cases r';rw[show ∀ a l,Dt.kD [] (a::l)=true from λa l=>by simp only[Dt.kD]];exact .left _ _
 | _::_,[]=>by
  intro A h r h' r' hk hu;cases h;cases r;cases h';cases r';rw[show ∀ a l,Dt.kD (a::l) []=false from λa l=>by simp only[Dt.kD]];exact .right _ _
 | d::ds,d'::ds'=>by
  intro A h r h' r' hk hu;cases h with
  | cons h t =>
  cases r with
  | cons r rs =>
  cases h' with
  | cons h' t' =>
  cases r' with
  | cons r' rs' =>
  have hk':Dt.kG d d'=true/\Dt.l9 ds ds'=true:=by simpa only[Dt.l9,zbj] using hk
  have hu':A.units+max d.dp (Dt.dps ds)<cLine:=by simpa only[Dt.dps] using hu
  have hq:=zf I A h r h' r' (by lia);rw[show Dt.kD (d::ds) (d'::ds')=if Dt.beq d d'=true then Dt.kD ds ds' else Dt.blt d d' by simp only[Dt.kD]];cases hb:Dt.beq d d' with
  | true =>
   rw[hb]at hq;rw[yad rfl];exact .kG hq (lx_D I A t rs t' rs' hk'.2 (by lia))
  | false =>
   rw[hb]at hq;rw[yac za8];exact .part _ _ hq (zE I A h r h' r' hk'.1 (by omega))
end
end
abbrev gN(f:Bool):SortKind:=(sortPriv% PySem.Builtin.KeyKind.tuples) f
theorem qh(f:Bool)(x y:AI):keyLt' (gN f) x y=(do
  let a <- Builtin.List.listItems x
  let b <- Builtin.List.listItems y
  for ((p,q),i) in (a.toList.zip b.toList).zipIdx do
   if !(<- eqBool p q) then return <- oneLt' (f&&i==0) p q
  return a.size<b.size):=rfl
theorem rL(x y:AI):oneLt' false x y=(do truthOfDropped (<- richCompare .Lt x y)):=rfl
inductive Lk(A:Around)(s:Shared)(prog:Program)(w:World)(f:Bool):Nat->List Value->List Value->Bool->Prop where
 | both (i:Nat):Lk A s prog w f i [] [] false
 | left (i:Nat) (y:Value) (ys:List Value):Lk A s prog w f i [] (y::ys) true
 | right (i:Nat) (x:Value) (xs:List Value):Lk A s prog w f i (x::xs) [] false
 | kG {i:Nat} {x y:Value} {xs ys:List Value} {r:Bool} (h:EqAt A s x y true) (t:Lk A s prog w f (i+1) xs ys r):Lk A s prog w f i (x::xs) (y::ys) r
 | part {i:Nat} {x y:Value} {r:Bool} (xs ys:List Value) (h:EqAt A s x y false) (k:∀ (E:A9) (Q:Bool->Shared->Prop),Q r s->wpAny (model prog w) A (oneLt' (f&&i==0) x y) Q E s):Lk A s prog w f i (x::xs) (y::ys) r
theorem zF{s:AE}{l:AA}{pa pb:AN}{Q:Bool->Shared->Prop}(hl:IsTup s.heap l pa)(hb:IsTup s.heap b pb)(lk:Lk A s prog w f 0 pa.toList pb.toList r)(h:Q r s) :
  wpAny (model prog w) A (keyLt' (gN f) (.ref l) (.ref b)) Q E s:=by
 obtain⟨o1,ho,hc,n,hd⟩:=id hl;obtain⟨o2,ho2,hc2,n2,hd2⟩:=id hb;rw[qh];refine ya8 (listItems_at ho hd ?_);refine ya8 (listItems_at ho2 hd2 ?_);refine ya8 (ye0 _ (λrest c s'=>c=(none,())/\s'=s/\∃ (i:Nat) (vs ws:AB),rest=(vs.zip ws).zipIdx i/\Lk A s prog w f i vs ws r/\vs.length+pb.size=ws.length+pa.size)
  (λc s'=>s'=s/\(c=(some r,())\/(c=(none,())/\r=decide (pa.size<pb.size)))) ?turn ?fin _ _ ⟨rfl,rfl,0,_,_,rfl,lk,by simp;lia⟩ |> λz=>yb8 z ?post λ_ _ e=>e)
 case turn =>
  rintro⟨⟨p,q⟩,j⟩ rest c s' ⟨rfl,rfl,i,vs,ws,hz,lk,hlen⟩;cases lk with
  | both=>simp at hz
  | left=>simp at hz
  | right=>simp at hz
  | @kG _ x y xs ys _ he t =>
   rw[zb5,List.zipIdx_cons]at hz;injection hz with e1 e2
   injection e1 with e3 e4
   injection e3 with e5 e6
   subst e5 e6 e4;simp only[za2]at hlen;refine ya8 (he prog w _ _ ?_);exact ya9 ⟨rfl,rfl,_,_,_,e2,t,by lia⟩
  | @part _ x y _ xs ys he k =>
   rw[zb5,List.zipIdx_cons]at hz;injection hz with e1 e2
   injection e1 with e3 e4
   injection e3 with e5 e6
   subst e5 e6 e4;refine ya8 (he prog w _ _ ?_);exact ya8 (k _ _ (ya9 ⟨rfl,.inl rfl⟩))
 case fin =>
  rintro c s' ⟨rfl,rfl,i,vs,ws,hz,lk,hlen⟩;refine⟨rfl,.inr ⟨rfl,?_⟩⟩;cases lk with
  | both=>simp only[zb2]at hlen;exact(yaa (by lia)).symm
  | left=>simp only[zb2,za2]at hlen;exact(yab (by lia)).symm
  | right=>simp only[zb2,za2]at hlen;exact(yaa (by lia)).symm
  | kG=>simp at hz
  | part=>simp at hz
 case post =>
  rintro c s' ⟨rfl,rfl | ⟨rfl,hr⟩⟩
  ·exact ya9 h
  ·subst hr
   exact ya9 h
section
variable{X:Cx}{pins:A7}{σ:L2.St}{H:Hp}{s:AE}
def Dt.flat:Dt->Bool
 | .tup _=>false
 | _=>true
theorem CO(I:Inv X pins σ H s){d:Dt}{v:V}{u:AI}{A:AK}(h:kj H v d)(r:RelV v u)(h':kj H v' d')(r':RelV v' u')(hk:Dt.kG d d'=true)(hu:A.units+d.dp<cLine)(hg:g=true->Dt.flat d=true)
  {Q:Bool->Shared->Prop} (q:Q (Dt.blt d d') s):wpAny (model prog w) A (oneLt' g u u') Q E s:=by
 cases g with
 | false =>
  rw[rL];exact ya8 (zE I A h r h' r' hk hu prog w _ _ (yb9 q))
 | true =>
  have hf:=hg rfl;cases h with
  | int i =>
   cases h' with
   | int j =>
    obtain⟨t,rfl⟩:=r;obtain⟨t',rfl⟩:=r';exact oneLt_int (by simpa only[Dt.blt] using q)
   | str y=>simp only[Dt.kG,zag]at hk
   | tup _ _=>simp only[Dt.kG,zag]at hk
  | str x =>
   cases h' with
   | str y =>
    obtain⟨t,rfl⟩:=r;obtain⟨t',rfl⟩:=r';exact oneLt_str (by simpa only[Dt.blt] using q)
   | int j=>simp only[Dt.kG,zag]at hk
   | tup _ _=>simp only[Dt.kG,zag]at hk
  | tup _ _=>simp only[Dt.flat,zag]at hf
theorem lk_D(I:Inv X pins σ H s):∀ {ds ds':Af} {vs vs':Ac} {us us':AB} (A:AK) (i:Nat),aG H vs ds->kh vs us->aG H vs' ds'->kh vs' us'->Dt.l9 ds ds'=true->A.units+Dt.dps ds<cLine ->
  (f=true->i=0->∀ d,ds.head?=some d->Dt.flat d=true)->Lk A s prog w f i us us' (Dt.kD ds ds')
 | [],[]=>by
  intro A i h r h' r' hk hu hf;cases h;cases r;cases h';cases r';rw[show Dt.kD [] []=false by simp only[Dt.kD]];exact .both _
 | [],_::_=>by
  intro A i h r h' r' hk hu hf;cases h;cases r;cases h';cases r';rw[show ∀ a l,Dt.kD [] (a::l)=true from λa l=>by simp only[Dt.kD]];exact .left _ _ _
 | _::_,[]=>by
  intro A i h r h' r' hk hu hf;cases h;cases r;cases h';cases r';rw[show ∀ a l,Dt.kD (a::l) []=false from λa l=>by simp only[Dt.kD]];exact .right _ _ _
 | d::ds,d'::ds'=>by
  intro A i h r h' r' hk hu hf;cases h with
  | cons h t =>
  cases r with
  | cons r rs =>
  cases h' with
  | cons h' t' =>
  cases r' with
  | cons r' rs' =>
  have hk':Dt.kG d d'=true/\Dt.l9 ds ds'=true:=by simpa only[Dt.l9,zbj] using hk
  have hu':A.units+max d.dp (Dt.dps ds)<cLine:=by simpa only[Dt.dps] using hu
  have hq:=zf I A h r h' r' (by lia);rw[show Dt.kD (d::ds) (d'::ds')=if Dt.beq d d'=true then Dt.kD ds ds' else Dt.blt d d' by simp only[Dt.kD]];cases hb:Dt.beq d d' with
  | true =>
   rw[hb]at hq;rw[yad rfl];exact .kG hq (lk_D I A (i+1) t rs t' rs' hk'.2 (by lia) (λ_ z=>absurd z (by lia)))
  | false =>
   rw[hb]at hq;rw[yac za8];refine .part _ _ hq λE Q q=>CO I h r h' r' hk'.1 (by omega) (λhg=>?_) q
   rw[zbj]at hg;exact hf hg.1 (by simpa using hg.2) d rfl
def gI(H:Hp)(u:Value)(d:Dt):Prop:=∃ v,RelV v u/\kj H v d
theorem gI.inj{d:Dt}(h:gI H u d)(h':gI H u d'):d=d':=by
 obtain⟨v,r,q⟩:=h;obtain⟨v',r',q'⟩:=h';cases q with
 | int i =>
  obtain⟨t,rfl⟩:=r;cases q' with
  | int j=>obtain⟨t',e⟩:=r';cases e;rfl
  | str y=>obtain⟨t',e⟩:=r';cases e
  | tup e _=>cases r'
 | str x =>
  obtain⟨t,rfl⟩:=r;cases q' with
  | int j=>obtain⟨t',e⟩:=r';cases e
  | str y=>obtain⟨t',e⟩:=r';cases e;rfl
  | tup e _=>cases r'
 | @tup a xs ds e h =>
  cases r;cases q' with
  | int j=>obtain⟨t',e⟩:=r';cases e
  | str y=>obtain⟨t',e⟩:=r';cases e
  | @tup a' xs' ds' e' h2 =>
   cases r';exact kj.inj (.tup e h) (.tup e' h2)
open Classical in
noncomputable def datKey (H:Hp) (p:Keyed):Dt:=if h:∃ d,gI H p.1 d then Classical.choose h else .int 0
theorem i5{p:AV}(h:gI H p.1 d):datKey H p=d:=by
 have hx:∃ d,gI H p.1 d:=⟨d,h⟩;unfold datKey;rw[dif_pos hx];exact gI.inj (Classical.choose_spec hx) h
noncomputable def ordT (I:Inv X pins σ H s) (prog:Program) (w:World) (A:Around) (E:A9) (f:Bool) (P:Dt->Prop) (hP:∀ d d',P d->P d'->∃ l m,d=.tup l/\d'=.tup m/\Dt.l9 l m=true/\A.units+Dt.dps l<cLine/\(f=true->∀ a,l.head?=some a->Dt.flat a=true)) :
  Ord (model prog w) A E s (gN f) where
 O:=Ey
 key:=datKey H
 G:=λp=>∃ d,gI H p.1 d/\P d
 lt:=fun {st x y Q} hk gx gy h=>by
  obtain⟨d,hd,pd⟩:=gx;obtain⟨d',hd',pd'⟩:=gy;rw[i5 hd,i5 hd']at h;obtain⟨l,m,rfl,rfl,lk,hu,hf⟩:=hP d d' pd pd';obtain⟨v,r,q⟩:=hd;obtain⟨v',r',q'⟩:=hd';obtain⟨x1,x2⟩:=x;obtain⟨y1,y2⟩:=y;cases q with
  | tup e qs =>
   cases q' with
   | tup e' qs' =>
    cases r;cases r';obtain⟨its,rv,p,_⟩:=I.tuple (SqT.of e);obtain⟨its',rv',p',_⟩:=I.tuple (SqT.of e');rw[lt'_eq];refine yaq (wpS_get ?_);rw[hk];have hb:Q (some (Dt.kD l m)) st:=by
     have:Ey.blt (.tup l) (.tup m)=Dt.kD l m:=by show Dt.blt _ _=_;simp only[Dt.blt]
     rw[<- this];exact h
    refine yaq (wpS_lift (ych (zF p p' (lk_D I A 0 qs rv qs' rv' lk hu (λz _=>hf z)) ⟨rfl,?_⟩)));exact yar hb
end
theorem oX{us:AB}(p:us.Perm us'):∀ {ys:Ac},kh ys us->∃ zs,kh zs us'/\ys.Perm zs:=by
 induction p with
 | nil=>intro ys r;exact⟨ys,r,.refl _⟩
 | cons x _ ih =>
  intro ys r;cases r with
  | cons r1 r2 =>
   obtain⟨zs,a,b⟩:=ih r2;exact⟨_::zs,.cons r1 a,b.cons _⟩
 | swap x y l =>
  intro ys r;cases r with
  | cons r1 r2 =>
   cases r2 with
   | cons r3 r4=>exact⟨_::_::_,.cons r3 (.cons r1 r4),.swap _ _ _⟩
 | trans _ _ ih1 ih2 =>
  intro ys r;obtain⟨zs,a,b⟩:=ih1 r;obtain⟨ws,c,d⟩:=ih2 a;exact⟨ws,c,b.trans d⟩
theorem rM{ys:Ac}(p:ys.Perm zs):∀ {ds:Af},aG H ys ds->∃ es,aG H zs es/\ds.Perm es:=by
 induction p with
 | nil=>intro ds r;exact⟨ds,r,.refl _⟩
 | cons x _ ih =>
  intro ds r;cases r with
  | cons r1 r2 =>
   obtain⟨es,a,b⟩:=ih r2;exact⟨_::es,.cons r1 a,b.cons _⟩
 | swap x y l =>
  intro ds r;cases r with
  | cons r1 r2 =>
   cases r2 with
   | cons r3 r4=>exact⟨_::_::_,.cons r3 (.cons r1 r4),.swap _ _ _⟩
 | trans _ _ ih1 ih2 =>
  intro ds r;obtain⟨es,a,b⟩:=ih1 r;obtain⟨fs,c,d⟩:=ih2 a;exact⟨fs,c,b.trans d⟩
def Dt.tag:Dt->String
 | .int _=>"int"
 | .str _=>"str"
 | .tup _=>"tuple"
theorem CP{h:AO}(e:h.get? c=some o):(cJ (eA h vs) (h.objs.size+1) vs).get? c=some o:=by
 have hc:=yaj e;refine yai _ (yai _ ?_);rw[yas _ _ (yav (zai (yds hc)))];refine yai _ ?_;rw[yas _ _ (yav (zai hc))];exact yai _ e
theorem qi:∀ {ys:Ac} {ds:Af} {us:AB},aG H ys ds->kh ys us->∀ (i:Nat) (u:AI),us[i]?=some u->∃ d,ds[i]?=some d/\gI H u d:=by
 intro ys ds us h r i u e;obtain⟨v,d,ed,hd,rv⟩:=mJ h r e;exact⟨d,ed,v,rv,hd⟩
section
variable{X:Cx}
theorem vJ{s:AE}(I:Inv X pins σ H s){d:Dt}(h:gI H u d):W.Looks M s.heap (typeOf u) (.type d.tag):=by
 obtain⟨v,r,q⟩:=h;cases q with
 | int i=>obtain⟨t,rfl⟩:=r;exact .now
 | str x=>obtain⟨t,rfl⟩:=r;exact .now
 | tup e _ =>
  cases r;obtain⟨its,_,⟨o,ho,hc,_⟩,_⟩:=I.tuple (SqT.of e);exact hc▸(show W.Looks M s.heap (typeOf (.ref _)) o.cls from (W.Looks.ld ho).andThen .now)
theorem katT{s:AE}(I:Inv X pins σ H s):∀ {ys:Ac} {ds:Af} {us:AB},aG H ys ds->kh ys us->(∀ d∈ds,∃ e r,d=.tup (e::r)/\e.tag=T) ->
  ∃ fs,W.KatTups s.heap us fs/\fs.length=us.length/\∀ f∈fs,∃ e,gI H f e/\e.tag=T
 | []=>by
  intro g r hs;cases g;cases r;exact⟨[],True.intro,rfl,λ_ z=>nomatch z⟩
 | y::ys=>by
  intro g r hs;cases g with
  | cons h t =>
  cases r with
  | cons r rs =>
  obtain⟨fs,k,lf,hf⟩:=katT I t rs λd hd=>hs d (za3 _ hd)
  obtain⟨e,r',rfl,et⟩:=hs _ (za1 ..);cases h with
  | tup ex qs =>
   cases r;obtain⟨its,rv,⟨o,ho,hc,n,hd⟩,_⟩:=I.tuple (SqT.of ex);cases qs with
   | cons q1 q2 =>
    cases rv with
    | cons r1 r2 =>
     refine⟨_::fs,W.KatTups.cons ho hc hd rfl k,by simp[lf],λf hf'=>?_⟩;rcases za0.mp hf' with rfl | hf'
     ·exact⟨e,⟨_,r1,q1⟩,et⟩
     ·exact hf f hf'
def Fp(X:Cx):List V->Hp->VK->Prop:=λxs H Q=>∃ a ys ds T,xs=[.ref a]/\SqL X.K H a ys/\aG H ys ds/\(∀ d∈ds,∃ e r,d=.tup (e::r)/\e.tag=T) /\
 (∀ d∈ds,∀ d'∈ds,Dt.kG d d'=true)/\(∀ d∈ds,X.A.units+4+d.dp<cLine) /\
 ∀ l zs es,H l=none->zs.Perm ys->aG H zs es->es.Perm ds->es.Pairwise (λd d'=>Dt.blt d' d=false)->Q (.ref l) (upd H l (.lst zs))
theorem jf:cY X (.builtin "sorted") (Fp X):=by
 intro pins s σ H xs us Q I r h;obtain⟨a,ys,ds,T,rfl,hS,hD,hT,hL,hu,q⟩:=h;obtain⟨u,rfl,r1⟩:=fm r;cases r1;obtain⟨its,rv,p,hz⟩:=I.list hS;have hlen:its.length<=sizeLine:=by rw[<- rv.length];exact hz
 have I6:Inv X pins σ H { s with heap:=cJ (eA s.heap its) (s.heap.objs.size+1) its }:=I.kept (t':=s.toks) λb o e=>CP e
 refine tX (kd:=gN (Value.type T !=Value.type "tuple")) p.isList hlen (λx y=>Dt.blt (datKey H y) (datKey H x)=false) (λh2 A' E' Q' q'=>?_) (λA' E' hA=>?_) λks kp ku=>?_
 ·obtain⟨fs,k,lf,hf⟩:=katT I6 hD rv hT
  refine W.kat_kind (T:=.type T) k (by lia) (λv hv=>?_) (by simp) q';obtain⟨e,he,et⟩:=hf v hv;exact et▸vJ I6 he
 ·refine⟨ordT I6 X.prog X.w A' E' _ (λd=>d∈ds) λd d' hd hd'=>?_,λi x ex=>?_,λx y hxy=>hxy⟩
  ·obtain⟨e,l,rfl,et⟩:=hT d hd
   obtain⟨e',l',rfl,et'⟩:=hT d' hd';refine⟨_,_,rfl,rfl,by simpa only[Dt.kG] using hL _ hd _ hd',?_,λhf b hb=>?_⟩
   ·have:=hu _ hd
    simp only[Dt.dp]at this
    lia
   ·have:e=b:=by simpa using hb
    subst this;cases e with
    | int _=>rfl
    | str _=>rfl
    | tup m=>rw[<- et]at hf;simp[Dt.tag]at hf
  ·have hx:(pairsOf its).toList[i]?=some x:=by simpa using ex
   rw[pairsOf_toList]at hx;obtain⟨d,e1,e2⟩:=qi hD rv i x.1 (by
    rw[zba]at hx;exact hx.1)
   exact⟨d,e2,zam e1⟩
 ·-- the row told
  have kl:ks.toList.Perm (its.zip its):=by rw[<- pairsOf_toList];exact Array.perm_iff_toList_perm.mp kp
  have k2:((ks.map (·.2)).toList).Perm its:=by
   rw[ye1];have:=kl.map (·.2)
   rwa [List.map_snd_zip (by lia)]at this
  have k12:∀ x∈ks.toList,x.1=x.2:=λx hx=>by
   have:=kl.mem_iff.mp hx;obtain⟨i,e⟩:=zax.mp this;rw[zba]at e;exact yat (e.1.symm.trans e.2)
  obtain⟨zs,vz,pz⟩:=oX k2.symm rv;obtain⟨es,de,pe⟩:=rM pz hD;refine⟨.ref (s.heap.objs.size+1),upd H (s.heap.objs.size+1) (.lst zs),I.laid (t':=s.toks) (λb o e=>sortedAll_old e) (yd6 _) ?_,rfl,q _ zs es (I.hok.fresh (yd6 _)) pz.symm de pe.symm ?_⟩
  ·obtain⟨n,e⟩:=sortedAll_at s.heap its (ks.map (·.2))
   refine⟨by rw[<- pz.length_eq];exact hz,(ks.map (·.2)).toList,n,vz,?_⟩;rw[e]
  ·rw[zbu]at ku ⊢
   intro i j hi hj hij;have lks:ks.toList.length=es.length:=by
    rw[kl.length_eq,List.length_zip,<- de.length,<- pz.length_eq,rv.length,Nat.min_self]
   have z:=ku i j (by lia) (by lia) hij;have key:∀ (i:Nat) (h1:i<ks.toList.length) (h2:i<es.length),datKey H ks.toList[i]=es[i]:=λi h1 h2=>by
    have e0:((ks.map (·.2)).toList)[i]?=some ks.toList[i].2:=by
     rw[ye1,zan,za6 h1];rfl
    obtain⟨d,e1,e2⟩:=qi de vz i _ e0;rw[za6 h2]at e1;cases e1;refine i5 ?_;rw[k12 _ (yd0 h1)];exact e2
   rw[key i (by omega) hi,key j (by omega) hj]at z;exact z
end
end BF
namespace BF
open PySem PySem.Spec PyProof.Rows L2 PySem.W
mutual
inductive kS(h:Heap):Value->Dt->Prop where
 | int (i:Int) (t:Tok):kS h (.int i t) (.int i)
 | str (x:Str) (t:Tok):kS h (.str x t) (.str x)
 | tup {a:Addr} {o:Obj} {items:Array Value} {n:Nat} {ds:List Dt} (ho:h.get? a=some o) (hc:o.cls=.type "tuple") (hd:o.data=.seq items n) (r:cI h items.toList ds):kS h (.ref a) (.tup ds)
inductive cI(h:Heap):List Value->List Dt->Prop where
 | nil:cI h [] []
 | cons {v:Value} {d:Dt} {vs:List Value} {ds:List Dt} (q:kS h v d) (t:cI h vs ds):cI h (v::vs) (d::ds)
end
mutual
noncomputable def oY(w:World):Dt->Int
 | .int i=>hashInt i
 | .str x=>hashStr w x
 | .tup l=>reduceHash (Builtin.Tuple.tupleHashOf (mR w l))
noncomputable def mR(w:World):List Dt->List Int
 | []=>[]
 | d::l=>oY w d::mR w l
end
section
variable{X:Cx}{pins:A7}{σ:L2.St}{H:Hp}{s:AE}
mutual
theorem i6(I:Inv X pins σ H s):∀ {d:Dt} {v:V} {u:AI},kj H v d->RelV v u->kS s.heap u d
 | .int i=>by
  intro g r;cases g;obtain⟨t,rfl⟩:=r;exact .int i t
 | .str x=>by
  intro g r;cases g;obtain⟨t,rfl⟩:=r;exact .str x t
 | .tup ds=>by
  intro g r;cases g with
  | tup e q =>
  cases r;obtain⟨its,rv,⟨o,ho,hc,n,hd⟩,_⟩:=I.tuple (SqT.of e);exact .tup ho hc hd (by rw[zby];exact rN I q rv)
theorem rN(I:Inv X pins σ H s):∀ {ds:Af} {vs:Ac} {us:AB},aG H vs ds->kh vs us->cI s.heap us ds
 | []=>by
  intro g r;cases g;cases r;exact .nil
 | d::ds=>by
  intro g r;cases g with
  | cons q t =>
  cases r with
  | cons r rs=>exact .cons (i6 I q r) (rN I t rs)
end
end
section
variable{prog:AF}{w:AJ}{E:A9}
set_option maxRecDepth 100000 in
theorem sub_tt:isSubtype (.type "tuple") (.type "tuple")=pure true:=PySem.isSubtype_tuple_tuple
mutual
theorem vK:∀ (d:Dt) (v:AI) (n:Nat) (A:AK) (s:AE) (Q:Bool->Shared->Prop),kS s.heap v d->d.dp<=n->Q true s->wpAny (model prog w) A (eqIsQuiet n v) Q E s
 | .int i,_,n,A,s,Q,.int _ t,hn,h=>by
  rw[eqIsQuiet_byValue n (v:=.int i t) rfl];exact ya9 h
 | .str x,_,n,A,s,Q,.str _ t,hn,h=>by
  rw[eqIsQuiet_byValue n (v:=.str x t) rfl];exact ya9 h
 | .tup ds,_,0,A,s,Q,.tup (a:=a) (items:=items) ho hc hd r,hn,h=>by
  simp only[Dt.dp]at hn
  lia
 | .tup ds,_,n+1,A,s,Q,.tup (a:=a) (items:=items) ho hc hd r,hn,h=>by
  have hn':Dt.dps ds<=n:=by simp only[Dt.dp]at hn;lia
  unfold eqIsQuiet;refine ya8 (ydb ⟨_,ho,hc⟩ F.slot_tuple_eq.lookup ?_);dsimp only;refine ya8 (ye2 ⟨_,ho,hc⟩ sub_tt ?_);simp only[Bool.not_true,zag,ybj];refine ya8 (yc4 ho hd ?_);show wpAny _ _ (forIn items _ _>>=_) _ _ _;rw[<- Array.forIn_toList];exact ya8 (rO ds items.toList n A s _ r hn' (ya9 h))
theorem rO:∀ (ds:Af) (vs:AB) (n:Nat) (A:AK) (s:AE) (Q:Option Bool×PUnit->Shared->Prop),cI s.heap vs ds->Dt.dps ds<=n->Q (none,⟨⟩) s ->
  wpAny (model prog w) A (forIn vs ((none,⟨⟩):Option Bool×PUnit) λx r=>do
   let c <- eqIsQuiet n x
   if (!c)=true then pure (ForInStep.done (some false,⟨⟩)) else pure (ForInStep.yield (none,⟨⟩))) Q E s
 | [],_,n,A,s,Q,.nil,_,h=>ya9 h
 | d::ds,_,n,A,s,Q,.cons q t,hn,h=>by
  simp only[Dt.dps]at hn;rw[List.forIn_cons];exact ya8 (ya8 (vK d _ n A s _ q (by grind) (ya9 (rO ds _ n A s Q t (by grind) h))))
end
end
end BF
namespace BF
open PySem PySem.Spec PyProof.Rows L2 PySem.SeqAt
theorem cI.length:∀ {ds:Af} {vs:AB},cI h vs ds->vs.length=ds.length
 | []=>by intro g;cases g;exact rfl
 | d::ds=>by
  intro g;cases g with
  | cons q t=>exact by rw[za2,za2,cI.length t]
mutual
theorem kS.inj:∀ {d:Dt} {v:AI} {d':Dt},kS h v d->kS h v d'->d=d'
 | .int i=>by
  intro g q;cases g;cases q;rfl
 | .str x=>by
  intro g q;cases g;cases q;rfl
 | .tup ds=>by
  intro g q;cases g with
  | tup ho hc hd r =>
  cases q with
  | tup ho2 hc2 hd2 r2 =>
   rw[ho]at ho2;cases ho2;rw[hd]at hd2;cases hd2;rw[cI.inj r r2]
theorem cI.inj:∀ {ds:Af} {vs:AB} {ds':Af},cI h vs ds->cI h vs ds'->ds=ds'
 | []=>by
  intro g q;cases g;cases q;rfl
 | d::ds=>by
  intro g q2;cases g with
  | cons q t =>
  cases q2 with
  | cons a b=>rw[kS.inj q a,cI.inj t b]
end
section
variable{s:AE}
theorem Ez{h:AO}(q:kS h u (.tup l)):∃ a its o n,u=.ref a/\h.get? a=some o/\o.cls=.type "tuple"/\o.data=.seq its n/\cI h its.toList l:=by
 cases q with
 | tup ho hc hd r=>exact⟨_,_,_,_,rfl,ho,hc,hd,r⟩
mutual
theorem zG:∀ {d d':Dt} {u u':AI} (A:AK),kS s.heap u d->kS s.heap u' d'->A.units+d.dp<cLine->EqAt A s u u' (Dt.beq d d')
 | .int i,.int j=>by
  intro A h h' hu;cases h with
  | int _ t =>
  cases h' with
  | int _ t'=>exact EqAt.int_int i t j t'
 | .str x,.str y=>by
  intro A h h' hu;cases h with
  | str _ t =>
  cases h' with
  | str _ t'=>exact EqAt.str_str x t y t'
 | .int i,.str y=>by
  intro A h h' hu;cases h with
  | int _ t =>
  cases h' with
  | str _ t'=>exact EqAt.int_str i t y t'
 | .str x,.int j=>by
  intro A h h' hu;cases h with
  | str _ t =>
  cases h' with
  | int _ t'=>exact EqAt.str_int x t j t'
 | .int i,.tup m=>by
  intro A h h' hu;cases h with
  | int _ t =>
  cases h' with
  | tup ho hc hd r=>exact EqAt.int_tuple i t ⟨_,ho,hc,_,hd⟩ (by assumption)
 | .str x,.tup m=>by
  intro A h h' hu;cases h with
  | str _ t =>
  cases h' with
  | tup ho hc hd r=>exact EqAt.str_tuple x t ⟨_,ho,hc,_,hd⟩ (by assumption)
 | .tup l,.int j=>by
  intro A h h' hu;cases h with
  | tup ho hc hd r =>
  cases h' with
  | int _ t'=>exact EqAt.tuple_int j t' ⟨_,ho,hc,_,hd⟩ (by lia)
 | .tup l,.str y=>by
  intro A h h' hu;cases h with
  | tup ho hc hd r =>
  cases h' with
  | str _ t'=>exact EqAt.tuple_str y t' ⟨_,ho,hc,_,hd⟩ (by omega)
 | .tup l,.tup m=>by
  intro A h h' hu;obtain⟨a,its,o,n,rfl,ho,hc,hd,r⟩:=Ez h;obtain⟨b,its',o',n',rfl,ho',hc',hd',r'⟩:=Ez h';by_cases hab:a=b
  ·subst hab
   have z:=kS.inj (kS.tup ho hc hd r) (kS.tup ho' hc' hd' r');rw[z,Dt.kX];exact EqAt.same _
  ·have n1:its.size=l.length:=by rw[<- zal,r.length]
   have n2:its'.size=m.length:=by rw[<- zal,r'.length]
   have hd2:A.units+(Dt.dps l+1)<cLine:=by simpa only[Dt.dp] using hu
   have R:=RcAt.tuples (A:=A) (s:=s) (e:=l8 l m) ⟨_,ho,hc,_,hd⟩ ⟨_,ho',hc',_,hd'⟩ (by lia) (λj h1 h2=>by
    have:=vL A.in1 r r' (by show A.units+1+_<_;lia) j;exact this _ _ (by simp) (by simp))
   rw[n1,n2,db]at R;exact EqAt.of_refs hab R
theorem vL:∀ {ds ds':Af} {us us':AB} (A:AK),cI s.heap us ds->cI s.heap us' ds'->A.units+Dt.dps ds<cLine ->
  ∀ (j:Nat) (u u':AI),us[j]?=some u->us'[j]?=some u'->EqAt A s u u' (l8 ds ds' j)
 | [],_=>by
  intro A h h' hu j u u' e e';cases h;simp at e
 | d::ds,[]=>by
  intro A h h' hu j u u' e e';cases h';simp at e'
 | d::ds,d'::ds'=>by
  intro A h h' hu j u u' e e';cases h with
  | cons h t =>
  cases h' with
  | cons h' t' =>
  simp only[Dt.dps]at hu;cases j with
  | zero =>
   have e1:=yat e;have e2:=yat e';subst e1 e2;exact zG A h h' (by lia)
  | succ j =>
  have:=vL A t t' (by lia) j u u' (by simpa using e) (by simpa using e');have z:l8 (d::ds) (d'::ds') (j+1)=l8 ds ds' j:=by simp[l8]
  rw[z];exact this
end
end
section
variable{prog:AF}{w:AJ}{E:A9}{A:AK}{s:AE}
end
theorem zH{h:AO}{vs:AB}(e:h.get? c=some o):(cJ (h.push (seqObj "list" vs.toArray 0)) h.objs.size vs).get? c=some o:=by
 have hc:=yaj e;refine yai _ (yai _ ?_);rw[yas _ _ (yav (zai hc))];exact yai _ e
section
variable{X:Cx}
theorem xF{H:Hp}{s:AE}(I:Inv X pins σ H s){A:AK}{its:AB}(rv:kh ys its)(hlen:its.length<=sizeLine)(hD:aG H ys ds)
  (hT:∀ d∈ds,∃ e r,d=.tup (e::r)/\e.tag=T) (hL:∀ d∈ds,∀ d'∈ds,Dt.kG d d'=true) (hu:∀ d∈ds,A.units+4+d.dp<cLine) {R:Fin->Shared->Prop}
  (q:∀ l zs es h',zs.Perm ys->aG H zs es->es.Perm ds->es.Pairwise (λd d'=>Dt.blt d' d=false)->H l=none->Inv X pins σ (upd H l (.lst zs)) { s with heap:=h' }->R (.done (.ret (.ref l))) { s with heap:=h' }) :
  wpAny (model X.prog X.w) A (do
   let l <- newList its
   let _ <- holding [l] (call (.builtin "list.sort") [l] [])
   ret l) R E s:=by
 have I6:Inv X pins σ H { s with heap:=cJ (s.heap.push (seqObj "list" its.toArray 0)) s.heap.objs.size its }:=I.kept (t':=s.toks) λb o e=>zH e
 refine ya8 (wpAny_newList ?_);have hb:(s.heap.push (seqObj "list" its.toArray 0)).get? s.heap.objs.size=some (seqObj "list" its.toArray 0):=yak _ rfl;have o:Σ' o:Ord (model X.prog X.w) A.in1 E { s with heap:=cJ (s.heap.push (seqObj "list" its.toArray 0)) s.heap.objs.size its } (gN (Value.type T !=Value.type "tuple")),o.all (pairsOf its)/\∀ x y,o.le x y->Dt.blt (datKey H y) (datKey H x)=false:=by
  refine⟨ordT I6 X.prog X.w A.in1 E _ (λd=>d∈ds) λd d' hd hd'=>?_,λi x ex=>?_,λx y hxy=>hxy⟩
  ·obtain⟨e,l,rfl,et⟩:=hT d hd
   obtain⟨e',l',rfl,et'⟩:=hT d' hd';refine⟨_,_,rfl,rfl,by simpa only[Dt.kG] using hL _ hd _ hd',?_,λhf b hb=>?_⟩
   ·have:=hu _ hd
    simp only[Dt.dp]at this;show A.units+1+_<_
    lia
   ·have:e=b:=by simpa using hb
    subst this;cases e with
    | int _=>rfl
    | str _=>rfl
    | tup m=>rw[<- et]at hf;simp[Dt.tag]at hf
  ·have hx:(pairsOf its).toList[i]?=some x:=by simpa using ex
   rw[pairsOf_toList]at hx;obtain⟨d,e1,e2⟩:=qi hD rv i x.1 (by
    rw[zba]at hx;exact hx.1)
   exact⟨d,e2,zam e1⟩
 obtain⟨o,ga,hle⟩:=o;refine ya8 (yay (ybd slot_list_sort ⟨_,hb,rfl⟩ entry_list_sort (ig (s:={ s with heap:=s.heap.push (seqObj "list" its.toArray 0) }) (kd:=gN (Value.type T !=Value.type "tuple")) hb hlen (λh2 Q q'=>?_) o ga λks kp ku=>⟨_,rfl,?_⟩) (args_list_sort _)))
 ·obtain⟨fs,k,lf,hf⟩:=katT I6 hD rv hT
  refine W.kat_kind (T:=.type T) k (by lia) (λv hv=>?_) (by simp) q';obtain⟨e,he,et⟩:=hf v hv;exact et▸vJ I6 he
 ·refine ya9 ?_
  have kl:ks.toList.Perm (its.zip its):=by rw[<- pairsOf_toList];exact Array.perm_iff_toList_perm.mp kp
  have k2:((ks.map (·.2)).toList).Perm its:=by
   rw[ye1];have:=kl.map (·.2)
   rwa [List.map_snd_zip (by lia)]at this
  have k12:∀ x∈ks.toList,x.1=x.2:=λx hx=>by
   have:=kl.mem_iff.mp hx;obtain⟨i,e⟩:=zax.mp this;rw[zba]at e;exact yat (e.1.symm.trans e.2)
  obtain⟨zs,vz,pz⟩:=oX k2.symm rv;obtain⟨es,de,pe⟩:=rM pz hD;refine q s.heap.objs.size zs es _ pz.symm de pe.symm ?_ (I.hok.fresh (za5 _)) (I.laid (t':=s.toks) (λb o e=>?_) (za5 _) ?_)
  ·have ku':=ku.imp fun {x y} z=>hle x y z
   rw[zbu]at ku' ⊢;intro i j hi hj hij;have lks:ks.toList.length=es.length:=by
    rw[kl.length_eq,List.length_zip,<- de.length,<- pz.length_eq,rv.length,Nat.min_self]
   have z:=ku' i j (by lia) (by lia) hij;have key:∀ (i:Nat) (h1:i<ks.toList.length) (h2:i<es.length),datKey H ks.toList[i]=es[i]:=λi h1 h2=>by
    have e0:((ks.map (·.2)).toList)[i]?=some ks.toList[i].2:=by
     rw[ye1,zan,za6 h1];rfl
    obtain⟨d,e1,e2⟩:=qi de vz i _ e0;rw[za6 h2]at e1;cases e1;refine i5 ?_;rw[k12 _ (yd0 h1)];exact e2
   rw[key i (by omega) hi,key j (by omega) hj]at z;exact z
  ·have hlt:=yaj e
   rw[sortedHeap_old (zai hlt) (by rw[ybi];exact yds hlt)];exact yai _ e
  ·obtain⟨n,e⟩:=sortedHeap_at (out:=ks.map (·.2)) hb
   refine⟨by rw[<- pz.length_eq,rv.length];exact hlen,(ks.map (·.2)).toList,n,vz,?_⟩;rw[e]
end
theorem tY:∀ {ds:Af} {n:Nat},(∀ d∈ds,d.dp<=n)->Dt.dps ds<=n
 | [],n,_=>by simp[Dt.dps]
 | d::ds,n,h=>by
  simp only[Dt.dps];have:=h d za1;have:=tY (ds:=ds) λx hx=>h x (za3 _ hx)
  lia
section
variable{X:Cx}
theorem Fq(hr:ki k X.A):OpR X (compareOp .Eq) (λx y H Q=>∃ a b xs ys ds es,x=.ref a/\y=.ref b/\SqL X.K H a xs/\SqL X.K H b ys/\aG H xs ds/\aG H ys es/\(∀ d∈ds,d.dp<=50)/\Q (.bl (Dt.lg ds es)) H):=by
 intro pins s σ H x y v u Q I rx ry h;obtain⟨a,b,xs,ys,ds,es,rfl,rfl,hx,hy,hd,he,h5,q⟩:=h;have hu:=hr.units;have h5':=tY h5;cases rx;cases ry;obtain⟨its,rv,p,_⟩:=I.list hx;obtain⟨its',rv',p',_⟩:=I.list hy;have n1:its.toArray.size=ds.length:=by rw[zab,<- rv.length,hd.length]
 have n2:its'.toArray.size=es.length:=by rw[zab,<- rv'.length,he.length]
 have fin:∀ c,c=Dt.lg ds es->RcAt X.A s (.ref a) (.ref b) c->wpAny (model X.prog X.w) X.A (richCompare .Eq (.ref a) (.ref b)) (EP X pins σ Q) X.xe s:=λc hc R=>by
  subst hc;exact R X.prog X.w X.xe _ ⟨.bl _,H,I,rfl,q⟩
 by_cases hl:ds.length=es.length
 ·have R:=RcAt.lists (A:=X.A) (s:=s) (e:=l8 ds es) p.isList p'.isList (by rw[n1,n2,hl]) (by lia) (λj j1 j2=>qd I X.A.in1 hd rv he rv' (by show X.A.units+1+_<_;lia) j _ _ (by simp) (by simp))
  refine fin _ ?_ R;rw[n1,<- db,hl,Nat.min_self];simp
 ·refine fin false ?_ (RcAt.lists_lengths p.isList p'.isList (by rw[n1,n2];simpa using hl) (by omega))
  rw[<- db];simp[hl]
theorem zI(hr:ki k X.A):OpR X (compareOp .NotEq) (λx y H Q=>∃ a b xs ys ds es,x=.ref a/\y=.ref b/\SqL X.K H a xs/\SqL X.K H b ys/\aG H xs ds/\aG H ys es/\(∀ d∈ds,d.dp<=50)/\Q (.bl (!Dt.lg ds es)) H):=by
 intro pins s σ H x y v u Q I rx ry h;obtain⟨a,b,xs,ys,ds,es,rfl,rfl,hx,hy,hd,he,h5,q⟩:=h;have hu:=hr.units;have h5':=tY h5;cases rx;cases ry;obtain⟨its,rv,p,_⟩:=I.list hx;obtain⟨its',rv',p',_⟩:=I.list hy;have n1:its.toArray.size=ds.length:=by rw[zab,<- rv.length,hd.length]
 have n2:its'.toArray.size=es.length:=by rw[zab,<- rv'.length,he.length]
 have fin:∀ c,c=(!Dt.lg ds es)->RcNeAt X.A s (.ref a) (.ref b) c->wpAny (model X.prog X.w) X.A (richCompare .NotEq (.ref a) (.ref b)) (EP X pins σ Q) X.xe s:=λc hc R=>by
  subst hc;exact R X.prog X.w X.xe _ ⟨.bl _,H,I,rfl,q⟩
 by_cases hl:ds.length=es.length
 ·have R:=RcNeAt.lists (A:=X.A) (s:=s) (e:=l8 ds es) p.isList p'.isList (by rw[n1,n2,hl]) (by omega) (λj j1 j2=>qd I X.A.in1 hd rv he rv' (by show X.A.units+1+_<_;omega) j _ _ (by simp) (by simp))
  refine fin _ ?_ R;rw[n1,<- db,hl,Nat.min_self];simp
 ·refine fin true ?_ (RcNeAt.lists_lengths p.isList p'.isList (by rw[n1,n2];simpa using hl) (by omega))
  rw[<- db];simp[hl]
end
theorem Dt.xG(l:Af):Dt.lg l l=true:=(Dt.lu l l).mpr rfl
structure Pl where
 p:Int×Int
 q:Int×Int
 c:Str
abbrev Ag:=List Pl
def hD(p:Int×Int):Dt:=.tup [.int p.1,.int p.2]
def lD(a:Pl):Dt:=.tup [hD a.p,hD a.q]
def pD(a:Pl):Dt:=.tup [lD a,.str a.c]
def hLt(p q:Int×Int):Bool:=HT.cm [p.1,p.2] [q.1,q.2]
theorem vM(p q:Int×Int):hLt p q=true↔p.1<q.1\/(p.1=q.1/\p.2<q.2):=by
 unfold hLt;rw[lex2];simp
theorem rP{p:Int×Int}(h1:hLt p q=false)(h2:hLt q p=false):p=q:=by
 have a:¬ (p.1<q.1\/(p.1=q.1/\p.2<q.2)):=λz=>by rw[(vM p q).mpr z]at h1;cases h1
 have b:¬ (q.1<p.1\/(q.1=p.1/\q.2<p.2)):=λz=>by rw[(vM q p).mpr z]at h2;cases h2
 obtain⟨x,y⟩:=p;obtain⟨z,w⟩:=q;simp only at a b;have e1:x=z:=by omega
 have e2:y=w:=by lia
 rw[e1,e2]
def cD(k:Nat)(a:Pl):Pl:=if hLt (aA k a.p) (aA k a.q)=true then ⟨aA k a.p,aA k a.q,a.c⟩ else ⟨aA k a.q,aA k a.p,a.c⟩
theorem pD_dp(a:Pl):(pD a).dp=3:=by simp[pD,lD,hD,Dt.dp,Dt.dps]
theorem CQ(a b:Pl):Dt.kG (pD a) (pD b)=true:=by simp[pD,lD,hD,Dt.kG,Dt.l9]
theorem jU:∀ {l m:Af},l.Perm m->l.Pairwise (λd d'=>Dt.blt d' d=false)->m.Pairwise (λd d'=>Dt.blt d' d=false)->l=m
 | [],m,p,_,_=>(List.nil_perm.mp p).symm
 | a::l,[],p,_,_=>(List.perm_nil.mp p)
 | a::l,b::m,p,h1,h2=>by
  rw[yef]at h1 h2;have e:a=b:=by
   rcases za0.mp (p.mem_iff.mp (za1 (a:=a) (l:=l))) with z | z
   ·exact z
   ·rcases za0.mp (p.mem_iff.mpr (za1 (a:=b) (l:=m))) with y | y
    ·exact y.symm
    ·exact Dt.tot a b (h2.1 a z) (h1.1 b y)
  subst e;rw[jU ((List.perm_cons a).mp p) h1.2 h2.2]
theorem CS{G:Pl->Prop}(h:∀ d∈es,∃ a,d=pD a/\G a):∃ ps:List Pl,es=ps.map pD/\∀ a∈ps,G a:=by
 induction es with
 | nil=>exact⟨[],rfl,λ_ h=>nomatch h⟩
 | cons d es ih =>
  obtain⟨ps,e,g⟩:=ih λd hd=>h d (za3 _ hd)
  obtain⟨a,rfl,ga⟩:=h d za1;refine⟨a::ps,by rw[e];rfl,λb hb=>?_⟩;rcases za0.mp hb with rfl | hb
  ·exact ga
  ·exact g b hb
mutual
theorem kj.lT{H:Hp}(ha:H a=some (.lst xs)):∀ {d:Dt} {v:V},kj H v d->kj (upd H a o) v d
 | .int i,_,.int _=>.int i
 | .str x,_,.str _=>.str x
 | .tup ds,_,.tup (a:=b) e q=>.tup (by
   have:b≠a:=λz=>by rw[z,ha]at e;cases e
   rw[am this];exact e) (aG.lT ha q)
theorem aG.lT{H:Hp}(ha:H a=some (.lst xs)):∀ {ds:Af} {vs:Ac},aG H vs ds->aG (upd H a o) vs ds
 | []=>by intro g;cases g;exact .nil
 | d::ds=>by
  intro g;cases g with
  | cons q t=>exact .cons (kj.lT ha q) (aG.lT ha t)
end
end BF
namespace BF
open PySem PySem.Spec PyProof.Rows L2
theorem bz{G:Prop}{A:L2.St->Hp->Prop}(C:L2.St->Hp->Prop)(main:(∀ σ H',C σ H'->A σ H')->G)(last:∀ σ H',C σ H'->A σ H'):G:=main last
theorem ifC{A:Prop}(a:c=true->A)(b:c=false->B):if c=true then A else B:=by
 cases c with
 | true=>exact a rfl
 | false=>exact b rfl
theorem ao{H:Hp}(s:kf H H2)(n:H L=none):kf H (upd H2 L o):=λb u e=>by
 rw[am (λz=>by rw[z,n]at e;cases e)];exact s b u e
theorem aG.snoc(q:kj H v d):∀ {ds:Af} {vs:Ac},aG H vs ds->aG H (vs++[v]) (ds++[d])
 | []=>by intro g;cases g;exact .cons q .nil
 | _::_=>by
  intro g;cases g with
  | cons a t=>exact .cons a (aG.snoc q t)
def Pic(H:Hp)(l:Addr)(ps:List Pl):Prop:=∃ xs,H l=some (.lst xs)/\aG H xs (ps.map pD)
theorem Pic.same{H:Hp}(h:Pic H l ps)(s:kf H H'):Pic H' l ps:=by
 obtain⟨xs,a,b⟩:=h;exact⟨xs,s _ _ a,b.same s⟩
def oA(ps:List Pl):Prop:=(ps.map pD).Pairwise (λd d'=>Dt.blt d' d=false)
theorem zJ(ps:Ag):∀ d∈ps.map pD,∃ e r,d=.tup (e::r)/\e.tag="tuple":=λd hd=>by
 obtain⟨a,_,rfl⟩:=za9.mp hd;exact⟨_,_,rfl,rfl⟩
theorem oZ(ps:Ag):∀ d∈ps.map pD,∀ d'∈ps.map pD,Dt.kG d d'=true:=λd hd d' hd'=>by
 obtain⟨a,_,rfl⟩:=za9.mp hd;obtain⟨b,_,rfl⟩:=za9.mp hd';exact CQ a b
theorem jV(ps:Ag):∀ d∈ps.map pD,d.dp<=3:=λd hd=>by
 obtain⟨a,_,rfl⟩:=za9.mp hd;rw[pD_dp];exact za5 _
def kz(p q:Int×Int):(Int×Int)×(Int×Int):=if hLt p q=true then (p,q) else (q,p)
theorem tZ(k:Nat)(a:Pl):lD (cD k a)=.tup [hD (kz (aA k a.p) (aA k a.q)).1,hD (kz (aA k a.p) (aA k a.q)).2]:=by
 unfold cD kz;split<;>rfl
theorem zK(h:kj H (.ref x) (hD p)):two H x p:=by
 cases h with
 | tup e q =>
  cases q with
  | cons a b =>
   cases a;cases b with
   | cons c d =>
    cases c;cases d;exact e
theorem rQ{H:Hp}{a:Pl}(h:kj H (.ref r) (lD a)):∃ x y,H r=some (.tup [.ref x,.ref y])/\two H x a.p/\two H y a.q:=by
 cases h with
 | tup e q =>
  cases q with
  | @cons v1 _ _ _ h1 t =>
   cases t with
   | @cons v2 _ _ _ h2 t2 =>
    cases t2;have z1:=h1;have z2:=h2;cases z1 with
    | tup _ _ =>
     cases z2 with
     | tup _ _=>exact⟨_,_,e,zK h1,zK h2⟩
theorem qj{H:Hp}{a:Pl}(h:kj H v (pD a)):∃ r x,v=.ref r/\H r=some (.tup [.ref x,.str a.c])/\kj H (.ref x) (lD a):=by
 cases h with
 | tup e q =>
  cases q with
  | @cons v1 _ _ _ h1 t =>
   cases t with
   | @cons v2 _ _ _ h2 t2 =>
    cases t2;cases h2;have z1:=h1;cases z1 with
    | tup _ _=>exact⟨_,_,rfl,e,h1⟩
theorem aH{H H':Hp}(s:kf H H')(n:H' l=none):H l=none:=by
 cases h:H l with
 | none=>rfl
 | some u=>rw[s _ _ h]at n;cases n
theorem vN{x:AA}{p:Int×Int}(hx:two H x p)(hy:two H y q) :
  kj H (if hLt q p=true then V.ref y else .ref x) (hD (kz p q).1)/\kj H (if hLt p q=true then V.ref y else .ref x) (hD (kz p q).2):=by
 unfold kz;cases h1:hLt p q with
 | true =>
  have h2:hLt q p=false:=vp h1;rw[h2];exact⟨eE hx,eE hy⟩
 | false =>
  cases h2:hLt q p with
  | true=>exact⟨eE hy,eE hx⟩
  | false =>
   have:=rP h1 h2;subst this;exact⟨eE hx,eE hx⟩
theorem vO{p:Int×Int}:hD p=hD q↔p=q:=by
 obtain⟨a,b⟩:=p;obtain⟨c,d⟩:=q;simp[hD]
def kP(a b:Nat):Nat:=((if 4<=b then (b:Int)-a else (b:Int)+a) % 4).toNat+(if decide (4<=a)=decide (4<=b) then 0 else 4)
theorem i9(a b:Nat):kP a b<8:=by
 unfold kP;have:((if 4<=b then (b:Int)-a else (b:Int)+a) % 4).toNat<4:=by
  generalize (if 4<=b then (b:Int)-a else (b:Int)+a)=z
  lia
 have h2:(if decide (4<=a)=decide (4<=b) then 0 else 4)<=4:=by split<;>lia
 omega
theorem pr2{a b c d:Int}(h:a=c)(k:b=d):(a,b)=(c,d):=by rw[h,k]
theorem zz{a:Int}:a=0-(0-a):=by omega
theorem eV{a:Nat}(ha:a<8)(hb:b<8)(p:Int×Int):aA (kP a b) p=aA b (aA a p):=by
 rw[dG (i9 a b),dG hb,dG ha];obtain⟨x,y⟩:=p;have ha':a=0\/a=1\/a=2\/a=3\/a=4\/a=5\/a=6\/a=7:=by lia
 have hb':b=0\/b=1\/b=2\/b=3\/b=4\/b=5\/b=6\/b=7:=by lia
 rcases ha' with rfl | rfl | rfl | rfl | rfl | rfl | rfl | rfl<;>rcases hb' with rfl | rfl | rfl | rfl | rfl | rfl | rfl | rfl<;>first | rfl | exact pr2 rfl zz | exact pr2 zz rfl | exact pr2 zz zz
theorem gW(p q:Int×Int):kz p q=kz q p:=by
 unfold kz;cases h1:hLt p q with
 | true =>
  have h2:hLt q p=false:=vp h1;rw[h2];rfl
 | false =>
  cases h2:hLt q p with
  | true=>rfl
  | false=>rw[rP h1 h2]
theorem eI(k:Nat)(a:Pl):cD k a=⟨(kz (aA k a.p) (aA k a.q)).1,(kz (aA k a.p) (aA k a.q)).2,a.c⟩:=by
 unfold cD kz;split<;>rfl
theorem p5{a:Nat}(ha:a<8)(hb:b<8)(x:Pl):cD (kP a b) x=cD b (cD a x):=by
 rw[eI,eI b,eI a,eV ha hb,eV ha hb];have key:kz (aA b (kz (aA a x.p) (aA a x.q)).1) (aA b (kz (aA a x.p) (aA a x.q)).2)=kz (aA b (aA a x.p)) (aA b (aA a x.q)):=by
  generalize aA a x.p=p;generalize aA a x.q=q;have:kz p q=(p,q)\/kz p q=(q,p):=by
   unfold kz;split
   ·exact .inl rfl
   ·exact .inr rfl
  rcases this with e | e
  ·rw[e]
  ·rw[e];exact gW _ _
 rw[key]
def unD:Dt->Pl
 | .tup [.tup [.tup [.int a,.int b],.tup [.int c,.int d]],.str s]=>⟨(a,b),(c,d),s⟩
 | _=>⟨(0,0),(0,0),""⟩
theorem xH{l m:Ag}(h:(l.map pD).Perm (m.map pD)):l.Perm m:=by
 have:=h.map unD;rw[ydi,ydi]at this;have e:∀ l:List Pl,l.map (unD ∘ pD)=l:=λl=>by
  induction l with
  | nil=>rfl
  | cons a l ih=>rw[zaa,ih];rfl
 rwa [e,e]at this
def shH(e n:Int)(p:Int×Int):Int×Int:=(p.1+e,p.2+n)
end BF
namespace BF
open PySem PySem.Spec PyProof.Rows L2 PySem.W
instance:DecidableEq Dt:=λa b=>decidable_of_iff (Dt.beq a b=true) (Dt.beq_iff a b)
theorem Dt.Fs(a b:Dt):decide (a=b)=Dt.beq a b:=by
 cases h:Dt.beq a b with
 | true=>exact yab ((Dt.beq_iff a b).mp h)
 | false=>exact yaa λz=>by rw[(Dt.beq_iff a b).mpr z]at h;cases h
mutual
noncomputable def jy:Dt->Nat
 | .int _=>1
 | .str _=>1
 | .tup l=>jZ l+1
noncomputable def jZ:List Dt->Nat
 | []=>0
 | d::l=>jy d+jZ l
end
section
variable{prog:AF}{w:AJ}{E:A9}
set_option maxRecDepth 100000 in
mutual
theorem rR:∀ (d:Dt) (v:AI) (A:AK) (s:AE) (Q:Int->Shared->Prop),kS s.heap v d->A.units+d.dp<cLine->Q (oY w d) { s with toks:=s.toks+jy d }->wpAny (model prog w) A (pyHash v) Q E s
 | .int i,_,A,s,Q,.int _ t,hu,h=>wpAny_pyHash_int (by rw[oY,jy]at h;exact h)
 | .str x,_,A,s,Q,.str _ t,hu,h=>wpAny_pyHash_str (by rw[oY,jy]at h;exact h)
 | .tup ds,_,A,s,Q,.tup (a:=a) (items:=items) ho hc hd r,hu,h=>by
  have hu':A.units+(Dt.dps ds+1)<cLine:=by simpa only[Dt.dp] using hu
  refine pyHash_slot (T:="tuple") ⟨_,ho,hc⟩ F.slot_tuple_hash F.entry_tuple_hash (F.args_tuple_hash_1 _) (beq_builtin_none _) (.inr (by lia)) ?_;show wpAny _ _ (Builtin.Tuple.tupleItemsOf (.ref a)>>=_) _ _ s;refine ya8 (wpAny_tupleItemsOf ho hd ?_);refine ya8 ?_;rw[<- Array.forIn_toList];refine mS ds items.toList A.in1 s #[] _ r (by simp only[Around.in1_units];lia) λb hb=>?_
  show wpAny _ _ (retInt (Builtin.Tuple.tupleHashOf b.toList)) _ _ _;rw[hb];exact ya8 (wpAny_mkInt (ya9 ⟨_,_,rfl,by rw[oY,jy,<- Nat.add_assoc]at h;exact h⟩))
theorem mS:∀ (ds:Af) (vs:AB) (A:AK) (s:AE) (b:Array Int) (Q:Array Int->Shared->Prop),cI s.heap vs ds->A.units+Dt.dps ds<cLine ->
  (∀ b',b'.toList=b.toList++mR w ds->Q b' { s with toks:=s.toks+jZ ds }) ->
  wpAny (model prog w) A (forIn vs b λx r=>do let h <- pyHash x;pure PUnit.unit;pure (ForInStep.yield (r.push h))) Q E s
 | [],_,A,s,b,Q,.nil,_,h=>ya9 (h b (by simp[mR]))
 | d::ds,_,A,s,b,Q,.cons q t,hu,h=>by
  simp only[Dt.dps]at hu;rw[List.forIn_cons];refine ya8 (ya8 (rR d _ A s _ q (by lia) ?_));refine ya8 (ya9 (ya9 ?_));refine mS ds _ A _ _ Q t (by lia) λb' hb=>?_
  have:=h b' (by simp[hb,mR]);rw[jZ,<- Nat.add_assoc]at this;exact this
end
end
mutual
theorem kS.but{h:AO}{o:Obj}(ho:h.get? c=some o)(hd:o.data=.dict es ep)(k:Heap.SameBut c h h'):∀ {d:Dt} {v:AI},kS h v d->kS h' v d
 | _,_,.int i t=>.int i t
 | _,_,.str x t=>.str x t
 | .tup ds,_,.tup (a:=a) ho' hc hd' r=>.tup (k.extBut _ _ (λz=>by
   rw[z,ho]at ho';cases ho';rw[hd]at hd';cases hd') ho') hc hd' (cI.but ho hd k r)
theorem cI.but{h:AO}{o:Obj}(ho:h.get? c=some o)(hd:o.data=.dict es ep)(k:Heap.SameBut c h h'):∀ {ds:Af} {vs:AB},cI h vs ds->cI h' vs ds
 | []=>by intro g;cases g;exact .nil
 | d::ds=>by
  intro g;cases g with
  | cons q t=>exact .cons (kS.but ho hd k q) (cI.but ho hd k t)
end
def gF(prog:Program)(w:World):HeapKind prog w Dt where
 is:=λh d a=>kS h (.ref a) d/\d.dp<=8
 hash:=oY w
 draws:=jy
 room:=λA=>A.units+9<cLine
 inj:=λhx hy=>kS.inj hx.1 hy.1
 keeps:=λx ho hd hs=>⟨x.1.but ho hd hs,x.2⟩
 pyHash:=λhu hk h=>rR _ _ _ _ _ hk.1 (by have:=hk.2;lia) h
 eqBool:=fun {A E s x y a b Q} hu hx hy h=>zG A hx.1 hy.1 (by have:=hx.2;lia) _ _ _ _ (by rw[<- Dt.Fs];exact h)
 quiet:=λhk h=>vK _ _ 8 _ _ _ hk.1 hk.2 h
end BF
namespace BF
open PySem PySem.Spec PyProof.Rows L2
def cO(P:Program)(w:World)(h:Heap)(D:Addr)(xs:List (Dt×Addr×Value)):Prop:=∃ o es ep,h.get? D=some o/\o.ExactDict/\o.data=.dict es ep/\es.toList=xs.map (entryOfKey (gF P w))/\(xs.map (·.1)).Nodup
theorem cO.full{h:AO}(p:cO P w h D xs)(k:∀ x∈xs,kS h (.ref x.2.1) x.1/\x.1.dp<=8):h.DictOfH (gF P w) D xs:=by
 obtain⟨o,es,ep,a,b,c,d,e⟩:=p;exact⟨o,es,ep,a,b,c,d,k,e⟩
theorem cO.of{h:AO}(p:h.DictOfH (gF P w) D xs):cO P w h D xs:=by
 obtain⟨o,es,ep,a,b,c,d,_,e⟩:=p;exact⟨o,es,ep,a,b,c,d,e⟩
theorem cO.keep{h h':AO}(p:cO P w h D xs)(k:∀ o,h.get? D=some o->h'.get? D=some o):cO P w h' D xs:=by
 obtain⟨o,es,ep,a,b,c,d,e⟩:=p;exact⟨o,es,ep,k o a,b,c,d,e⟩
theorem jB(xs:Ah)(k:Dt)(a:AA)(v:AI):(storedH xs k a v).length<=xs.length+1:=by
 unfold storedH;split
 ·rw[za4];lia
 ·rw[za7];exact za5 _
theorem jA{x:Dt×Addr×Value}(h:x∈storedH xs k a v):(x.1=k/\x.2.1=a)\/∃ y∈xs,x.1=y.1/\x.2.1=y.2.1:=by
 unfold storedH at h;split at h
 ·obtain⟨y,hy,rfl⟩:=za9.mp h
  right;refine⟨y,hy,?_⟩;unfold putAt;split<;>exact⟨rfl,rfl⟩
 ·rcases zaj.mp h with h | h
  ·exact .inr ⟨x,h,rfl,rfl⟩
  ·rw[zac]at h
   rw[h];exact .inl ⟨rfl,rfl⟩
section
variable{prog:AF}{w:AJ}{A:AK}{R:Result->Shared->Prop}{I:AA}{fp wr:AM}{St:Nat->Heap->Prop}
end
def dicO(P:Program)(w:World)(a:Addr)(xs:List (Dt×Addr×Value)):HO:=.ext λh=>cO P w h a xs
structure xI(P:Program)(w:World)(H:Hp)(a:Addr)(xs:List (Dt×Addr×Value)):Prop where
 at_:H a=some (dicO P w a xs)
 sys:(a==sysModules)=false
 len:xs.length<=1000
 key:∀ x∈xs,kj H (.ref x.2.1) x.1/\x.1.dp<=8
theorem xI.same{H:Hp}(d:xI P w H a xs)(s:kf H H'):xI P w H' a xs :=
 ⟨s _ _ d.at_,d.sys,d.len,λx hx=>⟨(d.key x hx).1.same s,(d.key x hx).2⟩⟩
section
variable{X:Cx}{pins:A7}{σ:L2.St}{H:Hp}{s:AE}
theorem fg(I:Inv X pins σ H s)(d:xI X.prog X.w H a xs):s.heap.DictOfH (gF X.prog X.w) a xs:=by
 have ok:=I.hok a _ d.at_;exact cO.full ok.1 λx hx=>⟨i6 I (d.key x hx).1 rfl,(d.key x hx).2⟩
end
section
variable{X:Cx}
end
abbrev KD:List (Dt×V)->List (Dt×Addr×Value)->Prop:=Paired λ(p:Dt×V) (q:Dt×Addr×Value)=>p.1=q.1/\RelV p.2 q.2.2
theorem KD.val(r:KD kvs xs)(k:Dt):kW (kB kvs k) ((atKey xs k).map (·.2)):=by
 induction r with
 | nil=>exact True.intro
 | @cons p q ps qs h t ih =>
  obtain⟨h1,h2⟩:=h;by_cases e:p.1=k
  ·have e':q.1=k:=h1.symm.trans e
   have b:atKey (q::qs) k=some q.2:=by simp[atKey,zbp,e']
   rw[cB e,b];exact h2
  ·have e':¬ q.1=k:=λz=>e (h1.trans z)
   have b:atKey (q::qs) k=atKey qs k:=by simp[atKey,zbp,e']
   rw[cC e,b];exact ih
theorem KD.yX{kvs:Al}{xs:Ah}(r:KD kvs xs)(k:Dt)(ry:RelV y u):KD (kvs.map λkv=>if kv.1=k then (kv.1,y) else kv) (xs.map (putAt k u)):=by
 induction r with
 | nil=>exact .nil
 | @cons p q ps qs h t ih =>
  rw[zaa,zaa];refine .cons ?_ ih;obtain⟨h1,h3⟩:=h;unfold putAt;by_cases e:p.1=k
  ·rw[yad e,yad (h1.symm.trans e)];exact⟨h1,ry⟩
  ·rw[yac e,yac (λz=>e (h1.trans z))];exact⟨h1,h3⟩
theorem KD.put(r:KD kvs xs)(k:Dt)(ry:RelV y u):KD (putK kvs k y) (storedH xs k b u):=by
 have e:(kvs.any λkv=>decide (kv.1=k))=(atKey xs k).isSome:=by
  rw[fo,(r.val k).kN,ydq]
 unfold putK storedH;rw[e];by_cases q:(atKey xs k).isSome=true
 ·rw[yad q,yad q];exact r.yX k ry
 ·rw[yac q,yac q];exact Paired.snoc r ⟨rfl,ry⟩
def lF(P:Program)(w:World)(H:Hp)(a:Addr)(kvs:List (Dt×V)):Prop:=∃ xs,xI P w H a xs/\KD kvs xs
theorem lF.same{H:Hp}(d:lF P w H a kvs)(s:kf H H'):lF P w H' a kvs:=by
 obtain⟨xs,h,r⟩:=d;exact⟨xs,h.same s,r⟩
mutual
theorem kj.rS{H:Hp}(ha:H a=some (.ext φ)):∀ {d:Dt} {v:V},kj H v d->kj (upd H a o) v d
 | .int i,_,.int _=>.int i
 | .str x,_,.str _=>.str x
 | .tup ds,_,.tup (a:=b) e q=>.tup (by
   have:b≠a:=λz=>by rw[z,ha]at e;cases e
   rw[am this];exact e) (aG.rS ha q)
theorem aG.rS{H:Hp}(ha:H a=some (.ext φ)):∀ {ds:Af} {vs:Ac},aG H vs ds->aG (upd H a o) vs ds
 | []=>by intro g;cases g;exact .nil
 | d::ds=>by
  intro g;cases g with
  | cons q t=>exact .cons (kj.rS ha q) (aG.rS ha t)
end
section
variable{X:Cx}
def Ft(P:Program)(w:World):TE:=λ_ H Q=>∀ a o,H a=none->lF P w (upd H a o) a []->Q (.ref a) (upd H a o)
theorem rT:PE X (.Dict [] [] pos) (Ft X.prog X.w):=λpins s σ H Q I h=>by
 have fr:=I.hok.fresh (za5 s.heap.objs.size);have dp:cO X.prog X.w (s.heap.push { cls:=.type "dict",data:=.dict #[] }) s.heap.objs.size []:=.of (Heap.DictOfH.new s.heap);refine wpAny_Dict_empty ⟨.ref s.heap.objs.size,_,I.laid (a:=s.heap.objs.size) (o:=dicO X.prog X.w s.heap.objs.size []) (t':=s.toks) (λ_ _ q=>yai _ q) (za5 _) ⟨dp,⟨_,yak _ rfl⟩,λh1 h2 p1 k=>p1.keep k⟩,rfl,h _ _ fr ⟨[],⟨a8,?_,zb6 _,λ_ hx=>nomatch hx⟩,.nil⟩⟩;exact yah.mpr (zb3 I.big)
def zL(P:Program)(w:World)(td ty:TE):TE:=λσ H Q=>td σ H λx H1=>ty σ H1 λy H2=>∃ a b d kvs v,x=.ref a/\y=.ref b/\kj H2 (.ref b) d/\d.dp<=8/\lF P w H2 a kvs/\kB kvs d=some v/\Q v H2
theorem zM{o:AX}{td:TE}(hr:ki k X.A)(ho:PE X o td)(hi:PE X i ty)(hs:NoSl i):PE X (.Subscript o i pos) (zL X.prog X.w td ty):=by
 intro pins s σ H Q I h;have hu:=hr.units;refine pZ F.slot_dict_getitem.lookup hs (thn (ho pins s σ H _ I h) λu s1 zz1=>?_);obtain⟨x,H1,I1,rx,q1⟩:=zz1;refine thn (hi pins s1 σ H1 _ I1 q1) λiv s2 zz2=>?_
 obtain⟨y,H2,I2,ry,a,b,d,kvs,v,ex,ey,hd,h8,⟨xs,dic,r⟩,hv,q2⟩:=zz2;subst ex ey;obtain rfl:u=Value.ref a:=rx;obtain rfl:iv=Value.ref b:=ry;have full:=fg I2 dic;have rel:=r.val d;rw[hv]at rel;cases hk:atKey xs d with
 | none=>rw[hk]at rel;exact absurd rel id
 | some p =>
  rw[hk]at rel;refine⟨full.typeIs,wpAny_getItem_heap (knd:=gF X.prog X.w) (by show X.A.units+1+9<cLine;lia) ⟨i6 I2 hd rfl,h8⟩ full hk ⟨v,H2,I2.tok _,rel,q2⟩⟩
def Fu(P:Program)(w:World)(td ty tv:TE):TS:=λD σ H=>tv σ H λv H1=>td σ H1 λx H2=>ty σ H2 λy H3=>∃ a b d kvs,x=.ref a/\y=.ref b/\kj H3 (.ref b) d/\d.dp<=8/\lF P w H3 a kvs/\kvs.length<1000 /\
 ∀ o,lF P w (upd H3 a o) a (putK kvs d v)->D.nx σ (upd H3 a o)
theorem zN{o:AX}{td:TE}{pos' pos:Pos}(hr:ki k X.A)(ho:PE X o td)(hi:PE X i ty)(hv:PE X value tv)(hs:swapsWith value (some (.Subscript o i pos')) pos.line X.env=pure false) :
  PS X (.Assign [.Subscript o i pos'] value pos) (Fu X.prog X.w td ty tv):=by
 intro pins s σ H D I h;have hu:=hr.units;refine ydx (thn (hv pins s σ H _ I h) λr s1 zz1=>?_) hs;obtain⟨v,H1,I1,rv,q1⟩:=zz1;refine thn (ho pins s1 σ H1 _ I1 q1) λu s2 zz2=>?_
 obtain⟨x,H2,I2,rx,q2⟩:=zz2;refine thn (hi pins s2 σ H2 _ I2 q2) λiv s3 zz3=>?_
 obtain⟨y,H3,I3,ry,a,b,d,kvs,ex,ey,hd,h8,⟨xs,dic,rel⟩,hl,q3⟩:=zz3;subst ex ey;obtain rfl:u=Value.ref a:=rx;obtain rfl:iv=Value.ref b:=ry;have full:=fg I3 dic;have xl:xs.length<1000:=by rw[<- yce rel];exact hl
 refine wpAny_setItem_heap (knd:=gF X.prog X.w) (k:=d) (by show X.A.units+1+9<cLine;lia) ⟨i6 I3 hd rfl,h8⟩ full (λh' dd' hsb=>?_) (sz (by lia));have dp:cO X.prog X.w h' a (storedH xs d b r):=.of dd';refine⟨σ,upd H3 a (dicO X.prog X.w a (storedH xs d b r)),jd I3 (by rw[dic.at_];exact True.intro) hsb (let ⟨q,_,_,hq,_⟩:=dd';⟨q,hq⟩) ⟨dp,(let ⟨q,_,_,hq,_⟩:=dd';⟨q,hq⟩),λh1 h2 p1 k=>p1.keep k⟩,q3 _ ⟨_,⟨a8,dic.sys,?_,λz hz=>?_⟩,rel.put d rv⟩⟩
 ·exact zap (jB _ _ _ _) (by assumption)
 ·rcases jA hz with ⟨z1,z2⟩ | ⟨y,hy,z1,z2⟩
  ·rw[z1,z2];exact⟨kj.rS dic.at_ hd,h8⟩
  ·rw[z1,z2];exact⟨kj.rS dic.at_ (dic.key y hy).1,(dic.key y hy).2⟩
end
def lQ(h:Heap)(d:Addr)(ks:List Value)(ep:Nat):Prop:=∃ o es,h.get? d=some o/\o.ExactDict/\o.data=.dict es ep/\es.toList.map (·.key)=ks
theorem lQ.at'{h h':AO}{d:AA}{ks:AB}{ep:Nat}(q:lQ h d ks ep)(k:∀ o,h.get? d=some o->h'.get? d=some o):lQ h' d ks ep:=let ⟨o,es,ho,r⟩:=q;⟨o,es,k o ho,r⟩
theorem lQ.lt{h:AO}{d:AA}{ks:AB}{ep:Nat}(q:lQ h d ks ep):d<h.objs.size:=let ⟨_,_,ho,_⟩:=q;yaj ho
theorem lQ.typeIs{s:AE}(q:lQ s.heap d ks ep):s.TypeIs (.ref d) "dict":=let ⟨o,_,ho,hc,_⟩:=q;⟨o,ho,hc.1⟩
section
variable{P:AF}{w:AJ}{A:AK}{E:A9}{s:AE}{d it:AA}{ks:AB}{ep n:Nat}
theorem zO{Q:A9}(hd:(d==sysModules)=false)(q:lQ s.heap d ks ep)
  (z:Q (.ref s.heap.objs.size) { s with heap:=s.heap.push { cls:=.type "dict_keyiterator",data:=.fields #[.ref d,.int 0 0,.int ks.length 0,.int ep 0] } }):wpAny (model P w) A (pyIter (.ref d)) Q E s:=by
 obtain⟨o,es,ho,hc,dat,ek⟩:=id q;have ty:=q.typeIs;refine wpAny_pyIter_slot ty F.slot_dict_iter (ybd F.slot_dict_iter ty F.entry_dict_iter ?_ (F.args_dict_iter_1 _));unfold Builtin.«dict.__iter__»;refine ya8 ?_;unfold Builtin.Dict.dictSlotNone;refine ya8 (ycv ty ?_);show wpAny _ _ (pure (Value.ref d)) _ _ _;refine ya9 ?_;show wpAny _ _ (Builtin.Dict.showsAll d>>=_) _ _ _;unfold Builtin.Dict.showsAll;rw[yac (λe=>by rw[hd]at e;cases e)];refine ya8 (ya9 (ya8 (yag ho dat (ya8 (ycm ho dat ?_)))));have hn:es.size=ks.length:=by rw[<- ek,za4,zal]
 refine ya8 (yba (ya9 ⟨_,rfl,"dict_keyiterator",_,⟨_,yak _ rfl,rfl⟩,F.slot_dict_keyiterator_next.lookup,by simpa [rawInt,hn] using z⟩))
theorem zP{Q:A8}(ik:s.heap.IsKeyIter it d n ks.length ep)(q:lQ s.heap d ks ep)(hu:ks[n]?=some u)
  (z:∀ h',h'.IsKeyIter it d (n+1) ks.length ep->Heap.SameBut it s.heap h'->Q (some u) { s with heap:=h' }):wpAny (model P w) A (pyNext (.ref it)) Q E s:=by
 obtain⟨o,ho,hc,dat⟩:=id ik;obtain⟨od,es,hod,hcd,dd,ek⟩:=id q;have hn:es.size=ks.length:=by rw[<- ek,za4,zal]
 unfold pyNext;refine ya8 (ych (yc0 (name:=Str.ofString "__next__") ik.typeIs yc7 (ybd yc7 ik.typeIs F.entry_dict_keyiterator_next ?_ (F.args_dict_keyiterator_next_1 _))));refine ya8 (ya9 (ya8 (ya8 ?_)))
 first | refine ya8 (yby ik.typeIs (ya9 ?_)) | refine ya8 (ycg ik.typeIs (ya9 ?_))
 refine ya8 (wpAny_fieldsOf ho dat ?_);have own:Builtin.Dict_items.ownsTuple "dict_keyiterator"=false:=by decide
 simp only[own,zag,ybj];show wpAny _ _ (if (Value.ref d==Value.none)=true then _ else _) _ _ _;rw[yac (λe:(Value.ref d==Value.none)=true=>za8 e)];refine ya8 (ya9 (ya8 (yag hod dd ?_)));rw[yac (by rw[hn];simp)];refine ya8 (ya9 (ya8 (ycm hod dd ?_)));rw[yac (by simp)];refine ya9 ?_;have lt:n<es.size:=by rw[hn];exact(zaf.mp hu).1
 have key:es[n].key=u:=by
  rw[<- ek,zan,zb4,zbb lt]at hu;exact yat hu
 simp only[show ¬ ((n:Int)<0) from by lia,ybj,ybx,zbb lt];refine ya8 ?_;first | refine ya8 (yby ik.typeIs (ya9 ?_)) | refine ya8 (ycg ik.typeIs (ya9 ?_))
 refine ya8 (wpAny_isOneOf_keyiter ik.typeIs ?_);show wpAny _ _ (setField (.ref it) 1 (rawInt ((n:Int)+1))>>=_) _ _ s;refine ya8 (yct ho dat (by simp) ?_);have ik':(s.heap.update it (Obj.mapFields (·.setIfInBounds 1 (rawInt ((n:Int)+1))))).IsKeyIter it d (n+1) ks.length ep :=
  ⟨_,yaz _ ho (ye4 (yck dat _)),(Obj.cls_mapFields ..).trans hc,by rw[yck dat];simp[rawInt]⟩
 refine ya8 (yay (ya8 (wpAny_isOneOf_keyiter (s:={ s with heap:=s.heap.update it (Obj.mapFields (·.setIfInBounds 1 (rawInt ((n:Int)+1)))) }) ik'.typeIs ?_)));show wpAny _ _ (pure es[n].key) _ _ _;rw[key];exact ya9 (ya9 ⟨_,rfl,ya9 (z _ ik' (yc1 ..))⟩)
theorem CU{Q:A8}(hh:A.handled=none)(ik:s.heap.IsKeyIter it d n ks.length ep)(q:lQ s.heap d ks ep)(hu:ks[n]?=none)
  (z:∀ h',Heap.ExtBut it s.heap h'->Q none { s with heap:=h' }):wpAny (model P w) A (pyNext (.ref it)) Q E s:=by
 obtain⟨o,ho,hc,dat⟩:=id ik;obtain⟨od,es,hod,hcd,dd,ek⟩:=id q;have hn:es.size=ks.length:=by rw[<- ek,za4,zal]
 unfold pyNext;refine ya8 (ych (yc0 (name:=Str.ofString "__next__") ik.typeIs yc7 (ybd yc7 ik.typeIs F.entry_dict_keyiterator_next ?_ (F.args_dict_keyiterator_next_1 _))));refine ya8 (ya9 (ya8 (ya8 ?_)))
 first | refine ya8 (yby ik.typeIs (ya9 ?_)) | refine ya8 (ycg ik.typeIs (ya9 ?_))
 refine ya8 (wpAny_fieldsOf ho dat ?_);have own:Builtin.Dict_items.ownsTuple "dict_keyiterator"=false:=by decide
 simp only[own,zag,ybj];show wpAny _ _ (if (Value.ref d==Value.none)=true then _ else _) _ _ _;rw[yac (λe:(Value.ref d==Value.none)=true=>za8 e)];refine ya8 (ya9 (ya8 (yag hod dd ?_)));rw[yac (by rw[hn];simp)];refine ya8 (ya9 (ya8 (ycm hod dd ?_)));rw[yac (by simp)];refine ya9 ?_;have ge:es.size<=n:=by rw[hn];simpa using hu
 simp only[show ¬ ((n:Int)<0) from by omega,ybj,ybx,ydy ge];refine ya8 ?_;first | refine ya8 (yby ik.typeIs (ya9 ?_)) | refine ya8 (ycg ik.typeIs (ya9 ?_))
 show wpAny _ _ (setField (.ref it) 0 .none>>=_) _ _ s;refine ya8 (yct ho dat (by simp) ?_);show wpAny _ _ (newExc (.type "StopIteration") []>>=_) _ _ (_:AE);refine ya8 ?_;simp only[newExc,newTuple];refine ya8 (yba ?_ (by size_fits));refine ya8 (m:=firstArgMember _ _) (ycq (a:=Value.none) (by first | rfl | (simp only[firstArgMember];rfl)) ?_);refine yba ?_ (by size_fits);simp only[raiseNew];refine ya8 (wpAny_handled ?_)
 first | rw[show A.in1.handled=none from hh] | rw[hh]
 refine ya8 (ya9 (wpAny_throw ?_));exact ya8 (ye2 (T:="StopIteration") (b:=true) ⟨_,yak _ rfl,rfl⟩ isSubtype_stop (ya9 (z _ (((yc1 ..).extBut.push _).push _))))
theorem xJ(hh:A.handled=none)(I d:AA)(ne:d≠I)(ks:AB)(ep:Nat) :
  Walks P w A I [I,d] [I] ks.length (λi v=>ks[i]?=some v) (λi h=>h.IsKeyIter I d i ks.length ep/\lQ h d ks ep) where
 sub:=λb hb=>by simp at hb;simp[hb]
 frame:=λ_ _ _ st k=>⟨st.1.at λo e=>k I (by simp) o e,st.2.at' λo e=>k d (by simp) o e⟩
 item:=λi s Q E hi st z=>by
  refine zP st.1 st.2 (za6 hi) λh' ik sb=>?_
  exact z _ h' s.toks (za6 hi) ⟨ik,st.2.at' λo e=>sb.extBut _ _ ne e⟩ λb o hb e=>sb.extBut b o (λt=>hb (by simp[t])) e
 done:=λs Q E st z=>CU hh st.1 st.2 (by simp) λh' sb=>z h' s.toks λb o hb e=>sb b o (λt=>hb (by simp[t])) e
 self:=λ_ _ _ _ st z=>wpAny_pyIter_keyiter st.1 z
theorem CV(lo:(d==sysModules)=false):W.KdlSrc P w "dict" d d ks.length (λi v=>ks[i]?=some v) (λh=>lQ h d ks ep) where
 type:=λ_ q=>q.typeIs
 there:=λ_ q=>⟨q.lt,q.lt⟩
 keep:=λ_ _ q k=>q.at' λo e=>k d (.inl rfl) o e
 notList:=by decide
 notTuple:=by decide
 hint:=λ_ _ _ _ q z=>W.kdl_hint_dict q.typeIs z
 iter:=λ_ _ hh q=>⟨_,_,(λ_ _ z=>zO lo q z),xJ hh _ d (zai q.lt) ks ep,⟨⟨_,yak _ rfl,rfl,rfl⟩,q.at' λo e=>yai _ e⟩⟩
theorem zQ{P':Nat->Value->Prop}{acc:AN}(h:ItemsOf (λi v=>ks[i]?=some v) acc ks.length):acc.toList=ks:=by
 obtain⟨h1,h2⟩:=h;apply ydt;intro i;by_cases hi:i<ks.length
 ·have:=h2 i (acc[i]'(by lia)) (by simp[show i<acc.size by omega])
  rw[this,zb4,zbb (by omega)]
 ·rw[zbt (by rw[zal];lia),zbt (by lia)]
end
end BF
namespace BF
open PySem PySem.Spec PyProof.Rows L2 PySem.SeqAt
theorem KD.keys{kvs:Al}{xs:Ah}(r:KD kvs xs):kvs.map (·.1)=xs.map (·.1):=by
 induction r with
 | nil=>rfl
 | cons h _ ih=>rw[zaa,zaa,ih,h.1]
theorem xK(xs:Ah):kh (xs.map λx=>V.ref x.2.1) (xs.map λx=>Value.ref x.2.1):=by
 induction xs with
 | nil=>exact .nil
 | cons x _ ih=>exact .cons rfl ih
theorem rV{P:AF}{w:AJ}{H:Hp}:∀ {xs:Ah},(∀ x∈xs,kj H (.ref x.2.1) x.1/\x.1.dp<=8)->aG H (xs.map λx=>V.ref x.2.1) (xs.map (·.1))
 | [],_=>.nil
 | x::xs,h=>.cons (h x za1).1 (rV (P:=P) (w:=w) λy hy=>h y (za3 _ hy))
section
variable{X:Cx}
theorem zR{pins:A7}{σ:L2.St}{H:Hp}{s:AE}{a:AA}{xs:Ah}(I:Inv X pins σ H s)(d:xI X.prog X.w H a xs):∃ ep,lQ s.heap a (xs.map λx=>Value.ref x.2.1) ep:=by
 obtain⟨o,es,ep,ho,hc,dat,ek,_⟩:=fg I d;refine⟨ep,o,es,ho,hc,dat,?_⟩;rw[ek,ydi];rfl
end
end BF
namespace BF
open PySem PySem.Spec PyProof.Rows L2
section
variable{X:Cx}{o e:AX}{es:AQ}{to:TE}{t:TA}{name:AL}{apos cpos:Pos}{id:String}{r:V->List V->Hp->VK->Prop}
def tBMD(P:Program)(w:World)(r:V->List V->Hp->VK->Prop)(to:TE)(t:TA):TE:=λσ H Q=>to σ H λx H1=>(∃ a kvs,x=.ref a/\lF P w H1 a kvs)/\t σ H1 λxs H2=>r x xs H2 Q
theorem zS(slot:Slot "dict" name id)(hty:typeOf (.builtin id)=pure (.type "method_descriptor"))(hm:MtR X id r)(ho:PE X o to)(ha:PA X (e::es) t)
  (hbase:attributeBase o name X.env (eval o X.env)=eval o X.env:=by rfl)
  (hfew:((backTo cpos (starEach (e::es) X.env)).all (λx=>!x.1)&&(backToKw cpos (keywordEach [] X.env)).all (λx=>x.1.isSome)&&decide ((e::es).length+([]:List Keyword).length+(if ([]:List Keyword).isEmpty then 0 else 1)<30))=true:=by rfl)
  (hline:(apos.endLine==cpos.line)=true:=by rfl) (hs:starEach (e::es) X.env=(false,eval e X.env)::starEach es X.env:=by rfl) (hplain:(backTo cpos (starEach es X.env)).any (·.1)=false:=by rfl) :
  PE X (.Call (.Attribute o name apos) (e::es) [] cpos) (tBMD X.prog X.w r to t):=by
 intro pins s σ H Q I h;refine wpAny_Call_method_late hbase hfew hline rfl (thn (ho pins s σ H _ I h) λv s1 zz1=>?_);obtain⟨x,H1,I1,r1,⟨a,kvs,ex,⟨xs,dic,_⟩⟩,q1⟩:=zz1;subst ex;cases r1;obtain⟨ob,_,_,e1,ex,_⟩:=fg I1 dic;refine⟨"dict",id,ydr,slot,hty,⟨ob,e1,ex.1⟩,λb e2=>by cases e2;exact⟨ob,e1,ex.2.1⟩,?_⟩;have hA:=ha cpos pins s1 σ H1 _ I1 q1;rw[hs]at hA ⊢;refine ybt (by show(false||(backTo cpos (starEach es X.env)).any (·.1))=false;rw[hplain]<;>rfl) (ycy (thn hA λus s2 ⟨vs,H2,I2,r2,q2⟩=>hm pins s2 σ H2 (.ref a) vs (.ref a) us Q I2 rfl r2 q2))
end
section
variable{P:AF}{w:AJ}{A:AK}{E:A9}{s:AE}{K:Type}[DecidableEq K]{knd:HeapKind P w K}
theorem rW{d:AA}{xs:List (K×Addr×Value)}{Q:A9}(hu:knd.room A)(hkey:knd.is s.heap k a)(hm:s.heap.DictOfH knd d xs)
  (h1:∀ p,atKey xs k=some p->Q p.2 { s with toks:=s.toks+knd.draws k })
  (h2:atKey xs k=none->∀ h',h'.DictOfH knd d (storedH xs k a v)->Heap.SameBut d s.heap h'->Q v { s with heap:=h',toks:=s.toks+knd.draws k }) (hsz:xs.length<=sizeLine) :
  wpAny (model P w) A (dictSetDefault d (.ref a) v) Q E s:=by
 obtain⟨o,es,ep,ho,hc,hd,he,his,hn⟩:=hm;unfold dictSetDefault;try with_reducible refine yay ?_
 refine ya8 (knd.pyHash hu hkey (ya8 (wpAny_dictFind_heap (s:={ s with toks:=s.toks+knd.draws k }) hu hkey ho hd he his hn (λhno=>?_) λj p hj=>?_)))
 ·have hnot:k∉xs.map (·.1):=not_mem_keys_of_get hno
  refine ya8 (yaf (ya8 (wpAny_updateDictKeys (hz:=by have e:=size_of_entries he;lia) (s:={ s with toks:=s.toks+knd.draws k }) ho hd (ya9 (h2 (ydu hno) _ ⟨_,_,ep+1,yaz _ ho (Obj.isFreed_of_dict (Obj.data_mapDictKeys hd _)),hc.mapDictKeys _,Obj.data_mapDictKeys hd _,?_,λx hx=>?_,?_⟩ (yc1 ..))))))
  ·rw[storedH_new (ydu hno)];simp[he,entryOfKey]
  ·rw[storedH_new (ydu hno)]at hx
   rcases zaj.mp hx with hx | hx
   ·exact knd.keeps (his x hx) ho hd (yc1 ..)
   ·have e':=zac.mp hx
    subst e';exact knd.keeps hkey ho hd (yc1 ..)
  ·rw[storedH_new (ydu hno),zae,List.nodup_append]
   refine⟨hn,by simp,λx hx y hy e'=>?_⟩;have ey:=zac.mp hy;rw[e',ey]at hx;exact hnot hx
 ·refine ya8 (yag (s:={ s with toks:=s.toks+knd.draws k }) ho hd ?_)
  rw[entry_at he j,hj];exact ya8 (yaf (ya9 (h1 p (atKey_of_get hn hj))))
end
section
variable{X:Cx}
theorem CW(hr:ki k X.A):MtR X "dict.get" (λx vs H Q=>∃ (a b:AA) (d:Dt) (kvs:Al) (v:V),x=.ref a/\vs=[.ref b,v]/\kj H (.ref b) d/\d.dp<=8/\lF X.prog X.w H a kvs/\Q ((kB kvs d).getD v) H):=by
 intro pins s σ H x vs v us Q I rx rv h;obtain⟨a,b,d,kvs,y,rfl,rfl,hd,h8,⟨xs,dic,kd⟩,q⟩:=h;have hu:=hr.units;cases rx;cases rv with
 | cons r1 r2 =>
  cases r2 with
  | cons r2 r3 =>
   cases r3;cases r1;rename_i dv;have full:=fg I dic;refine ybd ydc full.typeIs F.entry_dict_get ?_ (F.args_dict_get_3 _ _ _);show wpAny _ _ (dictGet a (.ref b)>>=_) _ _ s;refine ya8 (wpAny_dictGet_heap (knd:=gF X.prog X.w) (k:=d) (by show X.A.units+1+9<cLine;lia) ⟨i6 I hd rfl,h8⟩ full ?_);have rel:=kd.val d;cases hk:(atKey xs d).map (·.2) with
   | some p =>
    rw[hk]at rel;cases hv:kB kvs d with
    | none=>rw[hv]at rel;exact absurd rel id
    | some u=>rw[hv]at rel q;exact ya9 ⟨p,rfl,u,H,I.tok _,rel,q⟩
   | none =>
    rw[hk]at rel;cases hv:kB kvs d with
    | some u=>rw[hv]at rel;exact absurd rel id
    | none =>
     rw[hv]at q;show wpAny _ _ (Builtin.Dict.missed a (.ref b)>>=_) _ _ _;exact ya8 (wpAny_missed_other dic.sys (ya9 ⟨dv,rfl,y,H,I.tok _,r2,q⟩))
theorem xM(hr:ki k X.A):MtR X "dict.setdefault" (λx vs H Q=>∃ (a b:AA) (d:Dt) (kvs:Al) (v:V),x=.ref a/\vs=[.ref b,v]/\kj H (.ref b) d/\d.dp<=8/\lF X.prog X.w H a kvs/\kvs.length<1000 /\
  (∀ u,kB kvs d=some u->Q u H)/\(kB kvs d=none->∀ o,lF X.prog X.w (upd H a o) a (putK kvs d v)->Q v (upd H a o))):=by
 intro pins s σ H x vs v us Q I rx rv h;obtain⟨a,b,d,kvs,y,rfl,rfl,hd,h8,⟨xs,dic,kd⟩,hl,q1,q2⟩:=h;have hu:=hr.units;cases rx;cases rv with
 | cons r1 r2 =>
  cases r2 with
  | cons r2 r3 =>
   cases r3;cases r1;rename_i dv;have full:=fg I dic;have xl:xs.length<1000:=by rw[<- yce kd];exact hl
   have rel:=kd.val d;refine ybd F.slot_dict_setdefault full.typeIs F.entry_dict_setdefault ?_ (F.args_dict_setdefault_3 _ _ _);unfold Builtin.«dict.setdefault»;refine ya8 ?_;unfold Builtin.Dict.keyAndDefault;refine ya8 (ycv full.typeIs ?_);show wpAny _ _ (pure (a,Value.ref b,some dv)) _ _ s;refine ya9 ?_;show wpAny _ _ (if (a==sysModules)=true then _ else (dictSetDefault a (.ref b) dv>>=_)) _ _ s;rw[yac (λe=>by rw[dic.sys]at e;cases e)];refine ya8 (rW (knd:=gF X.prog X.w) (k:=d) (by show X.A.units+1+9<cLine;lia) ⟨i6 I hd rfl,h8⟩ full (λp hp=>?_) (λhno h' dd' hsb=>?_) (sz (by lia)))
   ·rw[hp]at rel
    cases hv:kB kvs d with
    | none=>rw[hv]at rel;exact absurd rel id
    | some u=>rw[hv]at rel;exact ya9 ⟨p.2,rfl,u,H,I.tok _,rel,q1 u hv⟩
   ·rw[hno]at rel
    cases hv:kB kvs d with
    | some u=>rw[hv]at rel;exact absurd rel id
    | none =>
     have dp:cO X.prog X.w h' a (storedH xs d b dv):=.of dd';refine ya9 ⟨dv,rfl,y,upd H a (dicO X.prog X.w a (storedH xs d b dv)),jd I (by rw[dic.at_];exact True.intro) hsb (let ⟨q,_,_,hq,_⟩:=dd';⟨q,hq⟩) ⟨dp,(let ⟨q,_,_,hq,_⟩:=dd';⟨q,hq⟩),λh1 h2 p1 k=>p1.keep k⟩,r2,q2 hv _ ⟨_,⟨a8,dic.sys,?_,λz hz=>?_⟩,kd.put d r2⟩⟩
     ·exact zap (jB _ _ _ _) (by assumption)
     ·rcases jA hz with ⟨z1,z2⟩ | ⟨y',hy,z1,z2⟩
      ·rw[z1,z2];exact⟨kj.rS dic.at_ hd,h8⟩
      ·rw[z1,z2];exact⟨kj.rS dic.at_ (dic.key y' hy).1,(dic.key y' hy).2⟩
end
section
variable{P:AF}{w:AJ}{A:AK}{E:A9}
theorem rX{j:AA}{its:AN}(ne:l≠j):∀ (m i:Nat) (s:AE) (Q:List Value->Shared->Prop),s.heap.IsListIter j l i->s.heap.IsList l its->i+m<=its.size ->
  (∀ h',h'.IsListIter j l (i+m)->Heap.SameBut j s.heap h'->Q ((its.toList.drop i).take m) { s with heap:=h' })->wpAny (model P w) A (draw (.ref j) m) Q E s
 | 0,i,s,Q,hj,_,_,z=>by
  show wpAny _ _ (pure []) Q E s;exact ya9 (by simpa using z s.heap hj (Heap.SameBut.refl ..))
 | m+1,i,s,Q,hj,hl,le,z=>by
  have lt:i<its.size:=by lia
  show wpAny _ _ (pyNext (.ref j)>>=_) Q E s;refine ya8 (wpAny_pyNext_list_item hj hl (x:=its[i]) (by simp[lt]) λh1 j1 s1=>?_);refine ya8 (yay (rX ne m (i+1) _ _ j1 (Heap.IsList.at hl λo e=>s1.extBut _ _ ne e) (by lia) λh2 j2 s2=>ya9 ?_));have hd:its.toList.drop i=its[i]::its.toList.drop (i+1):=by simp[ydd,lt]
  have:=z h2 (by rw[show i+(m+1)=i+1+m by lia];exact j2) (s1.trans s2);rw[hd,List.take_succ_cons]at this;exact this
theorem u0{s:AE}{its:AN}{tg:List (Bool×(Value->Sem Unit))}(hh:A.handled=none)(hl:s.heap.IsList l its)(hn:tg.length=its.size)(hst:tg.findIdx? (·.1)=none)
  (z:∀ h',Heap.ExtBut s.heap.objs.size s.heap h'->wpAny (model P w) A (assignInOrder (tg.map (·.2)) its.toList) Q E { s with heap:=h' }):wpAny (model P w) A (unpack (.ref l) tg) Q E s:=by
 have ne:l≠s.heap.objs.size:=by obtain⟨o,ho,_⟩:=hl;exact zai (yaj ho)
 unfold unpack;rw[hn,hst];refine ya8 (yay ?_);unfold unpackItems;refine ya8 ?_;unfold notIterableAtAll;refine ya8 (ydb hl.typeIs slot_list_iter.lookup (ya9 ?_));simp only[zag,ybj];refine ya8 (yay (wpAny_pyIter_list hl ?_));refine ya8 (yay (rX ne its.size 0 _ _ ⟨_,yak _ rfl,rfl,rfl⟩ (hl.push _) (by lia) λh1 j1 s1=>?_));have all:List.take its.size (List.drop 0 its.toList)=its.toList:=by rw[ydl];exact zav (by simp)
 rw[all];rw[yac (by simp)];have hl1:h1.IsList l its:=Heap.IsList.at (hl.push _) λo e=>s1.extBut _ _ ne e
 refine ya8 (yay (wpAny_pyNext_list_end hh j1 hl1 (by simp) λh2 k2=>?_));simp only[Option.isSome_none,zag,ybj];exact ya9 (z h2 λb o hb e=>k2 b o hb (s1.extBut b o hb (yai _ e)))
end
section
variable{X:Cx}{pos:Pos}
def EA(K:A2)(n:Nat)(t:TGs):TG:=λv σ H Q=>∃ a xs,v=.ref a/\SqL K H a xs/\xs.length=n/\t xs σ H Q
theorem CY(hc:X.calm=true)(h:PGs X es t)
  (hn:(assignEach es X.env).length=n:=by rfl) (hst:(assignEach es X.env).findIdx? (·.1)=none:=by rfl):PG X (.Tuple es k pos) (EA X.K n t):=by
 intro pins s σ H v u Q I r hw;obtain⟨a,xs,e1,hq,hl,hw⟩:=hw;subst e1;cases r;obtain⟨its,rv,pl,hz⟩:=I.list hq;rw[arm_assign_Tuple];refine ya8 (wpAny_standAt (u0 (I.ok.hd hc) pl.isList (by simp[hn,<- hl,rv.length]) hst λh' hx=>?_));have I1:Inv X pins σ H { s with heap:=h' }:=I.kept (t':=s.toks) λb o e=>hx b o (zai (yaj e)) e
 exact h pins _ σ H xs _ Q I1 (by simpa using rv) hw
end
section
variable{X:Cx}
theorem p6:cY X (.builtin "len") (λxs H Q=>∃ (a:AA) (kvs:Al),xs=[.ref a]/\lF X.prog X.w H a kvs/\Q (.int kvs.length) H):=by
 intro pins s σ H xs us Q I r h;obtain⟨a,kvs,rfl,⟨ys,dic,kd⟩,q⟩:=h;obtain⟨u,rfl,rx⟩:=fm r;cases rx;obtain⟨ep,raw⟩:=zR I dic;obtain⟨o,es,ho,hex,dat,ek⟩:=id raw;have ty:=raw.typeIs;have hn:es.size=kvs.length:=by
  have h1:es.toList.length=ys.length:=by rw[<- za4 (f:=(·.key)),ek,za4]
  have h2:kvs.length=ys.length:=yce kd;rw[<- zal,h1,h2]
 have hl:kvs.length<=1000:=by rw[show kvs.length=ys.length from yce kd];exact dic.len
 refine PyProof.Rows.call_len_slot (n:=(kvs.length:Int)) ty F.slot_dict_len (λQ' hq=>?_) (by lia) (by lia) ⟨.int kvs.length,H,I.tok _,⟨_,rfl⟩,q⟩;refine ybd F.slot_dict_len ty F.entry_dict_len ?_ (F.args_dict_len_1 _);unfold Builtin.«dict.__len__»;refine ya8 ?_;unfold Builtin.Dict.dictSlotNone;refine ya8 (ycv ty ?_);show wpAny _ _ (pure (Value.ref a)) _ _ _;refine ya9 ?_;show wpAny _ _ (dictSize a>>=_) _ _ s;unfold dictSize;refine ya8 (ya8 (yag ho dat (ya9 ?_)));refine ya8 (m:=Builtin.Dict.pendingCount a) (wpAny_pendingCount_other dic.sys ?_);have e0:((es.size:Int)+((0:Nat):Int))=(kvs.length:Int):=by rw[hn];simp
 show wpAny _ _ (retInt ((es.size:Int)+((0:Nat):Int))) _ _ s;rw[e0];exact ya8 (wpAny_mkInt (ya9 ⟨_,rfl,hq⟩))
end
end BF
namespace BF
open PySem PySem.Spec PySem.Calls PyProof.Rows L2
def ly(h:Heap)(d:Addr)(es:Array DictEntry)(ep:Nat):Prop:=∃ o,h.get? d=some o/\o.ExactDict/\o.data=.dict es ep
theorem ly.at'{h h':AO}(q:ly h d es ep)(k:∀ o,h.get? d=some o->h'.get? d=some o):ly h' d es ep:=let ⟨o,ho,r⟩:=q;⟨o,k o ho,r⟩
theorem ly.lt{h:AO}(q:ly h d es ep):d<h.objs.size:=let ⟨_,ho,_⟩:=q;yaj ho
theorem ly.typeIs{s:AE}(q:ly s.heap d es ep):s.TypeIs (.ref d) "dict":=let ⟨o,ho,hc,_⟩:=q;⟨o,ho,hc.1⟩
abbrev itO(x:Value)(f:Bool)(d:Addr)(i n ep:Nat)(ok ov:Value):Obj:={ cls:=.type "dict_itemiterator",dict:=none,data:=.fields #[x,.bool f,.ref d,.int i 0,.int n 0,.int ep 0,ok,ov],slots:=#[] }
def ItS(h:Heap)(it d S:Addr)(i n ep:Nat):Prop:=∃ x f ok ov,h.get? it=some (itO x f d i n ep ok ov)/\((x=.none/\f=false)\/∃ (a:Addr) (oa:Obj),x=rawInt a/\h.get? a=some oa/\a≠it/\a≠S)
theorem ItS.keep{h h':AO}{it:AA}{i:Nat}(q:ItS h it d S i n ep)(k:∀ b o,b≠S->h.get? b=some o->h'.get? b=some o)(ne:it≠S):ItS h' it d S i n ep:=by
 obtain⟨x,f,ok,ov,e,r⟩:=q;refine⟨x,f,ok,ov,k _ _ ne e,r.imp id λ⟨a,oa,e1,e2,e3,e4⟩=>⟨a,oa,e1,k _ _ e4 e2,e3,e4⟩⟩
section
variable{P:AF}{w:AJ}{A:AK}{E:A9}{s:AE}{d it S:AA}{es:AR}{ep i:Nat}
theorem vP{Q:A9}(lo:(d==sysModules)=false)(q:ly s.heap d es ep)
  (z:Q (.ref s.heap.objs.size) { s with heap:=s.heap.push { cls:=.type "dict_items",data:=.fields #[.ref d] } }):wpAny (model P w) A (call (.builtin "dict.items") [.ref d]) Q E s:=by
 refine ybd F.slot_dict_items q.typeIs F.entry_dict_items ?_ (F.args_dict_items_1 _);unfold Builtin.«dict.items»;refine ya8 ?_;unfold Builtin.Dict.noArgs;refine ya8 (ycv q.typeIs ?_);show wpAny _ _ (pure d) _ _ s;refine ya9 ?_;show wpAny _ _ (Builtin.Dict.showsAll d>>=_) _ _ s;unfold Builtin.Dict.showsAll;rw[yac (by rw[lo];exact za8)];exact ya8 (ya9 (ya8 (yba (ya9 ⟨_,rfl,z⟩))))
theorem CZ{Q:A9}(hv:s.heap.IsItemsView v d)(q:ly s.heap d es ep)
  (z:Q (.ref s.heap.objs.size) { s with heap:=s.heap.push (itO .none false d 0 es.size ep .none .none) }):wpAny (model P w) A (pyIter (.ref v)) Q E s:=by
 obtain⟨ov,hov,hcv,hdv⟩:=id hv;obtain⟨o,ho,hc,dat⟩:=id q;refine wpAny_pyIter_slot hv.typeIs F.slot_dict_items_iter (ybd F.slot_dict_items_iter hv.typeIs F.entry_dict_items_iter ?_ (F.args_dict_items_iter_1 _));unfold Builtin.«dict_items.__iter__»;refine ya8 (ya9 (ya8 ?_));unfold Builtin.Dict_items.dictOf;refine ya8 (ybu hov hdv (x:=.ref d) rfl (ya9 (ya8 ?_)));unfold Builtin.Dict_items.newIterator;refine ya8 (yag ho dat (ya8 (ycm ho dat ?_)));have own:Builtin.Dict_items.ownsTuple "dict_itemiterator"=true:=by decide
 simp only[own,ycs];refine yba (ya9 ⟨_,rfl,"dict_itemiterator",_,⟨_,yak _ rfl,rfl⟩,F.slot_dict_itemiterator_next.lookup,?_⟩)
  (by simp only[sizeOk,Builtin.Dict_items.ownedTupleFields,zab,za7,za2,zb2,yau];lia)
 simpa [itO,rawInt,Builtin.Dict_items.ownedTupleFields] using z
theorem D0{e:DictEntry}{Q:A8}(st:ItS s.heap it d S i es.size ep)(q:ly s.heap d es ep)(hS:S<s.heap.objs.size)(hx:es[i]?=some e)
  (z:∀ h',ItS h' it d S (i+1) es.size ep->h'.get? s.heap.objs.size=some { cls:=.type "tuple",data:=.seq #[e.key,e.val] }->h'.objs.size=s.heap.objs.size+1 ->
   (∀ b o,b≠it->s.heap.get? b=some o->h'.get? b=some o)->Q (some (.ref s.heap.objs.size)) { s with heap:=h' }):wpAny (model P w) A (pyNext (.ref it)) Q E s:=by
 obtain⟨hp,g,dr,tk,os⟩:=s;obtain⟨x0,f,ok,ov,hit,own⟩:=st;obtain⟨od,hod,hcd,hdd⟩:=id q;dsimp only at hit hS z;have hT:Shared.TypeIs ⟨hp,g,dr,tk,os⟩ (.ref it) "dict_itemiterator":=⟨_,hit,rfl⟩;unfold pyNext;refine ya8 (ych (yc0 (name:=Str.ofString "__next__") hT ybz
  (ybd ybz hT F.entry_dict_itemiterator_next ?_ (F.args_dict_itemiterator_next_1 _))))
 refine ya8 (ya9 (ya8 (ya8 ?_)))
 first | refine ya8 (ybw hT (ya9 ?_)) | refine ya8 (ycf hT (ya9 ?_))
 refine ya8 (wpAny_fieldsOf hit rfl ?_);have hown:Builtin.Dict_items.ownsTuple "dict_itemiterator"=true:=by decide
 simp only[hown,ycs];show wpAny _ _ (if (Value.ref d==Value.none)=true then _ else _) _ _ _;rw[yac (show ¬ ((Value.ref d==Value.none)=true) from za8)];refine ya8 (ya9 (ya8 (yag hod hdd ?_)));rw[yac (by simp)];refine ya8 (ya9 (ya8 (ycm hod hdd ?_)));rw[yac (by simp)];refine ya9 ?_;have lt:i<es.size:=by
  rcases Nat.lt_or_ge i es.size with h | h
  ·exact h
  ·rw[ydy h]at hx;cases hx
 have ee:es[i]=e:=by rw[zbb lt]at hx;exact yat hx
 simp only[show ¬ ((i:Int)<0) from by lia,ybj,ybx,zbb lt];rw[ee];refine ya8 ?_
 first | refine ya8 (ybw hT (ya9 ?_)) | refine ya8 (ycf hT (ya9 ?_))
 refine ya8 (ydz hT ?_);show wpAny _ _ (setField (.ref it) 3 (rawInt ((i:Int)+1))>>=_) _ _ ⟨hp,g,dr,tk,os⟩;refine ya8 (ycc hit (by simp) λh1 e1 s1=>?_)
 replace s1:Heap.SameBut it hp h1:=s1
 replace e1:h1.get? it=some (itO x0 f d (i+1) es.size ep ok ov):=by
  have e:((i+1:Nat):Int)=(i:Int)+1:=by lia
  unfold itO;rw[e];simpa [rawInt] using e1
 have hT1:Shared.TypeIs ⟨h1,g,dr,tk,os⟩ (.ref it) "dict_itemiterator":=⟨_,e1,rfl⟩;refine ya8 (yay (ya8 (ydz hT1 (ya8 (ydz hT1 ?_)))));show wpAny _ _ (Builtin.Dict_items.pairFromOwner (.ref it) 6 e.key e.val) _ _ ⟨h1,g,dr,tk,os⟩;unfold Builtin.Dict_items.pairFromOwner;refine ya8 (wpAny_newTuple ?_);have sz1:h1.objs.size=hp.objs.size:=s1.1;have il:it<hp.objs.size:=yaj hit;have e2:(h1.push { cls:=.type "tuple",data:=.seq #[e.key,e.val] }).get? it=some (itO x0 f d (i+1) es.size ep ok ov):=yai _ e1;have t2:(h1.push { cls:=.type "tuple",data:=.seq #[e.key,e.val] }).get? hp.objs.size=some { cls:=.type "tuple",data:=.seq #[e.key,e.val] }:=by rw[<- sz1];exact yak _ rfl
 have z2:(h1.push { cls:=.type "tuple",data:=.seq #[e.key,e.val] }).objs.size=hp.objs.size+1:=by rw[ybi,sz1]
 have k2:∀ b o,b≠it->hp.get? b=some o->(h1.push { cls:=.type "tuple",data:=.seq #[e.key,e.val] }).get? b=some o:=λb o hb e'=>yai _ (s1.extBut b o hb e')
 rw[sz1];revert e2 t2 z2 k2;generalize h1.push { cls:=.type "tuple",data:=.seq #[e.key,e.val] }=h2;intro e2 t2 z2 k2;have fin:∀ (h3:AO) (x:AI) (f':Bool) (k' v':AI),h3.get? it=some (itO x f' d (i+1) es.size ep k' v')->Heap.SameBut it h2 h3->((∃ (a:AA) (oa:Obj),x=rawInt a/\h2.get? a=some oa/\a≠it/\a≠S))->Q (some (.ref hp.objs.size)) ⟨h3,g,dr,tk,os⟩:=λh3 x f' k' v' e3 s3 ⟨a,oa,r1,r2,r3,r4⟩ =>
  z h3 ⟨x,f',k',v',e3,.inr ⟨a,oa,r1,s3.extBut _ _ r3 r2,r3,r4⟩⟩ (s3.extBut _ _ (zb3 il) t2) (by show h3.objs.size=hp.objs.size+1;rw[s3.1,z2]) λb o hb e'=>s3.extBut b o hb (k2 b o hb e')
 show wpAny _ _ (Builtin.Dict_items.ownedTupleIsFree (.ref it)>>=_) _ _ ⟨h2,g,dr,tk,os⟩;refine ya8 ?_;unfold Builtin.Dict_items.ownedTupleIsFree;rcases own with ⟨rfl,rfl⟩ | ⟨a,oa,rfl,ha,ai,aS⟩
 ·refine ya8 (ybu e2 rfl (x:=.none) rfl (ya9 ?_))
  simp only[ycs];refine ya8 (ybu e2 rfl (x:=ok) rfl (ya8 (ybu e2 rfl (x:=ov) rfl ?_)));refine ya8 (ycc e2 (by simp) λh3 e3 s3=>?_)
  replace s3:Heap.SameBut it h2 h3:=s3
  replace e3:h3.get? it=some (itO .none false d (i+1) es.size ep e.key ov):=e3
  refine ya8 (ycc e3 (by simp) λh4 e4 s4=>?_)
  replace s4:Heap.SameBut it h3 h4:=s4
  replace e4:h4.get? it=some (itO .none false d (i+1) es.size ep e.key e.val):=e4
  refine ya8 (ycc e4 (by simp) λh5 e5 s5=>?_)
  replace s5:Heap.SameBut it h4 h5:=s5
  replace e5:h5.get? it=some (itO (rawInt hp.objs.size) false d (i+1) es.size ep e.key e.val):=e5
  refine ya8 (ycc e5 (by simp) λh6 e6 s6=>?_)
  replace s6:Heap.SameBut it h5 h6:=s6
  replace e6:h6.get? it=some (itO (rawInt hp.objs.size) false d (i+1) es.size ep e.key e.val):=e6
  refine ya8 (yc9 (ya9 (ya9 ⟨_,rfl,ya9 (fin h6 _ _ _ _ e6 (((s3.trans s4).trans s5).trans s6) ⟨_,_,rfl,t2,zb3 il,zb3 hS⟩)⟩)))
 ·have ha2:h2.get? a=some oa:=k2 a oa ai ha
  refine ya8 (ybu e2 rfl (x:=rawInt a) rfl ?_);show wpAny _ _ (loadIfAlive ((a:Int).toNat)>>=_) _ _ _;rw[ybx];refine ya8 (W.kdx_alive ha2 ?_);simp only[Option.isNone_some,zag,ybj];refine ya8 (ybu e2 rfl (x:=.bool f) rfl ?_);cases f with
  | true =>
   rw[yac (show ¬ ((Value.bool true !=Value.bool true)=true) from za8)];refine ya9 ?_;simp only[zag,ybj];exact ya9 (ya9 ⟨_,rfl,ya9 (fin h2 _ _ _ _ e2 (Heap.SameBut.refl _ _) ⟨a,oa,rfl,ha2,ai,aS⟩)⟩)
  | false =>
   rw[yad (show(Value.bool false !=Value.bool true)=true from rfl)];refine ya8 (ycc e2 (by simp) λh3 e3 s3=>?_)
   replace s3:Heap.SameBut it h2 h3:=s3
   replace e3:h3.get? it=some (itO (rawInt a) true d (i+1) es.size ep ok ov):=e3
   refine ya9 ?_;simp only[zag,ybj];exact ya9 (ya9 ⟨_,rfl,ya9 (fin h3 _ _ _ _ e3 s3 ⟨a,oa,rfl,ha2,ai,aS⟩)⟩)
theorem Fv{Q:A8}(hh:A.handled=none)(st:ItS s.heap it d S es.size es.size ep)(q:ly s.heap d es ep)
  (z:∀ h',Heap.ExtBut it s.heap h'->Q none { s with heap:=h' }):wpAny (model P w) A (pyNext (.ref it)) Q E s:=by
 obtain⟨x0,f,ok,ov,hit,own⟩:=st;obtain⟨od,hod,hcd,hdd⟩:=id q;have hT:s.TypeIs (.ref it) "dict_itemiterator":=⟨_,hit,rfl⟩;unfold pyNext;refine ya8 (ych (yc0 (name:=Str.ofString "__next__") hT ybz
  (ybd ybz hT F.entry_dict_itemiterator_next ?_ (F.args_dict_itemiterator_next_1 _))))
 refine ya8 (ya9 (ya8 (ya8 ?_)))
 first | refine ya8 (ybw hT (ya9 ?_)) | refine ya8 (ycf hT (ya9 ?_))
 refine ya8 (wpAny_fieldsOf hit rfl ?_);have hown:Builtin.Dict_items.ownsTuple "dict_itemiterator"=true:=by decide
 simp only[hown,ycs];show wpAny _ _ (if (Value.ref d==Value.none)=true then _ else _) _ _ s;rw[yac (show ¬ ((Value.ref d==Value.none)=true) from za8)];refine ya8 (ya9 (ya8 (yag hod hdd ?_)));rw[yac (by simp)];refine ya8 (ya9 (ya8 (ycm hod hdd ?_)));rw[yac (by simp)];refine ya9 ?_;simp only[show ¬ ((es.size:Int)<0) from by lia,ybj,ybx,ydy (za5 es.size)];refine ya8 ?_
 first | refine ya8 (ybw hT (ya9 ?_)) | refine ya8 (ycf hT (ya9 ?_))
 show wpAny _ _ (setField (.ref it) 2 .none>>=_) _ _ s;refine ya8 (yct hit rfl (by simp) ?_);show wpAny _ _ (newExc (.type "StopIteration") []>>=_) _ _ (_:AE);refine ya8 ?_;simp only[newExc,newTuple];refine ya8 (yba ?_ (by size_fits));refine ya8 (m:=firstArgMember _ _) (ycq (a:=Value.none) (by first | rfl | (simp only[firstArgMember];rfl)) ?_);refine yba ?_ (by size_fits);simp only[raiseNew];refine ya8 (wpAny_handled ?_);rw[show A.in1.handled=none from hh];refine ya8 (ya9 (wpAny_throw ?_));exact ya8 (ye2 (T:="StopIteration") (b:=true) ⟨_,yak _ rfl,rfl⟩ isSubtype_stop (ya9 (z _ (((yc1 ..).extBut.push _).push _))))
end
abbrev pairO(e:DictEntry):Obj:={ cls:=.type "tuple",data:=.seq #[e.key,e.val] }
abbrev ii(acc:Array Value)(c:Nat):Obj:={ cls:=.type "list",dict:=none,data:=.seq acc c,slots:=#[] }
structure ItG(es:Array DictEntry)(lo:Addr)(h:Heap)(as:List Addr):Prop where
 rise:as.Pairwise (· < ·)
 above:∀ a∈as,lo<a
 pairs:∀ (j:Nat) (a:Addr),as[j]?=some a->∃ e,es[j]?=some e/\h.get? a=some (pairO e)
theorem ItG.there{es:AR}{lo:AA}{h:AO}{as:AM}(g:ItG es lo h as){a:AA}(ha:a∈as):a<h.objs.size:=by
 obtain⟨j,hj⟩:=zax.mp ha;obtain⟨_,_,e⟩:=g.pairs j a hj;exact yaj e
section
variable{P:AF}{w:AJ}{A:AK}{s:AE}{R:Result->Shared->Prop}{es:AR}{ep:Nat}
theorem D1{S:AA}(hh:A.handled=none)(hSI:S<I)(hSd:d≠S)(hId:d≠I)(hn:es.size<=sizeLine)(res:AI){h0:AO}
  (fin:∀ h' tk acc c as,(∀ b o,b≠S->b≠I->h0.get? b=some o->h'.get? b=some o)->h'.get? S=some (ii acc c)->as.length=es.size->ItG es I h' as->acc.toList=as.map Value.ref->R (.ok (.ret res)) { s with heap:=h',toks:=tk }) :
  ∀ (k i:Nat) (h:AO) (tk c:Nat) (acc:AN) (as:AM),es.size-i=k->i<=es.size->ItS h I d S i es.size ep->ly h d es ep->(∀ b o,b≠S->b≠I->h0.get? b=some o->h.get? b=some o) ->
   h.get? S=some (ii acc c)->acc.toList=as.map Value.ref->as.length=i->ItG es I h as->I<h.objs.size ->
   codeAny (model P w) A (.builtin "list.extend.loop" ⟨[.ref S,.ref I,res],[]⟩) R { s with heap:=h,toks:=tk }:=by
 have ne:S≠I:=zai hSI;intro k
 induction k with
 | zero =>
  intro i h tk c acc as hk hi st q keep hS hacc al G hI;obtain rfl:i=es.size:=by grind
  refine ybo F.entry_extend_loop ?_;rw[ybg yc2 _];show wpAny _ A.in1 (pyNext (.ref I)>>=_) _ _ _;refine ya8 (Fv (s:={ s with heap:=h,toks:=tk }) (A:=A.in1) hh st q λh' he=>ya9 ?_);refine fin h' tk acc c as (λb o h1 h2 e=>he b o h2 (keep b o h1 h2 e)) (he S _ ne hS) al ⟨G.rise,G.above,λj a hj=>?_⟩ hacc;obtain⟨e,e1,e2⟩:=G.pairs j a hj;exact⟨e,e1,he a _ (zb3 (G.above a (zam hj))) e2⟩
 | succ k ih =>
  intro i h tk c acc as hk hi st q keep hS hacc al G hI;have lt:i<es.size:=by lia
  have hx:es[i]?=some es[i]:=zbb lt;have sz:acc.size=i:=by rw[<- zal,hacc,za4,al]
  refine ybo F.entry_extend_loop ?_;rw[ybg yc2 _];show wpAny _ A.in1 (pyNext (.ref I)>>=_) _ _ _;refine ya8 (D0 (s:={ s with heap:=h,toks:=tk }) (S:=S) st q (yaj hS) hx λh' st' ht hz kp=>?_);dsimp only at ht hz kp ⊢;have hS':=kp S _ ne hS;have hSl:S<h.objs.size:=yaj hS;have up:∀ b o,b≠S->h'.get? b=some o->(h'.update S (Obj.mapSeq (·.push (Value.ref h.objs.size)))).get? b=some o:=λb o hb e=>(yas _ _ (yav hb)).trans e
  have tn:=up h.objs.size _ (zb3 hSl) ht;show wpAny _ A.in1 (updateSeq S (·.push (Value.ref h.objs.size))>>=_) _ _ _;refine ya8 (ybp hS' rfl (ya9 ⟨ybl yc2 _,ih (i+1) _ tk _ (acc.push (Value.ref h.objs.size)) (as++[h.objs.size]) (by grind) lt (st'.keep up (yav ne)) (q.at' λo e=>up d o hSd (kp d o hId e))
   (λb o h1 h2 e=>up b o h1 (kp b o h2 (keep b o h1 h2 e))) (yaz _ hS' rfl) (by rw[Array.toList_push,hacc,zae];rfl) (by rw[za7,al];rfl) ⟨?_,?_,?_⟩ (zbf hI (yaj tn))⟩) (by rw[sz];lia) (by show(acc.push (Value.ref h.objs.size)).size<=sizeLine+1;rw[Array.size_push,sz];lia))
  ·refine zas.mpr ⟨G.rise,zbx _ _,λa ha b hb=>?_⟩
   rw[zac.mp hb];exact G.there ha
  ·intro a ha
   rcases zaj.mp ha with ha | ha
   ·exact G.above a ha
   ·rw[zac.mp ha];exact hI
  ·intro j b hj
   by_cases h1:j<as.length
   ·rw[yd9 h1]at hj
    obtain⟨e,e1,e2⟩:=G.pairs j b hj;have hb:=G.above b (zam hj);exact⟨e,e1,up b _ (zb3 (zbf hSI hb)) (kp b _ (zb3 hb) e2)⟩
   ·have hj2:=(zaf.mp hj).1
    rw[za7,List.length_singleton]at hj2;obtain rfl:j=as.length:=by lia
    rw[zbr (za5 _),Nat.sub_self]at hj;cases hj;exact⟨_,by rw[al];exact hx,tn⟩
end
section
variable{P:AF}{w:AJ}{A:AK}{E:A9}{s:AE}{v d:AA}{es:AR}{ep:Nat}
theorem xN{R:Result->Shared->Prop}(hh:A.handled=none)(hv:s.heap.IsItemsView v d)(q:ly s.heap d es ep)(S:AA)(hSv:S≠v)(hSd:d≠S)(res:AI)(c0:Nat)(hS:s.heap.get? S=some (ii #[] c0))
  (fin:∀ h' tk acc c as,(∀ b o,b≠S->s.heap.get? b=some o->h'.get? b=some o)->h'.get? S=some (ii acc c)->as.length=es.size->ItG es s.heap.objs.size h' as->acc.toList=as.map Value.ref->R (.ok (.ret res)) { s with heap:=h',toks:=tk }) (hn:es.size<=sizeLine) :
  wpAny (model P w) A.in1 (Builtin.List.listExtendWith (.ref S) (.ref v) res)
   (λf s'=>match f with | .done f=>R (.ok f) s' | .again c'=>c'.quiet=true/\codeAny (model P w) A c' R s') (λe s'=>R (.error e) s') s:=by
 have hSI:S<s.heap.objs.size:=yaj hS;have hdI:=q.lt;have key:∀ (h:AO) (c1 tk:Nat),(∀ b o,b≠S->(s.heap.push (itO .none false d 0 es.size ep .none .none)).get? b=some o->h.get? b=some o)->h.get? S=some (ii #[] c1) ->
   codeAny (model P w) A (.builtin "list.extend.loop" ⟨[.ref S,.ref s.heap.objs.size,res],[]⟩) R { s with heap:=h,toks:=tk }:=λh c1 tk hk hS1=>by
  have hI:=hk s.heap.objs.size _ (zb3 hSI) (yak _ rfl);exact D1 (s:=s) (h0:=s.heap) hh hSI hSd (zai hdI) hn res (λh' tk' acc c as k' a b g e=>fin h' tk' acc c as (λb o hb e=>k' b o hb (zai (yaj e)) e) a b g e)
   es.size 0 h tk c1 #[] [] (Nat.sub_zero _) (zb6 _) ⟨_,_,_,_,hI,.inl ⟨rfl,rfl⟩⟩ (q.at' λo e=>hk d o hSd (yai _ e)) (λb o hb _ e=>hk b o hb (yai _ e)) hS1 rfl rfl
   ⟨List.Pairwise.nil,(λ_ ha=>nomatch ha),(λj a hj=>by simp at hj)⟩ (yaj hI)
 unfold Builtin.List.listExtendWith;refine ya8 (wpAny_typeOf (T:="dict_items") hv.typeIs ?_);have h1:Builtin.List.listSameRef (.ref S) (.ref v)=false:=by simp[Builtin.List.listSameRef,hSv]
 have h2:(Value.type "dict_items"==Value.type "list")=false:=by decide
 have h3:(Value.type "dict_items"==Value.type "tuple")=false:=by decide
 simp only[h1,h2,h3,Bool.or_false,zag,ybj];refine ya8 (CZ hv q ?_);have hS1:=yai (itO .none false d 0 es.size ep .none .none) hS;refine ya8 (yay (W.kdx_hint (let ⟨o,ho,hc,_⟩:=hv;⟨o,yai _ ho,hc⟩) ?_));refine wpAny_ite_split (λ_=>?_) (λ_=>ya9 ⟨ybl yc2 _,key _ c0 _ (λb o _ e=>e) hS1⟩);refine ya8 (yaf (ya8 ?_));show wpAny _ _ (updateSeq S (·.push .none)>>=λ_=>updateSeq S (·.pop)) _ _ _;refine ya8 (ybp hS1 rfl ?_);have hS2:=yaz (Obj.mapSeq (·.push Value.none)) hS1 rfl;refine ybp (hz:=by seq_fits) hS2 rfl ?_;have hS3:=yaz (Obj.mapSeq (·.pop)) hS2 rfl;refine ya9 ⟨ybl yc2 _,key _ _ _ (λb o hb e=>?_) hS3⟩;exact(yas _ _ (yav hb)).trans ((yas _ _ (yav hb)).trans e)
theorem u5{R:List Value->Shared->Prop}(hh:A.handled=none)(hv:s.heap.IsItemsView v d)(q:ly s.heap d es ep)(hn:es.size<=sizeLine)
  (k:∀ (h':AO) (tk:Nat) (as:AM),(∀ b o,s.heap.get? b=some o->h'.get? b=some o)->as.length=es.size->ItG es s.heap.objs.size h' as->R (as.map Value.ref) { s with heap:=h',toks:=tk }) :
  wpAny (model P w) A (collect (.ref v)) R E s:=by
 have hvl:v<s.heap.objs.size:=let ⟨_,ho,_⟩:=hv;yaj ho
 unfold collect;refine ya8 (wpAny_runValue (ybo F.entry_proto_collect ?_));rw[ybg F.plain_proto_collect _];have g0:(s.heap.push (ii #[] 0)).get? s.heap.objs.size=some (ii #[] 0):=yak _ rfl;show wpAny _ A.in1 (newList []>>=λb=>again (.builtin "list.__iadd__" ⟨[b,.ref v],[]⟩)) _ _ s;refine ya8 (wpAny_newList (ya9 ⟨ybl F.plain_list_iadd _,ybo F.entry_list_iadd ?_⟩));rw[ybg F.plain_list_iadd _];show wpAny _ A.in1 (Builtin.List.listExtendWith (.ref s.heap.objs.size) (.ref v) (.ref s.heap.objs.size)) _ _ { s with heap:=s.heap.push (ii #[] 0) };refine xN (R:=λr s'=>match r with
  | .ok (.ret u)=>wpAny (model P w) A (match u with
   | .ref a=>do
    match (<- load a).data with
    | .seq xs _=>pure xs.toList
    | _=>unsupported "internal:collect"
   | _=>unsupported "internal:collect") R E s'
  | .ok _=>False
  | .error e=>E e s') (s:={ s with heap:=s.heap.push (ii #[] 0) }) hh (let ⟨o,ho,x⟩:=hv;⟨o,yai _ ho,x⟩) (q.at' λo e=>yai _ e) s.heap.objs.size (zb3 hvl) (zai q.lt) (.ref s.heap.objs.size) 0 g0 (λh' tk acc c as kk gS al G ea=>?_) hn
 show wpAny _ A (load s.heap.objs.size>>=_) _ _ _;refine ya8 (wpAny_load (s:={ s with heap:=h',toks:=tk }) gS (ya9 ?_));show R acc.toList _;rw[ea];refine k h' tk as (λb o e=>kk b o (zai (yaj e)) (yai _ e)) al ⟨G.rise,λa ha=>?_,G.pairs⟩;have:(s.heap.push (ii #[] 0)).objs.size<a:=G.above a ha;rw[ybi]at this;exact zbf (zbc _) this
end
def xO(H:Hp)(as:List Addr)(ps:List (V×V)):Hp:=λb=>if b∈as then (ps[as.idxOf b]?).map (λp=>HO.tup [p.1,p.2]) else H b
theorem qk{H:Hp}(h:b∉as):xO H as ps b=H b:=yac h
theorem vQ{H:Hp}{as:AM}{ps:List (V×V)}(nd:as.Nodup){j:Nat}{p:V×V}(ha:as[j]?=some a)(hp:ps[j]?=some p):xO H as ps a=some (.tup [p.1,p.2]):=by
 have hm:=zam ha;have hi:as.idxOf a<as.length:=List.idxOf_lt_length_iff.mpr hm;have:as.idxOf a=j:=(List.getElem?_inj hi nd).mp (by rw[ha,za6 hi,List.getElem_idxOf]);unfold xO;rw[yad hm,this,hp];rfl
theorem xP{H:Hp}(n:∀ a∈as,H a=none):kf H (xO H as ps):=λb v e=>by
 rw[qk λh=>by rw[n b h]at e;cases e];exact e
theorem vR:∀ (vs:Ac) (ds:Af),vs.length=ds.length->(∀ (j:Nat) v d,vs[j]?=some v->ds[j]?=some d->kj H v d)->aG H vs ds
 | [],[],_,_=>.nil
 | [],_::_,h,_=>by simp at h
 | _::_,[],h,_=>by simp at h
 | v::vs,d::ds,h,k=>.cons (k 0 v d rfl rfl) (vR vs ds (by simpa using h) λj v' d' h1 h2=>k (j+1) v' d' (by simpa using h1) (by simpa using h2))
theorem D2:∀ {vs:Ac} {ds:Af},aG H vs ds->∀ (j:Nat) (v:V),vs[j]?=some v->∃ d,ds[j]?=some d/\kj H v d:=aG.at
theorem u7(as:AM):kh (as.map V.ref) (as.map Value.ref):=by
 induction as with
 | nil=>exact .nil
 | cons x _ ih=>exact .cons rfl ih
theorem EB(r:KD kvs xs):∀ {j:Nat} {x:Dt×Addr×Value},xs[j]?=some x->∃ p,kvs[j]?=some p/\p.1=x.1/\RelV p.2 x.2.2:=by
 induction r with
 | nil=>exact λh=>by simp at h
 | @cons p q ps qs h t ih =>
  intro j x e;cases j with
  | zero=>cases e;exact⟨p,rfl,h⟩
  | succ j=>exact ih (by simpa using e)
theorem kd_len{kvs:Al}{xs:Ah}(r:KD kvs xs):kvs.length=xs.length:=by
 induction r with
 | nil=>rfl
 | cons _ _ ih=>rw[za2,za2,ih]
section
variable{X:Cx}{pins:A7}{σ:L2.St}{H H':Hp}{s:AE}{h':AO}
theorem Inv.many(I:Inv X pins σ H s)(k:∀ b u,s.heap.get? b=some u->h'.get? b=some u)(S:kf H H')(lo:∀ b,b<s.heap.objs.size->H' b=H b)(new:∀ b o,H' b=some o->H b=none->bf X.prog X.w H' h' b o):Inv X pins σ H' { s with heap:=h',toks:=t' }:=by
 refine I.un ⟨λb u q _ _ _=>k b u q,λb u q _ _ _=>⟨u.slots,k b u q⟩,λb u q n _=>by rw[lo b (yaj q)];exact n,λb u q _=>⟨u,k b u q⟩,λb xs q=>S _ _ q,λb u xs q=>S _ _ q,λb ps q=>⟨#[],by rw[S _ _ q];simp⟩⟩ λb o e=>?_
 cases hb:H b with
 | none=>exact new b o e hb
 | some o' =>
  have:o'=o:=yat ((S _ _ hb).symm.trans e);subst this;exact(I.hok b o' hb).lZ (λc v _ q=>k c v q) (λc q=>S _ _ q) λc xs q=>S _ _ q
def iq(kvs:List (Dt×V))(vds:List Dt):List Dt:=List.zipWith (λ(p:Dt×V) d=>Dt.tup [p.1,d]) kvs vds
def Fw(P:Program)(w:World)(to:TE):TE:=λσ H Q=>to σ H λx H1=>∃ (a:Addr) (kvs:List (Dt×V)) (vds:List Dt) (T:String),x=.ref a/\lF P w H1 a kvs/\aG H1 (kvs.map (·.2)) vds/\(∀ p∈kvs,p.1.tag=T)/\(∀ d∈vds,d.dp<=8) /\
 (∀ d∈iq kvs vds,∀ d'∈iq kvs vds,Dt.kG d d'=true) /\
 ∀ H2 l zs es,kf H1 H2->H2 l=none->aG H2 zs es->es.Perm (iq kvs vds)->es.Pairwise (λd d'=>Dt.blt d' d=false)->Q (.ref l) (upd H2 l (.lst zs))
set_option maxHeartbeats 1000000 in
theorem qm{o:AX}{to:TE}{p apos cpos pos:Pos}{n:Nat}(hr:ki n X.A)(hg:Gl X "sorted")(hm:X.mg "sorted"=none)(ho:PE X o to)
  (hbase:attributeBase o "items" X.env (eval o X.env)=eval o X.env:=by rfl) (hline:(apos.endLine==cpos.line)=true:=by rfl) :
  PE X (.Call (.Name "sorted" p) [.Call (.Attribute o "items" apos) [] [] cpos] [] pos) (Fw X.prog X.w to):=by
 intro pins s σ H Q I h;have hu:=hr.units;refine ybr (iA I hg hm boot_sorted ?_);refine PyProof.Rows.callWith_builtin1 ?_ lM rfl;show wpAny _ _ (spliced ((false,eval (.Call (.Attribute o "items" apos) [] [] cpos) X.env)::backTo pos (starEach [] X.env))) _ _ s;refine yci ?_;refine ydn hbase hline (thn (ho pins s σ H _ I h) λv s1 zz1=>?_);obtain⟨x,H1,I1,r1,a,kvs,vds,T,ex,⟨xs,dic,kd⟩,dv,hT,h8,hL,q⟩:=zz1;subst ex;cases r1;obtain⟨ob,es,ep,e1,exd,dat,ek,_,_⟩:=fg I1 dic;refine⟨"dict","dict.items",ydr,F.slot_dict_items,F.type_dict_items,⟨ob,e1,exd.1⟩,λb e2=>by cases e2;exact⟨ob,e1,exd.2.1⟩,ybt rfl (yec ?_)⟩;have de:ly s1.heap a es ep:=⟨ob,e1,exd,dat⟩;refine vP dic.sys de ?_;refine ycr ?_;have vw:(s1.heap.push { cls:=.type "dict_items",data:=.fields #[.ref a] }).IsItemsView s1.heap.objs.size a:=⟨_,yak _ rfl,rfl,rfl⟩;have de2:ly (s1.heap.push { cls:=.type "dict_items",data:=.fields #[.ref a] }) a es ep:=de.at' λo e=>yai _ e
 have esz:es.size=xs.length:=size_of_entries ek;show wpAny (model X.prog X.w) X.A (call (.builtin "sorted") [.ref s1.heap.objs.size]) _ _ { s1 with heap:=s1.heap.push { cls:=.type "dict_items",data:=.fields #[.ref a] } };refine Calls.call_function_entry kind_sorted plain_sorted entry_sorted (args_sorted1 _) ?_;unfold Builtin.«sorted»;refine ya8 (m:=checkCount "sorted" 1 1 _) (ya9 (ya8 (u5 (A:=X.A.in1) (s:={ s1 with heap:=s1.heap.push { cls:=.type "dict_items",data:=.fields #[.ref a] } }) (show X.A.in1.handled=none from hr.hd) vw de2 (by rw[esz];exact sz dic.len) λh' tk as kk al G=>?_)));have old:∀ b u,s1.heap.get? b=some u->h'.get? b=some u:=λb u e=>kk b u (yai _ e)
 have high:∀ b∈as,s1.heap.objs.size<=b:=λb hb=>by
  have:(s1.heap.push { cls:=.type "dict_items",data:=.fields #[.ref a] }).objs.size<b:=G.above b hb;rw[ybi]at this;exact ye5 (zbf (zbc _) this)
 have nd:as.Nodup:=G.rise.imp λh=>zai h
 have none1:∀ b∈as,H1 b=none:=λb hb=>I1.hok.fresh (high b hb)
 have kl:=kd_len kd;have row:∀ (j:Nat) b,as[j]?=some b->∃ x p,xs[j]?=some x/\kvs[j]?=some p/\p.1=x.1/\RelV p.2 x.2.2/\h'.get? b=some { cls:=.type "tuple",data:=.seq #[.ref x.2.1,x.2.2] }:=λj b hj=>by
  obtain⟨e,e2,e3⟩:=G.pairs j b hj;rw[entry_at ek]at e2;cases hx:xs[j]? with
  | none=>rw[hx]at e2;cases e2
  | some x =>
   rw[hx]at e2;cases e2;obtain⟨p,p1,p2,p3⟩:=EB kd hx;exact⟨x,p,rfl,p1,p2,p3,e3⟩
 have S:=xP (ps:=(kvs.zip xs).map λq=>(V.ref q.2.2.1,q.1.2)) none1;have zat:∀ (j:Nat) x p,xs[j]?=some x->kvs[j]?=some p->((kvs.zip xs).map λq=>(V.ref q.2.2.1,q.1.2))[j]?=some (V.ref x.2.1,p.2):=λj x p h1 h2=>by
  rw[zan,zba (z:=(p,x)) |>.mpr ⟨h2,h1⟩];rfl
 have I2:Inv X pins σ (xO H1 as ((kvs.zip xs).map λq=>(V.ref q.2.2.1,q.1.2))) { s1 with heap:=h',toks:=tk }:=by
  refine Inv.many I1 old S (λb hb=>qk λz=>absurd hb (Nat.not_lt.mpr (high b z))) λb o e n=>?_
  have hb:b∈as:=Classical.byContradiction λz=>by rw[qk z,n]at e;cases e
  obtain⟨j,hj⟩:=zax.mp hb;obtain⟨x,p,hx,hp,e1,rv,e3⟩:=row j b hj;rw[vQ nd hj (zat j x p hx hp)]at e;cases e;exact⟨by rw[yau];show 2<=16777216;decide,[.ref x.2.1,x.2.2],.cons rfl (.cons rv .nil),_,e3,rfl,_,rfl⟩
 have dvl:=dv.length;rw[za4]at dvl;have dd:aG (xO H1 as ((kvs.zip xs).map λq=>(V.ref q.2.2.1,q.1.2))) (as.map V.ref) (iq kvs vds):=by
  refine vR _ _ ?_ λj v d h1 h2=>?_
  ·unfold iq
   rw[za4,al,esz,List.length_zipWith]
   grind
  ·rw[zan]at h1
   cases hj:as[j]? with
   | none=>rw[hj]at h1;cases h1
   | some b =>
    rw[hj]at h1;cases h1;obtain⟨x,p,hx,hp,e1,rv,e3⟩:=row j b hj;obtain⟨d2,hd2,dd2⟩:=D2 dv j p.2 (by rw[zan,hp];rfl);unfold iq at h2;rw[List.getElem?_zipWith,hp,hd2]at h2;cases h2;refine .tup (vQ nd hj (zat j x p hx hp)) (.cons ?_ (.cons (dd2.same S) .nil));rw[e1];exact((dic.key x (zam hx)).1).same S
 have mem:∀ d∈iq kvs vds,∃ p v,p∈kvs/\v∈vds/\d=.tup [p.1,v]:=λd hd=>by
  obtain⟨j,hj⟩:=zax.mp hd;unfold iq at hj;rw[List.getElem?_zipWith]at hj;cases h1:kvs[j]? with
  | none=>rw[h1]at hj;cases hj
  | some p =>
   cases h2:vds[j]? with
   | none=>rw[h1,h2]at hj;cases hj
   | some v =>
    rw[h1,h2]at hj;cases hj;exact⟨p,v,zam h1,zam h2,rfl⟩
 have key8:∀ p∈kvs,p.1.dp<=8:=λp hp=>by
  obtain⟨j,hj⟩:=zax.mp hp;have hlt:j<xs.length:=by rw[<- kl];exact(zaf.mp hj).1
  obtain⟨p',p1,p2,_⟩:=EB kd (za6 hlt);rw[hj]at p1;cases p1;rw[p2];exact(dic.key _ (yd0 hlt)).2
 refine xF (T:=T) I2 (u7 as) (by rw[za4,al,esz];exact sz dic.len) dd (λd hd=>?_) hL (λd hd=>?_) λl zz ez h3 pz dz pe srt hl J=>?_
 ·obtain⟨p,v,hp,_,rfl⟩:=mem d hd
  exact⟨p.1,[v],rfl,hT p hp⟩
 ·obtain⟨p,v,hp,hv,rfl⟩:=mem d hd
  have a1:=key8 p hp;have a2:=h8 v hv;have:(Dt.tup [p.1,v]).dp<=10:=by simp only[Dt.dp,Dt.dps];lia
  show X.A.units+1+4+_<_
  lia
 ·exact⟨_,rfl,.ref l,upd _ l (.lst zz),J,rfl,q _ l zz ez S hl dz pe srt⟩
end
end BF
namespace BF
open PySem PySem.Spec PyProof.Rows L2
section
variable{P:AF}{w:AJ}{K:A2}{mg:A5}{base:AO}{N:AH}{qual:AL}{scope:Scope}{f:AA}{cdv:AI}{A:AK}{outer:AS}{s:AE}{H:Hp}{E:XK}
theorem e9:eG (CXE P w) (lr (CXE P w) P w K mg base N qual scope f cdv A outer s H E) E:=by
 intro pins σ H2 s2 e s3 I h;obtain⟨x,cls,H',B,rfl,os3,bare3,F,hE⟩:=h;generalize hY:lr (CXE P w) P w K mg base N qual scope f cdv A outer s H E=Y at I;have e1:Y.stack=envOfC qual scope s.heap.objs.size f cdv::outer:=by rw[<- hY];rfl
 have e2:Y.fs=frs outer:=by rw[<- hY];rfl
 have e3:Y.ex=[]:=by rw[<- hY];rfl
 have e4:Y.s₀=s:=by rw[<- hY];rfl
 have e5:Y.H₀=H:=by rw[<- hY];rfl
 have hb:=I.base;have hfr:=I.ok.frames;have os:=I.os;rw[e1]at hfr;rw[e2,e3,e4,e5]at hb;rw[e4]at os
 replace F:Flew P w (envOfC qual scope s.heap.objs.size f cdv::outer) H2 H' x cls s2.heap s3.heap B:=F
 subst hY;have old:∀ b o,s.heap.get? b=some o->b∉frs outer->b∉frs (envOfC qual scope s.heap.objs.size f cdv::outer):=λb o q n z=>by
  rcases za0.mp (show b∈s.heap.objs.size::frs outer from z) with z | z
  ·exact absurd (yaj q) (by rw[z];exact zbh _)
  ·exact n z
 refine oQ (s:=s3) (L:=s.heap.objs.size) hfr rfl F.air λh3 a3 u3=>?_
 refine⟨x,cls,H',B,rfl,os3.trans os,bare3,⟨a3,F.hok,λb o q n hn=>?_,λb o q hn=>?_,λb o q n hn=>?_,λb o q n=>?_,λb xs q=>F.lA b xs (hb.lA b xs q),λb o u q=>F.lq b o u (hb.lq b o u q),λb ps q=>?_⟩,hE⟩
 ·exact F.keep b o (hb.keep b o q n hn (by simp)) (hb.free b o q n (by simp)) (old b o q hn)
 ·obtain⟨o',q'⟩:=hb.there b o q (by simp)
  exact F.there b o' q' (old b o q hn)
 ·obtain⟨sl,q1⟩:=hb.slot b o q n hn (by simp)
  have hm:b∈frs (envOfC qual scope s.heap.objs.size f cdv::outer):=(za3 _ hn:b∈s.heap.objs.size::frs outer);obtain⟨sl2,q2⟩:=F.slot b _ q1 (hb.free b o q n (by simp)) hm;obtain⟨_,o',q3,k⟩:=F.air.fr.mem hm;rw[q2]at q3;cases q3;obtain⟨sl3,q4⟩:=u3 b _ q2 k;exact⟨sl3,q4⟩
 ·obtain⟨o',q'⟩:=hb.there b o q (by simp)
  exact F.free b o' q' (hb.free b o q n (by simp))
 ·obtain⟨m1,h1⟩:=hb.lC b ps q
  obtain⟨m2,h2⟩:=F.lC b _ h1;exact⟨m1++m2,by rw[h2,Array.append_assoc]⟩
end
end BF
namespace BF
open PySem PySem.Spec PyProof.Rows
theorem mT:∀ (cs:AM) {its:AB},L2.kh (cs.map L2.V.ref) its->its=cs.map Value.ref
 | []=>by intro g;cases g;exact rfl
 | c::cs=>by
  intro g;cases g with
  | cons q t =>
    have e:_=Value.ref c:=q;rw[zaa,e,mT cs t]
theorem u9{X:L2.Cx}:L2.cY X (.builtin "isinstance") (λxs H Q=>∃ (x:AA) (o:Obj) (C t:AA) (cs:AM) (b:Bool),xs=[L2.V.ref x,L2.V.ref t]/\H x=some (tU o)/\ExcO (.ref C) o/\xw X.K C/\H t=some (.tup (cs.map L2.V.ref))/\W.kitAny X.K (.ref C) (cs.map Value.ref)=some b/\Q (.bl b) H):=by
 intro pins s σ H xs us Q I r h;obtain⟨x,o,C,t,cs,b,rfl,hx,⟨oc,od,vs,odt,_⟩,F,ht,kt,q⟩:=h;obtain⟨u,w',rfl,r1,r2⟩:=L2.vals2 r;have e:u=Value.ref x:=r1;subst e;have e2:w'=Value.ref t:=r2;subst e2;have gx:s.heap.get? x=some o:=(show L2.bf X.prog X.w H s.heap x (tU o) from I.hok x _ hx).1;have J:W.InstAt s.heap x o C none:=⟨gx,oc,by unfold W.notCls;rw[odt],by rw[od];trivial⟩;obtain⟨z,its,rv,tx⟩:=(show L2.bf X.prog X.w H s.heap t (.tup (cs.map L2.V.ref)) from I.hok t _ ht);obtain⟨o',eg,h1,n,h2⟩:=tx.tup;rw[mT cs rv]at h2;obtain⟨oc',od',odd,os'⟩:=o';subst h1 h2;exact W.kia_tup (rA F) I.kIn J eg kt (λz=>nomatch z) λtk=>⟨.bl b,H,I.tok tk,rfl,q⟩
end BF
namespace BF
open PySem PySem.Spec PyProof.Rows L2
theorem p7{K:A2}{t:AI}:∀ {cs:AB},(∀ c∈cs,W.kitOne K t c=some false)->W.kitAny K t cs=some false
 | [],_=>rfl
 | c::cs,h=>by
  unfold W.kitAny;rw[h c (za1 ..)];exact p7 λd hd=>h d (za3 _ hd)
section
variable{X:Cx}
def CDivX(i j:Int):Prop:=0<j/\j<2 ^ 250
theorem zU:OpR X (binaryOp .FloorDiv) (rI CDivX λi j=>.int (i / j)):=opI λi j _ _ _ _ _ hc q=>by
 have h1:(0:Int)<j:=hc.1;have h2:j<2 ^ 250:=hc.2;refine floordiv_int (by lia) (by rw[Int.fdiv_eq_ediv_of_nonneg i (by lia)];exact q) (.inl (PyProof.noPylong_of_log2 ?_));have h3:j.natAbs<2 ^ 250:=by grind
 have:=(Nat.log2_lt (by grind)).mpr h3
 lia
end
theorem mU:∀ {xs:Ac} {us:AB},kh xs us->xs.all ir=true->us.countP (eqU y)=xs.countP λz=>eqV z y
 | _,_,.nil,_=>rfl
 | _,_,.cons r rs,h=>by
  rw[List.all_cons,zbj]at h;rw[List.countP_cons,List.countP_cons,mU rs h.2,tL r h.1]
theorem zV:MtM X "list.count" (λx vs H Q=>∃ l xs y,x=.ref l/\vs=[y]/\H l=some (.lst xs)/\ir y=true/\xs.all ir=true/\Q (.int ((xs.countP λz=>eqV z y:Nat):Int)) H):=by
 intro pins s σ H x vs v us Q I rx rv h;obtain⟨l,xs,y,rfl,rfl,hH,fy,fs,q⟩:=h;cases rx;obtain⟨u,rfl,ru⟩:=rv.one;obtain⟨_,its,n,r,hl,e⟩:=I.tO hH;refine ydk F.slot_list_count ⟨_,e,rfl⟩ F.entry_list_count (F.args_list_count_2 _ _)
  (SeqAt.list_countAt l its.toArray n _ _ u (eqU y)) ⟨e,λw hw=>mz ru fy r fs w (by simpa using hw),⟨.int _,H,I.tok _,⟨s.toks,?_⟩,q⟩⟩
 rw[zby,mU r fs]
section
variable{X:Cx}
theorem uc(hr:ki k X.A):cY X (.type "list") (λxs H Q=>∃ (a:AA) (kvs:Al),xs=[.ref a]/\lF X.prog X.w H a kvs/\∀ l zs,H l=none->aG H zs (kvs.map (·.1))->Q (.ref l) (upd H l (.lst zs))):=by
 intro pins s σ H xs us Q I r h;obtain⟨a,kvs,rfl,⟨ys,dic,kd⟩,q⟩:=h;obtain⟨u,rfl,rx⟩:=fm r;cases rx;obtain⟨ep,raw⟩:=zR I dic;refine W.kdl_call (CV (ks:=ys.map λx=>Value.ref x.2.1) (ep:=ep) dic.sys) hr.hd raw (by rw[za4];exact sz dic.len) λh' tk acc c kk gS it=>?_
 have e:acc.toList=ys.map λx=>Value.ref x.2.1:=zQ (P':=λ_ _=>True) it
 have dk:=rV (P:=X.prog) (w:=X.w) (H:=H) dic.key;refine⟨.ref s.heap.objs.size,_,I.laid (t':=tk) kk (za5 _) (show bf X.prog X.w _ h' _ (.lst (ys.map λx=>V.ref x.2.1)) from ⟨by rw[za4];exact sz dic.len,acc.toList,c,by rw[e];exact xK ys,by rw[Array.toArray_toList];exact gS⟩),rfl,q _ _ (I.hok.fresh (za5 _)) (by rw[kd.keys];exact dk)⟩
end
section
variable{X:Cx}{pins:A7}{σ:L2.St}{H:Hp}{s:AE}{h':AO}
theorem p8{t':Nat}{L:AM}(I:Inv X pins σ H s)(k:∀ b o,b∉L->s.heap.get? b=some o->h'.get? b=some o)(f:∀ b∈L,om X pins H b):Inv X pins σ H { s with heap:=h',toks:=t' }:=by
 have nl:∀ b u,H b=some u->b∉L:=λb u e z=>by rw[(f b z).1]at e;cases e
 have hL:X.env.locals∉L:=λz=>(f _ z).2.1 rfl
 refine I.step (g':=s.gens) (d':=s.drawn) (ch:=L) (λb hb=>?_) (λb o _ _ hc e _=>k b o hc e) (λb o _ _ hc e _=>⟨o.slots,k b o hc e⟩) (λ_ _ _ _ n=>n)
  (λb o hc e=>⟨o,k b o hc e⟩) (λ_ _ e=>e) (λ_ _ _ e=>e) (λb ps e=>⟨#[],by rw[e];simp⟩) (λm hm=>?_) (λb u e=>?_) I.bare
 ·obtain⟨f0,f1,f2,f3,f4,f5⟩:=f b hb
  exact⟨f3,f1,f4,f5⟩
 ·obtain⟨o,es,ep,ho,r⟩:=hm
  exact⟨o,es,ep,k _ o hL ho,r⟩
 ·refine(I.hok b u e).lZ (λc v hc q=>k c v ?_ q) (λ_ q=>q) λ_ _ q=>q
  rcases hc with z | z
  ·rw[z];exact nl b u e
  ·exact nl c _ z
end
section
variable{prog:AF}{w:AJ}{A:AK}{E:A9}{s:AE}
end
section
variable{X:Cx}{e st:AX}{te ts:TE}{p2 pos:Pos}
theorem xQ{xs:Ac}{us:AB}(r:kh xs us):kh xs.reverse us.reverse:=by
 induction r with
 | nil=>exact .nil
 | cons a _ ih=>rw[zar,zar];exact ih.append (.cons a .nil)
def RvR(X:Cx)(r:V->Hp->VK->Prop):Prop :=
 ∀ (pins:A7) (s:Shared) (σ:L2.St) (H:Hp) (x:V) (v:Value) (t:Tok) (sl:Addr) (Q:VK),Inv X pins σ H s->RelV x v->s.heap.IsSliceOf sl .none .none (.int (-1) t)->r x H Q ->
  ∃ T id,typeLookup (.type T) "__getitem__"=pure (some (.builtin id))/\s.TypeIs v T/\wpAny (model X.prog X.w) X.A (getItem v (.ref sl)) (EP X pins σ Q) X.xe s
def tRev(r:V->Hp->VK->Prop)(te ts:TE):TE:=λσ H Q=>te σ H λx H1=>ts σ H1 λy H2=>y=.int (-1)/\r x H2 Q
theorem Fx(hr:RvR X r)(he:PE X e te)(hs:PE X st ts):PE X (.Subscript e (.Slice none none (some st) p2) pos) (tRev r te ts):=by
 intro pins s σ H Q I h;refine Subscript_ (thn (he pins s σ H _ I h) λv s1 zz1=>?_);obtain⟨x,H1,I1,r1,q1⟩:=zz1;refine wpAny_Slice ?_;rw[evalPart_none,evalPart_some];refine ya9 (ya9 (thn (hs pins s1 σ H1 _ I1 q1) λvk s3 zz1=>?_));obtain⟨y,H3,I3,r3,ey,q3⟩:=zz1;subst ey;obtain⟨t,rfl⟩:=r3;have I4:Inv X pins σ H3 { s3 with heap:=s3.heap.push { cls:=.type "slice",data:=.fields #[.none,.none,.int (-1) t] } }:=I3.kept (t':=s3.toks) λb ob q=>yai _ q
 obtain⟨T,id,hT,ht,hg⟩:=hr pins { s3 with heap:=s3.heap.push { cls:=.type "slice",data:=.fields #[.none,.none,.int (-1) t] } } σ H3 x v t s3.heap.objs.size Q I4 r1 (Heap.IsSliceOf.new ..) q3;show wpAny (model X.prog X.w) X.A (subscriptTail e (.Slice none none (some st) p2) v (.ref s3.heap.objs.size)) (EP X pins σ Q) X.xe { s3 with heap:=s3.heap.push { cls:=.type "slice",data:=.fields #[.none,.none,.int (-1) t] } };exact tail_any (ops:=[v,.ref s3.heap.objs.size]) ht hT hg (by with_unfolding_all rfl)
theorem Fy:RvR X (λx H Q=>∃ a xs,x=.ref a/\SqL X.K H a xs/\∀ p,H p=none->Q (.ref p) (upd H p (.lst xs.reverse))):=by
 intro pins s σ H x v t sl Q I rx hs h;obtain⟨a,xs,rfl,hx,q⟩:=h;cases rx;obtain⟨its,r,ht,hz⟩:=I.list hx;have hlen:=r.length;refine⟨"list",_,slot_list_getitem.lookup,ht.isList.typeIs,?_⟩;refine wpAny_getItem_list_slice ht.isList hs .none .none (.int (-1) t) (by decide) ?_ (by rw[zab]<;>lia);rw[W.krv_pick];refine⟨.ref s.heap.objs.size,_,I.laid (t':=s.toks) (o:=.lst xs.reverse) (λb ob q=>yai _ q) (za5 _) ?_,rfl,q _ (I.hok.fresh (za5 _))⟩;exact⟨by rw[yed];exact hz,_,0,xQ r,yak _ rfl⟩
end
theorem zW:2<=sizeLine:=by decide
section
variable{X:Cx}
end
theorem p9:∀ l:List (Str×Tok),kh ((l.map (·.1)).map V.str) (strValues l)
 | []=>.nil
 | (x,t)::l=>.cons ⟨t,rfl⟩ (p9 l)
section
variable{X:Cx}
theorem xR:MtR X "str.startswith" (λx vs H Q=>∃ (a b:AL),x=.str a/\vs=[.str b]/\Q (.bl (Txt.startswith a b)) H):=by
 intro pins s σ H x vs v us Q I rx rv h;obtain⟨a,b,rfl,rfl,q⟩:=h;obtain⟨t,rfl⟩:=rx;obtain⟨u,rfl,ru⟩:=rv.one;obtain⟨t',rfl⟩:=ru;exact SC.startswith ⟨.bl _,H,I,rfl,q⟩
theorem eT:cY X (.type "int") (λxs H Q=>∃ (a:AL) (n:Int),xs=[.str a]/\PySem.intText? a=some n/\a.length<=640/\Q (.int n) H):=by
 intro pins s σ H xs us Q I r h;obtain⟨a,n,rfl,hn,hl,q⟩:=h;obtain⟨u,rfl,ru⟩:=fm r;obtain⟨t,rfl⟩:=ru;exact W.KIN.call_text hn hl ⟨.int _,H,I.tok _,⟨_,rfl⟩,q⟩
theorem zX{s:AE}(I:Inv X pins σ H s)(l:List (Str×Tok))(hz:l.length<=sizeLine):Inv X pins σ (upd H s.heap.objs.size (.lst ((l.map (·.1)).map V.str))) { s with heap:=s.heap.push { cls:=.type "list",data:=.seq (strValues l).toArray },toks:=k } :=
 I.lnew (p9 l) (by rw[za4,za4];exact hz)
theorem zY:MtR X "str.split" (λx vs H Q=>∃ (z y:AL),x=.str z/\vs=[.str y]/\(y.length==0)=false/\z.length<=3000/\∀ p,H p=none->Q (.ref p) (upd H p (.lst ((Txt.split z y).map V.str)))):=by
 intro pins s σ H x vs v us Q I rx rv h;obtain⟨z,y,rfl,rfl,hy,hz,q⟩:=h;obtain⟨t,rfl⟩:=rx;obtain⟨u,rfl,ru⟩:=rv.one;obtain⟨t',rfl⟩:=ru;have hs:=split_le z y;have lay:∀ (l:List (Str×Tok)) (k:Nat),l.map (·.1)=Txt.split z y->EP X pins σ Q (.ref s.heap.objs.size) { s with heap:=s.heap.push { cls:=.type "list",data:=.seq (strValues l).toArray },toks:=k }:=λl k e=>by
  have hl:l.length=(Txt.split z y).length:=by rw[<- e,za4]
  refine⟨.ref s.heap.objs.size,_,zX (k:=k) I l (by rw[hl,yau];lia),rfl,?_⟩;rw[e];exact q _ I.fresh
 have one:Txt.split z y=[z]->EP X pins σ Q (.ref s.heap.objs.size) { s with heap:=s.heap.push { cls:=.type "list",data:=.seq #[.str z t] } }:=λe=>lay [(z,t)] s.toks e.symm
 cases a:(decide (z.length<y.length)||decide (Builtin.Str.strKind z<Builtin.Str.strKind y)) with
 | true =>
  have e:Txt.split z y=[z]:=by unfold Txt.split;rw[yad a]
  exact ydk ye3 (typeIs_str _ _ _) F.entry_str_split (F.args_str_split_2 _ _) (meets_str_split_cannot_occur z y t t' a) (one e)
 | false =>
  cases b:(Builtin.Str.occurrences z y 0 z.length (z.length+1)).isEmpty with
  | true =>
   have e:Txt.split z y=[z]:=by unfold Txt.split;rw[yac (by rw[a];decide),yad b]
   exact ydk ye3 (typeIs_str _ _ _) F.entry_str_split (F.args_str_split_2 _ _) (meets_str_split_not_found z y t t' a hy b) (one e)
  | false =>
   have e:Txt.split z y=Builtin.Str.partsBetween z (Builtin.Str.occurrences z y 0 z.length (z.length+1)) y.length:=by unfold Txt.split;rw[yac (by rw[a];decide),yac (by rw[b];decide)]
   have le:(Builtin.Str.partsBetween z (Builtin.Str.occurrences z y 0 z.length (z.length+1)) y.length).length<=sizeLine:=by rw[<- e,yau];lia
   refine ydk ye3 (typeIs_str _ _ _) F.entry_str_split (F.args_str_split_2 _ _) (meets_str_split_sep z y t t' a hy b (by rw[yau];lia) le) ?_;have nt:(numbered s.toks (Builtin.Str.partsBetween z (Builtin.Str.occurrences z y 0 z.length (z.length+1)) y.length)).map (·.1)=Txt.split z y:=(numbered_texts _ _).trans e.symm
   show EP X pins σ Q _ { s with toks:=_,heap:=s.heap.push { cls:=.type "list",data:=.seq (strsFrom s.toks _).toArray } };rw[strsFrom_eq];exact lay _ _ nt
end
def aJ:Str:=" "
def cat(l:List (List Nat)):List Nat:=match l with
 | []=>[]
 | [x]=>x
 | x::r=>x++32::cat r
theorem rY{x:List Nat}:cat (x::y::r)=x++32::cat (y::r):=rfl
theorem j4:∀ ws:List Str,(Str.join aJ ws).cps.toList=cat (ws.map λx=>x.cps.toList)
 | []=>rfl
 | [x]=>rfl
 | x::y::r=>by
  have ih:=j4 (y::r);have e:cat ((x::y::r).map λx=>x.cps.toList)=x.cps.toList++32::cat ((y::r).map λx=>x.cps.toList):=rfl;rw[e,<- ih];show(x++aJ++Str.join aJ (y::r)).cps.toList=_;show((x.cps++aJ.cps)++(Str.join aJ (y::r)).cps).toList=_;rw[zao,zao,zah];rfl
theorem xS{x:List Nat}(hx:32∉x)(hx':32∉x')(e:x++32::r=x'++32::r'):x=x'/\r=r':=by
 induction x generalizing x' with
 | nil =>
  cases x' with
  | nil=>exact⟨rfl,by simpa using e⟩
  | cons a x' =>
   simp only[zbd,zb1,ycl]at e;exact absurd (by rw[<- e.1];exact za1) hx'
 | cons a x ih =>
  cases x' with
  | nil =>
   simp only[zbd,zb1,ycl]at e;exact absurd (by rw[e.1];exact za1) hx
  | cons a' x' =>
   simp only[zb1,ycl]at e;obtain⟨h1,h2⟩:=ih (x':=x') (λz=>hx (za3 _ z)) (λz=>hx' (za3 _ z)) e.2;exact⟨by rw[e.1,h1],h2⟩
theorem D3{l:List (List Nat)}(hl:∀ x∈l,32∉x)(hm:∀ x∈m,32∉x)(nl:l≠[])(nm:m≠[])(e:cat l=cat m):l=m:=by
 induction l generalizing m with
 | nil=>exact absurd rfl nl
 | cons x r ih =>
  cases m with
  | nil=>exact absurd rfl nm
  | cons x' r' =>
   have hx:=hl x za1;have hx':=hm x' za1;cases r with
   | nil =>
    cases r' with
    | nil=>exact ybm (λy=>[y]) e
    | cons y' r' =>
     have e:x=x'++32::cat (y'::r'):=e;exact absurd (by rw[e];simp) hx
   | cons y r =>
    cases r' with
    | nil =>
     have e:x++32::cat (y::r)=x':=e;exact absurd (by rw[<- e];simp) hx'
    | cons y' r' =>
     obtain⟨h1,h2⟩:=xS hx hx' e;rw[h1,ih (m:=y'::r') (λz hz=>hl z (za3 _ hz)) (λz hz=>hm z (za3 _ hz)) (by simp) (by simp) h2]
theorem gO{a b:AL}(h:a.cps.toList=b.cps.toList):a=b:=by
 cases a with
 | mk x =>
  cases b with
  | mk y =>
   have:x=y:=Array.toList_inj.mp h;rw[this]
theorem rZ(hw:∀ x∈ws,32∉x.cps.toList)(ne:ws≠[]):Txt.split (Txt.join aJ ws) aJ=ws:=by
 have e1:Txt.join aJ ws=Str.join aJ ws:=ycw aJ ws;rw[e1];have h1:=StrLaws.split_free (Str.join aJ ws) 32;have h2:Str.join aJ (Txt.split (Str.join aJ ws) aJ)=Str.join aJ ws:=StrLaws.join_split _ _;have h3:=ybm (λx:Str=>x.cps.toList) h2;simp only[j4]at h3;have ne2:Txt.split (Str.join aJ ws) aJ≠[]:=λz=>by
  have:=split_pos (Str.join aJ ws) aJ;rw[z]at this;exact absurd this (by decide)
 have h4:=D3 (l:=(Txt.split (Str.join aJ ws) aJ).map λx=>x.cps.toList) (m:=ws.map λx=>x.cps.toList) (λx hx=>by
  obtain⟨y,hy,rfl⟩:=za9.mp hx;exact h1 y hy) (λx hx=>by
  obtain⟨y,hy,rfl⟩:=za9.mp hx;exact hw y hy) (by simpa using ne2) (by simpa using ne) h3
 exact(ydj λa b=>gO).mp h4
theorem zZ(n:Int):32∉(Str.ofString (toString n)).cps.toList:=(PyProof.Rows.intText_free_32 n).mp
theorem xT:typeLookup (.type "list_reverseiterator") "__len__"=pure none:=by rw[typeLookup_type,builtinLookup_eq_fast];kernel_rfl
theorem Ap:typeLookup (.type "list_reverseiterator") "__length_hint__"=pure (some (.builtin "list_reverseiterator.__length_hint__")):=by rw[typeLookup_type,builtinLookup_eq_fast];kernel_rfl
section
variable{P:AF}{w:AJ}{A:AK}{E:A9}{s:AE}
theorem D4{Q:Bool->Shared->Prop}(hT:s.TypeIs (.ref I) "list_reverseiterator")(h:Q false s):wpAny (model P w) A (Builtin.List.listLengthHint (.ref I)) Q E s:=by
 unfold Builtin.List.listLengthHint;refine ya8 (ydb hT xT ?_);show wpAny _ A (specialOf (Value.ref I) (Str.ofString "__length_hint__")>>=_) _ _ _;refine ya8 (ydb hT Ap ?_);generalize hid:("list_reverseiterator.__length_hint__":String)=id0
 wp_delta
 rw[show splitId id0=some ("list_reverseiterator","__length_hint__") from by subst hid;decide +kernel];subst hid;refine ya8 (ye2 (b:=true) hT (by rw[isSubtype_type];kernel_rfl) ?_);exact ya9 h
theorem oB{I l:AA}{items:AN}{Q:A9}(hh:A.handled=none)(hI:s.heap.IsRevIter I l ((items.size:Int)-1))(hl:s.heap.IsList l items)(hne:l≠I)(hn:items.size<=sizeLine)
  (hQ:∀ h' tk acc c,(∀ b o,b≠I->s.heap.get? b=some o->h'.get? b=some o)->h'.get? s.heap.objs.size=some { cls:=.type "list",dict:=none,data:=.seq acc c,slots:=#[] }->ItemsOf (λi v=>items[items.size-1-i]?=some v) acc items.size->Q (.ref s.heap.objs.size) { s with heap:=h',toks:=tk }) :
  wpAny (model P w) A (call (.type "list") [.ref I]) Q E s:=by
 have hIl:I<s.heap.objs.size:=let ⟨_,ho,_⟩:=hI;yaj ho
 have hll:l<s.heap.objs.size:=let ⟨_,ho,_⟩:=hl;yaj ho
 refine callType_codes (Q₁:=λobj s₁=>obj=.ref s.heap.objs.size/\s₁={ s with heap:=s.heap.push { cls:=.type "list",data:=.seq #[] } }) F.called_list (F.typeCall_list_1 _) F.entry_list_init (code_list_new _ ⟨rfl,rfl⟩) λobj s₁ h₁=>?_
 obtain⟨rfl,rfl⟩:=h₁;have hS:(s.heap.push { cls:=.type "list",data:=.seq #[] }).get? s.heap.objs.size=some { cls:=.type "list",data:=.seq #[] }:=yak _ rfl;refine⟨⟨_,hS,rfl⟩,F.args_list_init_2 _ _,?_⟩;show wpAny _ A.in1.in1 (do let old <- Builtin.List.listItems (.ref s.heap.objs.size);Builtin.List.listUpdate (.ref s.heap.objs.size) (λ_=>#[]);letGo old.toList.reverse;Builtin.List.listExtendWith (.ref s.heap.objs.size) (.ref I) .none) _ _ _;refine ya8 ?_;unfold Builtin.List.listItems;refine ya8 (yc4 hS rfl (ya9 ?_));show wpAny _ A.in1.in1 (updateSeq s.heap.objs.size (λ_=>#[])>>=λ_=>letGo (#[]:AN).toList.reverse>>=λ_=>Builtin.List.listExtendWith (.ref s.heap.objs.size) (.ref I) .none) _ _ _;refine ya8 (ybp hS rfl ?_);have hS2:=yaz (Obj.mapSeq (λ_=>(#[]:AN))) hS rfl;refine ya8 (yc9 ?_);have kp:∀ b o,s.heap.get? b=some o->((s.heap.push { cls:=.type "list",data:=.seq #[] }).update s.heap.objs.size (Obj.mapSeq (λ_=>(#[]:AN)))).get? b=some o:=λb o e =>
  (yas _ _ (zb3 (yaj e))).trans (yai _ e)
 revert hS2 kp;generalize ((s.heap.push { cls:=.type "list",data:=.seq #[] }).update s.heap.objs.size (Obj.mapSeq (λ_=>(#[]:AN))))=h2;intro hS2 kp;have hI2:h2.IsRevIter I l ((items.size:Int)-1):=hI.at λo e=>kp I o e
 have hl2:h2.IsList l items:=hl.at λo e=>kp l o e
 have hT:({ s with heap:=h2 }:AE).TypeIs (.ref I) "list_reverseiterator":=Heap.IsRevIter.typeIs (s:={ s with heap:=h2 }) hI2;have h1:Builtin.List.listSameRef (.ref s.heap.objs.size) (.ref I)=false:=by simp[Builtin.List.listSameRef,zb3 hIl]
 unfold Builtin.List.listExtendWith;refine ya8 (wpAny_typeOf hT ?_);have g2:(Value.type "list_reverseiterator"==Value.type "list")=false:=by decide
 have g3:(Value.type "list_reverseiterator"==Value.type "tuple")=false:=by decide
 simp only[h1,g2,g3,Bool.or_false,zag,ybj];refine ya8 (wpAny_pyIter_revIter hI2 ?_);refine ya8 (yay (D4 hT ?_));have W:=(Walks.listRev (prog:=P) (w:=w) (A:=A.in1.in1) hh I l hne items).toS;have fin:∀ (s':AE) (acc:AN) (c:Nat),Moved [s.heap.objs.size,I] (λa b=>b=a) { s with heap:=h2 } s'->s'.heap.get? s.heap.objs.size=some { cls:=.type "list",dict:=none,data:=.seq acc c,slots:=#[] }->ItemsOf (λi v=>items[items.size-1-i]?=some v) acc items.size->Value.none=Value.none/\Q (.ref s.heap.objs.size) s':=λs' acc c mv hS' hit=>by
  refine⟨rfl,?_⟩;have e:s'={ s with heap:=s'.heap,toks:=s'.toks }:=by
   cases s' with
   | mk a1 a2 a3 a4 a5 =>
    have g1:a2=s.gens:=mv.gens;have g2:a3=s.drawn:=mv.drawn;have g3:a5=s.os:=mv.os;rw[g1,g2,g3]
  rw[e];refine hQ _ _ acc c (λb o hb eb=>mv.heap b o ?_ (kp b o eb)) hS' hit;intro hm;simp only[za0,zad,yaw]at hm;rcases hm with rfl | rfl
  ·exact zbh _ (yaj eb)
  ·exact hb rfl
 have hfp:s.heap.objs.size∉[I,l]:=λhm=>by
  simp only[za0,zad,yaw]at hm;rcases hm with h | h
  ·exact zbh _ (h▸hIl:s.heap.objs.size<s.heap.objs.size)
  ·exact zbh _ (h▸hll:s.heap.objs.size<s.heap.objs.size)
 have st0:0<=items.size/\h2.IsRevIter I l ((items.size:Int)-1-((0:Nat):Int))/\h2.IsList l items:=⟨zb6 _,by simpa using hI2,hl2⟩;refine wpAny_ite_split (λz=>?_) (λ_=>ya9 ⟨ybl yc2 _,codeAny_extend_loopS (A:=A.in1) W hn _ hfp _ items.size 0 _ _ _ rfl (zb6 _) st0 hS2 (ItemsOf.nil _) fin⟩);exact absurd z (by decide)
end
theorem Aq{f:Nat->Value}{vs:Ac}{us:AB}(h:kh vs us):kh vs.reverse us.reverse:=by
 induction h with
 | nil=>exact .nil
 | cons r _ ih=>rw[zar,zar];exact ih.append (.cons r .nil)
theorem xU{items acc:AN}(h:ItemsOf (λi v=>items[items.size-1-i]?=some v) acc items.size):acc.toList=items.toList.reverse:=by
 refine ydt λj=>?_
 obtain⟨h1,h2⟩:=h;by_cases hj:j<items.size
 ·have e1:acc[j]?=some acc[j]:=by simp[h1,hj]
  have e2:=h2 j acc[j] e1;rw[List.getElem?_reverse (by simpa using hj),zal,zb4,zb4,e2,e1]
 ·rw[zbt (by simp[h1];lia),zbt (by simp;omega)]
section
variable{X:Cx}
def tLRev(ta:TA)(K:A2):TE:=λσ H Q=>ta σ H λvs H1=>∃ (l:Addr) (xs:List V),vs=[.ref l]/\SqL K H1 l xs/\∀ p,H1 p=none->Q (.ref p) (upd H1 p (.lst xs.reverse))
theorem ue{e:AX}{ta:TA}{p p' pos pos':Pos}(hc:X.calm=true)(hg:Gl X "list")(hm:X.mg "list"=none)(hg':Gl X "reversed")(hm':X.mg "reversed"=none)(ha:PA X [e] ta)(hs:starEach [e] X.env=[(false,eval e X.env)]:=by rfl)(lM:starEach [.Call (.Name "reversed" p') [e] [] pos'] X.env=[(false,eval (.Call (.Name "reversed" p') [e] [] pos') X.env)]:=by rfl) :
  PE X (.Call (.Name "list" p) [.Call (.Name "reversed" p') [e] [] pos'] [] pos) (tLRev ta X.K):=by
 intro pins s σ H Q I h;refine ybr (iA I hg hm boot_list ?_);refine yca ?_ lM rfl;show wpAny _ _ (spliced ((false,eval (.Call (.Name "reversed" p') [e] [] pos') X.env)::backTo pos (starEach [] X.env))) _ _ s;refine yci ?_;refine Call_ (iA I hg' hm' PyProof.Rows.Boot.«reversed» (yca (thn (ha pos' pins s σ H _ I h) λus s1 zz1=>?_) hs rfl));obtain⟨vs,H1,I1,r1,q1⟩:=zz1;obtain⟨l,xs,rfl,hl,q⟩:=q1;cases r1 with
 | cons r rr =>
  cases rr;cases r;obtain⟨its,rv,pl,_⟩:=I1.list hl;have isl:=pl.isList;have hll:l<s1.heap.objs.size:=let ⟨_,ho,_⟩:=isl;yaj ho
  refine PySem.call_reversed_list isl ?_;refine ycr ?_;have I2:Inv X pins σ H1 { s1 with heap:=s1.heap.push (revObj l ((its.toArray.size:Int)-1)) }:=I1.kept (t':=s1.toks) λb o e=>yai _ e
  have hI:(s1.heap.push (revObj l ((its.toArray.size:Int)-1))).IsRevIter s1.heap.objs.size l ((its.toArray.size:Int)-1):=⟨_,yak _ rfl,rfl,rfl⟩;have hl2:(s1.heap.push (revObj l ((its.toArray.size:Int)-1))).IsList l its.toArray:=isl.at λo e=>yai _ e
  have hz:its.length<=sizeLine:=by
   have:=(I1.list hl);obtain⟨_,_,_,hz⟩:=this;rw[<- rv.length];exact hz
  refine oB (I.ok.hd hc) hI hl2 (zai hll) (by rw[zab];exact hz) λh' tk acc c kp eS it=>?_
  have ea:=xU it;have le:s1.heap.objs.size<=(s1.heap.push (revObj l ((its.toArray.size:Int)-1))).objs.size:=by rw[ybi];exact yd6 _
  refine⟨.ref (s1.heap.push (revObj l ((its.toArray.size:Int)-1))).objs.size,_,I1.laid (t':=tk) (λb o e=>kp b o (zai (yaj e)) (yai _ e)) le (show bf X.prog X.w _ h' _ (.lst xs.reverse) from ⟨by rw[yed,rv.length];exact hz,acc.toList,c,by rw[ea,zby];exact Aq (f:=λ_=>.none) rv,by rw[Array.toArray_toList];exact eS⟩),rfl,q _ (I1.hok.fresh le)⟩
end
structure TopD(P:Program)(w:World)(K:A2)(d:Addr)(kvs:List (Key×V)):Prop where
 sys:(d==sysModules)=false
 is:∃ o es ep vs,K.lookup d=some o/\o.ExactDict/\o.data=.dict es ep/\KeysOf (aU P w) es/\Pairs (aU P w) es.toList vs/\(vs.map (·.1)).Nodup/\KV kvs vs
section
variable{X:Cx}{d:AA}{kvs:Ae}
theorem TopD.dict{s:AE}(T:TopD X.prog X.w X.K d kvs)(I:Inv X pins σ H s):∃ vs,KV kvs vs/\s.heap.DictOf (aU X.prog X.w) d vs:=by
 obtain⟨o,es,ep,vs,h1,h2,h3,h4,h5,h6,h7⟩:=T.is;exact⟨vs,h7,o,es,ep,I.kIn d o h1,h2,h3,h4,h5,h6⟩
theorem D5(T:TopD X.prog X.w X.K d kvs):OpR X (compareOp .In) (λx y H Q=>∃ k:Key,x=kV k/\y=.ref d/\Q (.bl (kB kvs k).isSome) H):=by
 intro pins s σ H x y v u Q I rx ry h;obtain⟨k,rfl,rfl,q⟩:=h;cases ry;obtain⟨vs,rel,dd⟩:=T.dict I;refine wpAny_in_of (iZ rx) T.sys dd.mapOf ?_;rw[<- (rel.val k).kN];exact⟨.bl _,H,I.tok _,rfl,q⟩
def Fz(d:Addr)(kvs:List (Key×V))(td ty:TE):TE:=λσ H Q=>td σ H λx H1=>ty σ H1 λy H2=>∃ (k:Key) (v:V),x=.ref d/\y=kV k/\kB kvs k=some v/\Q v H2
theorem Au{o:AX}{td:TE}(T:TopD X.prog X.w X.K d kvs)(ho:PE X o td)(hi:PE X i ty)(hs:NoSl i):PE X (.Subscript o i pos) (Fz d kvs td ty):=by
 intro pins s σ H Q I h;refine pZ F.slot_dict_getitem.lookup hs (thn (ho pins s σ H _ I h) λu s1 zz1=>?_);obtain⟨x,H1,I1,rx,q1⟩:=zz1;refine thn (hi pins s1 σ H1 _ I1 q1) λiv s2 zz2=>?_
 obtain⟨y,H2,I2,ry,k,v,ex,ey,l,q2⟩:=zz2;subst ex ey;obtain rfl:u=Value.ref d:=rx;obtain⟨vs,rel,dd⟩:=T.dict I2;obtain⟨w',hw,rw'⟩:=kW.some_of (v:=v) (o:=valueAt vs k) (by rw[<- l];exact rel.val k);exact⟨dd.typeIs,wpAny_getItem_of (iZ ry) dd.mapOf hw ⟨v,H2,I2.tok _,rw',q2⟩⟩
end
def ItT(Gd:Hp->Prop)(kvs:List (Key×V)):It :=
 ⟨λi H=>i<kvs.length/\Gd H,λi H v H'=>∃ (p:Addr) (kv:Key×V),v=.ref p/\H p=none/\kvs[i]?=some kv/\H'=upd H p (.tup [kV kv.1,kv.2]),λi H=>kvs.length<=i/\Gd H⟩
theorem FA(h:KV kvs vs):∀ {i:Nat} {kv:Key×V},kvs[i]?=some kv->∃ v,vs[i]?=some (kv.1,v)/\RelV kv.2 v:=by
 unfold KV at h
 induction h with
 | nil=>intro i kv e;simp at e
 | @cons p q _ _ r _ ih =>
  intro i kv e;cases i with
  | zero =>
   have e:=yat e;subst e;exact⟨q.2,by rw[r.1];rfl,r.2⟩
  | succ i=>exact ih (by simpa using e)
theorem D6(h:(aU P w).is k u=true):RelV (kV k) u:=by
 rcases bo h with ⟨i,t,rfl,rfl⟩ | ⟨x,t,rfl,rfl⟩
 ·exact⟨t,rfl⟩
 ·exact⟨t,rfl⟩
theorem sg{P:AF}{w:AJ}{K:A2}{es:AQ}{n:Nat}{p:Pos}{it d:AA}{ep:Nat}{kvs:Ae}{vs:List (Key×Value)}(rel:KV kvs vs){Gd:Hp->Prop}(hd:∀ (X:Cx) (pins:A7) (s:AE) (σ:L2.St) (H:Hp),X.prog=P->X.w=w->X.K=K->Inv X pins σ H s->Gd H->s.heap.DictAt (aU P w) d vs ep) :
  Turn P w K (.Tuple es n p) (ItT Gd kvs) [it] it (λi h=>∃ ok ov,IsItemIter h it d i vs.length ep ok ov) where
 mem:=by simp
 obj:=λi h st c hc=>by
  obtain⟨ok,ov,hi⟩:=st;rw[zac.mp hc];exact⟨_,hi,λv t=>by cases t⟩
 keep:=λi h h' st k=>by
  obtain⟨ok,ov,hi⟩:=st;exact⟨ok,ov,k it (by simp) _ hi⟩
 item:=by
  intro X hP hw hK hc i pins s σ H E I hf st hg;subst hP hw hK;obtain⟨ok,ov,hi⟩:=st;obtain⟨hl,hG⟩:i<kvs.length/\Gd H:=hg;obtain⟨v,hv,rv⟩:=FA rel (za6 hl);have dd:=hd X pins s σ H rfl rfl rfl I hG;refine wpAny_pyNext_items_item (knd:=aU X.prog X.w) hi dd hv λkey h1 hk ho pr sz1 k1=>?_
  refine⟨_,rfl,wpAny_letOwnedTupleGo_items (s:={ s with heap:=h1 }) ho λh2 hi2 sb=>?_⟩;have hfr:H s.heap.objs.size=none:=I.hok.fresh (za5 _);have Im:Inv X pins σ (upd H s.heap.objs.size (.tup [kV kvs[i].1,kvs[i].2])) { s with heap:=s.heap.push { cls:=.type "tuple",data:=.seq #[key,v] },toks:=s.toks } :=
   I.laid (λb o e=>yai _ e) (za5 _) ⟨zW,[key,v],.cons (D6 hk) (.cons rv .nil),⟨_,yak _ rfl,rfl,_,rfl⟩⟩
  have nit:it≠s.heap.objs.size:=zai (yaj hi);have ff:∀ c∈[it],om X pins (upd H s.heap.objs.size (.tup [kV kvs[i].1,kvs[i].2])) c:=λc hc'=>by
   obtain⟨f0,fr⟩:=hf c hc';rw[zac.mp hc']at f0 fr ⊢;exact⟨by rw[am nit];exact f0,fr⟩
  have kk:∀ c o,c∉[it]->(s.heap.push { cls:=.type "tuple",data:=.seq #[key,v] }).get? c=some o->h2.get? c=some o:=λc o hc' e'=>by
   have ce:c≠it:=λt=>hc' (by simp[t])
   rcases Heap.get?_push_cases e' with ⟨rfl,rfl⟩ | e'
   ·exact sb.extBut _ _ ce pr
   ·exact sb.extBut _ _ ce (k1 c o ce e')
  have I2:=p8 (h':=h2) (t':=s.toks) Im kk ff;exact⟨.ref s.heap.objs.size,upd H s.heap.objs.size (.tup [kV kvs[i].1,kvs[i].2]),I2,rfl,⟨_,kvs[i],rfl,hfr,za6 hl,rfl⟩,⟨_,_,hi2⟩,λc hc'=>(ff c hc').1⟩
 done:=by
  intro X hP hw hK hc i pins s σ H E I hf st hg;subst hP hw hK;obtain⟨ok,ov,hi⟩:=st;obtain⟨hl,hG⟩:kvs.length<=i/\Gd H:=hg;have le:kvs.length=vs.length:=rel.length;exact wpAny_pyNext_items_end (knd:=aU X.prog X.w) (I.ok.hd hc) hi (hd X pins s σ H rfl rfl rfl I hG) (zbt (by lia)) λh1 k1 =>
   ⟨rfl,p8 (t':=s.toks) (L:=[it]) I (λc o hc' e'=>k1 c o (λt=>hc' (by simp[t])) e') hf⟩
 self:=λ_ _ _ _ _ st h=>by
  obtain⟨ok,ov,hi⟩:=st;rename_i A i s Q E;have ty:s.TypeIs (.ref it) "dict_itemiterator":=⟨_,hi,rfl⟩;refine wpAny_pyIter_slot ty F.slot_dict_itemiterator_iter (ybd F.slot_dict_itemiterator_iter ty W.kcp_entry ?_ (F.args_dict_itemiterator_iter_1 _));show wpAny _ _ (ret (.ref it)) _ _ s;exact ya9 ⟨_,rfl,"dict_itemiterator",_,ty,F.slot_dict_itemiterator_next.lookup,h⟩
section
variable{X:Cx}{d:AA}{kvs:Ae}
def iItT(d:Addr)(kvs:List (Key×V))(to:TE):TI:=λσ H R=>to σ H λx H1=>x=.ref d/\R (ItT (λ_=>True) kvs) H1
theorem xV{es:AQ}{n:Nat}{pt apos cpos:Pos}{o:AX}{to:TE}(T:TopD X.prog X.w X.K d kvs)(ho:PE X o to)
  (hbase:attributeBase o "items" X.env (eval o X.env)=eval o X.env:=by rfl) (hline:(apos.endLine==cpos.line)=true:=by rfl) :
  PI X (.Tuple es n pt) (.Call (.Attribute o "items" apos) [] [] cpos) (iItT d kvs to):=by
 intro pins s σ H R I h;obtain⟨ob,ees,ep,vs,h1,exd,dat,h4,h5,h6,rel⟩:=T.is;refine ydn hbase hline (thn (ho pins s σ H _ I h) λv s1 zz1=>?_);obtain⟨x,H1,I1,r1,ex,q⟩:=zz1;subst ex;cases r1;have e1:=I1.kIn d ob h1;refine⟨"dict","dict.items",ydr,F.slot_dict_items,F.type_dict_items,⟨ob,e1,exd.1⟩,λb e2=>by cases e2;exact⟨ob,e1,exd.2.1⟩,ybt rfl (yec ?_)⟩;have de:ly s1.heap d ees ep:=⟨ob,e1,exd,dat⟩;refine vP T.sys de ?_;have vw:(s1.heap.push { cls:=.type "dict_items",data:=.fields #[.ref d] }).IsItemsView s1.heap.objs.size d:=⟨_,yak _ rfl,rfl,rfl⟩;have I2:Inv X pins σ H1 { s1 with heap:=s1.heap.push { cls:=.type "dict_items",data:=.fields #[.ref d] } }:=I1.kept (t':=s1.toks) λb o e=>yai _ e
 have hd:∀ h:Heap,X.K.In h->h.DictAt (aU X.prog X.w) d vs ep:=λh hk=>⟨ob,ees,hk d ob h1,exd,dat,h4,h5,h6⟩
 refine wpAny_pyIter_items (knd:=aU X.prog X.w) (s:={ s1 with heap:=s1.heap.push { cls:=.type "dict_items",data:=.fields #[.ref d] } }) vw (hd _ I2.kIn) ?_;have I3:=I2.kept (t':=s1.toks) (h':=(s1.heap.push { cls:=.type "dict_items",data:=.fields #[.ref d] }).push { cls:=.type "dict_itemiterator",data:=.fields #[.none,.bool false,.ref d,.int 0 0,.int vs.length 0,.int ep 0,.none,.none] }) λb o e=>yai _ e
 refine⟨_,[(s1.heap.push { cls:=.type "dict_items",data:=.fields #[.ref d] }).objs.size],_,ItT (λ_=>True) kvs,H1,rfl,I3,sg rel (λX' pins' s' σ' H' e1 e2 e3 I' _=>hd _ (e3▸I'.kIn)),⟨.none,.none,yak _ rfl⟩,λc hc=>?_,q⟩;have hs:s1.heap.objs.size<=c:=by
  rw[zac.mp hc,ybi];exact yd6 _
 exact I1.yF hs (I1.hok.fresh hs)
end
section
variable{X:Cx}
def nT(i:Int):Str:=Str.ofString (toString i)
def tFst(a b:Str)(t1 t2:TE):TE:=λσ H Q=>t1 σ H λx H1=>∃ i:Int,x=.int i/\i.natAbs.log2<1920/\(a.length+(nT i).length+b.length<=1000)/\t2 σ H1 λy H2=>∃ j:Int,y=.int j/\j.natAbs.log2<1920/\(a.length+(nT i).length+b.length+(nT j).length<=2000)/\Q (.str (a++nT i++b++nT j)) H2
theorem D7(a:AL):Str.empty++a=a:=by
 cases a with
 | mk x =>
  show(⟨#[]++x⟩:AL)=⟨x⟩;rw[Array.empty_append]
theorem FC{e1:AX}{a:AL}{j1:Nat}{p1:Pos}{t1:TE}(ha:a.length<=1000)(h1:PE X e1 t1)(h2:PE X e2 t2):PE X (.JoinedStr [.Constant (.str a) j1 p1,.FormattedValue e1 (-1) none p2,.Constant (.str b) j2 p3,.FormattedValue e2 (-1) none p4] pos) (tFst a b t1 t2):=by
 intro pins s σ H Q I h;refine JoinedStr_many ?_;refine joinParts_cons (Calls.Constant_str ?_);have sz:∀ n:Nat,n<=5000->n<=sizeLine:=λn hn=>by rw[yau];lia
 have h0:t1 σ H λx H1=>_:=h
 show(Str.empty++a).length<=sizeLine/\wpAny _ _ (joinParts (Str.empty++a) (eval (.FormattedValue e1 (-1) none p2) X.env::evalEach [.Constant (.str b) j2 p3,.FormattedValue e2 (-1) none p4] X.env)) _ _ _;rw[D7];refine⟨?_,joinParts_cons (FormattedValue_plain (thn (h1 pins _ σ H _ (I.tok _) h0) λv s1 ⟨x,H1,I1,r1,i,ex,hz,hl,q⟩=>?_))⟩
 ·exact sz _ (by lia)
 subst ex;obtain⟨t,rfl⟩:=r1;refine formatField_int_small hz ?_;show(a++nT i).length<=sizeLine/\wpAny _ _ (joinParts (a++nT i) (eval (.Constant (.str b) j2 p3) X.env::evalEach [.FormattedValue e2 (-1) none p4] X.env)) _ _ _;refine⟨sz _ (by rw[ci];lia),joinParts_cons (Calls.Constant_str ?_)⟩;show(a++nT i++b).length<=sizeLine/\wpAny _ _ (joinParts (a++nT i++b) (eval (.FormattedValue e2 (-1) none p4) X.env::evalEach [] X.env)) _ _ _;refine⟨sz _ (by rw[ci,ci];lia),joinParts_cons (FormattedValue_plain (thn (h2 pins _ σ H1 _ ((I1.tok _).tok _) q) λv s2 ⟨y,H2,I2,r2,j,ey,hz2,hl2,q2⟩=>?_))⟩;subst ey;obtain⟨t',rfl⟩:=r2;refine formatField_int_small hz2 ?_;show(a++nT i++b++nT j).length<=sizeLine/\wpAny _ _ (joinParts (a++nT i++b++nT j) []) _ _ _;have hs:=sz (a++nT i++b++nT j).length (by rw[ci,ci,ci];lia);exact⟨hs,joinParts_nil ⟨.str _,H2,(I2.tok _).tok _,⟨_,rfl⟩,q2⟩ hs⟩
end
theorem i8:cY X (.type "int") (λxs H Q=>∃ b:Bool,xs=[.bl b]/\Q (.int (if b then 1 else 0)) H):=by
 intro pins s σ H xs us Q I r h;obtain⟨b,rfl,q⟩:=h;obtain⟨u,rfl,rx⟩:=fm r;cases rx;exact call_int_bool ⟨.int _,H,I.tok _,⟨s.toks,rfl⟩,q⟩
section
variable{prog:AF}{w:AJ}{A:AK}{E:A9}{s:AE}
theorem FD{its:AB}{k:Int}{Q:A0}(e:s.heap.get? l=some { cls:=.type "list",data:=.seq its.toArray n })(h0:0<=k)(hj:k<its.length)(hf:k<2 ^ 63)
  (h:Q () { s with heap:=s.heap.update l (Obj.mapSeq λxs=>xs.setIfInBounds k.toNat v) }):wpAny (model prog w) A (setItem (.ref l) (.int k t) v) Q E s:=by
 have hl:s.heap.IsList l its.toArray:=⟨_,e,rfl,n,rfl⟩;unfold setItem
 try with_reducible refine yay ?_
 first | refine ya8 (ya9 ?_) | skip
 refine ya8 (wpAny_sequenceKey hl.typeIs (by decide) ?_);refine ya8 (yc0 (name:=Str.ofString "__setitem__") hl.typeIs PySem.slot_list_setitem ?_);refine ybd PySem.slot_list_setitem hl.typeIs PySem.entry_list_setitem ?_ (PySem.args_list_setitem _ _ _);show wpAny _ _ (Builtin.List.listSubscript? (.int k t)>>=_) _ _ s;refine ya8 (wpAny_listSubscript_int (fitsIndex_of h0 hf) ?_);clear hf;obtain⟨j,rfl⟩:=ybh h0;have hj':j<its.length:=by lia
 have hx:its.toArray[j]?=some (its[j]):=by simp[hj']
 show wpAny _ _ ((seqItemAt l j>>=λr=>pure (r.map (j,·)))>>=_) _ _ s;refine ya8 (ya8 (wpAny_seqItemAt e rfl (ya9 ?_)));rw[hx];refine ya8 (m:=setSeqItemAt l j v) (wpAny_setSeqItemAt e rfl ?_)
 first
  | exact ya8 (ya9 (ya9 ⟨.none,rfl,ya9 h⟩))
  | exact ya9 ⟨.none,rfl,ya9 h⟩
end
theorem kh.set(ry:RelV y r):∀ {xs:Ac} {its:AB},kh xs its->∀ i:Nat,kh (xs.set i y) (its.set i r)
 | _,_,.nil,_=>.nil
 | _,_,.cons _ t,0=>.cons ry t
 | _,_,.cons q t,i+1=>.cons q (kh.set ry t i)
section
variable{X:Cx}
def sPutL(td ty tv:TE):TS:=λD σ H=>tv σ H λv H1=>td σ H1 λx H2=>ty σ H2 λy H3=>∃ (l:Addr) (xs:List V) (i:Nat) (e:Int),x=.ref l/\y=.int e/\e=(i:Int)/\H3 l=some (.lst xs)/\i<xs.length/\D.nx σ (upd H3 l (.lst (xs.set i v)))
theorem gT{o:AX}{td:TE}{pos' pos:Pos}(ho:PE X o td)(hi:PE X i ty)(hv:PE X value tv)(hs:swapsWith value (some (.Subscript o i pos')) pos.line X.env=pure false) :
  PS X (.Assign [.Subscript o i pos'] value pos) (sPutL td ty tv):=by
 intro pins s σ H D I h;refine ydx (thn (hv pins s σ H _ I h) λr s1 zz1=>?_) hs;obtain⟨v,H1,I1,rv,q1⟩:=zz1;refine thn (ho pins s1 σ H1 _ I1 q1) λu s2 zz2=>?_
 obtain⟨x,H2,I2,rx,q2⟩:=zz2;refine thn (hi pins s2 σ H2 _ I2 q2) λiv s3 zz3=>?_
 obtain⟨y,H3,I3,ry,l,xs,j,e,ex,ey,ee,hl,hj,q3⟩:=zz3;subst ex ey ee;obtain rfl:u=Value.ref l:=rx;obtain⟨t,rfl⟩:=ry;obtain⟨z,its,n,r',hl',eg⟩:=I3.tO hl;refine FD eg (by lia) (by lia) (by rw[yau]at z;lia) ⟨σ,_,I3.lset (its':=its.set j r) (f:=λxs=>xs.setIfInBounds j r) hl eg (by simp) (kh.set rv r' j) (by rw[List.length_set];exact z),q3⟩
end
end BF
namespace K26
open PySem PySem.Spec PyProof.Rows L2 BF
def top(i:Nat):Stmt:=PySem.Challenge.pw_bothfaces_k26_whole_from_text_to_picture.main.body.getD i (.Pass ⟨0,0,0,0⟩)
abbrev qo:Stmt:=top 13
abbrev vS:Stmt:=top 14
abbrev jQ:Stmt:=top 15
abbrev vT:Stmt:=top 16
abbrev sOrd:Stmt:=top 17
abbrev jS:Stmt:=top 21
abbrev vU:Stmt:=top 22
abbrev Av:Stmt:=top 25
abbrev vV:Stmt:=top 26
abbrev Aw:Stmt:=top 27
abbrev jR:Stmt:=top 28
abbrev sh:Stmt:=top 33
abbrev mV:Stmt:=top 34
abbrev iP:Stmt:=top 35
abbrev iJ:Stmt:=top 36
abbrev si:Stmt:=top 37
abbrev qp:Stmt:=top 38
abbrev ib:Stmt:=top 46
abbrev eZ:Stmt:=top 47
abbrev vW:Stmt:=top 48
abbrev dY:Stmt:=top 49
abbrev iM:Stmt:=top 50
abbrev sj:Stmt:=top 51
abbrev mX:Stmt:=top 52
abbrev iL:Stmt:=top 53
abbrev g9:Stmt:=top 54
abbrev dN:Stmt:=top 55
abbrev eK:Stmt:=top 56
abbrev jo:Stmt:=top 57
abbrev vX:Stmt:=top 58
abbrev iK:Stmt:=top 59
abbrev fJ:Stmt:=top 60
abbrev eJ:Stmt:=top 61
abbrev jn:Stmt:=top 62
abbrev vY:Stmt:=top 64
abbrev uf:Stmt:=top 65
abbrev pf:Stmt:=top 66
abbrev sFar:Stmt:=top 67
abbrev iO:Stmt:=top 68
abbrev mY:Stmt:=top 69
abbrev vZ:Stmt:=top 70
abbrev jT:Stmt:=top 71
abbrev w5:Stmt:=top 72
abbrev w6:Stmt:=top 73
abbrev qq:Stmt:=top 74
abbrev w8:Stmt:=top 75
abbrev gc:Stmt:=top 76
abbrev iN:Stmt:=top 77
abbrev mZ:Stmt:=top 78
abbrev sm:Stmt:=top 79
abbrev sq:Stmt:=top 80
abbrev Ax:Stmt:=top 81
abbrev fu:Stmt:=top 82
abbrev wa:Stmt:=top 83
abbrev sLaw:Stmt:=top 84
abbrev Ay:Stmt:=jY (top 32) 0
abbrev ug:Stmt:=jY (top 32) 1
abbrev Az:Stmt:=jY (top 32) 2
abbrev B0:Stmt:=jY (top 32) 3
structure Blt(mg:A5):Prop where
 isi:mg "isinstance"=none
 int:mg "int"=none
 bool:mg "bool"=none
 tuple:mg "tuple"=none
 list:mg "list"=none
 str:mg "str"=none
 len:mg "len"=none
 range:mg "range"=none
 abs:mg "abs"=none
 min:mg "min"=none
 max:mg "max"=none
 sorted:mg "sorted"=none
 val:mg "ValueError"=none
 all:mg "all"=none
 rev:mg "reversed"=none
 far:∃ t,mg "FARTHEST"=some (.int 1000000000 t)
 most:∃ t,mg "MOST_LINES"=some (.int 120 t)
 qua:∃ t,mg "QUARTERS"=some (.int 4 t)
 mstr:∃ t,mg "MOST_STROKES"=some (.int 2000 t)
 mdra:∃ t,mg "MOST_DRAWN"=some (.int 400 t)
 lon:∃ t,mg "LONGEST"=some (.int 9 t)
 mlet:∃ t,mg "MOST_LETTERS"=some (.int 8 t)
 sig:∃ t,mg "MOST_SIGNS"=some (.int 2000 t)
 fig:∃ t,mg "MOST_FIGURES"=some (.int 10 t)
 dep:∃ t,mg "MOST_DEPTH"=some (.int 8 t)
 rou:∃ t,mg "MOST_ROUNDS"=some (.int 60 t)
 las:∃ t,mg "LAST_TURNING"=some (.int 7 t)
seal L2.PE L2.PA L2.PS L2.PSs L2.PT L2.PW L2.PG L2.PGs L2.PI BF.PTs L2.PPs L2.PO
theorem FE{a b:Pl}(h:lD a=lD b):a.p=b.p/\a.q=b.q:=by
 unfold lD at h;simp only[Dt.tup.injEq,ycl,and_true]at h;exact⟨vO.mp h.1,vO.mp h.2⟩
theorem B2{a b:Pl}(h:lD a=lD b)(c:a.c=b.c):a=b:=by
 obtain⟨p,q⟩:=FE h;cases a;cases b
 simp_all
theorem jq{f:α->β}:∀ {l:List α},(l.map f).Nodup->∀ {x y:α},x∈l->y∈l->f x=f y->x=y
 | [],_,_,_,h,_,_=>nomatch h
 | a::l,nd,x,y,hx,hy,e=>by
  obtain⟨n,nd'⟩:=zak.mp (show(f a::l.map f).Nodup from nd);rcases za0.mp hx with e1 | hx1
  ·rcases za0.mp hy with e2 | hy1
   ·rw[e1,e2]
   ·exact absurd (za9.mpr ⟨y,hy1,by rw[<- e,e1]⟩) n
  ·rcases za0.mp hy with e2 | hy1
   ·exact absurd (za9.mpr ⟨x,hx1,by rw[e,e2]⟩) n
   ·exact jq nd' hx1 hy1 e
def kvP(a:Pl):Dt×V:=(lD a,.str a.c)
def lh(ps:List Pl):Prop:=∃ a∈ps,∃ b∈ps,lD a=lD b/\a.c≠b.c
theorem qr{rs:Ag}(h:kB (rs.map kvP) d=some v):∃ b∈rs,lD b=d/\v=.str b.c:=by
 unfold kB at h;cases hf:(rs.map kvP).find? λkv=>decide (kv.1=d) with
 | none=>rw[hf]at h;cases h
 | some p =>
  rw[hf]at h;obtain⟨b,hb,rfl⟩:=za9.mp (yde hf);cases h;have e:=List.find?_some (p:=λkv:Dt×V=>decide (kv.1=d)) hf;exact⟨b,hb,yae e,rfl⟩
theorem n9(rs:Ag):(rs.map kvP).map (·.1)=rs.map lD:=by rw[ydi];rfl
theorem wb{rs:Ag}{a:Pl}(h:∀ b∈rs,lD b≠lD a):putK (rs.map kvP) (lD a) (.str a.c)=(rs++[a]).map kvP:=by
 unfold putK;rw[yac,zae]
 ·rfl
 ·intro z
  rw[List.any_eq_true]at z;obtain⟨p,hp,e⟩:=z;obtain⟨b,hb,rfl⟩:=za9.mp hp;exact h b hb (yae e)
theorem xW(rs:Ag):iq (rs.map kvP) (rs.map λa=>Dt.str a.c)=rs.map pD:=by
 unfold iq
 induction rs with
 | nil=>rfl
 | cons a rs ih=>rw[zaa,zaa,zaa,List.zipWith_cons_cons,ih];rfl
theorem we:∀ rs:List Pl,aG H ((rs.map kvP).map (·.2)) (rs.map λa=>Dt.str a.c)
 | []=>.nil
 | a::rs=>.cons (.str _) (we rs)
theorem gU{a:Pl}(h:pD a=pD b):a=b:=by
 unfold pD at h;simp only[Dt.tup.injEq,ycl,Dt.str.injEq,and_true]at h;exact B2 h.1 h.2
theorem EC:∀ {es:Af} {rs:Ag},(∀ d∈es,d∈rs.map pD)->∃ qs:List Pl,es=qs.map pD
 | [],_,_=>⟨[],rfl⟩
 | e::es,rs,h=>by
  obtain⟨qs,rfl⟩:=EC (es:=es) λd hd=>h d (za3 _ hd)
  obtain⟨a,_,rfl⟩:=za9.mp (h e za1);exact⟨a::qs,rfl⟩
section
variable{P:AF}{w:AJ}{K:A2}{mg:A5}{base:AO}{c2 c3:AA}
structure qt(H:Hp)(ps:List Pl)(l:Addr)(H':Hp)(qs:List Pl):Prop where
 same:kf H H'
 new:H l=none
 pic:Pic H' l qs
 nd:qs.Nodup
 mem:∀ a,a∈qs↔a∈ps
 rise:oA qs
def uh(K:A2)(c2 c3:Addr):Sp:=λvs H Q E=>∃ (a:Addr) (xs:List V) (ps:List Pl) (ls:List Dt),vs=[.ref a]/\SqL K H a xs/\aG H xs (ps.map pD)/\ps.length<=400/\ls.Nodup/\(∀ d,d∈ls↔d∈ps.map lD) /\
 (lh ps->∀ H',kf H H'->E (.ref c2) none H')/\(¬ lh ps->120<ls.length->∀ H',kf H H'->E (.ref c3) none H')/\(¬ lh ps->ls.length<=120->∀ l qs H',qt H ps l H' qs->Q (.ref l) H')
theorem qv:az ["pairs","colour_by_line","line","colour"] ["pairs"] (aj vU):=fsk (by decide +kernel)
theorem D8(D:Df K mg "picture" vU f fd)(m2:mg "TwoColours"=some (.ref c2))(m3:mg "TooMany"=some (.ref c3))
  (q2:W.excIn K c2 [.type "ValueError",.type "Exception",.type "BaseException",.type "object"] "ValueError.__new__"=true) (q3:W.excIn K c3 [.type "ValueError",.type "Exception",.type "BaseException",.type "object"] "ValueError.__new__"=true)
  (mm:mg "MOST_LINES"=some (.int 120 tm)) (hlen:mg "len"=none) (hsorted:mg "sorted"=none):ke P w K mg base (CXE P w) 1 f fd ["pairs"] (uh K c2 c3):=by
 refine d8 D.F qv (λvs H Q E h=>?_) (λcdv A outer s H vs Q E hr h=>?_)
 ·obtain⟨a,xs,ps,ls,rfl,_⟩:=h
  rfl
 ·obtain⟨a,xs,ps,ls,rfl,hS,hD',pl,lnd,lmem,k2,k3,kq⟩:=h
  have xl:xs.length=ps.length:=by rw[hD'.length,za4]
  refine⟨_,(aa (ay (i:=1) qv.nd rfl (Or.inl rfl) rT)
   (aa (cQ PassesOwn.leaving rfl (cT (pv 0)) (gl (n:=2) rfl (ba (aQ (i:=2) qv.nd rfl (Or.inl rfl)) (ba (aQ (i:=3) qv.nd rfl (Or.inl rfl)) dq))) (ae (aK (ap ie (zS F.slot_dict_setdefault F.type_dict_setdefault (xM hr) (pv 1) (pac (pv 2) (pac (pv 3) a9))) (pv 3) (au _)) (ae (gj rfl m2 hr.hd q2 ag)) ax)))
   (aa (aK (ap eP (aE p6 (by rfl) hlen ybe (pac (pv 1) a9)) (aP (v:=.int 120) rfl mm ⟨_,rfl⟩) (au _)) (ae (gj rfl m3 hr.hd q3 ag)) ax)
   (ae (av (qm hr rfl hsorted (pv 1))))))),?_⟩
  have lD8:∀ b:Pl,(lD b).dp<=8:=λb=>by simp[lD,hD,Dt.dp,Dt.dps]
  intro d o nd dv0;refine⟨_,rfl,a,rfl,⟨_,(af nd).seq hS⟩,?_⟩;refine cW (K:=K) (a:=a) (xs:=xs) (λi σ H2=>(∃ v2 v3,σ=[some (.ref a),some (.ref d),v2,v3])/\kf H H2/\∃ rs:List Pl,lF P w H2 d (rs.map kvP)/\(rs.map lD).Nodup/\(∀ b∈rs,b∈ps)/\(∀ b∈ps.take i,b∈rs)/\rs.length<=i)
   ⟨⟨_,_,rfl⟩,af nd,[],dv0,ycx,λ_ z=>(nomatch z),λ_ z=>(nomatch z),za5 _⟩ (λi σ H2 _ ⟨_,s2,_⟩=>s2.seq hS) ?_ ?_
  ·rintro i x σ H2 hx ⟨⟨v2,v3,rfl⟩,S2,rs,dd,rnd,rin,rall,rl⟩
   obtain⟨e,ed,dx⟩:=(hD'.same S2).at i x hx;rw[zan]at ed;cases hp:ps[i]? with
   | none=>rw[hp]at ed;cases ed
   | some b =>
    rw[hp]at ed;cases ed;have hi:=(zaf.mp hx).1;have bin:b∈ps:=zam hp;obtain⟨r,xl',rfl,er,hl⟩:=qj dx;have tk:ps.take (i+1)=ps.take i++[b]:=by rw[ydm,hp];rfl
    have fin:∀ rs':List Pl,(∀ c∈rs,c∈rs')->b∈rs'->∀ c∈ps.take (i+1),c∈rs':=λrs' h1 h2 c hc=>by
     rw[tk]at hc;rcases zaj.mp hc with hc | hc
     ·exact h1 c (rall c hc)
     ·rw[zac.mp hc];exact h2
    refine⟨r,_,rfl,SqT.of er,rfl,_,_,rfl,_,_,rfl,rfl,?_⟩;refine⟨_,rfl,⟨d,_,rfl,dd⟩,_,rfl,_,rfl,d,xl',lD b,rs.map kvP,.str b.c,rfl,rfl,hl,lD8 b,dd,by rw[za4];lia,λu hu=>?_,λhn o' dn=>?_⟩
    ·obtain⟨c,hc,ec,rfl⟩:=qr hu
     refine⟨_,rfl,rfl,_,rfl,?_⟩;by_cases hcc:c.c=b.c
     ·refine ah (by rw[hcc];simp) ⟨⟨_,_,rfl⟩,S2,rs,dd,rnd,rin,fin rs (λ_ z=>z) ?_,by lia⟩
      rw[<- B2 ec hcc];exact hc
     ·exact aw (by simp[hcc]) (k2 ⟨c,rin c hc,b,bin,ec,hcc⟩ H2 S2)
    ·have nk:∀ c∈rs,lD c≠lD b:=λc hc e=>by
      have:lD b∈(rs.map kvP).map (·.1):=by rw[n9,<- e];exact za9.mpr ⟨c,hc,rfl⟩
      obtain⟨v,hv⟩:∃ v,kB (rs.map kvP) (lD b)=some v:=by
       cases hv:kB (rs.map kvP) (lD b) with
       | some v=>exact⟨v,rfl⟩
       | none=>exact absurd this (by
         unfold kB at hv;rw[zbq,ycn]at hv;intro z;obtain⟨p,hp,e⟩:=za9.mp z;exact hv p hp (yab e))
      rw[hn]at hv;cases hv
     rw[wb nk]at dn;refine⟨_,rfl,rfl,_,rfl,ah (by simp) ⟨⟨_,_,rfl⟩,ao S2 nd,rs++[b],dn,?_,?_,fin _ (λc hc=>zbk _ hc) (zau _ (zac.mpr rfl)),by rw[za7];show rs.length+1<=_;lia⟩⟩
     ·rw[zae]
      refine List.nodup_append.mpr ⟨rnd,zbx _ _,λc hc c' hc' e=>?_⟩;obtain⟨c0,hc0,rfl⟩:=za9.mp hc;rw[zac.mp hc']at e;exact nk c0 hc0 e
     ·intro c hc
      rcases zaj.mp hc with hc | hc
      ·exact rin c hc
      ·rw[zac.mp hc];exact bin
  ·rintro σ H2 ⟨⟨v2,v3,rfl⟩,S2,rs,dd,rnd,rin,rall,rl⟩
   rw[zav (by lia)]at rall;have no:¬ lh ps:=λ⟨x,hx,y,hy,e1,e2⟩=>e2 (by rw[jq rnd (rall x hx) (rall y hy) e1])
   have ll:(rs.map kvP).length=ls.length:=by
    have:(rs.map lD).Perm ls:=(zbg rnd lnd).mpr λd'=>by
     rw[lmem];constructor
     ·intro h
      obtain⟨c,hc,e⟩:=za9.mp h;exact za9.mpr ⟨c,rin c hc,e⟩
     ·intro h
      obtain⟨c,hc,e⟩:=za9.mp h;exact za9.mpr ⟨c,rall c hc,e⟩
    rw[<- this.length_eq,za4,za4]
   refine⟨_,rfl,d,_,rfl,dd,_,_,rfl,rfl,_,rfl,?_⟩;by_cases big:120<ls.length
   ·exact aw (by rw[ll];exact yab (by lia)) (k3 no big H2 S2)
   refine ah (by rw[ll];exact yaa (by lia)) ?_;have itm:=xW rs;refine⟨_,rfl,d,rs.map kvP,rs.map (λa=>Dt.str a.c),"tuple",rfl,dd,we rs,λp hp=>?_,λv hv=>?_,?_,λH3 l zs es S3 nl dz pe srt=>?_⟩
   ·obtain⟨b,_,rfl⟩:=za9.mp hp
    rfl
   ·obtain⟨b,_,rfl⟩:=za9.mp hv
    exact zb6 _
   ·rw[itm]
    exact oZ rs
   ·rw[itm]at pe
    obtain⟨qs,rfl⟩:=EC λe he=>pe.mem_iff.mp he
    have S:=S2.trans S3;have nl0:=aH S nl;have rnd':=List.pairwise_map.mp (show((rs.map lD).Pairwise (·≠·)) from rnd);have pnd:(rs.map pD).Nodup:=List.pairwise_map.mpr (rnd'.imp λh e=>h (by rw[gU e]));have qnd:=pe.nodup_iff.mpr pnd;refine kq no (by lia) l qs _ ⟨ao S nl0,nl0,⟨zs,a8,dz.same (af nl)⟩,(List.pairwise_map.mp (show((qs.map pD).Pairwise (·≠·)) from qnd)).imp λn e=>n (by rw[e]),λb=>?_,srt⟩;constructor
    ·intro hb
     obtain⟨c,hc,e⟩:=za9.mp (pe.mem_iff.mp (za9.mpr ⟨b,hb,rfl⟩));rw[<- gU e];exact rin c hc
    ·intro hb
     obtain⟨c,hc,e⟩:=za9.mp (pe.mem_iff.mpr (za9.mpr ⟨b,rall b hb,rfl⟩));rw[<- gU e];exact hc
end
section
variable{P:AF}{w:AJ}{K:A2}{mg:A5}{base:AO}
def wg:Sp:=λvs H Q _=>∃ k:Nat,vs=[.int k]/\Q (.bl (decide (4<=k))) H
theorem scMir:az ["way"] ["way"] (aj Av):=fsk (by decide +kernel)
theorem FF(D:Df K mg "is_mirroring" Av f fd)(hqua:∃ t,mg "QUARTERS"=some (.int 4 t)):ke P w K mg base CX0 1 f fd ["way"] wg:=by
 obtain⟨tq,qua⟩:=hqua;refine D.F.ok scMir (λvs H Q E h=>?_) (λcdv A outer s H vs Q E hr h=>?_)
 ·obtain⟨k,rfl,_⟩:=h
  rfl
 ·obtain⟨k,rfl,q⟩:=h
  refine⟨_,ae (av (cU v9 (pv 0) (aP (v:=.int 4) rfl qua ⟨_,rfl⟩) (au _))),?_⟩;have e:decide (4<=k)=decide ((4:Int)<=(k:Int)):=decide_eq_decide.mpr (by omega);rw[e]at q;exact⟨_,rfl,_,_,rfl,rfl,q⟩
def ui:Sp:=λvs H Q _=>∃ (q:Addr) (p:Int×Int) (k:Nat),vs=[.ref q,.int k]/\two H q p/\k<8/\∀ r H',kf H H'->two H' r (aA k p)->Q (.ref r) H'
theorem qw:az ["hole","way","quarter"] ["hole","way"] (aj vV):=fsk (by decide +kernel)
theorem D9{f:AA}{fd:AG}(D:Df K mg "turned_hole" vV f fd)(DM:Df K mg "is_mirroring" Av fM fdM)(bM:ar K fdM ["way"] [])(GM:ke P w K mg base CX0 1 fM fdM ["way"] wg)(hqua:∃ t,mg "QUARTERS"=some (.int 4 t))(hrange:mg "range"=none):ke P w K mg base CX0 2 f fd ["hole","way"] ui:=by
 obtain⟨tq,qua⟩:=hqua;refine D.F.ok qw (λvs H Q E h=>?_) (λcdv A outer s H vs Q E hr h=>?_)
 ·obtain⟨q,p,k,rfl,_⟩:=h
  rfl
 ·obtain⟨q,p,k,rfl,hq,hk,z⟩:=h
  have hr1:ki 1 _:=hr.mono (by decide);refine⟨_,aa (aK (bq (pec GM hr1 rfl DM.m DM.F.kp bM .nil aF (pac (pv 1) a9))) (ae (ay (i:=0) qw.nd rfl (Or.inl rfl)
    (aI (bb (cp bc (aD aM (pv 0) ad (λ_ _=>rfl))) (bb (aD aM (pv 0) ad (λ_ _=>rfl)) a9))))) ax)
   (aa (cQ ybc rfl (dD rfl hrange (bb (aq aT (pv 1) (aP (v:=.int 4) rfl qua ⟨_,rfl⟩)) a9)) (aQ (i:=2) qw.nd rfl (Or.inl rfl))
    (ae (ay (i:=0) qw.nd rfl (Or.inl rfl) (aI (bb (cp bc (aD aM (pv 0) ad (λ_ _=>rfl))) (bb (aD aM (pv 0) ad (λ_ _=>rfl)) a9))))))
   (ae (av (pv 0)))),?_⟩
  refine⟨_,rfl,k,rfl,_,rfl,?_⟩;refine' Fi (λq1 H1=>kf H H1/\two H1 q1 (mir k p)) (λfin=>_) _
  rotate_left
  ·by_cases h4:4<=k
   ·refine j6 h4 ?_
    refine⟨_,rfl,q,_,_,_,rfl,rfl,SqT.of hq,rfl,_,rfl,_,rfl,q,_,_,_,rfl,rfl,SqT.of hq,rfl,szr rfl,λq1 n1=>?_⟩;have S1:kf H (upd H q1 (.tup [.int (-p.1),.int p.2])):=af n1;have h1:two (upd H q1 (.tup [.int (-p.1),.int p.2])) q1 (mir k p):=by
     unfold mir;rw[yad h4];exact a8
    revert S1 h1;generalize (upd H q1 (.tup [.int (-p.1),.int p.2]))=H1;intro S1 h1;exact fin q1 H1 ⟨S1,h1⟩
   ·refine j7 h4 ?_
    exact fin q H ⟨kf.refl _,by unfold mir;rw[yac h4];exact hq⟩
  ·rintro q1 H1 ⟨S1,h1⟩
   refine⟨_,rfl,_,_,rfl,rfl,(by show(0:Int)<4;decide),_,rfl,by show -2 ^ 62<=(k:Int) % 4;grind,by show(k:Int) % 4<2 ^ 62;grind,?_⟩;have e4:((k:Int) % 4).toNat=k % 4:=by lia
   rw[e4];refine eQ (λi σ H2=>∃ r v,σ=[some (.ref r),some (.int k),v]/\kf H H2/\two H2 r (tW i (mir k p))) ⟨q1,_,rfl,S1,h1⟩ ?_ ?_
   ·rintro i σ H2 hi ⟨r,v,rfl,S2,h2⟩
    refine⟨_,rfl,r,_,_,_,rfl,rfl,SqT.of h2,rfl,_,rfl,_,rfl,r,_,_,_,rfl,rfl,SqT.of h2,rfl,szr rfl,λr1 n1=>?_⟩;exact⟨r1,_,rfl,S2.trans (af n1),a8⟩
   ·rintro σ H2 ⟨r,v,rfl,S2,h2⟩
    exact⟨_,rfl,z r H2 S2 h2⟩
def ED:Sp:=λvs H Q _=>∃ (x y:Addr) (p q:Int×Int),vs=[.ref x,.ref y]/\two H x p/\two H y q/\∀ r H',kf H H'->kj H' (.ref r) (.tup [hD (kz p q).1,hD (kz p q).2])->Q (.ref r) H'
theorem scOrd:az ["one","other"] ["one","other"] (aj sOrd):=fsk (by decide +kernel)
theorem FG(D:Df K mg "ordered" sOrd f fd):ke P w K mg base CX0 1 f fd ["one","other"] ED:=by
 refine D.F.ok scOrd (λvs H Q E h=>?_) (λcdv A outer s H vs Q E hr h=>?_)
 ·obtain⟨x,y,p,q,rfl,_⟩:=h
  rfl
 ·obtain⟨x,y,p,q,rfl,hx,hy,z⟩:=h
  refine⟨_,(ae (av (eN (ap (F5 hr.F3) (pv 0) (pv 1) (au _)) (aI (pac (pv 0) (pac (pv 1) a9))) (aI (pac (pv 1) (pac (pv 0) a9)))))),?_⟩;refine⟨_,rfl,_,rfl,x,y,[p.1,p.2],[q.1,q.2],rfl,rfl,SqT.of hx,SqT.of hy,_,rfl,ifC (λhl=>?_) (λhl=>?_)⟩
  ·refine⟨_,rfl,_,rfl,szr rfl,λr nr=>z r _ (af nr) ?_⟩
   have:kz p q=(p,q):=by unfold kz;rw[yad (show hLt p q=true from hl)]
   rw[this];exact .tup a8 (.cons (eE ((af nr) _ _ hx)) (.cons (eE ((af nr) _ _ hy)) .nil))
  ·refine⟨_,rfl,_,rfl,szr rfl,λr nr=>z r _ (af nr) ?_⟩
   have:kz p q=(q,p):=by unfold kz;rw[yac (show ¬ hLt p q=true by rw[show hLt p q=false from hl];simp)]
   rw[this];exact .tup a8 (.cons (eE ((af nr) _ _ hy)) (.cons (eE ((af nr) _ _ hx)) .nil))
def sr:Sp:=λvs H Q _=>∃ (x:Addr) (p:Int×Int) (e n:Int),vs=[.ref x,.int e,.int n]/\two H x p/\∀ r H',kf H H'->two H' r (shH e n p)->Q (.ref r) H'
theorem B3:az ["hole","east","north"] ["hole","east","north"] (aj jR):=fsk (by decide +kernel)
theorem xX(D:Df K mg "shifted_hole" jR f fd):ke P w K mg base CX0 1 f fd ["hole","east","north"] sr:=by
 refine D.F.ok B3 (λvs H Q E h=>?_) (λcdv A outer s H vs Q E hr h=>?_)
 ·obtain⟨x,p,e,n,rfl,_⟩:=h
  rfl
 ·obtain⟨x,p,e,n,rfl,hx,z⟩:=h
  refine⟨_,(ae (av (aI (pac (aq aW (aD aM (pv 0) ad (λ_ _=>rfl)) (pv 1)) (pac (aq aW (aD aM (pv 0) ad (λ_ _=>rfl)) (pv 2)) a9))))),?_⟩;exact⟨_,rfl,x,_,_,_,rfl,rfl,SqT.of hx,rfl,_,rfl,_,_,rfl,rfl,_,rfl,x,_,_,_,rfl,rfl,SqT.of hx,rfl,_,rfl,_,_,rfl,rfl,szr rfl,λr nr=>z r _ (af nr) a8⟩
end
def wj:Sp:=λvs H Q _=>∃ u k,vs=[u]/\Knd H u k/\Q (.bl (Fe u)) H
def B4:Sp:=λvs H Q _=>∃ u k,vs=[u]/\Knd H u k/\Q (.bl (rj H u)) H
def su:Sp:=λvs H Q _=>∃ u k,vs=[u]/\Knd H u k/\Q (.bl (good u)) H
def uj:Sp:=λvs H Q _=>∃ u b,vs=[u]/\tR H u b/\Q (.bl b) H
section
variable{P:AF}{w:AJ}{K:A2}{mg:A5}{base:AO}
theorem Dc:az ["thing"] ["thing"] (aj qo):=fsk (by decide +kernel)
theorem B5(D:Df K mg "is_whole" qo f fd)(B:Blt mg):ke P w K mg base CX0 1 f fd ["thing"] wj:=by
 refine D.F.ok Dc (λvs H Q E h=>?_) (λcdv A outer s H vs Q E hr h=>?_)
 ·obtain⟨u,k,rfl,_⟩:=h
  rfl
 ·obtain⟨u,k,rfl,kd,q⟩:=h
  refine⟨_,ae (av (iz (aE cb (by rfl) B.isi yax (bb (pv 0) (bb (cr (v:=.ty "int") (by rfl) B.int yd4 rfl) a9)))
   (gn (EV (aE cb (by rfl) B.isi yax (bb (pv 0) (bb (cr (v:=.ty "bool") (by rfl) B.bool boot_bool rfl) a9))))))),?_⟩
  refine⟨_,rfl,u,k,.int,rfl,kd,_,rfl,?_⟩;cases kd with
  | int i=>exact kH ⟨_,rfl,_,_,.bl,rfl,.int i,_,rfl,q⟩
  | bl b=>exact kH ⟨_,rfl,_,_,.bl,rfl,.bl b,_,rfl,q⟩
  | non=>exact kr q
  | str x=>exact kr q
  | lst e=>exact kr q
  | tup e=>exact kr q
  | dic e=>exact kr q
theorem FH:az ["thing"] ["thing"] (aj vS):=fsk (by decide +kernel)
theorem Dd(D:Df K mg "is_pair" vS f fd)(B:Blt mg):ke P w K mg base CX0 1 f fd ["thing"] B4:=by
 refine D.F.ok FH (λvs H Q E h=>?_) (λcdv A outer s H vs Q E hr h=>?_)
 ·obtain⟨u,k,rfl,_⟩:=h
  rfl
 ·obtain⟨u,k,rfl,kd,q⟩:=h
  refine⟨_,ae (av (iz (aE cb (by rfl) B.isi yax (bb (pv 0) (bb (cr (v:=.ty "tuple") (by rfl) B.tuple boot_tuple rfl) a9)))
   (gn (cU aX (aE bn (by rfl) B.len ybe (bb (pv 0) a9)) ad (au _))))),?_⟩
  refine⟨_,rfl,u,k,.tup,rfl,kd,_,rfl,?_⟩;cases kd with
  | @tup a xs e =>
   rw[oO e,<- Cs]at q;exact kH ⟨_,rfl,a,xs,rfl,.inr (SqT.of e),rfl,q⟩
  | int i=>exact kr q
  | bl b=>exact kr q
  | non=>exact kr q
  | str x=>exact kr q
  | lst e=>rw[xq e]at q;exact kr q
  | dic e=>rw[xr e]at q;exact kr q
theorem B6:az ["thing"] ["thing"] (aj jQ):=fsk (by decide +kernel)
theorem xY{f:AA}{fd:AG}(D:Df K mg "is_within" jQ f fd)(DW:Df K mg "is_whole" qo fW fdW)(bW:ar K fdW ["thing"] [])(B:Blt mg):ke P w K mg base CX0 2 f fd ["thing"] su:=by
 have GW:ke P w K mg base CX0 1 fW fdW ["thing"] wj:=B5 DW B;obtain⟨tf,far⟩:=B.far;refine D.F.ok B6 (λvs H Q E h=>?_) (λcdv A outer s H vs Q E hr h=>?_)
 ·obtain⟨u,k,rfl,_⟩:=h
  rfl
 ·obtain⟨u,k,rfl,kd,q⟩:=h
  refine⟨_,ae (av (iz (iU GW hr rfl DW.m DW.F.kp bW .nil aF (bb (pv 0) a9))
   (gn (iS iW iW (cp bc (aP (v:=.int 1000000000) rfl far ⟨_,rfl⟩)) (pv 0) (aP (v:=.int 1000000000) rfl far ⟨_,rfl⟩))))),?_⟩
  refine⟨_,rfl,u,k,rfl,kd,_,rfl,?_⟩;cases kd with
  | int i =>
   refine kH ⟨_,rfl,_,rfl,_,_,rfl,rfl,_,rfl,?_⟩;by_cases h1:-1000000000<=i
   ·refine j6 h1 ⟨_,_,rfl,rfl,?_⟩
    have e:good (.int i)=decide (i<=1000000000):=by
     show(decide (-1000000000<=i)&&decide (i<=1000000000))=_;rw[yab h1,Bool.true_and]
    rw[e]at q;exact q
   ·refine j7 h1 ?_
    have e:good (.int i)=false:=by
     show(decide (-1000000000<=i)&&decide (i<=1000000000))=_;rw[yaa h1,zbz]
    rw[e]at q;exact q
  | bl b=>exact kr q
  | non=>exact kr q
  | str x=>exact kr q
  | lst e=>exact kr q
  | tup e=>exact kr q
  | dic e=>exact kr q
theorem FI:az ["thing"] ["thing"] (aj vT):=fsk (by decide +kernel)
theorem De{f:AA}{fd:AG}(D:Df K mg "is_hole" vT f fd)(DP:Df K mg "is_pair" vS fP fdP)(bP:ar K fdP ["thing"] [])(GP:ke P w K mg base CX0 1 fP fdP ["thing"] B4)
  (DI:Df K mg "is_within" jQ fI fdI) (bI:ar K fdI ["thing"] []) (GI:ke P w K mg base CX0 2 fI fdI ["thing"] su):ke P w K mg base CX0 3 f fd ["thing"] uj:=by
 refine D.F.ok FI (λvs H Q E h=>?_) (λcdv A outer s H vs Q E hr h=>?_)
 ·obtain⟨u,k,rfl,_⟩:=h
  rfl
 ·obtain⟨u,b,rfl,hh,q⟩:=h
  have hr1:ki 1 _:=hr.mono (by decide);refine⟨_,ae (av (iz (iU GP hr1 rfl DP.m DP.F.kp bP .nil aF (bb (pv 0) a9))
   (iz (iU GI hr rfl DI.m DI.F.kp bI .nil aF (bb (aD aM (pv 0) ad (λ_ _=>rfl)) a9))
   (gn (iU GI hr rfl DI.m DI.F.kp bI .nil aF (bb (aD aM (pv 0) ad (λ_ _=>rfl)) a9)))))),?_⟩
  cases hh with
  | @no _ k kd hp =>
   refine⟨_,rfl,u,k,rfl,kd,_,rfl,?_⟩;exact ah hp q
  | @two p x y kx ky _ e hx hy hr' =>
   refine⟨_,rfl,.ref p,.tup,rfl,.tup e,_,rfl,?_⟩;refine aw (oO e) ?_;refine⟨_,rfl,p,_,_,x,rfl,rfl,SqT.of e,rfl,x,kx,rfl,hx,_,rfl,?_⟩;cases g:good x with
   | false =>
    rw[g,zbz]at hr';subst hr';exact kr q
   | true =>
    rw[g,Bool.true_and]at hr';subst hr';exact kH ⟨_,rfl,p,_,_,y,rfl,rfl,SqT.of e,rfl,y,ky,rfl,hy,q⟩
end
mutual
theorem kj.qy{H:Hp}(ha:∀ xs,H a≠some (.tup xs)):∀ {d:Dt} {v:V},kj H v d->kj (upd H a o) v d
 | .int i,_,.int _=>.int i
 | .str x,_,.str _=>.str x
 | .tup ds,_,.tup (a:=b) e q=>.tup (by
   have:b≠a:=λz=>ha _ (by rw[<- z];exact e)
   rw[am this];exact e) (aG.qy ha q)
theorem aG.qy{H:Hp}(ha:∀ xs,H a≠some (.tup xs)):∀ {ds:Af} {vs:Ac},aG H vs ds->aG (upd H a o) vs ds
 | []=>by intro g;cases g;exact .nil
 | d::ds=>by
  intro g;cases g with
  | cons q t=>exact .cons (kj.qy ha q) (aG.qy ha t)
end
structure kg where
 p:Int×Int
 c:Str
 t:Nat
 n:Nat
 ps:List Pl
def lj(q L:Addr)(S:kg):List (Str×V):=[("place",.ref q),("colour",.str S.c),("turning",.int (S.t:Int)),("stroke_count",.int (S.n:Int)),("pairs",.ref L)]
theorem i0(q L:AA)(S:kg):(lj q L S).lookup ("place":AL)=some (V.ref q):=rfl
theorem nc(q L:AA)(S:kg):(lj q L S).lookup ("colour":AL)=some (.str S.c):=rfl
theorem jI(q L:AA)(S:kg):(lj q L S).lookup ("turning":AL)=some (.int (S.t:Int)):=rfl
theorem ph(q L:AA)(S:kg):(lj q L S).lookup ("stroke_count":AL)=some (.int (S.n:Int)):=rfl
theorem jx(q L:AA)(S:kg):(lj q L S).lookup ("pairs":AL)=some (.ref L):=rfl
theorem xZ(q q' L:AA)(S:kg)(p:Int×Int):kJ ("place":AL) (.ref q') (lj q L S)=lj q' L { S with p:=p }:=rfl
theorem sv(q L:AA)(S:kg)(t:Nat):kJ ("turning":AL) (.int (t:Int)) (lj q L S)=lj q L { S with t:=t }:=rfl
structure kR(C:Addr)(H:Hp)(x L:Addr)(S:kg):Prop where
 ex:∃ dx q,H x=some (.ins C dx (lj q L S))/\two H q S.p
 pic:Pic H L S.ps
theorem kR.ne{x:AA}(h:kR C H x L S):x≠L:=λe=>by
 obtain⟨dx,q,h1,_⟩:=h.ex;obtain⟨xs,h2,_⟩:=h.pic;rw[e,h2]at h1;cases h1
theorem kR.same{H:Hp}{x:AA}(h:kR C H x L S)(s:kf H H'):kR C H' x L S:=by
 obtain⟨dx,q,h1,h2⟩:=h.ex;exact⟨⟨dx,q,s _ _ h1,s _ _ h2⟩,h.pic.same s⟩
theorem kR.put{H:Hp}{x:AA}{S S':kg}(h:kR C H x L S)(e:H x=some (.ins C dx (lj q L S)))(t:two H q' S'.p)(ep:S'.ps=S.ps):kR C (upd H x (.ins C dx (lj q' L S'))) x L S':=by
 have nt:∀ xs,H x≠some (.tup xs):=λxs z=>by rw[e]at z;cases z
 refine⟨⟨dx,q',a8,?_⟩,?_⟩
 ·show(upd H x _) q'=_
  rw[am (λz=>nt _ (by rw[<- z];exact t))];exact t
 ·obtain⟨xs,e2,d2⟩:=h.pic
  rw[ep];exact⟨xs,by rw[am (yav h.ne)];exact e2,aG.qy nt d2⟩
structure Cl(K:A2)(mg:A5)(C fI fB fC fD:Addr):Prop where
 cl:Cls K C
 n1:dm K C "place"
 n2:dm K C "colour"
 n3:dm K C "turning"
 n4:dm K C "stroke_count"
 n5:dm K C "pairs"
 mkC:Mk K C fI
 mB:xb K C "begin_stroke" fB
 mC:xb K C "come" fC
 mD:xb K C "draw" fD
 mg:mg "Pen"=some (.ref C)
section
variable{P:AF}{w:AJ}{K:A2}{mg:A5}{base:AO}{C fI fB fC fD c3 c4:AA}
def uk(C:Addr):Sp:=λvs H Q _=>∃ (x dx:Addr) (H0:Hp),vs=[.ref x]/\H x=some (.ins C dx [])/\kf H0 H/\H0 x=none/\∀ L H',kf H0 H'->H0 L=none->kR C H' x L ⟨(0,0),"black",0,0,[]⟩->Q .non H'
theorem FJ:az ["self"] ["self"] (aj Ay):=fsk (by decide +kernel)
theorem Dg(F:Fun K "__init__" "Pen.__init__" Ay f fd)(T:Cl K mg C fI fB fC fD):ke P w K mg base CX0 1 f fd ["self"] (uk C):=by
 refine F.ok FJ (λvs H Q E h=>?_) (λcdv A outer s H vs Q E hr h=>?_)
 ·obtain⟨x,dx,H0,rfl,_⟩:=h
  rfl
 ·obtain⟨x,dx,H0,rfl,ex,S0,n0,z⟩:=h
  refine⟨_,(aa (dP (pv 0) (aI (pac (ad) (pac (ad) a9))) rfl)
   (aa (dP (pv 0) ag rfl)
   (aa (dP (pv 0) ad rfl)
   (aa (dP (pv 0) ad rfl)
   (ae (dP (pv 0) (aZ a9) rfl)))))),?_⟩
  refine⟨szr rfl,λq nq=>?_⟩;have Tq:=af (o:=HO.tup [V.int 0,.int 0]) nq;have nqx:q≠x:=λe=>by rw[e,ex]at nq;cases nq
  refine⟨_,rfl,x,C,dx,[],rfl,Tq _ _ ex,T.cl,T.n1,by decide,?_⟩;refine⟨_,rfl,x,C,dx,_,rfl,a8,T.cl,T.n2,(show(1:Nat)<1000 by decide),?_⟩;refine⟨_,rfl,x,C,dx,_,rfl,a8,T.cl,T.n3,(show(2:Nat)<1000 by decide),?_⟩;refine⟨_,rfl,x,C,dx,_,rfl,a8,T.cl,T.n4,(show(3:Nat)<1000 by decide),?_⟩;refine⟨szr rfl,λL nL=>?_⟩;have nLx:L≠x:=λe=>by rw[e,a8]at nL;cases nL
  have TL:=af (o:=HO.lst []) nL;refine⟨_,rfl,x,C,dx,_,rfl,TL _ _ a8,T.cl,T.n5,(show(4:Nat)<1000 by decide),?_⟩;have S1:kf H0 (upd (upd (upd (upd (upd H q (.tup [V.int 0,.int 0])) x (.ins C dx (kJ ("place":AL) (.ref q) []))) x (.ins C dx (kJ ("colour":AL) (.str "black") (kJ ("place":AL) (.ref q) [])))) x (.ins C dx (kJ ("turning":AL) (.int 0) (kJ ("colour":AL) (.str "black") (kJ ("place":AL) (.ref q) []))))) x (.ins C dx (kJ ("stroke_count":AL) (.int 0) (kJ ("turning":AL) (.int 0) (kJ ("colour":AL) (.str "black") (kJ ("place":AL) (.ref q) [])))))) :=
   ao (ao (ao (ao (S0.trans Tq) n0) n0) n0) n0
  have n0L:=aH S1 nL;refine z L _ (ao (S1.trans TL) n0) n0L ⟨⟨dx,q,a8,?_⟩,⟨[],?_,.nil⟩⟩
  ·show(upd _ x _) q=_
   rw[am nqx,am (λe=>by rw[<- e,am nqx,am nqx,am nqx,am nqx,a8]at nL;cases nL),am nqx,am nqx,am nqx,am nqx,a8]
  ·rw[am nLx,a8]
def iG(C c3:Addr):Sp:=λvs H Q E=>∃ (x L:Addr) (H0:Hp) (S:kg),vs=[.ref x]/\kR C H x L S/\kf H0 H/\H0 x=none/\H0 L=none/\(2000<=S.n->∀ H',kf H0 H'->E (.ref c3) none H')/\(S.n<2000->∀ H',kf H0 H'->kR C H' x L { S with n:=S.n+1 }->Q .non H')
theorem Dh:az ["self"] ["self"] (aj ug):=fsk (by decide +kernel)
theorem B7(F:Fun K "begin_stroke" "Pen.begin_stroke" ug f fd)(T:Cl K mg C fI fB fC fD)(m3:mg "TooMany"=some (.ref c3))(q3:W.excIn K c3 [.type "ValueError",.type "Exception",.type "BaseException",.type "object"] "ValueError.__new__"=true)(B:Blt mg):ke P w K mg base (CXE P w) 1 f fd ["self"] (iG C c3):=by
 obtain⟨ts,ms⟩:=B.mstr;refine d8 F Dh (λvs H Q E h=>?_) (λcdv A outer s H vs Q E hr h=>?_)
 ·obtain⟨x,L,H0,S,rfl,_⟩:=h
  rfl
 ·obtain⟨x,L,H0,S,rfl,pen,S0,n0,nL,k3,k⟩:=h
  refine⟨_,(aa (aK (ap v9 (dh (pv 0) rfl) (aP (v:=.int 2000) rfl ms ⟨_,rfl⟩) (au _)) (ae (gj rfl m3 hr.hd q3 ag)) ax)
   (ae (xc (pv 0) ad F2))),?_⟩
  obtain⟨dx,q,ex,tq⟩:=pen.ex;refine⟨_,rfl,x,C,dx,_,_,rfl,ex,T.cl,T.n4,ph _ _ _,_,_,rfl,rfl,_,rfl,?_⟩;by_cases h:(2000:Int)<=(S.n:Int)
  ·exact j6 h (k3 (by lia) _ S0)
  ·refine j7 h ⟨_,rfl,x,C,dx,_,_,rfl,ex,T.cl,T.n4,ph _ _ _,_,_,rfl,rfl,dx,_,ex,(show(5:Nat)<1000 by decide),?_⟩
   exact k (by lia) _ (ao S0 n0) (pen.put (S':={ S with n:=S.n+1 }) ex tq rfl)
def inB(p:Int×Int):Bool:=good (.int p.1)&&good (.int p.2)
def aO(S:kg)(a b:Int):Int×Int:=shH (aA S.t (a,b)).1 (aA S.t (a,b)).2 S.p
def ng(C c4:Addr):Sp:=λvs H Q E=>∃ (x L:Addr) (H0:Hp) (S:kg) (a b:Int),vs=[.ref x,.int a,.int b]/\kR C H x L S/\kf H0 H/\H0 x=none/\H0 L=none/\S.t<8/\(inB (aO S a b)=false->∀ H',kf H0 H'->E (.ref c4) none H')/\(inB (aO S a b)=true->∀ H',kf H0 H'->kR C H' x L { S with p:=aO S a b }->(∀ c v,c≠x->H c=some v->H' c=some v)->Q .non H')
theorem um:az ["self","x","y","step","place"] ["self","x","y"] (aj Az):=fsk (by decide +kernel)
theorem Di{f:AA}{fd:AG}(F:Fun K "come" "Pen.come" Az f fd)(T:Cl K mg C fI fB fC fD)(m4:mg "NoHole"=some (.ref c4))(q4:W.excIn K c4 [.type "ValueError",.type "Exception",.type "BaseException",.type "object"] "ValueError.__new__"=true)
  (DT:Df K mg "turned_hole" vV fT fdT) (bT:ar K fdT ["hole","way"] []) (GT:ke P w K mg base CX0 2 fT fdT ["hole","way"] ui)
  (DS:Df K mg "shifted_hole" jR fS fdS) (bS:ar K fdS ["hole","east","north"] []) (GS:ke P w K mg base CX0 1 fS fdS ["hole","east","north"] sr)
  (DH:Df K mg "is_hole" vT fH fdH) (bH:ar K fdH ["thing"] []) (GH:ke P w K mg base CX0 3 fH fdH ["thing"] uj):ke P w K mg base (CXE P w) 4 f fd ["self","x","y"] (ng C c4):=by
 refine d8 F um (λvs H Q E h=>?_) (λcdv A outer s H vs Q E hr h=>?_)
 ·obtain⟨x,L,H0,S,a,b,rfl,_⟩:=h
  rfl
 ·obtain⟨x,L,H0,S,a,b,rfl,pen,S0,n0,nL,t8,k4,k⟩:=h
  have hr1:ki 1 _:=hr.mono (by decide);have hr2:ki 2 _:=hr.mono (by decide);refine⟨_,(aa (ay (i:=3) um.nd rfl (Or.inl rfl) (pec GT hr2 rfl DT.m DT.F.kp bT .nil aF (pac (aI (pac (pv 1) (pac (pv 2) a9))) (pac (dh (pv 0) rfl) a9))))
   (aa (ay (i:=4) um.nd rfl (Or.inl rfl) (pec GS hr1 rfl DS.m DS.F.kp bS .nil aF (pac (dh (pv 0) rfl) (pac (aD aM (pv 3) ad (λ_ _=>rfl)) (pac (aD aM (pv 3) ad (λ_ _=>rfl)) a9)))))
   (aa (aK (cP (bq (pec GH hr rfl DH.m DH.F.kp bH .nil aF (pac (pv 4) a9)))) (ae (gj rfl m4 hr.hd q4 ag)) ax)
   (ae (dP (pv 0) (pv 4) rfl))))),?_⟩
  obtain⟨dx,q,ex,tq⟩:=pen.ex;refine⟨_,rfl,_,rfl,szr rfl,λt nt=>?_⟩;have Tt:=af (o:=HO.tup [V.int a,.int b]) nt;refine⟨_,rfl,x,C,dx,_,_,rfl,Tt _ _ ex,T.cl,T.n3,jI _ _ _,t,(a,b),S.t,rfl,a8,t8,λr H1 S1 tr=>?_⟩;have S01:=Tt.trans S1;refine⟨_,rfl,x,C,dx,_,_,rfl,S01 _ _ ex,T.cl,T.n1,i0 _ _ _,_,rfl,r,_,_,_,rfl,rfl,SqT.of tr,rfl,_,rfl,r,_,_,_,rfl,rfl,SqT.of tr,rfl,q,S.p,_,_,rfl,S01 _ _ tq,λu H2 S2 tu=>?_⟩;have S02:=S01.trans S2;have tu:two H2 u (aO S a b):=tu;refine⟨_,rfl,.ref u,inB (aO S a b),rfl,.two tu (.int _) (.int _) rfl,_,rfl,?_⟩;cases hb:inB (aO S a b) with
  | false=>exact kH (k4 hb _ (S0.trans S02))
  | true =>
   refine kr ⟨_,rfl,_,rfl,x,C,dx,_,rfl,S02 _ _ ex,T.cl,T.n1,(show(5:Nat)<1000 by decide),?_⟩;refine k hb _ (ao (S0.trans S02) n0) ((pen.same S02).put (S':={ S with p:=aO S a b }) (S02 _ _ ex) tu rfl) λc v hc e=>?_
   rw[am hc];exact S02 _ _ e
def sA(S:kg)(a b:Int):kg:={ S with p:=aO S a b,ps:=S.ps++[⟨(kz S.p (aO S a b)).1,(kz S.p (aO S a b)).2,S.c⟩] }
def qz(C c3 c4:Addr):Sp:=λvs H Q E=>∃ (x L:Addr) (H0:Hp) (S:kg) (a b:Int),vs=[.ref x,.int a,.int b]/\kR C H x L S/\kf H0 H/\H0 x=none/\H0 L=none/\S.t<8/\(400<=S.ps.length->∀ H',kf H0 H'->E (.ref c3) none H')/\(S.ps.length<400->inB (aO S a b)=false->∀ H',kf H0 H'->E (.ref c4) none H') /\
 (S.ps.length<400->inB (aO S a b)=true->∀ H',kf H0 H'->kR C H' x L (sA S a b)->Q .non H')
theorem B8:az ["self","x","y","ahead"] ["self","x","y"] (aj B0):=fsk (by decide +kernel)
theorem Dj{f:AA}{fd:AG}(F:Fun K "draw" "Pen.draw" B0 f fd)(T:Cl K mg C fI fB fC fD)(m3:mg "TooMany"=some (.ref c3))(q3:W.excIn K c3 [.type "ValueError",.type "Exception",.type "BaseException",.type "object"] "ValueError.__new__"=true)(B:Blt mg)
  (bC:ar K fdC ["self","x","y"] []) (GC:ke P w K mg base (CXE P w) 4 fC fdC ["self","x","y"] (ng C c4))
  (DO:Df K mg "ordered" sOrd fO fdO) (bO:ar K fdO ["one","other"] []) (GO:ke P w K mg base CX0 1 fO fdO ["one","other"] ED):ke P w K mg base (CXE P w) 5 f fd ["self","x","y"] (qz C c3 c4):=by
 obtain⟨td,md⟩:=B.mdra;refine d8 F B8 (λvs H Q E h=>?_) (λcdv A outer s H vs Q E hr h=>?_)
 ·obtain⟨x,L,H0,S,a,b,rfl,_⟩:=h
  rfl
 ·obtain⟨x,L,H0,S,a,b,rfl,pen,S0,n0,nL,t8,k3,k4,k⟩:=h
  have hr1:ki 1 _:=hr.mono (by decide);refine⟨_,(aa (aK (ap v9 (aE bn (by rfl) B.len ybe (pac (dh (pv 0) rfl) a9)) (aP (v:=.int 400) rfl md ⟨_,rfl⟩) (au _)) (ae (gj rfl m3 hr.hd q3 ag)) ax)
   (aa (ay (i:=3) B8.nd rfl (Or.inl rfl) (dh (pv 0) rfl))
   (aa (aR (pS (pv 0) T.cl T.mC GC hr bC .nil e9 (pac (pv 1) (pac (pv 2) a9))))
   (ae (aR (cX yap yan yao bJ (dh (pv 0) rfl) (pac (aI (pac (pec GO hr1 rfl DO.m DO.F.kp bO .nil aF (pac (pv 3) (pac (dh (pv 0) rfl) a9))) (pac (dh (pv 0) rfl) a9))) a9))))))),?_⟩
  obtain⟨dx,q,ex,tq⟩:=pen.ex;obtain⟨xs,eL,dL⟩:=pen.pic;have xl:xs.length=S.ps.length:=by rw[dL.length,za4]
  refine⟨_,rfl,x,C,dx,_,_,rfl,ex,T.cl,T.n5,jx _ _ _,L,xs,rfl,.inl (SqL.of eL),_,_,rfl,rfl,_,rfl,?_⟩;by_cases h:(400:Int)<=(xs.length:Int)
  ·exact j6 h (k3 (by lia) _ S0)
  refine j7 h ⟨_,rfl,x,C,dx,_,_,rfl,ex,T.cl,T.n1,i0 _ _ _,?_⟩;refine⟨_,rfl,x,dx,_,rfl,ex,rfl,_,rfl,_,rfl,x,L,H0,S,a,b,rfl,pen,S0,n0,nL,t8,λhb H' S'=>k4 (by lia) hb H' S',λhb H1 S1 pen1 kp=>?_⟩;obtain⟨dx1,q1,ex1,tq1⟩:=pen1.ex;obtain⟨ys,eL1,dL1⟩:=pen1.pic;have yl:ys.length=S.ps.length:=by rw[dL1.length,za4]
  have qx:q≠x:=λe=>by
   have tq':H q=_:=tq;rw[e,ex]at tq';cases tq'
  refine⟨_,rfl,x,C,dx1,_,_,rfl,ex1,T.cl,T.n5,jx _ _ _,.inl ⟨rfl,_,SqL.of eL1⟩,?_⟩;refine⟨_,rfl,_,rfl,x,C,dx1,_,_,rfl,ex1,T.cl,T.n1,i0 _ _ _,q,q1,S.p,aO S a b,rfl,kp _ _ qx tq,tq1,λr H2 S2 dr=>?_⟩;refine⟨_,rfl,x,C,dx1,_,_,rfl,S2 _ _ ex1,T.cl,T.n2,nc _ _ _,szr rfl,λt nt=>?_⟩;have Tt:=af (o:=HO.tup [V.ref r,.str S.c]) nt;have S12:=S2.trans Tt;have eL2:=S12 _ _ eL1;refine⟨L,ys,_,rfl,rfl,eL2,bp (by lia),?_⟩;refine k (by lia) hb _ (ao (S1.trans S12) nL) ⟨⟨dx1,q1,?_,?_⟩,⟨ys++[.ref t],a8,?_⟩⟩
  ·rw[am pen1.ne]
   exact S12 _ _ ex1
  ·show(upd _ L _) q1=_
   rw[am (λe=>by
    have tq':H1 q1=_:=tq1;rw[e,eL1]at tq';cases tq')]
   exact S12 _ _ tq1
  ·show aG _ _ ((S.ps++[_]).map pD)
   rw[zae];refine((dL1.same S12).lT eL2).snoc (kj.lT eL2 ?_);exact .tup a8 (.cons (dr.same Tt) (.cons (.str _) .nil))
end
section
variable{P:AF}{w:AJ}{K:A2}{mg:A5}{base:AO}
def wq:Sp:=λvs H Q _=>∃ a b:Nat,vs=[.int a,.int b]/\a<8/\b<8/\Q (.int (kP a b:Nat)) H
theorem B9:az ["first","second","quarters","mirrored"] ["first","second"] (aj Aw):=fsk (by decide +kernel)
theorem FK{f:AA}{fd:AG}(D:Df K mg "behind" Aw f fd)(DM:Df K mg "is_mirroring" Av fM fdM)(bM:ar K fdM ["way"] [])(GM:ke P w K mg base CX0 1 fM fdM ["way"] wg)(hqua:∃ t,mg "QUARTERS"=some (.int 4 t)) :
  ke P w K mg base CX0 2 f fd ["first","second"] wq:=by
 obtain⟨tq,qua⟩:=hqua;refine D.F.ok B9 (λvs H Q E h=>?_) (λcdv A outer s H vs Q E hr h=>?_)
 ·obtain⟨a,b,rfl,_⟩:=h
  rfl
 ·obtain⟨a,b,rfl,ha,hb,z⟩:=h
  refine⟨_,(aa (ay (i:=2) B9.nd rfl (Or.inl rfl) (eN (bq (pec GM hr rfl DM.m DM.F.kp bM .nil aF (pac (pv 1) a9))) (aq dQ (pv 1) (pv 0)) (aq aW (pv 1) (pv 0))))
   (aa (ay (i:=3) B9.nd rfl (Or.inl rfl) (cU ie (pec GM hr rfl DM.m DM.F.kp bM .nil aF (pac (pv 0) a9)) (pec GM hr rfl DM.m DM.F.kp bM .nil aF (pac (pv 1) a9)) (au _)))
   (ae (av (aq aW (aq aT (pv 2) (aP (v:=.int 4) rfl qua ⟨_,rfl⟩)) (eN (bq (pv 3)) (aP (v:=.int 4) rfl qua ⟨_,rfl⟩) ad)))))),?_⟩
  have fin:∀ m:Int,m=(if 4<=b then (b:Int)-a else (b:Int)+a)->m % 4+(if decide (4<=a)=decide (4<=b) then 0 else 4)=((kP a b:Nat):Int):=λm hm=>by
   unfold kP;rw[<- hm];have:=ydf m (show(4:Int)≠0 by decide);split<;>lia
  refine' bz (λσ H2=>(∃ m v,σ=[some (.int a),some (.int b),some (.int m),v]/\m=(if 4<=b then (b:Int)-a else (b:Int)+a))/\H2=H) (λgo=>_) _
  rotate_left
  ·refine⟨_,rfl,b,rfl,_,rfl,ifC (λhc=>?_) (λhc=>?_)⟩
   ·have h4:4<=b:=yae hc
    exact⟨_,rfl,_,rfl,_,_,rfl,rfl,go _ _ ⟨⟨_,_,rfl,by rw[yad h4]⟩,rfl⟩⟩
   ·have h4:¬ 4<=b:=yeg hc
    exact⟨_,rfl,_,rfl,_,_,rfl,rfl,go _ _ ⟨⟨_,_,rfl,by rw[yac h4]⟩,rfl⟩⟩
  ·rintro σ H2 ⟨⟨m,v,rfl,hm⟩,rfl⟩
   refine⟨_,rfl,a,rfl,_,rfl,b,rfl,rfl,?_⟩;refine⟨_,rfl,_,_,rfl,rfl,(by show(0:Int)<4;decide),_,rfl,_,rfl,ifC (λhc=>?_) (λhc=>?_)⟩
   ·refine⟨_,_,rfl,rfl,?_⟩
    have hne:decide (4<=a)≠decide (4<=b):=λe=>by rw[e]at hc;simp at hc
    have:=fin m hm;rw[yac hne]at this;show Q (.int (m % 4+4)) _;rw[this];exact z
   ·refine⟨_,_,rfl,rfl,?_⟩
    have he:decide (4<=a)=decide (4<=b):=by
     simpa using hc
    have:=fin m hm;rw[yad he]at this;show Q (.int (m % 4+0)) _;rw[this];exact z
end
def sC:Sp:=λvs H Q _=>∃ u k,vs=[u]/\Knd H u k/\(∀ z,u=.str z->z.length<=sizeLine)/\∀ H',kf H H'->Q (.bl (lS u)) H'
section
variable{P:AF}{w:AJ}{K:A2}{mg:A5}{base:AO}
theorem nh{z:AL}(h:1<=z.length)(h':z.length<=8):lS (.str z)=z.cps.toList.all cz:=by
 show(decide (1<=z.length)&&decide (z.length<=8)&&z.cps.toList.all cz)=_;rw[yab h,yab h'];rfl
theorem k9{z:AL}(h:¬ (1<=z.length/\z.length<=8)):lS (.str z)=false:=by
 show(decide (1<=z.length)&&decide (z.length<=8)&&z.cps.toList.all cz)=_;by_cases h1:1<=z.length
 ·rw[yaa (p:=z.length<=8) λh2=>h ⟨h1,h2⟩,Bool.and_false,zbz]
 ·rw[yaa h1,zbz,zbz]
theorem FL(cs:List Nat):(cs.map cz).all id=cs.all cz:=by
 rw[List.all_map];rfl
theorem Ba:az ["thing"] ["thing"] (aj jS):=fsk (by decide +kernel)
theorem y7(D:Df K mg "is_colour" jS f fd)(B:Blt mg):ke P w K mg base CX0 1 f fd ["thing"] sC:=by
 obtain⟨tm,most⟩:=B.mlet;refine D.F.ok Ba (λvs H Q E h=>?_) (λcdv A outer s H vs Q E hr h=>?_)
 ·obtain⟨u,k,rfl,_⟩:=h
  rfl
 ·obtain⟨u,k,rfl,kd,hz,q⟩:=h
  refine⟨_,aa (aK (PW.pt (dZ (cP (bq (aE cb (by rfl) B.isi yax (bb (pv 0) (bb (cr (v:=.ty "str") (by rfl) B.str yc8 rfl) a9)))))
    (f6 (cP (qX iW iW ad (aE dC (by rfl) B.len ybe (bb (pv 0) a9)) (aP (v:=.int 8) rfl most ⟨_,rfl⟩))))))
    (ae (av jF)) ax)
   (ae (av (aE (rn rfl) (by rfl) B.all boot_all (bb
    (iR (N':=["sign"]) (idx:=[none]) (eR (by kernel_rfl)) (by kernel_rfl) rfl (z5 (pv 0)) (λ_ _ _ _ _=>aQ (i:=0) (show(["sign"]:AH).Nodup by decide +kernel) rfl (Or.inl rfl)) (λ_ _ _ _ _=>iQ)
     (λ_ _ _ _ _=>iS qa qa ag (pv 0) ag)) a9)))),?_⟩
  refine⟨_,rfl,u,k,.str,rfl,kd,_,rfl,?_⟩;cases kd with
  | str z =>
   have hz':=hz z rfl;refine kr ⟨_,rfl,z,rfl,hz',_,_,rfl,rfl,_,rfl,?_⟩;by_cases h1:(1:Int)<=(z.length:Int)
   ·refine j6 h1 ⟨_,_,rfl,rfl,_,rfl,?_⟩
    by_cases h2:(z.length:Int)<=8
    ·rw[yab h2]
     refine kr ⟨_,rfl,z,rfl,λD nD=>?_⟩;refine mI (J:=Its z) (n:=z.cps.size) (λi σ2 H2=>(∃ v,σ2=[v])/\kf H H2/\H2 D=some (.lst (((z.cps.toList.take i).map cz).map V.bl))) ?_ (λi σ2 H2 hi _=>hi) ?_ ?_
     ·exact⟨⟨_,rfl⟩,af nD,a8⟩
     ·rintro σ2 H2 ⟨⟨v,rfl⟩,S2,e2⟩
      refine⟨rfl,D,z.cps.toList.map cz,rfl,SqL.of ?_,?_⟩
      ·rw[e2,zav (by rw[zal];exact za5 _)]
      ·rw[FL,<- nh (by lia) (by lia)]
       exact q H2 S2
     ·rintro i σ2 H2 hi ⟨⟨v,rfl⟩,S2,e2⟩ x H3 ⟨rfl,c,hc,rfl⟩
      refine⟨_,rfl,_,_,rfl,rfl,_,rfl,?_⟩;have fin:∀ b:Bool,b=cz c->∃ ys,H3 D=some (.lst ys)/\ys.length<sizeLine/\((∃ v,[some (V.str ⟨#[c]⟩)]=[v])/\kf H (upd H3 D (.lst (ys++[V.bl b])))/\upd H3 D (.lst (ys++[V.bl b])) D=some (.lst (((z.cps.toList.take (i+1)).map cz).map V.bl))):=by
       rintro b rfl;refine⟨_,e2,?_,⟨_,rfl⟩,?_,?_⟩
       ·rw[za4,za4,zaw]
        exact bp (by have:=Nat.min_le_right i z.cps.toList.length;have e:=Cv z;lia)
       ·intro b' o' hb'
        rw[am (bh hb' nD)];exact S2 _ _ hb'
       ·rw[a8,ydm,zae,zae,zb4,hc]
        rfl
      by_cases g1:97<=c
      ·refine aw ?_ ⟨_,_,rfl,rfl,fin _ ?_⟩
       ·show(!decide (([c]:List Nat)<("a":AL).cps.toList))=true
        rw[Es,lt1,yaa (by grind)];rfl
       ·show(!decide (("z":AL).cps.toList<([c]:List Nat)))=_
        rw[cps_z,lt1];unfold cz;rw[yab g1,Bool.true_and];by_cases g2:c<=122
        ·rw[yaa (by grind),yab g2];rfl
        ·rw[yab (by grind),yaa g2];rfl
      ·refine ah ?_ (fin _ ?_)
       ·show(!decide (([c]:List Nat)<("a":AL).cps.toList))=false
        rw[Es,lt1,yab (by grind)];rfl
       ·unfold cz
        rw[yaa g1,zbz]
    ·rw[yaa h2]
     refine kH ?_;rw[<- k9 (z:=z) (by lia)];exact q H (kf.refl H)
   ·refine j7 h1 ⟨_,rfl,kH ?_⟩
    rw[<- k9 (z:=z) (by lia)];exact q H (kf.refl H)
  | int i=>exact kH (q H (kf.refl H))
  | bl b=>exact kH (q H (kf.refl H))
  | non=>exact kH (q H (kf.refl H))
  | lst e=>exact kH (q H (kf.refl H))
  | tup e=>exact kH (q H (kf.refl H))
  | dic e=>exact kH (q H (kf.refl H))
end
inductive Sk where
 | line (l:Bool) (a b:Int)
 | by_ (a b:Int)
 | ink (c:Str)
 | back (u:List Sk)
 | times (m:Nat) (u:List Sk)
 | turn (k:Nat) (u:List Sk)
abbrev Ad:=List Sk
mutual
inductive kI(H:Hp):V->Sk->Prop where
 | line {q:Addr} {l:Bool} {a b:Int} (e:H q=some (.tup [.str "line",.int a,.int b])):kI H (.ref q) (.line l a b)
 | by_ {q:Addr} {a b:Int} (e:H q=some (.tup [.str "by",.int a,.int b])):kI H (.ref q) (.by_ a b)
 | ink {q:Addr} {c:Str} (e:H q=some (.tup [.str "ink",.str c])):kI H (.ref q) (.ink c)
 | back {q l:Addr} {ys:List V} {u:List Sk} (e:H q=some (.tup [.str "back",.ref l])) (el:H l=some (.lst ys)) (h:aY H ys u):kI H (.ref q) (.back u)
 | times {q l:Addr} {ys:List V} {m:Nat} {u:List Sk} (e:H q=some (.tup [.str "times",.int (m:Int),.ref l])) (el:H l=some (.lst ys)) (h:aY H ys u):kI H (.ref q) (.times m u)
 | turn {q l:Addr} {ys:List V} {k:Nat} {u:List Sk} (e:H q=some (.tup [.str "turn",.int (k:Int),.ref l])) (el:H l=some (.lst ys)) (h:aY H ys u):kI H (.ref q) (.turn k u)
inductive aY(H:Hp):List V->List Sk->Prop where
 | nil:aY H [] []
 | cons {v:V} {s:Sk} {vs:List V} {ss:List Sk} (h:kI H v s) (t:aY H vs ss):aY H (v::vs) (s::ss)
end
mutual
theorem kI.same{H:Hp}(S:kf H H'):∀ {s:Sk} {v:V},kI H v s->kI H' v s
 | .line _ _ _=>by
  intro g;cases g with
  | line e=>exact .line (S _ _ e)
 | .by_ _ _=>by
  intro g;cases g with
  | by_ e=>exact .by_ (S _ _ e)
 | .ink _=>by
  intro g;cases g with
  | ink e=>exact .ink (S _ _ e)
 | .back _=>by
  intro g;cases g with
  | back e el h=>exact .back (S _ _ e) (S _ _ el) (aY.same S h)
 | .times _ _=>by
  intro g;cases g with
  | times e el h=>exact .times (S _ _ e) (S _ _ el) (aY.same S h)
 | .turn _ _=>by
  intro g;cases g with
  | turn e el h=>exact .turn (S _ _ e) (S _ _ el) (aY.same S h)
theorem aY.same{H:Hp}(S:kf H H'):∀ {ss:Ad} {vs:Ac},aY H vs ss->aY H' vs ss
 | []=>by intro g;cases g;exact .nil
 | _::_=>by
  intro g;cases g with
  | cons h t=>exact .cons (kI.same S h) (aY.same S t)
end
theorem aY.length:∀ {ss:Ad} {vs:Ac},aY H vs ss->vs.length=ss.length
 | []=>by intro g;cases g;exact rfl
 | _::_=>by
  intro g;cases g with
  | cons _ t=>exact by rw[za2,za2,aY.length t]
theorem aY.at:∀ {ss:Ad} {vs:Ac},aY H vs ss->∀ {i:Nat} {v:V},vs[i]?=some v->∃ s,ss[i]?=some s/\kI H v s
 | []=>by
  intro g i v e;cases g;cases e
 | s::ss=>by
  intro g i v e;cases g with
  | cons h t =>
  cases i with
  | zero =>
   cases e;exact⟨s,rfl,h⟩
  | succ i=>exact aY.at t (i:=i) e
theorem aY.snoc:∀ {ss:Ad} {vs:Ac},aY H vs ss->∀ {v:V} {s:Sk},kI H v s->aY H (vs++[v]) (ss++[s])
 | []=>by
  intro g v s h;cases g;exact .cons h .nil
 | _::_=>by
  intro g v s h;cases g with
  | cons q t=>exact .cons q (aY.snoc t h)
theorem kI.ref(h:kI H v s):∃ r,v=.ref r:=by
 cases h<;>exact⟨_,rfl⟩
mutual
noncomputable def Sk.gd:Sk->Nat->Prop
 | .line _ _ _,_=>True
 | .by_ _ _,_=>True
 | .ink _,_=>True
 | .back u,d=>∃ e,d=e+1/\gds u e
 | .times m u,d=>m<=60/\∃ e,d=e+1/\gds u e
 | .turn k u,d=>k<8/\∃ e,d=e+1/\gds u e
noncomputable def gds:List Sk->Nat->Prop
 | [],_=>True
 | s::r,d=>s.gd d/\gds r d
end
theorem uo:∀ {ss:Ad} {d:Nat},gds ss d->∀ s∈ss,s.gd d
 | s::r,d,h,x,hx=>by
  simp only[gds]at h;rcases za0.mp hx with rfl | hx
  ·exact h.1
  ·exact uo h.2 x hx
theorem Bb:∀ {ss:Ad} {d:Nat},(∀ s∈ss,s.gd d)->gds ss d
 | [],_,_=>by simp only[gds]
 | s::r,d,h=>by
  simp only[gds];exact⟨h s za1,Bb λx hx=>h x (za3 _ hx)⟩
def cM:List (Str×(Int×Int)):=[("n",(0,1)),("ne",(1,1)),("e",(1,0)),("se",(1,-1)),("s",(0,-1)),("sw",(-1,-1)),("w",(-1,0)),("nw",(-1,1))]
def lG(a b:Int):Option Str:=(cM.find? λx=>decide (x.2=(a,b))).map (·.1)
def ij(a b:Int):List Str:=match lG a b with
 | some x=>[x]
 | none=>["line",nT a,nT b]
def lnW:Bool->Int->Int->List Str
 | true,a,b=>["line",nT a,nT b]
 | false,a,b=>ij a b
mutual
noncomputable def Sk.wd:Sk->List Str
 | .line l a b=>lnW l a b
 | .by_ a b=>["by",nT a,nT b]
 | .ink c=>["ink",c]
 | .back u=>"("::(wds u++[(")":Str)])
 | .times m u=>nT (m:Int)::"times"::"("::(wds u++[(")":Str)])
 | .turn k u=>"turn"::nT (k:Int)::"("::(wds u++[(")":Str)])
noncomputable def wds:List Sk->List Str
 | []=>[]
 | s::r=>s.wd++wds r
end
theorem qA:∀ (u v:Ad),wds (u++v)=wds u++wds v
 | [],v=>by simp only[zbd,wds]
 | s::u,v=>by simp only[zb1,wds,qA u v,zah]
mutual
noncomputable def Sk.cn:Sk->Prop
 | .line l _ _=>l=false
 | .by_ _ _=>True
 | .ink _=>True
 | .back u=>cns u
 | .times _ u=>cns u
 | .turn _ u=>cns u
noncomputable def cns:List Sk->Prop
 | []=>True
 | s::r=>s.cn/\cns r
end
theorem Bc:∀ {u:Ad},cns u->∀ s∈u,s.cn
 | s::r,h,x,hx=>by
  simp only[cns]at h;rcases za0.mp hx with rfl | hx
  ·exact h.1
  ·exact Bc h.2 x hx
mutual
noncomputable def Sk.vd:Sk->Nat->Prop
 | .line _ a b,_=>(-9<=a/\a<=9)/\(-9<=b/\b<=9)/\¬ (a=0/\b=0)
 | .by_ a b,_=>(-1000000000<=a/\a<=1000000000)/\(-1000000000<=b/\b<=1000000000)
 | .ink c,_=>lS (.str c)=true
 | .back u,d=>u≠[]/\∃ e,d=e+1/\vds u e
 | .times m u,d=>1<=m/\m<=60/\u≠[]/\∃ e,d=e+1/\vds u e
 | .turn k u,d=>k<8/\u≠[]/\∃ e,d=e+1/\vds u e
noncomputable def vds:List Sk->Nat->Prop
 | [],_=>True
 | s::r,d=>s.vd d/\vds r d
end
inductive Res where
 | ok (S:kg)
 | many
 | hole
def Res.bind:Res->(kg->Res)->Res
 | .ok S,f=>f S
 | .many,_=>.many
 | .hole,_=>.hole
def bg(S:kg)(f:kg->Res):Res:=if 2000<=S.n then .many else f { S with n:=S.n+1 }
def tmR(f:kg->Res):Nat->kg->Res
 | 0,S=>.ok S
 | m+1,S=>(bg S f).bind (tmR f m)
def gr(S:kg)(a b:Int):Res:=if 400<=S.ps.length then .many else if inB (aO S a b)=true then .ok (sA S a b) else .hole
def byR(S:kg)(a b:Int):Res:=if inB (aO S a b)=true then .ok { S with p:=aO S a b } else .hole
mutual
noncomputable def stR:Sk->kg->Res
 | .line _ a b,S=>gr S a b
 | .by_ a b,S=>byR S a b
 | .ink c,S=>.ok { S with c:=c }
 | .back u,S=>(ko u S).bind λS2=>.ok { S2 with p:=S.p,c:=S.c }
 | .times m u,S=>tmR (ko u) m S
 | .turn k u,S=>(ko u { S with t:=kP k S.t }).bind λS2=>.ok { S2 with t:=S.t }
noncomputable def ko:List Sk->kg->Res
 | [],S=>.ok S
 | s::r,S=>(bg S (stR s)).bind (ko r)
end
def Kp(S:kg)(R:Res):Prop:=∀ S',R=.ok S'->S'.t=S.t/\(S.ps.length<=400->S'.ps.length<=400)
theorem qB{R:Res}{f:kg->Res}(h:Kp S R)(g:∀ S1,R=.ok S1->Kp S1 (f S1)):Kp S (R.bind f):=λS' e=>by
 cases R with
 | ok S1 =>
  obtain⟨a,b⟩:=h S1 rfl;obtain⟨c,d⟩:=g S1 rfl S' e;exact⟨c.trans a,λz=>d (b z)⟩
 | many=>cases e
 | hole=>cases e
theorem EE{S:kg}(h:Kp { S with n:=S.n+1 } (f { S with n:=S.n+1 })):Kp S (bg S f):=λS' e=>by
 unfold bg at e;split at e
 ·cases e
 ·exact h S' e
theorem EF{f:kg->Res}(h:∀ S,Kp S (f S)):∀ (m:Nat) (S:kg),Kp S (tmR f m S)
 | 0,S=>λS' e=>by cases e;exact⟨rfl,id⟩
 | m+1,S=>qB (EE (h _)) λS1 _=>EF h m S1
mutual
theorem Bd:∀ (s:Sk) (S:kg),Kp S (stR s S)
 | .line _ a b,S=>λS' e=>by
  simp only[stR,gr]at e;split at e
  ·cases e
  ·split at e
   ·cases e
    refine⟨rfl,λ_=>?_⟩;show(S.ps++[_]).length<=_;rw[za7];show _+1<=_
    lia
   ·cases e
 | .by_ a b,S=>λS' e=>by
  simp only[stR,byR]at e;split at e
  ·cases e;exact⟨rfl,id⟩
  ·cases e
 | .ink c,S=>λS' e=>by simp only[stR]at e;cases e;exact⟨rfl,id⟩
 | .back u,S=>by
  simp only[stR];exact qB (gz u S) λS1 _ S' e=>by cases e;exact⟨rfl,id⟩
 | .times m u,S=>by
  simp only[stR];exact EF (gz u) m S
 | .turn k u,S=>by
  simp only[stR];intro S' e;have h:=gz u { S with t:=kP k S.t };cases hR:ko u { S with t:=kP k S.t } with
  | ok S1 =>
   rw[hR]at e;cases e;exact⟨rfl,λz=>(h S1 hR).2 z⟩
  | many=>rw[hR]at e;cases e
  | hole=>rw[hR]at e;cases e
theorem gz:∀ (u:Ad) (S:kg),Kp S (ko u S)
 | [],S=>λS' e=>by simp only[ko]at e;cases e;exact⟨rfl,id⟩
 | s::r,S=>by
  simp only[ko];exact qB (EE (Bd s _)) λS1 _=>gz r S1
end
def less(H:Hp)(x L:Addr):Hp:=λc=>if c=x\/c=L then none else H c
theorem y8{x:AA}:kf (less H x L) H:=λc o e=>by
 unfold less at e;split at e
 ·cases e
 ·exact e
theorem uq{x:AA}:less H x L x=none:=yad (.inl rfl)
theorem FN{x:AA}:less H x L L=none:=yad (.inr rfl)
theorem Dk{H0:Hp}{x:AA}(S:kf H0 H)(n1:H0 x=none)(n2:H0 L=none):kf H0 (less H x L):=λc o e=>by
 unfold less;rw[yac]
 ·exact S _ _ e
 ·rintro(rfl | rfl)
  ·rw[n1]at e;cases e
  ·rw[n2]at e;cases e
theorem Dl{H:Hp}{x:AA}(e:H c=some o)(h1:c≠x)(h2:c≠L):less H x L c=some o:=by
 unfold less;rw[yac (λz=>z.elim h1 h2)];exact e
def Out(C c3 c4:Addr)(H0:Hp)(x L:Addr)(R:Res)(Q:VK)(E:XK):Prop:=(R=.many->∀ H',kf H0 H'->E (.ref c3) none H')/\(R=.hole->∀ H',kf H0 H'->E (.ref c4) none H')/\(∀ S',R=.ok S'->∀ H',kf H0 H'->kR C H' x L S'->Q .non H')
section
variable{P:AF}{w:AJ}{K:A2}{mg:A5}{base:AO}{C fI fB fC fD c2 c3 c4:AA}
def jC(C c3 c4:Addr)(d:Nat):Sp:=λvs H Q E=>∃ (x L a:Addr) (H0:Hp) (S:kg) (xs:List V) (sts:List Sk),vs=[.ref x,.ref a]/\kR C H x L S/\kf H0 H/\H0 x=none/\H0 L=none/\H0 a=some (.lst xs)/\aY H0 xs sts/\S.t<8/\(∃ e,d=e+1/\gds sts e)/\Out C c3 c4 H0 x L (ko sts S) Q E
theorem Dm:ke P w K mg base CX k f fd ["pen","strokes"] (jC C c3 c4 0) :=
 ⟨λ_ _ _ _ h=>by obtain⟨_,_,_,_,_,_,_,_,_,_,_,_,_,_,_,⟨e,h,_⟩,_⟩:=h;lia,λ_ _ _ _ _ _ _ _ _ _ _ _ _ h=>by obtain⟨_,_,_,_,_,_,_,_,_,_,_,_,_,_,_,⟨e,h,_⟩,_⟩:=h;omega⟩
def Be(C c3 c4:Addr)(d:Nat):Sp:=λvs H Q E=>∃ (x L a:Addr) (H0:Hp) (S:kg) (xs:List V) (sts:List Sk),vs=[.ref x,.ref a]/\kR C H x L S/\kf H0 H/\H0 x=none/\H0 L=none/\H0 a=some (.lst xs)/\aY H0 xs sts/\S.t<8/\(∃ e,d=e+1/\gds sts e)/\Out C c3 c4 H0 x L (stR (.back sts) S) Q E
theorem ur:az ["pen","strokes","place","colour"] ["pen","strokes"] (aj sh):=fsk (by decide +kernel)
theorem Dn{f:AA}{fd:AG}{d:Nat}(D:Df K mg "do_and_come_back" sh f fd)(T:Cl K mg C fI fB fC fD)
  (DA:Df K mg "do_all" si fA fdA) (bA:ar K fdA ["pen","strokes"] []) (GA:ke P w K mg base (CXE P w) k fA fdA ["pen","strokes"] (jC C c3 c4 d)):ke P w K mg base (CXE P w) (k+1) f fd ["pen","strokes"] (Be C c3 c4 d):=by
 refine d8 D.F ur (λvs H Q E h=>?_) (λcdv A outer s H vs Q E hr h=>?_)
 ·obtain⟨x,L,a,H0,S,xs,sts,rfl,_⟩:=h
  rfl
 ·obtain⟨x,L,a,H0,S,xs,sts,rfl,pen,S0,n0,nL,ea,da,t8,gd,k3,k4,kk⟩:=h
  refine⟨_,(aa (ay (i:=2) ur.nd rfl (Or.inl rfl) (dh (pv 0) rfl))
   (aa (ay (i:=3) ur.nd rfl (Or.inl rfl) (dh (pv 0) rfl))
   (aa (aR (pec GA hr rfl DA.m DA.F.kp bA .nil e9 (pac (pv 0) (pac (pv 1) a9))))
   (aa (dP (pv 0) (pv 2) rfl)
   (ae (dP (pv 0) (pv 3) rfl)))))),?_⟩
  obtain⟨dx,q,ex,tq⟩:=pen.ex;refine⟨_,rfl,x,C,dx,_,_,rfl,ex,T.cl,T.n1,i0 _ _ _,?_⟩;refine⟨_,rfl,x,C,dx,_,_,rfl,ex,T.cl,T.n2,nc _ _ _,?_⟩;have Sl:=Dk (x:=x) (L:=L) S0 n0 nL;refine⟨_,rfl,_,rfl,x,L,a,less H x L,S,xs,sts,rfl,pen,y8,uq,FN,Sl _ _ ea,da.same Sl,t8,gd,λe H' S'=>k3 (by simp only[stR];rw[e];rfl) H' (Sl.trans S'),λe H' S'=>k4 (by simp only[stR];rw[e];rfl) H' (Sl.trans S'),λS2 e H' S' pen2=>?_⟩;have tq':two H' q S.p:=S' _ _ (Dl tq (λz=>by rw[z]at tq;rw[show H x=_ from tq]at ex;cases ex) (λz=>by
   obtain⟨ys,el,_⟩:=pen.pic;rw[z]at tq;rw[show H L=_ from tq]at el;cases el))
  obtain⟨dx2,q2,ex2,tq2⟩:=pen2.ex;refine⟨_,rfl,_,rfl,x,C,dx2,_,rfl,ex2,T.cl,T.n1,(show(5:Nat)<1000 by decide),?_⟩;have pen3:kR C (upd H' x (.ins C dx2 (lj q L { S2 with p:=S.p }))) x L { S2 with p:=S.p }:=pen2.put ex2 tq' rfl;have S3:kf (less H x L) (upd H' x (.ins C dx2 (lj q L { S2 with p:=S.p }))):=ao S' uq;rw[xZ q2 q L S2 S.p];revert pen3 S3;generalize (upd H' x (.ins C dx2 (lj q L { S2 with p:=S.p })))=H3;intro pen3 S3;obtain⟨dx3,q3,ex3,tq3⟩:=pen3.ex;refine⟨_,rfl,_,rfl,x,C,dx3,_,rfl,ex3,T.cl,T.n2,(show(5:Nat)<1000 by decide),?_⟩;exact kk { S2 with p:=S.p,c:=S.c } (by simp only[stR];rw[e];rfl) _ (Sl.trans (ao S3 uq)) (pen3.put (S':={ S2 with p:=S.p,c:=S.c }) ex3 tq3 rfl)
def wt(C c3 c4:Addr)(d:Nat):Sp:=λvs H Q E=>∃ (x L a:Addr) (H0:Hp) (S:kg) (xs:List V) (m:Nat) (sts:List Sk),vs=[.ref x,.int (m:Int),.ref a]/\kR C H x L S/\kf H0 H/\H0 x=none/\H0 L=none/\H0 a=some (.lst xs)/\aY H0 xs sts/\S.t<8/\m<=60/\(∃ e,d=e+1/\gds sts e)/\Out C c3 c4 H0 x L (stR (.times m sts) S) Q E
theorem wu:az ["pen","rounds","strokes","at"] ["pen","rounds","strokes"] (aj mV):=fsk (by decide +kernel)
theorem Bf{f:AA}{fd:AG}{d:Nat}(D:Df K mg "do_times" mV f fd)(T:Cl K mg C fI fB fC fD)(B:Blt mg)
  (bB:ar K fdB ["self"] []) (GB:ke P w K mg base (CXE P w) 1 fB fdB ["self"] (iG C c3))
  (DA:Df K mg "do_all" si fA fdA) (bA:ar K fdA ["pen","strokes"] []) (GA:ke P w K mg base (CXE P w) k fA fdA ["pen","strokes"] (jC C c3 c4 d)) (h1:1<=k):ke P w K mg base (CXE P w) (k+1) f fd ["pen","rounds","strokes"] (wt C c3 c4 d):=by
 refine d8 D.F wu (λvs H Q E h=>?_) (λcdv A outer s H vs Q E hr h=>?_)
 ·obtain⟨x,L,a,H0,S,xs,m,sts,rfl,_⟩:=h
  rfl
 ·obtain⟨x,L,a,H0,S,xs,m,sts,rfl,pen,S0,n0,nL,ea,da,t8,m60,gd,k3,k4,kk⟩:=h
  have hr1:ki 1 _:=hr.mono h1;refine⟨_,(ae (cQ PassesOwn.leaving rfl (dD rfl B.range (pac (pv 1) a9)) (aQ (i:=3) wu.nd rfl (Or.inl rfl)) (aa (aR (qZ (pv 0) T.cl T.mB GB hr1 bB .nil e9))
   (ae (aR (pec GA hr rfl DA.m DA.F.kp bA .nil e9 (pac (pv 0) (pac (pv 2) a9)))))))),?_⟩
  refine⟨_,rfl,_,rfl,by lia,by lia,?_⟩;rw[show((m:Int)).toNat=m from ybx m];simp only[stR]at k3 k4 kk;refine eQ (λi σ H1=>(∃ v3,σ=[some (.ref x),some (.int (m:Int)),some (.ref a),v3])/\kf H0 H1/\∃ Si,kR C H1 x L Si/\tmR (ko sts) m S=tmR (ko sts) (m-i) Si/\Si.t=S.t) ⟨⟨_,rfl⟩,S0,S,pen,rfl,rfl⟩ ?_ ?_
  ·rintro i σ H1 hi ⟨⟨v3,rfl⟩,S1,Si,peni,er,ti⟩
   obtain⟨j,hj⟩:∃ j,m-i=j+1:=⟨m-i-1,by grind⟩;rw[hj]at er;have er':tmR (ko sts) m S=(bg Si (ko sts)).bind (tmR (ko sts) j):=er;obtain⟨dx,q,ex,tq⟩:=peni.ex;refine⟨_,rfl,x,dx,_,rfl,ex,rfl,x,L,H0,Si,rfl,peni,S1,n0,nL,λh H' S'=>k3 (by rw[er',bg,yad h];rfl) H' S',λh H2 S2 pen2=>?_⟩;have eb:bg Si (ko sts)=ko sts { Si with n:=Si.n+1 }:=by rw[bg,yac (by lia)]
   rw[eb]at er';refine⟨_,rfl,_,rfl,x,L,a,H0,{ Si with n:=Si.n+1 },xs,sts,rfl,pen2,S2,n0,nL,ea,da,(by show Si.t<8;rw[ti];exact t8),gd,λe H' S'=>k3 (by rw[er',e];rfl) H' S',λe H' S'=>k4 (by rw[er',e];rfl) H' S',λS' e H' Ss p'=>?_⟩;refine⟨⟨_,rfl⟩,Ss,S',p',?_,?_⟩
   ·rw[er',e,show m-(i+1)=j by grind]
    rfl
   ·exact((gz sts _ S' e).1).trans ti
  ·rintro σ H1 ⟨⟨v3,rfl⟩,S1,Si,peni,er,ti⟩
   rw[Nat.sub_self]at er;exact kk Si er H1 S1 peni
def sD(C c3 c4:Addr)(d:Nat):Sp:=λvs H Q E=>∃ (x L a:Addr) (H0:Hp) (S:kg) (xs:List V) (m:Nat) (sts:List Sk),vs=[.ref x,.int (m:Int),.ref a]/\kR C H x L S/\kf H0 H/\H0 x=none/\H0 L=none/\H0 a=some (.lst xs)/\aY H0 xs sts/\S.t<8/\m<8/\(∃ e,d=e+1/\gds sts e)/\Out C c3 c4 H0 x L (stR (.turn m sts) S) Q E
theorem sE:az ["pen","way","strokes","ahead"] ["pen","way","strokes"] (aj iP):=fsk (by decide +kernel)
theorem y9{f:AA}{fd:AG}{d:Nat}(D:Df K mg "do_turned" iP f fd)(T:Cl K mg C fI fB fC fD)
  (DH:Df K mg "behind" Aw fH fdH) (bH:ar K fdH ["first","second"] []) (GH:ke P w K mg base CX0 2 fH fdH ["first","second"] wq)
  (DA:Df K mg "do_all" si fA fdA) (bA:ar K fdA ["pen","strokes"] []) (GA:ke P w K mg base (CXE P w) k fA fdA ["pen","strokes"] (jC C c3 c4 d)) (h2:2<=k):ke P w K mg base (CXE P w) (k+1) f fd ["pen","way","strokes"] (sD C c3 c4 d):=by
 refine d8 D.F sE (λvs H Q E h=>?_) (λcdv A outer s H vs Q E hr h=>?_)
 ·obtain⟨x,L,a,H0,S,xs,m,sts,rfl,_⟩:=h
  rfl
 ·obtain⟨x,L,a,H0,S,xs,m,sts,rfl,pen,S0,n0,nL,ea,da,t8,m8,gd,k3,k4,kk⟩:=h
  have hr2:ki 2 _:=hr.mono h2;refine⟨_,(aa (ay (i:=3) sE.nd rfl (Or.inl rfl) (dh (pv 0) rfl))
   (aa (dP (pv 0) (pec GH hr2 rfl DH.m DH.F.kp bH .nil aF (pac (pv 1) (pac (pv 3) a9))) rfl)
   (aa (aR (pec GA hr rfl DA.m DA.F.kp bA .nil e9 (pac (pv 0) (pac (pv 2) a9))))
   (ae (dP (pv 0) (pv 3) rfl))))),?_⟩
  obtain⟨dx,q,ex,tq⟩:=pen.ex;refine⟨_,rfl,x,C,dx,_,_,rfl,ex,T.cl,T.n3,jI _ _ _,?_⟩;refine⟨_,rfl,_,rfl,m,S.t,rfl,m8,t8,_,rfl,x,C,dx,_,rfl,ex,T.cl,T.n3,(show(5:Nat)<1000 by decide),?_⟩;have pen1:kR C (upd H x (.ins C dx (lj q L { S with t:=kP m S.t }))) x L { S with t:=kP m S.t }:=pen.put ex tq rfl;have S1:kf H0 (upd H x (.ins C dx (lj q L { S with t:=kP m S.t }))):=ao S0 n0;rw[sv q L S (kP m S.t)];revert pen1 S1;generalize (upd H x (.ins C dx (lj q L { S with t:=kP m S.t })))=H1;intro pen1 S1;refine⟨_,rfl,_,rfl,x,L,a,H0,{ S with t:=kP m S.t },xs,sts,rfl,pen1,S1,n0,nL,ea,da,i9 _ _,gd,λe H' S'=>k3 (by simp only[stR];rw[e];rfl) H' S',λe H' S'=>k4 (by simp only[stR];rw[e];rfl) H' S',λS2 e H' S' pen2=>?_⟩;obtain⟨dx2,q2,ex2,tq2⟩:=pen2.ex;refine⟨_,rfl,_,rfl,x,C,dx2,_,rfl,ex2,T.cl,T.n3,(show(5:Nat)<1000 by decide),?_⟩;exact kk { S2 with t:=S.t } (by simp only[stR];rw[e];rfl) _ (ao S' n0) (pen2.put (S':={ S2 with t:=S.t }) ex2 tq2 rfl)
def ni(C c3 c4:Addr)(d:Nat):Sp:=λvs H Q E=>∃ (x L r:Addr) (H0:Hp) (S:kg) (st:Sk),vs=[.ref x,.ref r]/\kR C H x L S/\kf H0 H/\H0 x=none/\H0 L=none/\S.t<8/\kI H0 (.ref r) st/\st.gd d/\Out C c3 c4 H0 x L (stR st S) Q E
theorem sF:az ["pen","stroke","kind"] ["pen","stroke"] (aj iJ):=fsk (by decide +kernel)
theorem ya{f:AA}{fd:AG}{d:Nat}(D:Df K mg "do_stroke" iJ f fd)(T:Cl K mg C fI fB fC fD)
  (bC:ar K fdC ["self","x","y"] []) (GC:ke P w K mg base (CXE P w) 4 fC fdC ["self","x","y"] (ng C c4))
  (bD:ar K fdD ["self","x","y"] []) (GD:ke P w K mg base (CXE P w) 5 fD fdD ["self","x","y"] (qz C c3 c4))
  (DK:Df K mg "do_and_come_back" sh fK fdK) (bK:ar K fdK ["pen","strokes"] []) (GK:ke P w K mg base (CXE P w) k fK fdK ["pen","strokes"] (Be C c3 c4 d))
  (DM:Df K mg "do_times" mV fM fdM) (bM:ar K fdM ["pen","rounds","strokes"] []) (GM:ke P w K mg base (CXE P w) k fM fdM ["pen","rounds","strokes"] (wt C c3 c4 d))
  (DU:Df K mg "do_turned" iP fU fdU) (bU:ar K fdU ["pen","way","strokes"] []) (GU:ke P w K mg base (CXE P w) k fU fdU ["pen","way","strokes"] (sD C c3 c4 d)) (h5:5<=k):ke P w K mg base (CXE P w) (k+1) f fd ["pen","stroke"] (ni C c3 c4 d):=by
 refine d8 D.F sF (λvs H Q E h=>?_) (λcdv A outer s H vs Q E hr h=>?_)
 ·obtain⟨x,L,r,H0,S,st,rfl,_⟩:=h
  rfl
 ·obtain⟨x,L,r,H0,S,st,rfl,pen,S0,n0,nL,t8,dr,gd,k3,k4,kk⟩:=h
  have hr5:ki 5 _:=hr.mono h5;have hr4:ki 4 _:=hr.mono (by lia);refine⟨_,(aa (ay (i:=2) sF.nd rfl (Or.inl rfl) (aD aM (pv 1) ad (λ_ _=>rfl)))
   (ae (aK (ap aX (pv 2) ag (au _)) (ae (aR (pS (pv 0) T.cl T.mD GD hr5 bD .nil e9 (pac (aD aM (pv 1) ad (λ_ _=>rfl)) (pac (aD aM (pv 1) ad (λ_ _=>rfl)) a9)))))
    (ae (aK (ap aX (pv 2) ag (au _)) (ae (aR (pS (pv 0) T.cl T.mC GC hr4 bC .nil e9 (pac (aD aM (pv 1) ad (λ_ _=>rfl)) (pac (aD aM (pv 1) ad (λ_ _=>rfl)) a9)))))
    (ae (aK (ap aX (pv 2) ag (au _)) (ae (dP (pv 0) (aD aM (pv 1) ad (λ_ _=>rfl)) rfl))
    (ae (aK (ap aX (pv 2) ag (au _)) (ae (aR (pec GK hr rfl DK.m DK.F.kp bK .nil e9 (pac (pv 0) (pac (aD aM (pv 1) ad (λ_ _=>rfl)) a9)))))
    (ae (aK (ap aX (pv 2) ag (au _)) (ae (aR (pec GM hr rfl DM.m DM.F.kp bM .nil e9 (pac (pv 0) (pac (aD aM (pv 1) ad (λ_ _=>rfl)) (pac (aD aM (pv 1) ad (λ_ _=>rfl)) a9))))))
    (ae (aR (pec GU hr rfl DU.m DU.F.kp bU .nil e9 (pac (pv 0) (pac (aD aM (pv 1) ad (λ_ _=>rfl)) (pac (aD aM (pv 1) ad (λ_ _=>rfl)) a9))))))))))))))))),?_⟩
  obtain⟨dx,q,ex,tq⟩:=pen.ex;cases dr with
  | @line _ _ a b e =>
   have e1:=S0 _ _ e;simp only[stR,gr]at k3 k4 kk;refine⟨_,rfl,r,_,_,_,rfl,rfl,SqT.of e1,rfl,?_⟩;refine⟨_,rfl,rfl,_,rfl,aw (by simp) ?_⟩;refine⟨_,rfl,x,dx,_,rfl,ex,rfl,_,rfl,r,_,_,_,rfl,rfl,SqT.of e1,rfl,_,rfl,r,_,_,_,rfl,rfl,SqT.of e1,rfl,x,L,H0,S,a,b,rfl,pen,S0,n0,nL,t8,λh=>k3 (by rw[yad h]),λh hb=>k4 (by rw[yac (by lia),yac (by rw[hb];decide)]),λh hb=>kk _ (by rw[yac (by omega),yad hb])⟩
  | @by_ _ a b e =>
   have e1:=S0 _ _ e;simp only[stR,byR]at k3 k4 kk;refine⟨_,rfl,r,_,_,_,rfl,rfl,SqT.of e1,rfl,?_⟩;refine⟨_,rfl,rfl,_,rfl,ah (by decide +kernel) ?_⟩;refine⟨_,rfl,rfl,_,rfl,aw (by simp) ?_⟩;refine⟨_,rfl,x,dx,_,rfl,ex,rfl,_,rfl,r,_,_,_,rfl,rfl,SqT.of e1,rfl,_,rfl,r,_,_,_,rfl,rfl,SqT.of e1,rfl,x,L,H0,S,a,b,rfl,pen,S0,n0,nL,t8,λhb=>k4 (by rw[yac (by rw[hb];decide)]),λhb H' S' p' _=>kk _ (by rw[yad hb]) H' S' p'⟩
  | @ink _ c e =>
   have e1:=S0 _ _ e;simp only[stR]at k3 k4 kk;refine⟨_,rfl,r,_,_,_,rfl,rfl,SqT.of e1,rfl,?_⟩;refine⟨_,rfl,rfl,_,rfl,ah (by decide +kernel) ?_⟩;refine⟨_,rfl,rfl,_,rfl,ah (by decide +kernel) ?_⟩;refine⟨_,rfl,rfl,_,rfl,aw (by simp) ?_⟩;refine⟨_,rfl,r,_,_,_,rfl,rfl,SqT.of e1,rfl,_,rfl,x,C,dx,_,rfl,ex,T.cl,T.n2,(show(5:Nat)<1000 by decide),?_⟩;exact kk _ rfl _ (ao S0 n0) (pen.put (S':={ S with c:=c }) ex tq rfl)
  | @back _ l ys u e el hu =>
   have e1:=S0 _ _ e;simp only[Sk.gd]at gd;refine⟨_,rfl,r,_,_,_,rfl,rfl,SqT.of e1,rfl,?_⟩;refine⟨_,rfl,rfl,_,rfl,ah (by decide +kernel) ?_⟩;refine⟨_,rfl,rfl,_,rfl,ah (by decide +kernel) ?_⟩;refine⟨_,rfl,rfl,_,rfl,ah (by decide +kernel) ?_⟩;refine⟨_,rfl,rfl,_,rfl,aw (by simp) ?_⟩;exact⟨_,rfl,_,rfl,r,_,_,_,rfl,rfl,SqT.of e1,rfl,x,L,l,H0,S,ys,u,rfl,pen,S0,n0,nL,el,hu,t8,gd,k3,k4,kk⟩
  | @times _ l ys m u e el hu =>
   have e1:=S0 _ _ e;simp only[Sk.gd]at gd;refine⟨_,rfl,r,_,_,_,rfl,rfl,SqT.of e1,rfl,?_⟩;refine⟨_,rfl,rfl,_,rfl,ah (by decide +kernel) ?_⟩;refine⟨_,rfl,rfl,_,rfl,ah (by decide +kernel) ?_⟩;refine⟨_,rfl,rfl,_,rfl,ah (by decide +kernel) ?_⟩;refine⟨_,rfl,rfl,_,rfl,ah (by decide +kernel) ?_⟩;refine⟨_,rfl,rfl,_,rfl,aw (by simp) ?_⟩;exact⟨_,rfl,_,rfl,r,_,_,_,rfl,rfl,SqT.of e1,rfl,_,rfl,r,_,_,_,rfl,rfl,SqT.of e1,rfl,x,L,l,H0,S,ys,m,u,rfl,pen,S0,n0,nL,el,hu,t8,gd.1,gd.2,k3,k4,kk⟩
  | @turn _ l ys m u e el hu =>
   have e1:=S0 _ _ e;simp only[Sk.gd]at gd;refine⟨_,rfl,r,_,_,_,rfl,rfl,SqT.of e1,rfl,?_⟩;refine⟨_,rfl,rfl,_,rfl,ah (by decide +kernel) ?_⟩;refine⟨_,rfl,rfl,_,rfl,ah (by decide +kernel) ?_⟩;refine⟨_,rfl,rfl,_,rfl,ah (by decide +kernel) ?_⟩;refine⟨_,rfl,rfl,_,rfl,ah (by decide +kernel) ?_⟩;refine⟨_,rfl,rfl,_,rfl,ah (by decide +kernel) ?_⟩;exact⟨_,rfl,_,rfl,r,_,_,_,rfl,rfl,SqT.of e1,rfl,_,rfl,r,_,_,_,rfl,rfl,SqT.of e1,rfl,x,L,l,H0,S,ys,m,u,rfl,pen,S0,n0,nL,el,hu,t8,gd.1,gd.2,k3,k4,kk⟩
theorem EG:az ["pen","strokes","stroke"] ["pen","strokes"] (aj si):=fsk (by decide +kernel)
theorem FO{f:AA}{fd:AG}{d:Nat}(D:Df K mg "do_all" si f fd)(T:Cl K mg C fI fB fC fD)
  (bB:ar K fdB ["self"] []) (GB:ke P w K mg base (CXE P w) 1 fB fdB ["self"] (iG C c3))
  (DS:Df K mg "do_stroke" iJ fS fdS) (bS:ar K fdS ["pen","stroke"] []) (GS:ke P w K mg base (CXE P w) k fS fdS ["pen","stroke"] (ni C c3 c4 d)) (h1:1<=k):ke P w K mg base (CXE P w) (k+1) f fd ["pen","strokes"] (jC C c3 c4 (d+1)):=by
 refine d8 D.F EG (λvs H Q E h=>?_) (λcdv A outer s H vs Q E hr h=>?_)
 ·obtain⟨x,L,a,H0,S,xs,sts,rfl,_⟩:=h
  rfl
 ·obtain⟨x,L,a,H0,S,xs,sts,rfl,pen,S0,n0,nL,ea,da,t8,⟨d',ed,gd⟩,k3,k4,kk⟩:=h
  have ed':d=d':=by lia
  subst ed';have hr1:ki 1 _:=hr.mono h1;refine⟨_,(ae (cQ PassesOwn.leaving rfl (cT (pv 1)) (aQ (i:=2) EG.nd rfl (Or.inl rfl)) (aa (aR (qZ (pv 0) T.cl T.mB GB hr1 bB .nil e9))
   (ae (aR (pec GS hr rfl DS.m DS.F.kp bS .nil e9 (pac (pv 0) (pac (pv 2) a9)))))))),?_⟩
  have xl:xs.length=sts.length:=da.length;refine⟨_,rfl,a,rfl,⟨_,SqL.of (S0 _ _ ea)⟩,?_⟩;refine cW (K:=K) (a:=a) (xs:=xs) (λi σ H1=>(∃ v2,σ=[some (.ref x),some (.ref a),v2])/\kf H0 H1/\∃ Si,kR C H1 x L Si/\ko sts S=ko (sts.drop i) Si/\Si.t=S.t)
   ⟨⟨_,rfl⟩,S0,S,pen,by rw[ydl],rfl⟩ (λi σ H1 _ ⟨_,s1,_⟩=>SqL.of (s1 _ _ ea)) ?_ ?_
  ·rintro i y σ H1 hy ⟨⟨v2,rfl⟩,S1,Si,peni,er,ti⟩
   have hi:i<xs.length:=(zaf.mp hy).1;obtain⟨st,hs,dy⟩:=da.at hy;obtain⟨r,rfl⟩:=dy.ref;have hdrop:sts.drop i=st::sts.drop (i+1):=by
    rw[ydd (by lia)]
    congr 1
    have:=za6 (l:=sts) (i:=i) (by omega);rw[hs]at this;exact(yat this).symm
   rw[hdrop]at er;simp only[ko]at er;obtain⟨dx,q,ex,tq⟩:=peni.ex;refine⟨_,rfl,x,dx,_,rfl,ex,rfl,x,L,H0,Si,rfl,peni,S1,n0,nL,λh H' S'=>k3 (by rw[er,bg,yad h];rfl) H' S',λh H2 S2 pen2=>?_⟩;have eb:bg Si (stR st)=stR st { Si with n:=Si.n+1 }:=by rw[bg,yac (by lia)]
   rw[eb]at er;refine⟨_,rfl,_,rfl,x,L,r,H0,{ Si with n:=Si.n+1 },st,rfl,pen2,S2,n0,nL,(by show Si.t<8;rw[ti];exact t8),dy,uo gd st (zam hs),λe H' S'=>k3 (by rw[er,e];rfl) H' S',λe H' S'=>k4 (by rw[er,e];rfl) H' S',λS' e H' Ss p'=>?_⟩;refine⟨⟨_,rfl⟩,Ss,S',p',?_,?_⟩
   ·rw[er,e]
    rfl
   ·exact((Bd st _ S' e).1).trans ti
  ·rintro σ H1 ⟨⟨v2,rfl⟩,S1,Si,peni,er,ti⟩
   rw[zb9 (by lia)]at er;simp only[ko]at er;exact kk Si er H1 S1 peni
end
def S00:kg:=⟨(0,0),"black",0,0,[]⟩
def Big(ps:List Pl):Prop:=∃ ls:List Dt,ls.Nodup/\(∀ d,d∈ls↔d∈ps.map lD)/\120<ls.length
theorem wx{ps:Ag}{ls:Af}(h:ls.Nodup)(m:∀ d,d∈ls↔d∈ps.map lD)(l:ls.length<=120):¬ Big ps:=λ⟨ls',h',m',l'⟩=>by
 have:=((zbg h h').mpr λd=>(m d).trans (m' d).symm).length_eq
 lia
theorem EH:∀ l:List Dt,∃ ls:List Dt,ls.Nodup/\(∀ d,d∈ls↔d∈l)/\ls.length<=l.length
 | []=>⟨[],ycx,λ_=>Iff.rfl,za5 _⟩
 | a::l=>by
  obtain⟨ls,nd,m,ll⟩:=EH l;by_cases h:a∈l
  ·refine⟨ls,nd,λd=>?_,Nat.le_succ_of_le ll⟩
   rw[m,za0];exact⟨.inr,λz=>z.elim (λe=>e▸h) id⟩
  ·refine⟨a::ls,zak.mpr ⟨λz=>h ((m a).mp z),nd⟩,λd=>?_,Nat.succ_le_succ ll⟩
   rw[za0,za0,m]
section
variable{P:AF}{w:AJ}{K:A2}{mg:A5}{base:AO}{C fI fB fC fD c2 c3 c4:AA}
def qC(c2 c3 c4:Addr)(d:Nat):Sp:=λvs H Q E=>∃ (a:Addr) (xs:List V) (sts:List Sk),vs=[.ref a]/\H a=some (.lst xs)/\aY H xs sts/\(∃ e,d=e+1/\gds sts e) /\
 (ko sts S00=.many->∀ H',kf H H'->E (.ref c3) none H')/\(ko sts S00=.hole->∀ H',kf H H'->E (.ref c4) none H') /\
 (∀ S',ko sts S00=.ok S'->(lh S'.ps->∀ H',kf H H'->E (.ref c2) none H')/\(¬ lh S'.ps->Big S'.ps->∀ H',kf H H'->E (.ref c3) none H')/\(¬ lh S'.ps->¬ Big S'.ps->∀ l qs H',qt H S'.ps l H' qs->Q (.ref l) H'))
theorem wA:az ["strokes","pen"] ["strokes"] (aj qp):=fsk (by decide +kernel)
theorem Bg{f:AA}{fd:AG}{d:Nat}(D:Df K mg "drawn" qp f fd)(T:Cl K mg C fI fB fC fD)
  (bI:ar K fdI ["self"] []) (GI:ke P w K mg base CX0 1 fI fdI ["self"] (uk C))
  (DA:Df K mg "do_all" si fA fdA) (bA:ar K fdA ["pen","strokes"] []) (GA:ke P w K mg base (CXE P w) k fA fdA ["pen","strokes"] (jC C c3 c4 d))
  (DV:Df K mg "picture" vU fV fdV) (bV:ar K fdV ["pairs"] []) (GV:ke P w K mg base (CXE P w) 1 fV fdV ["pairs"] (uh K c2 c3)) (h2:2<=k):ke P w K mg base (CXE P w) (k+1) f fd ["strokes"] (qC c2 c3 c4 d):=by
 refine d8 D.F wA (λvs H Q E h=>?_) (λcdv A outer s H vs Q E hr h=>?_)
 ·obtain⟨a,xs,sts,rfl,_⟩:=h
  rfl
 ·obtain⟨a,xs,sts,rfl,ea,da,gd,k3,k4,kk⟩:=h
  have hr1:ki 1 _:=hr.mono (by lia);have hr2:ki 2 _:=hr.mono (by omega);refine⟨_,(aa (ay (i:=1) wA.nd rfl (Or.inl rfl) (yR T.mkC GI hr2 rfl T.mg bI .nil aF))
   (aa (aR (pec GA hr rfl DA.m DA.F.kp bA .nil e9 (pac (pv 1) (pac (pv 0) a9))))
   (ae (av (pec GV hr1 rfl DV.m DV.F.kp bV .nil e9 (pac (dh (pv 1) rfl) a9)))))),?_⟩
  refine λx dx nx ndx ne=>?_
  have S1:kf H (upd (upd H dx (.own x)) x (.ins C dx [])):=ao (af ndx) nx;refine⟨x,dx,H,rfl,a8,S1,nx,λL H1 S2 nL pen=>⟨rfl,?_⟩⟩;refine⟨_,rfl,_,rfl,x,L,a,H,_,xs,sts,rfl,pen,S2,nx,nL,ea,da,by decide,gd,k3,k4,λS' hS' H3 S3 pen3=>?_⟩;obtain⟨dx3,q3,ex3,tq3⟩:=pen3.ex;obtain⟨ys,eL,dL⟩:=pen3.pic;have pl:S'.ps.length<=400:=(gz sts _ S' hS').2 (zb6 _);obtain⟨ls,lnd,lmem,ll⟩:=EH (S'.ps.map lD);obtain⟨h2',h3',hq⟩:=kk S' hS';refine⟨_,rfl,x,C,dx3,_,_,rfl,ex3,T.cl,T.n5,jx _ _ _,L,ys,S'.ps,ls,rfl,SqL.of eL,dL,pl,lnd,lmem,λt H' Sx=>h2' t H' (S3.trans Sx),λn g H' Sx=>h3' n ⟨ls,lnd,lmem,g⟩ H' (S3.trans Sx),λn g l qs H' o=>hq n (wx lnd lmem g) l qs H' ⟨S3.trans o.same,aH S3 o.new,o.pic,o.nd,o.mem,o.rise⟩⟩
end
structure uw(K:A2)(c0 c1 c2 c3 c4 c5 c6 c7 c8 r:Addr)(j:Nat):Prop where
 x:xw K r
 q:W.excIn K r [.type "ValueError",.type "Exception",.type "BaseException",.type "object"] "ValueError.__new__"=true
 ex:W.exmOne K (.ref r) (.ref c0)=some true
 v:W.kitOne K (.ref r) (.type "ValueError")=some true
 k1:W.kitOne K (.ref r) (.ref c1)=some (j==1)
 k2:W.kitOne K (.ref r) (.ref c2)=some (j==2)
 k3:W.kitOne K (.ref r) (.ref c3)=some (j==3)
 k4:W.kitOne K (.ref r) (.ref c4)=some (j==4)
 k5:W.kitOne K (.ref r) (.ref c5)=some (j==5)
 k6:W.kitOne K (.ref r) (.ref c6)=some (j==6)
 k7:W.kitOne K (.ref r) (.ref c7)=some (j==7)
 k8:W.kitOne K (.ref r) (.ref c8)=some (j==8)
structure Nam9(mg:A5)(c0 c1 c2 c3 c4 c5 c6 c7 c8:Addr):Prop where
 m0:mg "ClothError"=some (.ref c0)
 m1:mg "NoLine"=some (.ref c1)
 m2:mg "TwoColours"=some (.ref c2)
 m3:mg "TooMany"=some (.ref c3)
 m4:mg "NoHole"=some (.ref c4)
 m5:mg "NoDrawing"=some (.ref c5)
 m6:mg "NoThread"=some (.ref c6)
 m7:mg "NoPlan"=some (.ref c7)
 m8:mg "NoChart"=some (.ref c8)
section
variable{P:AF}{w:AJ}{K:A2}{mg:A5}{base:AO}{c0 c1 c2 c3 c4 c5 c6 c7 c8:AA}
def Outs(H:Hp)(Q:VK)(sts:List Sk):Prop:=(ko sts S00=.many->∀ H',kf H H'->Q (.str "many") H')/\(ko sts S00=.hole->∀ H',kf H H'->Q (.str "hole") H')/\∀ S',ko sts S00=.ok S'->(lh S'.ps->∀ H',kf H H'->Q (.str "two") H')/\(¬ lh S'.ps->Big S'.ps->∀ H',kf H H'->Q (.str "many") H')/\(¬ lh S'.ps->¬ Big S'.ps->∀ l qs H',qt H S'.ps l H' qs->Q (.ref l) H')
def ux(d:Nat):Sp:=λvs H Q _=>∃ (a:Addr) (xs:List V) (sts:List Sk),vs=[.ref a]/\H a=some (.lst xs)/\aY H xs sts/\(∃ e,d=e+1/\gds sts e)/\Outs H Q sts
theorem iu:az ["_law_strokes","_law_error","_law_found","e","_law_some"] ["_law_strokes"] (aj w6):=fsk (by decide +kernel)
theorem Dq{f:AA}{fd:AG}{d:Nat}(D:Df K mg "_law_told" w6 f fd)(B:Blt mg)(N:Nam9 mg c0 c1 c2 c3 c4 c5 c6 c7 c8)(T2:uw K c0 c1 c2 c3 c4 c5 c6 c7 c8 c2 2)(T3:uw K c0 c1 c2 c3 c4 c5 c6 c7 c8 c3 3)(T4:uw K c0 c1 c2 c3 c4 c5 c6 c7 c8 c4 4)
  (DD:Df K mg "drawn" qp fD fdD) (bD:ar K fdD ["strokes"] []) (GD:ke P w K mg base (CXE P w) k fD fdD ["strokes"] (qC c2 c3 c4 d)):ke P w K mg base CX0 (k+1) f fd ["_law_strokes"] (ux d):=by
 refine D.F.ok iu (λvs H Q E h=>?_) (λcdv A outer s H vs Q E hr h=>?_)
 ·obtain⟨a,xs,sts,rfl,_⟩:=h
  rfl
 ·obtain⟨a,xs,sts,rfl,ea,da,gd,k3,k4,kk⟩:=h
  refine⟨_,(aa (ay (i:=1) iu.nd rfl (Or.inl rfl) tz)
   (aa (ay (i:=2) iu.nd rfl (Or.inl rfl) (aZ a9))
   (aa (Fh (i:=3) (Cc:=c0) rfl rfl iu.nd rfl rfl rfl N.m0 (λ_ _ z=>z)
    (λpn W=>ae (ay (i:=2) iu.nd rfl (Or.inl rfl) (zh GD hr rfl DD.m DD.F.kp bD (pac (pv 0) a9))))
    (λx pn=>ae (ay (i:=1) iu.nd rfl (Or.inl rfl) (pv 3))))
   (aa (aK (ap yK (pv 1) tz (au _)) (ae (av (pv 2))) ax)
   (aa (ay (i:=4) iu.nd rfl (Or.inl rfl) (aZ (pac (aE i7 (by rfl) B.isi yax (pac (pv 1) (pac (aP (v:=.ref c3) rfl N.m3 rfl) a9))) (pac (aE i7 (by rfl) B.isi yax (pac (pv 1) (pac (aP (v:=.ref c4) rfl N.m4 rfl) a9))) (pac (aE i7 (by rfl) B.isi yax (pac (pv 1) (pac (aP (v:=.ref c2) rfl N.m2 rfl) a9))) a9)))))
   (aa (aK (PW.pt (dZ (cP (bq (aE i7 (by rfl) B.isi yax (pac (pv 1) (pac (cr (v:=.ty "ValueError") (by rfl) B.val PyProof.Rows.Boot.«ValueError» rfl) a9)))))
     (f6 (bq (aE u9 (by rfl) B.isi yax (pac (pv 1) (pac (aI (pac (aP (v:=.ref c5) rfl N.m5 rfl) (pac (aP (v:=.ref c1) rfl N.m1 rfl) (pac (aP (v:=.ref c8) rfl N.m8 rfl) (pac (aP (v:=.ref c7) rfl N.m7 rfl) (pac (aP (v:=.ref c6) rfl N.m6 rfl) a9)))))) a9))))))) (ae (av ag)) ax)
   (aa (aK (ap ie (cX yap F.slot_list_count F.type_list_count zV (pv 4) (pac (jF) a9)) ad (au _)) (ae (av ag)) ax)
   (ae (av (aD aL (aZ (pac (ag) (pac (ag) (pac (ag) a9)))) (cX yap F.slot_list_index F.type_list_index zj (pv 4) (pac (jF) a9)) (λ_ _=>rfl))))))))))),?_⟩
  refine⟨szr rfl,λF0 nF=>?_⟩;have TF:=af (o:=HO.lst []) nF;refine' bz (λσ H1=>kf H H1/\((∃ l,σ=[some (.ref a),some .non,some (.ref l),none,none]/\Q (.ref l) H1)\/(∃ x o r j v3,σ=[some (.ref a),some (.ref x),some (.ref F0),v3,none]/\H1 x=some (tU o)/\ExcO (.ref r) o/\uw K c0 c1 c2 c3 c4 c5 c6 c7 c8 r j/\((j=3/\∀ H',kf H H'->Q (.str "many") H')\/(j=4/\∀ H',kf H H'->Q (.str "hole") H')\/(j=2/\∀ H',kf H H'->Q (.str "two") H'))))) (λfin=>_) _
  rotate_left
  ·refine⟨_,rfl,a,xs,sts,rfl,TF _ _ ea,da.same TF,gd,λhn H1 S1=>?_,λhn H1 S1=>?_,λS' hS=>⟨λt H1 S1=>?_,λn g H1 S1=>?_,λn g l qs H1 o=>?_⟩⟩
   ·refine⟨T3.ex,λx o hn' hx=>?_⟩
    dsimp only[qW];refine⟨_,rfl,?_⟩;exact fin _ _ ⟨(TF.trans S1).trans (af hn'),.inr ⟨x,o,c3,3,_,rfl,a8,hx,T3,.inl ⟨rfl,k3 hn⟩⟩⟩
   ·refine⟨T4.ex,λx o hn' hx=>?_⟩
    dsimp only[qW];refine⟨_,rfl,?_⟩;exact fin _ _ ⟨(TF.trans S1).trans (af hn'),.inr ⟨x,o,c4,4,_,rfl,a8,hx,T4,.inr (.inl ⟨rfl,k4 hn⟩)⟩⟩
   ·refine⟨T2.ex,λx o hn' hx=>⟨_,rfl,?_⟩⟩
    exact fin _ _ ⟨(TF.trans S1).trans (af hn'),.inr ⟨x,o,c2,2,_,rfl,a8,hx,T2,.inr (.inr ⟨rfl,(kk S' hS).1 t⟩)⟩⟩
   ·refine⟨T3.ex,λx o hn' hx=>⟨_,rfl,?_⟩⟩
    exact fin _ _ ⟨(TF.trans S1).trans (af hn'),.inr ⟨x,o,c3,3,_,rfl,a8,hx,T3,.inl ⟨rfl,(kk S' hS).2.1 n g⟩⟩⟩
   ·exact fin _ _ ⟨TF.trans o.same,.inl ⟨l,rfl,(kk S' hS).2.2 n g l qs H1 ⟨TF.trans o.same,aH TF o.new,o.pic,o.nd,o.mem,o.rise⟩⟩⟩
  rintro σ H1 ⟨S1,⟨l,rfl,ql⟩ | ⟨x,o,r,j,v3,rfl,ex,eo,T,alt⟩⟩
  ·exact⟨_,rfl,rfl,_,rfl,aw (by simp) ⟨_,rfl,ql⟩⟩
  ·refine⟨_,rfl,rfl,_,rfl,ah (by simp) ?_⟩
   refine⟨_,rfl,x,o,r,_,_,rfl,ex,eo,T.x,qe T.k3,_,rfl,x,o,r,_,_,rfl,ex,eo,T.x,qe T.k4,_,rfl,x,o,r,_,_,rfl,ex,eo,T.x,qe T.k2,szr rfl,λM nM=>?_⟩;have TM:=af (o:=HO.lst [V.bl (j==3),.bl (j==4),.bl (j==2)]) nM;have ex2:=TM _ _ ex;refine⟨_,rfl,x,o,r,_,_,rfl,ex2,eo,T.x,⟨_,rfl,λ_ h=>h,T.v⟩,_,rfl,kr ?_⟩;refine⟨_,rfl,szr rfl,λt nt=>?_⟩;have Tt:=af (o:=HO.tup [V.ref c5,.ref c1,.ref c8,.ref c7,.ref c6]) nt;have hj:j=3\/j=4\/j=2:=alt.elim (λh=>.inl h.1) λh=>.inr (h.elim (λh=>.inl h.1) λh=>.inr h.1)
   refine⟨x,o,r,t,[c5,c1,c8,c7,c6],false,rfl,Tt _ _ ex2,eo,T.x,a8,p7 λc hc=>?_,_,rfl,kr ?_⟩
   ·simp only[zaa,zbs,za0,zad,yaw]at hc
    rcases hc with rfl | rfl | rfl | rfl | rfl
    ·exact T.k5.trans (by rcases hj with rfl | rfl | rfl<;>rfl)
    ·exact T.k1.trans (by rcases hj with rfl | rfl | rfl<;>rfl)
    ·exact T.k8.trans (by rcases hj with rfl | rfl | rfl<;>rfl)
    ·exact T.k7.trans (by rcases hj with rfl | rfl | rfl<;>rfl)
    ·exact T.k6.trans (by rcases hj with rfl | rfl | rfl<;>rfl)
   have eM:(upd (upd H1 M (.lst [V.bl (j==3),.bl (j==4),.bl (j==2)])) t (.tup [V.ref c5,.ref c1,.ref c8,.ref c7,.ref c6])) M=some (.lst [V.bl (j==3),.bl (j==4),.bl (j==2)]):=Tt _ _ a8;have S2:=S1.trans (TM.trans Tt);revert eM S2;generalize (upd (upd H1 M (.lst [V.bl (j==3),.bl (j==4),.bl (j==2)])) t (.tup [V.ref c5,.ref c1,.ref c8,.ref c7,.ref c6]))=H2;intro eM S2;refine⟨_,rfl,.inl ⟨rfl,_,SqL.of eM⟩,M,_,.bl true,rfl,rfl,eM,rfl,rfl,rfl,_,rfl,ah (by rcases hj with rfl | rfl | rfl<;>decide) ?_⟩;refine⟨szr rfl,λL nL=>?_⟩;have TL:=af (o:=HO.lst [V.str "many",.str "hole",.str "two"]) nL;have eM2:=TL _ _ eM;rcases alt with ⟨rfl,q⟩ | ⟨rfl,q⟩ | ⟨rfl,q⟩
   ·refine⟨_,rfl,.inl ⟨rfl,_,SqL.of eM2⟩,M,_,.bl true,0,rfl,rfl,eM2,rfl,rfl,by decide,⟨_,rfl,rfl⟩,λm z hm ez=>(by lia),L,_,_,_,rfl,rfl,SqL.of a8,rfl,q _ (S2.trans TL)⟩
   ·refine⟨_,rfl,.inl ⟨rfl,_,SqL.of eM2⟩,M,_,.bl true,1,rfl,rfl,eM2,rfl,rfl,by decide,⟨_,rfl,rfl⟩,λm z hm ez=>?_,L,_,_,_,rfl,rfl,SqL.of a8,rfl,q _ (S2.trans TL)⟩
    have:m=0:=by lia
    subst this;cases ez;rfl
   ·refine⟨_,rfl,.inl ⟨rfl,_,SqL.of eM2⟩,M,_,.bl true,2,rfl,rfl,eM2,rfl,rfl,by decide,⟨_,rfl,rfl⟩,λm z hm ez=>?_,L,_,_,_,rfl,rfl,SqL.of a8,rfl,q _ (S2.trans TL)⟩
    have:m=0\/m=1:=by lia
    rcases this with rfl | rfl<;>(cases ez;rfl)
end
theorem EI{H:Hp}{vs:Ac}{ps:Ag}(h:aG H vs (ps.map pD)){i:Nat}(e:vs[i]?=some v):∃ a,ps[i]?=some a/\kj H v (pD a):=by
 obtain⟨d,ed,dv⟩:=h.at i v e;rw[zan]at ed;cases hp:ps[i]? with
 | none=>rw[hp]at ed;cases ed
 | some a=>rw[hp]at ed;cases ed;exact⟨a,rfl,dv⟩
theorem Bh:∀ {ls:Ag},(ls.map lD).Pairwise (λd d'=>Dt.blt d' d=false)->(ls.map lD).Nodup->oA ls
 | [],_,_=>.nil
 | a::ls,h,n=>by
  rw[zaa,yef]at h;rw[zaa,zak]at n;have ih:=Bh h.2 n.2;unfold oA at ih ⊢;rw[zaa,yef];refine⟨λd hd=>?_,ih⟩;obtain⟨b,hb,rfl⟩:=za9.mp hd;have hbl:lD b∈ls.map lD:=za9.mpr ⟨b,hb,rfl⟩;have ne:Dt.beq (lD b) (lD a)=false:=Dt.beq_false.mpr λe=>n.1 (e▸hbl)
  have lt:=h.1 _ hbl;show Dt.blt (.tup [lD b,.str b.c]) (.tup [lD a,.str a.c])=false;simp only[Dt.blt,Dt.kD];rw[yac (by rw[ne];decide)];exact lt
theorem EJ{ps:Ag}:∀ {es:Af},(∀ d∈es,∃ a∈ps,d=lD a)->∃ qs:List Pl,es=qs.map lD/\∀ q∈qs,q∈ps
 | [],_=>⟨[],rfl,λ_ h=>(nomatch h)⟩
 | d::es,h=>by
  obtain⟨qs,e,m⟩:=EJ (es:=es) λd hd=>h d (za3 _ hd)
  obtain⟨a,ha,ed⟩:=h d za1;refine⟨a::qs,by rw[e,ed];rfl,λq hq=>?_⟩;rcases za0.mp hq with rfl | hq
  ·exact ha
  ·exact m q hq
theorem yb{rs:Ag}{a:Pl}(h:a∈rs)(nd:(rs.map lD).Nodup):putK (rs.map kvP) (lD a) (.str a.c)=rs.map kvP:=by
 unfold putK;rw[yad]
 ·rw[ydi]
  refine List.map_congr_left λb hb=>?_
  show(if lD b=lD a then _ else _)=_;split
  ·rename_i e
   have:=jq nd hb h e;subst this;rfl
  ·rfl
 ·rw[List.any_eq_true]
  exact⟨kvP a,za9.mpr ⟨a,h,rfl⟩,yab rfl⟩
theorem FP{rs:Ag}{a:Pl}(h:a∈rs)(nd:(rs.map lD).Nodup):kB (rs.map kvP) (lD a)=some (.str a.c):=by
 cases hv:kB (rs.map kvP) (lD a) with
 | some u =>
  obtain⟨c,hc,ec,rfl⟩:=qr hv;rw[jq nd hc h ec]
 | none =>
  unfold kB at hv;rw[zbq,ycn]at hv;exact absurd (yab rfl) (hv (kvP a) (za9.mpr ⟨a,h,rfl⟩))
theorem FQ(h:kj H v (lD a)):∃ r,v=.ref r:=by
 unfold lD at h;cases h;exact⟨_,rfl⟩
theorem nj(a:Pl):(lD a).dp<=8:=by simp[lD,hD,Dt.dp,Dt.dps]
section
variable{P:AF}{w:AJ}{K:A2}{mg:A5}{base:AO}
def wB:Sp:=λvs H Q _=>∃ (a:Addr) (ps:List Pl),vs=[.ref a]/\Pic H a ps/\ps.length<=400/\(lh ps->∀ H',kf H H'->Q (.str "two") H')/\(¬ lh ps->Big ps->∀ H',kf H H'->Q (.str "many") H')/\(¬ lh ps->¬ Big ps->∀ l qs H',qt H ps l H' qs->Q (.ref l) H')
theorem jP:az ["_law_pairs","_law_found","_law_one","_law_colour_here"] ["_law_pairs"] (aj qq):=fsk (by decide +kernel)
theorem Bi{f:AA}{fd:AG}(D:Df K mg "_law_picture" qq f fd)(B:Blt mg):ke P w K mg base CX0 2 f fd ["_law_pairs"] wB:=by
 refine D.F.ok jP (λvs H Q E h=>?_) (λcdv A outer s H vs Q E hr h=>?_)
 ·obtain⟨a,ps,rfl,_⟩:=h
  rfl
 ·obtain⟨a,ps,rfl,⟨xs,ea,da⟩,pl,k2,k3,k⟩:=h
  have hu:=hr.units;have xl:xs.length=ps.length:=by rw[da.length,za4]
  refine⟨_,(aa (ay (i:=1) jP.nd rfl (Or.inr rfl) rT)
   (aa (cQ ybc rfl (cT (pv 0)) (gl (n:=2) rfl (ba (aQ (i:=2) jP.nd rfl (Or.inl rfl)) (ba (aQ (i:=3) jP.nd rfl (Or.inl rfl)) dq))) (aa (aK (ap ie (zS ydc F.type_dict_get (CW hr) (pv 1) (pac (pv 2) (pac (pv 3) a9))) (pv 3) (au _)) (ae (av ag)) ax)
   (ae (zN hr (pv 1) (pv 2) (pv 3) rfl))))
   (aa (aK (ap eP (aE p6 (by rfl) B.len ybe (pac (pv 1) a9)) ad (au _)) (ae (av ag)) ax)
   (ae (av (iR (tt:=tYes) (te:=tTup (vb (yD 0) (vb (zL P w (yD 1) (yD 0)) yO))) (N':=["_law_one","_law_found"]) (idx:=[none,some 1]) (eR (by kernel_rfl)) (by kernel_rfl) rfl (cT (aE jf (by rfl) B.sorted boot_sorted (pac (b8 (uc hr) (by rfl) B.list boot_list (pac (pv 1) a9)) a9)))
     (λ_ _ _ _ _=>aQ (i:=0) (show(["_law_one","_law_found"]:AH).Nodup by decide +kernel) rfl (Or.inl rfl)) (λ_ _ _ _ _=>iQ)
     (λ_ _ _ _ _=>aI (pac (pv 0) (pac (zM hr (pv 1) (pv 0) (λ_ _=>rfl)) a9))))))))),?_⟩
  refine λdI oI nI dd=>?_
  have TI:=af (o:=oI) nI;refine⟨_,rfl,a,rfl,⟨_,SqL.of (TI _ _ ea)⟩,?_⟩;refine cW (K:=K) (a:=a) (xs:=xs) (λi σ H2=>(∃ v2 v3,σ=[some (.ref a),some (.ref dI),v2,v3])/\kf H H2/\∃ rs:List Pl,lF P w H2 dI (rs.map kvP)/\(rs.map lD).Nodup/\(∀ b∈rs,b∈ps)/\(∀ b∈ps.take i,b∈rs)/\rs.length<=i)
   ⟨⟨_,_,rfl⟩,TI,[],dd,ycx,λ_ z=>(nomatch z),λ_ z=>(nomatch z),za5 _⟩ (λi σ H2 _ ⟨_,s2,_⟩=>SqL.of (s2 _ _ ea)) ?_ ?_
  ·rintro i y σ H2 hy ⟨⟨v2,v3,rfl⟩,S2,rs,dk,rnd,rin,rall,rl⟩
   have hi:i<xs.length:=(zaf.mp hy).1;obtain⟨b,hb,dy⟩:=EI (da.same S2) hy;obtain⟨r,x,rfl,er,hl⟩:=qj dy;have tk:ps.take (i+1)=ps.take i++[b]:=by rw[zbo,hb];rfl
   have bin:=zam hb;have fin:∀ rs':List Pl,(∀ c∈rs,c∈rs')->b∈rs'->∀ c∈ps.take (i+1),c∈rs':=λrs' h1 h2 c hc=>by
    rw[tk]at hc;rcases zaj.mp hc with hc | hc
    ·exact h1 c (rall c hc)
    ·rw[zac.mp hc];exact h2
   refine⟨r,_,rfl,SqT.of er,rfl,_,_,rfl,_,_,rfl,rfl,?_⟩;refine⟨_,rfl,⟨dI,_,rfl,dk⟩,_,rfl,_,rfl,dI,x,lD b,rs.map kvP,_,rfl,rfl,hl,nj b,dk,_,rfl,?_⟩;cases hv:kB (rs.map kvP) (lD b) with
   | some u =>
    obtain⟨c,hc,ec,rfl⟩:=qr hv;refine⟨rfl,_,rfl,?_⟩;by_cases hcc:c.c=b.c
    ·have ecb:=B2 ec hcc
     subst ecb;refine ah (by simp) ⟨_,rfl,_,rfl,_,rfl,dI,x,lD c,rs.map kvP,rfl,rfl,hl,nj c,dk,by rw[za4];lia,λo' dn=>?_⟩;rw[yb hc rnd]at dn;exact⟨⟨_,_,rfl⟩,ao S2 nI,rs,dn,rnd,rin,fin rs (λ_ z=>z) hc,by lia⟩
    ·exact aw (by simp[hcc]) (k2 ⟨c,rin c hc,b,bin,ec,hcc⟩ H2 S2)
   | none =>
    have nk:∀ c∈rs,lD c≠lD b:=λc hc e=>by
     have:lD b∈(rs.map kvP).map (·.1):=by rw[n9,<- e];exact za9.mpr ⟨c,hc,rfl⟩
     exact absurd this (by
      unfold kB at hv;rw[zbq,ycn]at hv;intro z;obtain⟨p,hp,e⟩:=za9.mp z;exact hv p hp (yab e))
    refine⟨rfl,_,rfl,ah (by simp) ⟨_,rfl,_,rfl,_,rfl,dI,x,lD b,rs.map kvP,rfl,rfl,hl,nj b,dk,by rw[za4];omega,λo' dn=>?_⟩⟩;rw[wb nk]at dn;refine⟨⟨_,_,rfl⟩,ao S2 nI,rs++[b],dn,?_,?_,fin _ (λc hc=>zbk _ hc) (zau _ (zac.mpr rfl)),by rw[za7];show rs.length+1<=_;lia⟩
    ·rw[zae]
     refine List.nodup_append.mpr ⟨rnd,zbx _ _,λc hc c' hc' e=>?_⟩;obtain⟨c0,hc0,rfl⟩:=za9.mp hc;rw[zac.mp hc']at e;exact nk c0 hc0 e
    ·intro c hc
     rcases zaj.mp hc with hc | hc
     ·exact rin c hc
     ·rw[zac.mp hc];exact bin
  ·rintro σ H2 ⟨⟨v2,v3,rfl⟩,S2,rs,dk,rnd,rin,rall,rl⟩
   rw[zav (by lia)]at rall;have no:¬ lh ps:=λ⟨x,hx,y,hy,e1,e2⟩=>e2 (by rw[jq rnd (rall x hx) (rall y hy) e1])
   have rmem:∀ d,d∈rs.map lD↔d∈ps.map lD:=λd'=>by
    constructor
    ·intro h
     obtain⟨c,hc,e⟩:=za9.mp h;exact za9.mpr ⟨c,rin c hc,e⟩
    ·intro h
     obtain⟨c,hc,e⟩:=za9.mp h;exact za9.mpr ⟨c,rall c hc,e⟩
   refine⟨_,rfl,dI,_,rfl,dk,_,_,rfl,rfl,_,rfl,?_⟩;by_cases big:120<rs.length
   ·exact aw (by rw[za4];exact yab (by lia)) (k3 no ⟨rs.map lD,rnd,rmem,by rw[za4];exact big⟩ H2 S2)
   refine ah (by rw[za4];exact yaa (by lia)) ?_;refine⟨_,rfl,dI,_,rfl,dk,λl0 zs0 n0 dz0=>?_⟩;have T0:=af (o:=HO.lst zs0) n0;rw[n9]at dz0;refine⟨l0,zs0,_,"tuple",rfl,SqL.of a8,dz0.same T0,λd hd=>?_,λd hd d' hd'=>?_,λd hd=>?_,λl zs es nl pz dz pe srt=>?_⟩
   ·obtain⟨b,_,rfl⟩:=za9.mp hd
    exact⟨_,_,rfl,rfl⟩
   ·obtain⟨b,_,rfl⟩:=za9.mp hd
    obtain⟨b',_,rfl⟩:=za9.mp hd';simp[lD,hD,Dt.kG,Dt.l9]
   ·obtain⟨b,_,rfl⟩:=za9.mp hd
    have:=nj b;show(A.deeper _).units+4+_<_
    lia
   obtain⟨qs,rfl,hqs⟩:=EJ (ps:=rs) (es:=es) λd hd=>by
    obtain⟨b,hb,rfl⟩:=za9.mp (pe.mem_iff.mp hd);exact⟨b,hb,rfl⟩
   have qnd:(qs.map lD).Nodup:=pe.nodup_iff.mpr rnd;have ql:qs.length=rs.length:=by
    have:=pe.length_eq;rw[za4,za4]at this;exact this
   have zl:zs.length=qs.length:=by rw[dz.length,za4]
   have T:=af (o:=HO.lst zs) nl;have ez:(upd (upd H2 l0 (.lst zs0)) l (.lst zs)) l=some (.lst zs):=a8;have dz2:=dz.same T;have dk2:=dk.same (T0.trans T);have S72:=S2.trans (T0.trans T);revert ez dz2 dk2 S72;generalize (upd (upd H2 l0 (.lst zs0)) l (.lst zs))=H9;intro ez dz2 dk2 S72;refine⟨l,rfl,⟨_,SqL.of ez⟩,λM nM=>?_⟩;refine mI (J:=Itl K l) (n:=zs.length) (λj σ3 H10=>(∃ v0,σ3=[v0,some (.ref dI)])/\kf H9 H10/\Pic H10 M (qs.take j)) ?_ ?_ ?_ ?_
   ·exact⟨⟨_,rfl⟩,af nM,[],a8,.nil⟩
   ·rintro j σ3 H10 hj ⟨⟨v1,rfl⟩,S10,_⟩
    exact⟨zs,_,SqL.of (S10 _ _ ez),za6 hj⟩
   ·rintro σ3 H10 ⟨⟨v1,rfl⟩,S10,hM⟩
    rw[zav (by lia)]at hM;refine⟨⟨zs,SqL.of (S10 _ _ ez),za5 _⟩,k no (wx rnd rmem (by rw[za4];lia)) M qs H10 ⟨S72.trans S10,aH S72 nM,hM,List.Pairwise.imp (λh e=>h (by rw[e])) (List.pairwise_map.mp (show((qs.map lD).Pairwise (·≠·)) from qnd)),λb=>⟨λhb=>rin b (hqs b hb),λhb=>?_⟩,Bh srt qnd⟩⟩;obtain⟨c,hc,e⟩:=za9.mp (pe.mem_iff.mpr (za9.mpr ⟨b,rall b hb,rfl⟩));rw[<- jq rnd (hqs c hc) (rall b hb) e];exact hc
   ·rintro j σ3 H10 hj ⟨⟨v1,rfl⟩,S10,us,eM,dM⟩ y H11 ⟨e11,hy⟩
    have hy:=hy zs (SqL.of (S10 _ _ ez));rw[e11];obtain⟨d,ed,dy⟩:=(dz2.same S10).at j y hy;rw[zan]at ed;cases ha:qs[j]? with
    | none=>rw[ha]at ed;cases ed
    | some an =>
     rw[ha]at ed;cases ed;have hmem:=hqs an (zam ha);obtain⟨r',rfl⟩:=FQ dy;refine⟨_,rfl,_,rfl,_,rfl,dI,r',lD an,rs.map kvP,_,rfl,rfl,dy,nj an,dk2.same S10,FP hmem rnd,szr rfl,λq nq=>?_⟩;have Tq:=af (o:=HO.tup [V.ref r',.str an.c]) nq;have eM2:=Tq _ _ eM;have ul:us.length=j:=by
      rw[dM.length,za4,zaw]
      grind
     refine⟨_,eM2,bp (by lia),⟨_,rfl⟩,ao (S10.trans Tq) nM,_,a8,?_⟩;rw[zbo,ha,zae];refine aG.snoc ?_ ((dM.same Tq).lT eM2);have dd2:kj (upd H10 q (HO.tup [V.ref r',.str an.c])) (.ref q) (pD an):=.tup a8 (.cons (dy.same Tq) (.cons (.str _) .nil));exact dd2.lT eM2
def Alike(H:Hp)(x y:V):Prop:=(∃ s,x=.str s/\y=.str s)\/∃ (a b:Addr) (ps:List Pl),x=.ref a/\y=.ref b/\Pic H a ps/\Pic H b ps
def Bj:Sp:=λvs H Q _=>∃ x y,vs=[x,y]/\Alike H x y/\Q (.bl true) H
theorem Bk:az ["_law_found","_law_due_here","_law_pair"] ["_law_found","_law_due_here"] (aj w8):=fsk (by decide +kernel)
theorem Dr(D:Df K mg "_law_same" w8 f fd)(B:Blt mg):ke P w K mg base CX0 2 f fd ["_law_found","_law_due_here"] Bj:=by
 refine D.F.ok Bk (λvs H Q E h=>?_) (λcdv A outer s H vs Q E hr h=>?_)
 ·obtain⟨x,y,rfl,_⟩:=h
  rfl
 ·obtain⟨x,y,rfl,al,z⟩:=h
  refine⟨_,(aa (aK (bq (aE cb (by rfl) B.isi yax (pac (pv 1) (pac (cr (v:=.ty "str") (by rfl) B.str yc8 rfl) a9))))
    (ae (av (iz (aE cb (by rfl) B.isi yax (pac (pv 0) (pac (cr (v:=.ty "str") (by rfl) B.str yc8 rfl) a9))) (gn (cU aX (pv 0) (pv 1) (au _)))))) ax)
   (aa (aK (PW.pt (dZ (cP (bq (aE cb (by rfl) B.isi yax (pac (pv 0) (pac (cr (v:=.ty "list") (by rfl) B.list boot_list rfl) a9)))))
     (f6 (ap (zI hr) (pv 0) (pv 1) (au _))))) (ae (av jF)) ax)
   (aa (cQ ybc rfl (cT (pv 0)) (aQ (i:=2) Bk.nd rfl (Or.inl rfl))
    (ae (aK (PW.pt (dZ (cP (bq (aE cb (by rfl) B.isi yax (pac (pv 2) (pac (cr (v:=.ty "tuple") (by rfl) B.tuple boot_tuple rfl) a9)))))
      (dZ (cP (bq (aE cb (by rfl) B.isi yax (pac (aD aM (pv 2) ad (λ_ _=>rfl)) (pac (cr (v:=.ty "tuple") (by rfl) B.tuple boot_tuple rfl) a9)))))
      (f6 (bq (aE cb (by rfl) B.isi yax (pac (aD aM (aD aM (aD aM (pv 2) ad (λ_ _=>rfl)) ad (λ_ _=>rfl)) ad (λ_ _=>rfl)) (pac (cr (v:=.ty "bool") (by rfl) B.bool boot_bool rfl) a9)))))))) (ae (av jF)) ax)))
   (ae (av jF))))),?_⟩
  rcases al with ⟨t,rfl,rfl⟩ | ⟨a,b,ps,rfl,rfl,⟨xs,ea,hD⟩,ys,eb,hE⟩
  ·refine⟨_,rfl,_,.str,.str,rfl,.str _,_,rfl,kH ?_⟩
   refine⟨_,rfl,_,.str,.str,rfl,.str _,_,rfl,kH ?_⟩;refine⟨_,rfl,_,rfl,rfl,?_⟩;simpa using z
  ·refine⟨_,rfl,.ref b,.lst,.str,rfl,.lst eb,_,rfl,kr ?_⟩
   refine⟨_,rfl,.ref a,.lst,.lst,rfl,.lst ea,_,rfl,kr ?_⟩;refine⟨_,rfl,_,rfl,a,b,xs,ys,_,_,rfl,rfl,SqL.of ea,SqL.of eb,hD,hE,λd hd=>zap (jV _ d hd) (by decide),_,rfl,?_⟩;rw[Dt.xG];refine ah rfl ?_;refine⟨_,rfl,a,rfl,⟨_,SqL.of ea⟩,?_⟩;refine cW (K:=K) (a:=a) (xs:=xs) (λi σ H2=>(∃ v,σ=[some (.ref a),some (.ref b),v])/\H2=H) ⟨⟨_,rfl⟩,rfl⟩ (λi σ H2 _ ⟨_,e⟩=>by rw[e];exact SqL.of ea) ?_ ?_
   ·rintro i x σ H2 hx ⟨⟨v,rfl⟩,rfl⟩
    obtain⟨c,hp,dx⟩:=EI hD hx;obtain⟨r,xl,rfl,er,hl⟩:=qj dx;obtain⟨x1,y1,el,hx1,hy1⟩:=rQ hl;refine⟨_,rfl,.ref r,.tup,.tup,rfl,.tup er,_,rfl,kr ?_⟩;refine⟨_,rfl,r,_,_,_,rfl,rfl,SqT.of er,rfl,_,.tup,.tup,rfl,.tup el,_,rfl,kr ?_⟩;refine⟨_,rfl,r,_,_,_,rfl,rfl,SqT.of er,rfl,xl,_,_,_,rfl,rfl,SqT.of el,rfl,x1,_,_,_,rfl,rfl,SqT.of hx1,rfl,_,.int,.bl,rfl,.int _,_,rfl,kr ?_⟩;exact⟨⟨_,rfl⟩,rfl⟩
   ·rintro σ H2 ⟨⟨v,rfl⟩,rfl⟩
    exact z
theorem Bl(x y:Int):decide ((if (if y<0 then -y else y)>(if x<0 then -x else x) then (if y<0 then -y else y) else (if x<0 then -x else x))>1000000000)=!inB (x,y):=by
 have:inB (x,y)=decide ((-1000000000<=x/\x<=1000000000)/\(-1000000000<=y/\y<=1000000000)):=by
  simp[inB,good,Bool.decide_and]
 rw[this,<- decide_not];refine decide_eq_decide.mpr ?_;split<;>split<;>split<;>omega
end
end K26
namespace K26
open PySem PySem.Spec PyProof.Rows L2 BF PySem.NumText
seal L2.PE L2.PA L2.PS L2.PSs L2.PT L2.PW L2.PG L2.PGs L2.PI BF.PTs L2.PPs L2.PO
def dg(m:Nat):List Nat:=(Nat.toDigits 10 m).map Char.toNat
theorem dU(h:m<10):dg m=[48+m]:=by
 unfold dg;rw[Nat.toDigits_of_lt_base h];have:m=0\/m=1\/m=2\/m=3\/m=4\/m=5\/m=6\/m=7\/m=8\/m=9:=by lia
 rcases this with rfl | rfl | rfl | rfl | rfl | rfl | rfl | rfl | rfl | rfl<;>rfl
theorem uy(h:10<=m):dg m=dg (m / 10)++[48+m % 10]:=by
 have e:=dU (m:=m % 10) (by grind);unfold dg at e ⊢;rw[Nat.toDigits_of_lt_base (by omega)]at e;rw[Nat.toDigits_of_base_le (by decide) h,zae]
 congr 1
theorem nu:∀ (n m:Nat),m<=n->AllDigits (dg m)
 | 0,m,h=>by
  have:m=0:=by lia
  subst this;rw[dU (by decide)];intro c hc;rw[zac.mp hc]
  decide
 | n+1,m,h=>by
  by_cases h10:m<10
  ·rw[dU h10]
   intro c hc;rw[zac.mp hc]
   lia
  ·rw[uy (by lia)]
   intro c hc;rcases zaj.mp hc with hc | hc
   ·exact nu n (m / 10) (by lia) c hc
   ·rw[zac.mp hc]
    grind
theorem qD:∀ (n m:Nat),m<=n->1<=m->∃ c r,dg m=c::r/\49<=c
 | 0,m,h,h1=>by lia
 | n+1,m,h,h1=>by
  by_cases h10:m<10
  ·exact⟨_,_,dU h10,by lia⟩
  ·obtain⟨c,r,e,hc⟩:=qD n (m / 10) (by omega) (by lia)
   exact⟨c,r++[48+m % 10],by rw[uy (by lia),e];rfl,hc⟩
theorem sG(m:Nat):dg m≠[]:=by
 by_cases h:m=0
 ·subst h;rw[dU (by decide)];simp
 ·obtain⟨c,r,e,_⟩:=qD m m (za5 _) (by lia)
  rw[e];simp
theorem qE:∀ (k m:Nat),m<10 ^ (k+1)->(dg m).length<=k+1
 | 0,m,h=>by rw[dU (by simpa using h)];exact za5 _
 | k+1,m,h=>by
  by_cases h10:m<10
  ·rw[dU h10]
   show 1<=_
   lia
  ·rw[uy (by omega),za7]
   have:=qE k (m / 10) (by rw[Nat.pow_succ]at h;lia);show _+1<=_
   lia
theorem qF(h:m<10 ^ 10):(dg m).length<=10:=qE 9 m h
theorem jr(m:Nat):(nT (m:Int)).cps.toList=dg m:=W.KIN.signs_num m
theorem nv(m:Nat)(h:1<=m):(nT (-(m:Int))).cps.toList=45::dg m:=by
 obtain⟨k,rfl⟩:∃ k,m=k+1:=⟨m-1,by lia⟩;have e:=jr (k+1);unfold nT at e ⊢;have e2:(-((k+1:Nat):Int))=Int.negSucc k:=by lia
 rw[e2];rw[signs_ofString]at e ⊢;have t:toString (Int.negSucc k)="-"++toString (k+1):=rfl;have t2:toString ((k+1:Nat):Int)=toString (k+1):=rfl;rw[t2]at e;rw[t,String.toList_append,zae,e];rfl
theorem cj{n:Int}(h:n.natAbs<10 ^ 10):PySem.intText? (nT n)=some n/\(nT n).length<=640:=by
 have len:∀ x:Str,x.cps.toList.length=x.length:=λx=>zal
 by_cases h0:0<=n
 ·obtain⟨m,rfl⟩:=ybh h0
  refine⟨W.KIN.num_reads h0 (by omega),?_⟩;have:=qF (m:=m) (by assumption);rw[<- jr,len]at this
  lia
 ·obtain⟨m,hm⟩:∃ m:Nat,n=-(m:Int):=⟨n.natAbs,by grind⟩
  subst hm;have hm1:1<=m:=by lia
  have e:=nv m hm1;have hl:=qF (m:=m) (by omega);have ll:(nT (-(m:Int))).length<=11:=by
   rw[<- len,e,za2]
   lia
  refine⟨?_,by lia⟩;rw[intText_neg e (nu m m (za5 _)) (sG m) (by lia)];have:=W.KIN.val_back m;show some (-((digitsVal (dg m):Nat):Int))=_;rw[show digitsVal (dg m)=m from this]
def kQ(n:Int):Str:=⟨(dg n.natAbs).toArray⟩
theorem uz(h:0<=n):nT n=kQ n:=by
 obtain⟨m,rfl⟩:=ybh h;exact gO (by rw[jr];rfl)
theorem nz(h:n<0):nT n=⟨#[45]⟩++kQ n:=by
 obtain⟨m,hm⟩:∃ m:Nat,n=-(m:Int):=⟨n.natAbs,by grind⟩;subst hm;refine gO ?_;rw[nv m (by lia)];have:(-(m:Int)).natAbs=m:=by lia
 unfold kQ;rw[this];show _=(#[45]++(dg m).toArray).toList;rw[zao];rfl
theorem yc(h:0<=n):Txt.startswith (nT n) "-"=false:=by
 rw[uz h];have hd:=nu n.natAbs n.natAbs (za5 _);have hne:=sG n.natAbs;unfold Txt.startswith Builtin.Str.subAt kQ;cases hg:dg n.natAbs with
 | nil=>exact absurd hg hne
 | cons c r =>
  have hc:48<=c:=(hd c (by rw[hg];exact za1)).1;have e:((⟨(c::r).toArray⟩:AL).cps.extract 0 (0+(Str.ofString "-").length)==(Str.ofString "-").cps)=false:=by
   show((c::r).toArray.extract 0 1==#[45])=false;simp
   lia
  rw[e,Bool.and_false]
theorem uA(h:n<0):Txt.startswith (nT n) "-"=true:=by
 rw[nz h];exact W.KT.starts_app _ _
theorem nA(x:AL):x.cps.toList.length=x.length:=zal
theorem Bm{n:Int}(h:n.natAbs<10 ^ 10):1<=(kQ n).length/\(kQ n).length<=10:=by
 have e:(kQ n).length=(dg n.natAbs).length:=by
  rw[<- nA];rfl
 rw[e];have:=sG n.natAbs;refine⟨?_,qF h⟩;cases hd:dg n.natAbs with
 | nil=>exact absurd hd this
 | cons c r=>rw[za2];lia
theorem Bn(h:n<0):Txt.slice (nT n) (some 1) none=kQ n:=by
 have e:=nz h;have hl:(nT n).cps.toList=45::dg n.natAbs:=by
  rw[e];show(#[45]++(dg n.natAbs).toArray).toList=_;rw[zao];rfl
 have hL:(nT n).length=(dg n.natAbs).length+1:=by rw[<- nA,hl,za2]
 rw[slice_from_eq (x:=nT n) (i:=1) (b:=((nT n).length:Int)) (by decide) (by lia) rfl,hl,hL];unfold kQ;have e3:((45::dg n.natAbs).drop (1:Int).toNat).take ((((dg n.natAbs).length+1:Nat):Int)-1).toNat=dg n.natAbs:=by
  show((45::dg n.natAbs).drop 1).take _=_;rw[List.drop_succ_cons,ydl,zav (by lia)]
 rw[e3]
theorem Bo(h1:48<=c)(h2:c<=57):(!decide ((⟨#[c]⟩:AL).cps.toList<(Str.ofString "0").cps.toList))=true/\(!decide ((Str.ofString "9").cps.toList<(⟨#[c]⟩:AL).cps.toList))=true:=by
 have:c=48\/c=49\/c=50\/c=51\/c=52\/c=53\/c=54\/c=55\/c=56\/c=57:=by lia
 rcases this with rfl | rfl | rfl | rfl | rfl | rfl | rfl | rfl | rfl | rfl<;>decide +kernel
section
variable{P:AF}{w:AJ}{K:A2}{mg:A5}{base:AO}
def Bp:Sp:=λvs H Q _=>∃ n:Int,vs=[.str (nT n)]/\n.natAbs<10 ^ 10/\∀ H',kf H H'->Q (.bl true) H'
theorem Bq:az ["word","figures"] ["word"] (aj vW):=fsk (by decide +kernel)
theorem Ds(D:Df K mg "is_number_word" vW f fd)(B:Blt mg):ke P w K mg base CX0 1 f fd ["word"] Bp:=by
 obtain⟨tf,fig⟩:=B.fig;refine D.F.ok Bq (λvs H Q E h=>?_) (λcdv A outer s H vs Q E hr h=>?_)
 ·obtain⟨n,rfl,_⟩:=h
  rfl
 ·obtain⟨n,rfl,hn,z⟩:=h
  refine⟨_,(aa (ay (i:=1) Bq.nd rfl (Or.inl rfl) (eN (bq (cX yd5 F.slot_str_startswith F.type_str_startswith xR (pv 0) (pac (ag) a9))) (my z7 (pv 0) (pU ad) pT) (pv 0)))
   (aa (aK (cP (bq (aE (rn rfl) (by rfl) B.all boot_all (pac (iR (N':=["sign"]) (idx:=[none]) (eR (by kernel_rfl)) (by kernel_rfl) rfl (z5 (pv 1)) (λ_ _ _ _ _=>aQ (i:=0) (show(["sign"]:AH).Nodup by decide +kernel) rfl (Or.inl rfl)) (λ_ _ _ _ _=>iQ)
     (λ_ _ _ _ _=>iS qa qa ag (pv 0) ag)) a9)))) (ae (av jF)) ax)
   (ae (av (iz (iS iW iW ad (aE dC (by rfl) B.len ybe (pac (pv 1) a9)) (aP (v:=.int 10) rfl fig ⟨_,rfl⟩)) (gn (Ej (cU aX (pv 0) ag (au _)) (gn (cU ie (aD yT (pv 1) ad (λ_ _=>rfl)) ag (au _)))))))))),?_⟩
  have small:∀ k:Nat,k<=640->k<=sizeLine:=λk hk=>by rw[yau];lia
  refine' bz (λσ H1=>σ=[some (.str (nT n)),some (.str (kQ n))]/\H1=H) (λfin=>_) _
  rotate_left
  ·refine⟨_,rfl,rfl,nT n,"-",rfl,rfl,_,rfl,?_⟩
   by_cases h0:n<0
   ·refine aw (uA h0) ⟨_,rfl,_,rfl,nT n,rfl,small _ (cj hn).2,?_⟩
    rw[Bn h0];exact fin _ _ ⟨rfl,rfl⟩
   ·refine ah (yc (by grind)) ⟨_,rfl,?_⟩
    refine fin _ _ ⟨?_,rfl⟩;rw[<- uz (by omega)];rfl
  rintro σ H1 ⟨rfl,rfl⟩;obtain⟨l1,l10⟩:=Bm hn;have fa:=nu n.natAbs n.natAbs (za5 _);refine⟨_,rfl,kQ n,rfl,λL nL=>?_⟩;refine mI (J:=Its (kQ n)) (n:=(kQ n).cps.size) (λi σ2 H2=>(∃ v,σ2=[v])/\kf H1 H2/\H2 L=some (.lst ((List.replicate i true).map V.bl))) ?_ (λi σ2 H2 hi _=>hi) ?_ ?_
  ·exact⟨⟨_,rfl⟩,af nL,a8⟩
  ·rintro σ2 H2 ⟨⟨v,rfl⟩,S2,e2⟩
   refine⟨rfl,L,_,rfl,SqL.of e2,_,rfl,?_⟩;rw[show(List.replicate (kQ n).cps.size true).all id=true by simp];refine kr ?_;refine⟨_,rfl,kQ n,rfl,small _ (by lia),_,_,rfl,rfl,_,rfl,aw (yab (by show(1:Int)<=((kQ n).length:Int);lia)) ?_⟩;refine⟨_,_,rfl,rfl,_,rfl,aw (yab (by show((kQ n).length:Int)<=10;lia)) ?_⟩;refine⟨_,rfl,rfl,_,rfl,?_⟩;by_cases h0:n=0
   ·subst h0
    exact aw (by decide +kernel) (z H2 S2)
   ·refine ah (yaa λe=>?_) ?_
    ·injection e with e
     have hr:=(cj hn).1;rw[e]at hr;have h0r:PySem.intText? (Str.ofString "0")=some 0:=W.KIN.num_reads (n:=0) (by decide) (by decide);rw[h0r]at hr;exact h0 (yat hr).symm
    ·obtain⟨c,r,ec,hc⟩:=qD n.natAbs n.natAbs (za5 _) (by lia)
     have ea:atI (kQ n).cps.toList 0=some c:=by
      have:(kQ n).cps.toList=c::r:=by
       show(dg n.natAbs).toArray.toList=_;rw[zby,ec]
      rw[this];exact fj (xs:=c::r) (j:=0) rfl
     refine⟨_,rfl,kQ n,0,c,rfl,rfl,small _ (by lia),ea,rfl,?_⟩;have:(!decide (V.str ⟨#[c]⟩=V.str "0"))=true:=by
      rw[yaa]
      ·rfl
      ·intro e
       injection e with e
       have e2:(⟨#[c]⟩:AL).cps.toList=(Str.ofString "0").cps.toList:=by rw[e]
       have e3:[c]=[48]:=e2;injection e3 with e4
       lia
     rw[this];exact z H2 S2
  ·rintro i σ2 H2 hi ⟨⟨v,rfl⟩,S2,e2⟩ x H3 ⟨rfl,c,hc,rfl⟩
   have hcm:c∈dg n.natAbs:=by
    have:(kQ n).cps.toList[i]?=some c:=by rw[zb4];exact hc
    have h2:(dg n.natAbs)[i]?=some c:=by
     have e:(kQ n).cps.toList=dg n.natAbs:=zby ..;rw[e]at this;exact this
    exact zam h2
   obtain⟨d1,d2⟩:=Bo (fa c hcm).1 (fa c hcm).2;have hi':i<(kQ n).length:=hi;refine⟨_,rfl,_,_,rfl,rfl,_,rfl,aw d1 ?_⟩;refine⟨_,_,rfl,rfl,?_⟩;rw[d2];refine⟨_,e2,?_,⟨_,rfl⟩,ao S2 nL,?_⟩
   ·rw[za4,List.length_replicate]
    exact bp (by lia)
   ·rw[a8,List.replicate_succ',zae]
    rfl
def dH:Sp:=λvs H Q _=>∃ (n lo hi:Int),vs=[.str (nT n),.int lo,.int hi]/\n.natAbs<10 ^ 10/\lo<=n/\n<=hi/\∀ H',kf H H'->Q (.int n) H'
theorem sH:az ["word","least","most","value"] ["word","least","most"] (aj dY):=fsk (by decide +kernel)
theorem ye{f:AA}{fd:AG}(D:Df K mg "number" dY f fd)(B:Blt mg)
  (DW:Df K mg "is_number_word" vW fW fdW) (bW:ar K fdW ["word"] []) (GW:ke P w K mg base CX0 1 fW fdW ["word"] Bp):ke P w K mg base CX0 2 f fd ["word","least","most"] dH:=by
 refine D.F.ok sH (λvs H Q E h=>?_) (λcdv A outer s H vs Q E hr h=>?_)
 ·obtain⟨n,lo,hi,rfl,_⟩:=h
  rfl
 ·obtain⟨n,lo,hi,rfl,hn,h1,h2,z⟩:=h
  refine⟨_,(aa (aK (cP (bq (pec GW hr rfl DW.m DW.F.kp bW .nil aF (pac (pv 0) a9)))) (ae (cF)) ax)
   (aa (ay (i:=3) sH.nd rfl (Or.inl rfl) (b8 eT (by rfl) B.int yd4 (pac (pv 0) a9)))
   (aa (aK (cP (qX iW iW (pv 1) (pv 3) (pv 2))) (ae (cF)) ax)
   (ae (av (pv 3)))))),?_⟩
  refine⟨_,rfl,n,rfl,hn,λH1 S1=>⟨_,rfl,kr ?_⟩⟩;obtain⟨r1,r2⟩:=cj hn;refine⟨_,rfl,nT n,n,rfl,r1,r2,?_⟩;refine⟨_,rfl,_,rfl,_,_,rfl,rfl,_,rfl,aw (yab h1) ?_⟩;refine⟨_,rfl,_,_,rfl,rfl,_,rfl,?_⟩;rw[yab h2];exact kr ⟨_,rfl,z H1 S1⟩
end
end K26
namespace K26
open PySem PySem.Spec PyProof.Rows L2 BF
seal L2.PE L2.PA L2.PS L2.PSs L2.PT L2.PW L2.PG L2.PGs L2.PI BF.PTs L2.PPs L2.PO
def wv(ws:List Str):HO:=.lst (ws.reverse.map V.str)
def WL(H:Hp)(wl:Addr)(ws:List Str):Prop:=H wl=some (wv ws)
theorem qG(x:AL)(ws:AH):wv (x::ws)=.lst (ws.reverse.map V.str++[V.str x]):=by
 unfold wv;rw[zar,zae];rfl
section
variable{P:AF}{w:AJ}{K:A2}{mg:A5}{base:AO}
def eY:Sp:=λvs H Q _=>∃ (wl:Addr) (x:Str) (ws:List Str),vs=[.ref wl]/\WL H wl (x::ws)/\Q (.str x) (upd H wl (wv ws))
theorem FR:az ["words"] ["words"] (aj ib):=fsk (by decide +kernel)
theorem Du(D:Df K mg "next_word" ib f fd):ke P w K mg base CX0 1 f fd ["words"] eY:=by
 refine D.F.ok FR (λvs H Q E h=>?_) (λcdv A outer s H vs Q E hr h=>?_)
 ·obtain⟨wl,x,ws,rfl,_⟩:=h
  rfl
 ·obtain⟨wl,x,ws,rfl,hw,z⟩:=h
  refine⟨_,(ae (av (eN (gf (pv 0) (λ_=>rfl)) (tM yap ye8 F.type_list_pop tP (pv 0)) ag))),?_⟩;have hw':H wl=some (.lst (ws.reverse.map V.str++[V.str x])):=by rw[<- qG];exact hw
  refine⟨_,rfl,true,?_,kH ⟨_,rfl,.inl ⟨rfl,_,SqL.of hw'⟩,wl,_,.str x,rfl,rfl,hw',by simp,?_⟩⟩
  ·exact .inl ⟨_,SqL.of hw',by simp⟩
  ·rw[yea]
   exact z
def ft:Sp:=λvs H Q _=>∃ (wl:Addr) (x:Str) (ws:List Str),vs=[.ref wl,.str x]/\WL H wl (x::ws)/\Q .non (upd H wl (wv ws))
theorem Br:az ["words","wanted"] ["words","wanted"] (aj eZ):=fsk (by decide +kernel)
theorem yf{f:AA}{fd:AG}(D:Df K mg "expect" eZ f fd)(DN:Df K mg "next_word" ib fN fdN)(bN:ar K fdN ["words"] [])(GN:ke P w K mg base CX0 1 fN fdN ["words"] eY):ke P w K mg base CX0 2 f fd ["words","wanted"] ft:=by
 refine D.F.ok Br (λvs H Q E h=>?_) (λcdv A outer s H vs Q E hr h=>?_)
 ·obtain⟨wl,x,ws,rfl,_⟩:=h
  rfl
 ·obtain⟨wl,x,ws,rfl,hw,z⟩:=h
  refine⟨_,(ae (aK (ap ie (pec GN hr rfl DN.m DN.F.kp bN .nil aF (pac (pv 0) a9)) (pv 1) (au _)) (ae (cF)) ax)),?_⟩;exact⟨_,rfl,wl,x,ws,rfl,hw,_,rfl,rfl,_,rfl,ah (by simp) z⟩
def pk(kw:Str)(m:Int)(ex:Prop):Sp:=λvs H Q _=>∃ (wl:Addr) (H0:Hp) (a b:Int) (ws:List Str),vs=[.ref wl]/\WL H wl (nT a::nT b::ws)/\(-m<=a/\a<=m)/\(-m<=b/\b<=m)/\(ex->¬ (a=0/\b=0))/\kf H0 H/\H0 wl=none/\∀ t H',kf H0 H'->WL H' wl ws->H0 t=none->t≠wl->H' t=some (.tup [.str kw,.int a,.int b])->Q (.ref t) H'
theorem nB:az ["words","x","y"] ["words"] (aj iM):=fsk (by decide +kernel)
theorem yg{f:AA}{fd:AG}(D:Df K mg "read_line" iM f fd)(B:Blt mg)(DN:Df K mg "next_word" ib fN fdN)(bN:ar K fdN ["words"] [])(GN:ke P w K mg base CX0 1 fN fdN ["words"] eY)
  (DM:Df K mg "number" dY fM fdM) (bM:ar K fdM ["word","least","most"] []) (GM:ke P w K mg base CX0 2 fM fdM ["word","least","most"] dH):ke P w K mg base CX0 3 f fd ["words"] (pk "line" 9 True):=by
 obtain⟨tl,lon⟩:=B.lon;refine D.F.ok nB (λvs H Q E h=>?_) (λcdv A outer s H vs Q E hr h=>?_)
 ·obtain⟨wl,H0,a,b,ws,rfl,_⟩:=h
  rfl
 ·obtain⟨wl,H0,a,b,ws,rfl,hw,ha,hb,hab,S0,n0,z⟩:=h
  have hr1:ki 1 _:=hr.mono (by decide);refine⟨_,(aa (ay (i:=1) nB.nd rfl (Or.inl rfl) (pec GM hr rfl DM.m DM.F.kp bM .nil aF (pac (pec GN hr1 rfl DN.m DN.F.kp bN .nil aF (pac (pv 0) a9)) (pac (cp bc (aP (v:=.int 9) rfl lon ⟨_,rfl⟩)) (pac (aP (v:=.int 9) rfl lon ⟨_,rfl⟩) a9)))))
   (aa (ay (i:=2) nB.nd rfl (Or.inl rfl) (pec GM hr rfl DM.m DM.F.kp bM .nil aF (pac (pec GN hr1 rfl DN.m DN.F.kp bN .nil aF (pac (pv 0) a9)) (pac (cp bc (aP (v:=.int 9) rfl lon ⟨_,rfl⟩)) (pac (aP (v:=.int 9) rfl lon ⟨_,rfl⟩) a9)))))
   (aa (aK (PW.pt (df (ap aX (pv 1) ad (au _)) (cR (ap aX (pv 2) ad (au _))))) (ae (cF)) ax)
   (ae (av (aI (pac (ag) (pac (pv 1) (pac (pv 2) a9))))))))),?_⟩
  refine⟨_,rfl,wl,_,_,rfl,hw,_,rfl,a,-9,9,rfl,by omega,by lia,by lia,λH1 S1=>?_⟩;have S01:kf H0 H1:=(ao S0 n0).trans S1;have hw1:WL H1 wl (nT b::ws):=S1 _ _ a8;refine⟨_,rfl,wl,_,_,rfl,hw1,_,rfl,b,-9,9,rfl,by omega,by lia,by lia,λH2 S2=>?_⟩;have S02:kf H0 H2:=(ao S01 n0).trans S2;have hw2:WL H2 wl ws:=S2 _ _ a8;have fin:∀ t,H2 t=none->Q (.ref t) (upd H2 t (.tup [.str "line",.int a,.int b])):=λt nt=>by
   have T:=af (o:=HO.tup [V.str "line",.int a,.int b]) nt;exact z t _ (S02.trans T) (T _ _ hw2) (aH S02 nt) (λe=>by rw[e,show H2 wl=_ from hw2]at nt;cases nt) a8
  refine⟨_,rfl,rfl,_,rfl,?_⟩;by_cases h1:a=0
  ·refine aw (yab (by rw[h1])) ⟨_,rfl,rfl,_,rfl,?_⟩
   refine ah (yaa λe=>hab True.intro ⟨h1,by injection e⟩) ?_;exact⟨_,rfl,_,rfl,szr rfl,fin⟩
  ·refine ah (yaa λe=>h1 (by injection e)) (kr ?_)
   exact⟨_,rfl,_,rfl,szr rfl,fin⟩
theorem uE:az ["words","x","y"] ["words"] (aj sj):=fsk (by decide +kernel)
theorem Dv{f:AA}{fd:AG}(D:Df K mg "read_by" sj f fd)(B:Blt mg)(DN:Df K mg "next_word" ib fN fdN)(bN:ar K fdN ["words"] [])(GN:ke P w K mg base CX0 1 fN fdN ["words"] eY)
  (DM:Df K mg "number" dY fM fdM) (bM:ar K fdM ["word","least","most"] []) (GM:ke P w K mg base CX0 2 fM fdM ["word","least","most"] dH):ke P w K mg base CX0 3 f fd ["words"] (pk "by" 1000000000 False):=by
 obtain⟨tl,lon⟩:=B.far;refine D.F.ok uE (λvs H Q E h=>?_) (λcdv A outer s H vs Q E hr h=>?_)
 ·obtain⟨wl,H0,a,b,ws,rfl,_⟩:=h
  rfl
 ·obtain⟨wl,H0,a,b,ws,rfl,hw,ha,hb,hab,S0,n0,z⟩:=h
  have hr1:ki 1 _:=hr.mono (by decide);refine⟨_,(aa (ay (i:=1) uE.nd rfl (Or.inl rfl) (pec GM hr rfl DM.m DM.F.kp bM .nil aF (pac (pec GN hr1 rfl DN.m DN.F.kp bN .nil aF (pac (pv 0) a9)) (pac (cp bc (aP (v:=.int 1000000000) rfl lon ⟨_,rfl⟩)) (pac (aP (v:=.int 1000000000) rfl lon ⟨_,rfl⟩) a9)))))
   (aa (ay (i:=2) uE.nd rfl (Or.inl rfl) (pec GM hr rfl DM.m DM.F.kp bM .nil aF (pac (pec GN hr1 rfl DN.m DN.F.kp bN .nil aF (pac (pv 0) a9)) (pac (cp bc (aP (v:=.int 1000000000) rfl lon ⟨_,rfl⟩)) (pac (aP (v:=.int 1000000000) rfl lon ⟨_,rfl⟩) a9)))))
   (ae (av (aI (pac (ag) (pac (pv 1) (pac (pv 2) a9)))))))),?_⟩
  refine⟨_,rfl,wl,_,_,rfl,hw,_,rfl,a,-1000000000,1000000000,rfl,by omega,by lia,by lia,λH1 S1=>?_⟩;have S01:kf H0 H1:=(ao S0 n0).trans S1;have hw1:WL H1 wl (nT b::ws):=S1 _ _ a8;refine⟨_,rfl,wl,_,_,rfl,hw1,_,rfl,b,-1000000000,1000000000,rfl,by omega,by lia,by lia,λH2 S2=>?_⟩;have S02:kf H0 H2:=(ao S01 n0).trans S2;have hw2:WL H2 wl ws:=S2 _ _ a8;refine⟨_,rfl,_,rfl,szr rfl,λt nt=>?_⟩;have T:=af (o:=HO.tup [V.str "by",.int a,.int b]) nt;exact z t _ (S02.trans T) (T _ _ hw2) (aH S02 nt) (λe=>by rw[e,show H2 wl=_ from hw2]at nt;cases nt) a8
def qH:Sp:=λvs H Q _=>∃ (wl:Addr) (H0:Hp) (c:Str) (ws:List Str),vs=[.ref wl]/\WL H wl (c::ws)/\lS (.str c)=true/\c.length<=8/\kf H0 H/\H0 wl=none/\∀ t H',kf H0 H'->WL H' wl ws->H0 t=none->t≠wl->H' t=some (.tup [.str "ink",.str c])->Q (.ref t) H'
theorem wC:az ["words","colour"] ["words"] (aj mX):=fsk (by decide +kernel)
theorem Bs{f:AA}{fd:AG}(D:Df K mg "read_ink" mX f fd)(DN:Df K mg "next_word" ib fN fdN)(bN:ar K fdN ["words"] [])(GN:ke P w K mg base CX0 1 fN fdN ["words"] eY)
  (DM:Df K mg "is_colour" jS fM fdM) (bM:ar K fdM ["thing"] []) (GM:ke P w K mg base CX0 1 fM fdM ["thing"] sC):ke P w K mg base CX0 2 f fd ["words"] qH:=by
 refine D.F.ok wC (λvs H Q E h=>?_) (λcdv A outer s H vs Q E hr h=>?_)
 ·obtain⟨wl,H0,c,ws,rfl,_⟩:=h
  rfl
 ·obtain⟨wl,H0,c,ws,rfl,hw,hc,hl,S0,n0,z⟩:=h
  refine⟨_,(aa (ay (i:=1) wC.nd rfl (Or.inl rfl) (pec GN hr rfl DN.m DN.F.kp bN .nil aF (pac (pv 0) a9)))
   (aa (aK (cP (bq (pec GM hr rfl DM.m DM.F.kp bM .nil aF (pac (pv 1) a9)))) (ae (cF)) ax)
   (ae (av (aI (pac (ag) (pac (pv 1) a9))))))),?_⟩
  refine⟨_,rfl,wl,_,_,rfl,hw,?_⟩;refine⟨_,rfl,.str c,.str,rfl,.str _,λy e=>by cases e;rw[yau];lia,λH1 S1=>?_⟩;rw[hc];have S01:kf H0 H1:=(ao S0 n0).trans S1;have hw1:WL H1 wl ws:=S1 _ _ a8;refine⟨_,rfl,kr ⟨_,rfl,szr rfl,λt nt=>?_⟩⟩;have T:=af (o:=HO.tup [V.str "ink",.str c]) nt;exact z t _ (S01.trans T) (T _ _ hw1) (aH S01 nt) (λe=>by rw[e,show H1 wl=_ from hw1]at nt;cases nt) a8
end
def kvW(f:Str->Addr):List (Key×V):=cM.map λx=>(Sum.inr x.1,V.ref (f x.1))
def Wy(P:Program)(w:World)(K:A2)(mg:A5):Prop:=∃ (d:Addr) (f:Str->Addr),mg "WAYS"=some (.ref d)/\TopD P w K d (kvW f)/\∀ x∈cM,∀ H,SqT K H (f x.1) [.int x.2.1,.int x.2.2]
theorem FT(f:Str->Addr):∀ x∈cM,kB (kvW f) (Sum.inr x.1)=some (.ref (f x.1)):=by
 intro x hx;simp only[cM,za0,zad,yaw]at hx;rcases hx with rfl | rfl | rfl | rfl | rfl | rfl | rfl | rfl<;>rfl
theorem FU(f:Str->Addr)(h:∀ x∈cM,x.1≠y):kB (kvW f) (Sum.inr y)=none:=by
 unfold kB kvW;rw[zbq,ycn];intro z hz;obtain⟨x,hx,rfl⟩:=za9.mp hz;simp only[decide_eq_true_eq];exact λe=>h x hx (by injection e)
theorem cG{m:Nat}{y:AL}(h:(y.cps.toList.head?).any (λc=>decide (48<=c/\c<=57))=false):nT (m:Int)≠y:=λe=>by
 have e1:=jr m;rw[e]at e1;have a:=nu m m (za5 _);cases hd:dg m with
 | nil=>exact sG m hd
 | cons c r =>
  rw[hd]at a e1;rw[e1]at h;have ac:=a c za1;simp at h;have:=ac
  lia
theorem Bt:∀ x∈cM,(x.1.cps.toList.head?).any (λc=>decide (48<=c/\c<=57))=false:=by
 intro x hx;simp only[cM,za0,zad,yaw]at hx;rcases hx with rfl | rfl | rfl | rfl | rfl | rfl | rfl | rfl<;>rfl
theorem gL{a:Int}(h:lG a b=some x):(x,(a,b))∈cM:=by
 unfold lG at h;cases e:cM.find? (λy=>decide (y.2=(a,b))) with
 | none=>rw[e]at h;cases h
 | some y =>
  rw[e]at h;have h1:=yde e;have h2:=List.find?_some e;obtain⟨y1,y2⟩:=y;have h3:y2=(a,b):=yae h2;have h4:y1=x:=yat h;rw[<- h3,<- h4];exact h1
theorem sI(s:Sk):∃ x r,s.wd=x::r/\x≠(")":AL):=by
 cases s with
 | line l a b =>
  cases l with
  | true=>simp only[Sk.wd,lnW];exact⟨_,_,rfl,by decide +kernel⟩
  | false =>
  simp only[Sk.wd,lnW,ij];cases h:lG a b with
  | none=>exact⟨_,_,rfl,by decide +kernel⟩
  | some x =>
   refine⟨x,[],rfl,λe=>?_⟩;have h1:=gL h;rw[e]at h1;have:(")":AL)∈cM.map (·.1):=za9.mpr ⟨_,h1,rfl⟩;exact absurd this (by decide +kernel)
 | by_ a b=>simp only[Sk.wd];exact⟨_,_,rfl,by decide +kernel⟩
 | ink c=>simp only[Sk.wd];exact⟨_,_,rfl,by decide +kernel⟩
 | back u=>simp only[Sk.wd];exact⟨_,_,rfl,by decide +kernel⟩
 | times m u=>simp only[Sk.wd];exact⟨_,_,rfl,cG rfl⟩
 | turn k u=>simp only[Sk.wd];exact⟨_,_,rfl,by decide +kernel⟩
theorem eX:∀ u:List Sk,u.length<=(wds u).length
 | []=>zb6 _
 | s::u=>by
  obtain⟨x,r,e,_⟩:=sI s;have:=eX u;simp only[wds,e,za7,za2]
  lia
def fr(H0 H:Hp)(M:List Addr):Hp:=λc=>match H0 c with
 | some _=>none
 | none=>if c∈M then none else H c
theorem EK{H0 H:Hp}(e:fr H0 H M c=some o):H0 c=none/\¬ c∈M/\H c=some o:=by
 unfold fr at e;cases h:H0 c with
 | some x=>rw[h]at e;cases e
 | none =>
  rw[h]at e;by_cases hm:c∈M
  ·simp only[hm,ycs]at e;cases e
  ·simp only[hm,ybj]at e;exact⟨rfl,hm,e⟩
theorem wD{H0 H:Hp}(h0:H0 c=none)(hm:¬ c∈M)(e:H c=some o):fr H0 H M c=some o:=by
 unfold fr;rw[h0];simp only[hm,ybj];exact e
theorem sJ{H0 H H0' H':Hp}{M:AM}(h:∀ c o,H0 c=none->¬ c∈M->H c=some o->H0' c=none/\¬ c∈M'/\H' c=some o):kf (fr H0 H M) (fr H0' H' M'):=λc o e=>by
 obtain⟨a,b,d⟩:=EK e;obtain⟨a',b',d'⟩:=h c o a b d;exact wD a' b' d'
theorem wF{H0:Hp}:kf (fr H0 H M) H:=λc o e=>(EK e).2.2
def w1(H:Hp)(x:Addr):Hp:=λc=>if c=x then none else H c
theorem sL{H:Hp}{x:AA}(e:H c=some o)(h:c≠x):w1 H x c=some o:=by
 unfold w1;rw[yac h];exact e
theorem w1_no:w1 H x x=none:=by unfold w1;rw[yad rfl]
theorem Dw:kf (w1 H x) H:=λc o e=>by
 unfold w1 at e;split at e
 ·cases e
 ·exact e
structure lU(H0 H:Hp)(wl L:Addr)(xs:List V)(u:List Sk)(ws:List Str):Prop where
 same:kf H0 H
 hw:WL H wl ws
 nl:H0 L=none
 ne:L≠wl
 el:H L=some (.lst xs)
 sk:aY (fr H0 H [wl,L]) xs u
structure lV(H0 H:Hp)(wl t:Addr)(s:Sk)(ws:List Str):Prop where
 same:kf H0 H
 hw:WL H wl ws
 nt:H0 t=none
 ne:t≠wl
 sk:kI (fr H0 H [wl]) (.ref t) s
theorem lU.push{H0:Hp}{wl:AA}{ws:AH}(n0:H0 wl=none)(h:lU H0 H wl L xs u ws)(g:lV (w1 H wl) H' wl t s ws'):lU H0 (upd H' L (.lst (xs++[.ref t]))) wl L (xs++[.ref t]) (u++[s]) ws':=by
 have hL:w1 H wl L=some (.lst xs):=sL h.el h.ne;have S:kf H0 H':=λc o e=>g.same _ _ (sL (h.same _ _ e) (λz=>by rw[z,n0]at e;cases e))
 refine⟨ao S h.nl,?_,h.nl,h.ne,a8,?_⟩
 ·show(upd H' L _) wl=_
  rw[am (yav h.ne)];exact g.hw
 ·refine aY.snoc (h.sk.same (sJ λc o a b e=>?_)) (g.sk.same (sJ λc o a b e=>?_))
  ·have cw:c≠wl:=λz=>b (by simp[z])
   have cL:c≠L:=λz=>b (by simp[z])
   exact⟨a,b,by rw[am cL];exact g.same _ _ (sL e cw)⟩
  ·have cw:c≠wl:=λz=>b (by simp[z])
   have cL:c≠L:=λz=>by rw[z,hL]at a;cases a
   refine⟨?_,λz=>?_,by rw[am cL];exact e⟩
   ·cases hc:H0 c with
    | none=>rfl
    | some q=>rw[sL (h.same _ _ hc) cw]at a;cases a
   ·simp only[za0,zad,yaw]at z
    rcases z with z | z
    ·exact cw z
    ·exact cL z
theorem lU.close{H0 H:Hp}{wl:AA}(h:lU H0 H wl L xs u ws)(nt:H t=none)(k:∀ G:Hp,G t=some o->G L=some (.lst xs)->aY G xs u->kI G (.ref t) s):lV H0 (upd H t o) wl t s ws:=by
 have T:=af (o:=o) nt;have tw:t≠wl:=λz=>by rw[z,show H wl=_ from h.hw]at nt;cases nt
 refine⟨h.same.trans T,T _ _ h.hw,aH h.same nt,tw,k _ ?_ ?_ ?_⟩
 ·exact wD (aH h.same nt) (by simpa using tw) a8
 ·exact wD h.nl (by simpa using h.ne) (T _ _ h.el)
 ·refine h.sk.same (sJ λc q a b e=>⟨a,λz=>b ?_,T _ _ e⟩)
  simp only[za0,zad,yaw]at z ⊢;exact .inl z
theorem lV.flat{H0 H:Hp}{wl:AA}(S:kf H0 H)(hw:WL H wl ws)(nt:H0 t=none)(ne:t≠wl)(e:H t=some (.tup xs))(k:∀ G:Hp,G t=some (.tup xs)->kI G (.ref t) s):lV H0 H wl t s ws :=
 ⟨S,hw,nt,ne,k _ (wD nt (by simpa using ne) e)⟩
section
variable{P:AF}{w:AJ}{K:A2}{mg:A5}{base:AO}
def pA(d:Nat):Sp:=λvs H Q _=>∃ (wl:Addr) (H0:Hp) (j:Nat) (u:List Sk) (ws:List Str),vs=[.ref wl,.int (j:Int)]/\WL H wl (wds u++ws)/\(ws=[]\/∃ r,ws=(")":Str)::r)/\(∃ e,d=e+1/\vds u e/\j+e<=8)/\(wds u).length<=2000/\kf H0 H/\H0 wl=none/\∀ L xs H',lU H0 H' wl L xs u ws->Q (.ref L) H'
def jN(d:Nat):Sp:=λvs H Q _=>∃ (wl:Addr) (H0:Hp) (j:Nat) (u:List Sk) (ws:List Str),vs=[.ref wl,.int (j:Int)]/\WL H wl (wds u++(")":Str)::ws)/\u≠[]/\(∃ e,d=e+1/\vds u e/\j+d<=8)/\(wds u).length<=2000/\kf H0 H/\H0 wl=none/\∀ L xs H',lU H0 H' wl L xs u ws->Q (.ref L) H'
def sM(d:Nat):Sp:=λvs H Q _=>∃ (wl:Addr) (H0:Hp) (j:Nat) (s:Sk) (ws:List Str),vs=[.ref wl,.int (j:Int)]/\WL H wl (s.wd++ws)/\s.vd d/\j+d<=8/\s.wd.length<=2000/\kf H0 H/\H0 wl=none/\∀ t H',lV H0 H' wl t s ws->Q (.ref t) H'
def sN(d:Nat):Sp:=λvs H Q _=>∃ (wl:Addr) (H0:Hp) (j k:Nat) (u:List Sk) (ws:List Str),vs=[.ref wl,.int (j:Int)]/\WL H wl (nT (k:Int)::("(":Str)::(wds u++(")":Str)::ws))/\k<8/\u≠[]/\(∃ e,d=e+1/\vds u e/\j+d<=8)/\(wds u).length<=2000/\kf H0 H/\H0 wl=none/\∀ t H',lV H0 H' wl t (.turn k u) ws->Q (.ref t) H'
def pB(d:Nat):Sp:=λvs H Q _=>∃ (wl:Addr) (H0:Hp) (j m:Nat) (u:List Sk) (ws:List Str),vs=[.str (nT (m:Int)),.ref wl,.int (j:Int)]/\WL H wl (("times":Str)::("(":Str)::(wds u++(")":Str)::ws))/\1<=m/\m<=60/\u≠[]/\(∃ e,d=e+1/\vds u e/\j+d<=8)/\(wds u).length<=2000/\kf H0 H/\H0 wl=none/\∀ t H',lV H0 H' wl t (.times m u) ws->Q (.ref t) H'
theorem Dx:ke P w K mg base CX k f fd ["words","depth"] (pA 0) :=
 ⟨λ_ _ _ _ h=>by obtain⟨_,_,_,_,_,_,_,_,⟨e,h,_⟩,_⟩:=h;lia,λ_ _ _ _ _ _ _ _ _ _ _ _ _ h=>by obtain⟨_,_,_,_,_,_,_,_,⟨e,h,_⟩,_⟩:=h;omega⟩
theorem pC:az ["words","depth","strokes"] ["words","depth"] (aj dN):=fsk (by decide +kernel)
theorem uF{f:AA}{fd:AG}{d:Nat}(D:Df K mg "read_inner" dN f fd)(B:Blt mg)(DR:Df K mg "read_row" jo fR fdR)(bR:ar K fdR ["words","depth"] [])(GR:ke P w K mg base CX0 k fR fdR ["words","depth"] (pA d))
  (DX:Df K mg "expect" eZ fX fdX) (bX:ar K fdX ["words","wanted"] []) (GX:ke P w K mg base CX0 2 fX fdX ["words","wanted"] ft) (h2:2<=k):ke P w K mg base CX0 (k+1) f fd ["words","depth"] (jN d):=by
 obtain⟨tl,dep⟩:=B.dep;refine D.F.ok pC (λvs H Q E h=>?_) (λcdv A outer s H vs Q E hr h=>?_)
 ·obtain⟨wl,H0,j,u,ws,rfl,_⟩:=h
  rfl
 ·obtain⟨wl,H0,j,u,ws,rfl,hw,hu,⟨e,rfl,hv,hj⟩,hl,S0,n0,z⟩:=h
  have hr2:ki 2 _:=hr.mono h2;refine⟨_,(aa (aK (ap v9 (pv 1) (aP (v:=.int 8) rfl dep ⟨_,rfl⟩) (au _)) (ae (cF)) ax)
   (aa (ay (i:=2) pC.nd rfl (Or.inl rfl) (pec GR hr rfl DR.m DR.F.kp bR .nil aF (pac (pv 0) (pac (aq aW (pv 1) ad) a9))))
   (aa (aR (pec GX hr2 rfl DX.m DX.F.kp bX .nil aF (pac (pv 0) (pac (ag) a9))))
   (aa (aK (cP (gf (pv 2) (λ_=>rfl))) (ae (cF)) ax)
   (ae (av (pv 2))))))),?_⟩
  refine⟨_,rfl,_,_,rfl,rfl,_,rfl,ah (yaa (by show ¬ (j:Int) ≥ 8;lia)) ?_⟩;refine⟨_,rfl,_,rfl,_,_,rfl,rfl,wl,H0,j+1,u,_,rfl,hw,.inr ⟨_,rfl⟩,⟨e,rfl,hv,by lia⟩,hl,S0,n0,λL xs H1 R=>?_⟩;refine⟨_,rfl,wl,_,_,rfl,R.hw,?_⟩;have R2:lU H0 (upd H1 wl (wv ws)) wl L xs u ws:=⟨ao R.same n0,a8,R.nl,R.ne,by rw[am R.ne];exact R.el,R.sk.same (sJ λc o a b e=>⟨a,b,by rw[am (λz=>b (by simp[z]))];exact e⟩)⟩;have xn:xs≠[]:=λz=>by
   have:=R.sk.length;rw[z]at this;exact hu (zaz this.symm)
  refine⟨_,rfl,true,.inl ⟨_,SqL.of R2.el,?_⟩,kr ⟨_,rfl,z L xs _ R2⟩⟩;cases xs with
  | nil=>exact absurd rfl xn
  | cons a b=>simp
theorem sO:az ["words","depth","way"] ["words","depth"] (aj iL):=fsk (by decide +kernel)
theorem yh{f:AA}{fd:AG}{d:Nat}(D:Df K mg "read_turn" iL f fd)(B:Blt mg)(DI:Df K mg "read_inner" dN fI fdI)(bI:ar K fdI ["words","depth"] [])(GI:ke P w K mg base CX0 k fI fdI ["words","depth"] (jN d))
  (DX:Df K mg "expect" eZ fX fdX) (bX:ar K fdX ["words","wanted"] []) (GX:ke P w K mg base CX0 2 fX fdX ["words","wanted"] ft)
  (DN:Df K mg "next_word" ib fN fdN) (bN:ar K fdN ["words"] []) (GN:ke P w K mg base CX0 1 fN fdN ["words"] eY)
  (DM:Df K mg "number" dY fM fdM) (bM:ar K fdM ["word","least","most"] []) (GM:ke P w K mg base CX0 2 fM fdM ["word","least","most"] dH) (h2:2<=k):ke P w K mg base CX0 (k+1) f fd ["words","depth"] (sN d):=by
 obtain⟨tl,las⟩:=B.las;refine D.F.ok sO (λvs H Q E h=>?_) (λcdv A outer s H vs Q E hr h=>?_)
 ·obtain⟨wl,H0,j,m,u,ws,rfl,_⟩:=h
  rfl
 ·obtain⟨wl,H0,j,m,u,ws,rfl,hw,hm,hu,hv,hl,S0,n0,z⟩:=h
  have hr2:ki 2 _:=hr.mono h2;have hr1:ki 1 _:=hr.mono (zap (by decide) h2);refine⟨_,(aa (ay (i:=2) sO.nd rfl (Or.inl rfl) (pec GM hr2 rfl DM.m DM.F.kp bM .nil aF (pac (pec GN hr1 rfl DN.m DN.F.kp bN .nil aF (pac (pv 0) a9)) (pac (ad) (pac (aP (v:=.int 7) rfl las ⟨_,rfl⟩) a9)))))
   (aa (aR (pec GX hr2 rfl DX.m DX.F.kp bX .nil aF (pac (pv 0) (pac (ag) a9))))
   (ae (av (aI (pac (ag) (pac (pv 2) (pac (pec GI hr rfl DI.m DI.F.kp bI .nil aF (pac (pv 0) (pac (pv 1) a9))) a9)))))))),?_⟩
  refine⟨_,rfl,wl,_,_,rfl,hw,(m:Int),0,7,rfl,by omega,by lia,by lia,λH1 S1=>?_⟩;have S01:kf H0 H1:=(ao S0 n0).trans S1;have hw1:WL H1 wl (("(":AL)::(wds u++(")":AL)::ws)):=S1 _ _ a8;refine⟨_,rfl,wl,_,_,rfl,hw1,?_⟩;refine⟨_,rfl,_,rfl,_,rfl,wl,H0,j,u,ws,rfl,a8,hu,hv,hl,ao S01 n0,n0,λL xs H2 R=>?_⟩;refine⟨szr rfl,λt nt=>?_⟩;exact z t _ (R.close nt λG e1 e2 e3=>.turn e1 e2 e3)
theorem pE:az ["word","words","depth","rounds"] ["word","words","depth"] (aj g9):=fsk (by decide +kernel)
theorem uG{f:AA}{fd:AG}{d:Nat}(D:Df K mg "read_times" g9 f fd)(B:Blt mg)(DI:Df K mg "read_inner" dN fI fdI)(bI:ar K fdI ["words","depth"] [])(GI:ke P w K mg base CX0 k fI fdI ["words","depth"] (jN d))
  (DX:Df K mg "expect" eZ fX fdX) (bX:ar K fdX ["words","wanted"] []) (GX:ke P w K mg base CX0 2 fX fdX ["words","wanted"] ft)
  (DM:Df K mg "number" dY fM fdM) (bM:ar K fdM ["word","least","most"] []) (GM:ke P w K mg base CX0 2 fM fdM ["word","least","most"] dH) (h2:2<=k):ke P w K mg base CX0 (k+1) f fd ["word","words","depth"] (pB d):=by
 obtain⟨tl,rou⟩:=B.rou;refine D.F.ok pE (λvs H Q E h=>?_) (λcdv A outer s H vs Q E hr h=>?_)
 ·obtain⟨wl,H0,j,m,u,ws,rfl,_⟩:=h
  rfl
 ·obtain⟨wl,H0,j,m,u,ws,rfl,hw,hm1,hm,hu,hv,hl,S0,n0,z⟩:=h
  have hr2:ki 2 _:=hr.mono h2;refine⟨_,(aa (ay (i:=3) pE.nd rfl (Or.inl rfl) (pec GM hr2 rfl DM.m DM.F.kp bM .nil aF (pac (pv 0) (pac (ad) (pac (aP (v:=.int 60) rfl rou ⟨_,rfl⟩) a9)))))
   (aa (aR (pec GX hr2 rfl DX.m DX.F.kp bX .nil aF (pac (pv 1) (pac (ag) a9))))
   (aa (aR (pec GX hr2 rfl DX.m DX.F.kp bX .nil aF (pac (pv 1) (pac (ag) a9))))
   (ae (av (aI (pac (ag) (pac (pv 3) (pac (pec GI hr rfl DI.m DI.F.kp bI .nil aF (pac (pv 1) (pac (pv 2) a9))) a9))))))))),?_⟩
  refine⟨_,rfl,(m:Int),1,60,rfl,by grind,by lia,by lia,λH1 S1=>?_⟩;have S01:kf H0 H1:=S0.trans S1;refine⟨_,rfl,wl,_,_,rfl,S1 _ _ hw,?_⟩;refine⟨_,rfl,wl,_,_,rfl,a8,?_⟩;refine⟨_,rfl,_,rfl,_,rfl,wl,H0,j,u,ws,rfl,a8,hu,hv,hl,ao (ao S01 n0) n0,n0,λL xs H2 R=>?_⟩;refine⟨szr rfl,λt nt=>?_⟩;exact z t _ (R.close nt λG e1 e2 e3=>.times e1 e2 e3)
end
theorem qI{c:AL}(h:lS (.str c)=true):c.length<=8:=by
 by_cases g:1<=c.length/\c.length<=8
 ·exact g.2
 ·rw[k9 g]at h
  cases h
theorem cZ{a:Int}(h:lG a b=none):ij a b=[("line":AL),nT a,nT b]:=by unfold ij;rw[h]
theorem cH{a:Int}(h:lG a b=some x):ij a b=[x]:=by unfold ij;rw[h]
theorem pF:∀ x∈cM,x.1≠("line":AL)/\x.1≠("by":AL)/\x.1≠("ink":AL)/\x.1≠("(":AL)/\x.1≠("turn":AL):=by
 intro x hx;simp only[cM,za0,zad,yaw]at hx;rcases hx with rfl | rfl | rfl | rfl | rfl | rfl | rfl | rfl<;>decide +kernel
section
variable{P:AF}{w:AJ}{K:A2}{mg:A5}{base:AO}
theorem iw:az ["words","depth","word","way"] ["words","depth"] (aj eK):=fsk (by decide +kernel)
theorem sP{f:AA}{fd:AG}{d:Nat}(D:Df K mg "read_stroke" eK f fd)(W:Wy P w K mg)
  (DN:Df K mg "next_word" ib fN fdN) (bN:ar K fdN ["words"] []) (GN:ke P w K mg base CX0 1 fN fdN ["words"] eY)
  (DL:Df K mg "read_line" iM fL fdL) (bL:ar K fdL ["words"] []) (GL:ke P w K mg base CX0 3 fL fdL ["words"] (pk "line" 9 True))
  (DB:Df K mg "read_by" sj fB fdB) (bB:ar K fdB ["words"] []) (GB:ke P w K mg base CX0 3 fB fdB ["words"] (pk "by" 1000000000 False))
  (DK:Df K mg "read_ink" mX fK fdK) (bK:ar K fdK ["words"] []) (GK:ke P w K mg base CX0 2 fK fdK ["words"] qH)
  (DI:Df K mg "read_inner" dN fI fdI) (bI:ar K fdI ["words","depth"] []) (GI:ke P w K mg base CX0 k fI fdI ["words","depth"] (jN d))
  (DT:Df K mg "read_turn" iL fT fdT) (bT:ar K fdT ["words","depth"] []) (GT:ke P w K mg base CX0 (k+1) fT fdT ["words","depth"] (sN d))
  (DM:Df K mg "read_times" g9 fM fdM) (bM:ar K fdM ["word","words","depth"] []) (GM:ke P w K mg base CX0 (k+1) fM fdM ["word","words","depth"] (pB d)) (h3:3<=k):ke P w K mg base CX0 (k+1+1) f fd ["words","depth"] (sM d):=by
 obtain⟨dW,fW,mW,TW,sW⟩:=W;refine D.F.ok iw (λvs H Q E h=>?_) (λcdv A outer s H vs Q E hr h=>?_)
 ·obtain⟨wl,H0,j,s,ws,rfl,_⟩:=h
  rfl
 ·obtain⟨wl,H0,j,st,ws,rfl,hw,hv,hj,hl,S0,n0,z⟩:=h
  have hr1:ki 1 _:=hr.mono (by lia);have hr2:ki 2 _:=hr.mono (by lia);have hr3:ki 3 _:=hr.mono (by lia);have hrk:ki k _:=hr.mono (by lia);refine⟨_,(aa (ay (i:=2) iw.nd rfl (Or.inl rfl) (pec GN hr1 rfl DN.m DN.F.kp bN .nil aF (pac (pv 0) a9)))
   (aa (aK (ap (D5 TW) (pv 2) (aP (v:=.ref dW) rfl mW rfl) rfl) (aa (ay (i:=3) iw.nd rfl (Or.inl rfl) (Au TW (aP (v:=.ref dW) rfl mW rfl) (pv 2) (λ_ _=>rfl)))
   (ae (av (aI (pac (ag) (pac (aD aM (pv 3) ad (λ_ _=>rfl)) (pac (aD aM (pv 3) ad (λ_ _=>rfl)) a9))))))) ax)
   (aa (aK (ap aX (pv 2) ag (au _)) (ae (av (pec GL hr3 rfl DL.m DL.F.kp bL .nil aF (pac (pv 0) a9)))) ax)
   (aa (aK (ap aX (pv 2) ag (au _)) (ae (av (pec GB hr3 rfl DB.m DB.F.kp bB .nil aF (pac (pv 0) a9)))) ax)
   (aa (aK (ap aX (pv 2) ag (au _)) (ae (av (pec GK hr2 rfl DK.m DK.F.kp bK .nil aF (pac (pv 0) a9)))) ax)
   (aa (aK (ap aX (pv 2) ag (au _)) (ae (av (aI (pac (ag) (pac (pec GI hrk rfl DI.m DI.F.kp bI .nil aF (pac (pv 0) (pac (pv 1) a9))) a9))))) ax)
   (aa (aK (ap aX (pv 2) ag (au _)) (ae (av (pec GT hr rfl DT.m DT.F.kp bT .nil aF (pac (pv 0) (pac (pv 1) a9))))) ax)
   (ae (av (pec GM hr rfl DM.m DM.F.kp bM .nil aF (pac (pv 2) (pac (pv 0) (pac (pv 1) a9))))))))))))),?_⟩
  have no:∀ {y:AL},(∀ x∈cM,x.1≠y)->(kB (kvW fW) (Sum.inr y)).isSome=false:=λh=>by rw[FU fW h];rfl
  cases st with
  | line l a b =>
   simp only[Sk.vd]at hv;cases l with
   | true =>
    have hw':WL H wl ("line"::nT a::nT b::ws):=by simp only[Sk.wd,lnW]at hw;exact hw
    refine⟨_,rfl,wl,_,_,rfl,hw',_,rfl,Sum.inr "line",rfl,rfl,_,rfl,ah (no λx hx=>(pF x hx).1) ?_⟩;refine⟨_,rfl,rfl,_,rfl,aw (yab rfl) ?_⟩;refine⟨_,rfl,wl,H0,a,b,ws,rfl,a8,hv.1,hv.2.1,λ_=>hv.2.2,ao S0 n0,n0,λt H1 S1 w1 nt tw et=>?_⟩;exact z t _ (lV.flat S1 w1 nt tw et λG e=>.line e)
   | false =>
   cases ew:lG a b with
   | some x =>
    have hm:=gL ew;have hw':WL H wl (x::ws):=by simp only[Sk.wd,lnW,cH ew]at hw;exact hw
    have va:=FT fW _ hm;refine⟨_,rfl,wl,x,ws,rfl,hw',_,rfl,Sum.inr x,rfl,rfl,_,rfl,aw (by rw[va];rfl) ?_⟩;have hq:=sW _ hm (upd H wl (wv ws));refine⟨_,rfl,Sum.inr x,_,rfl,rfl,va,_,rfl,_,_,_,_,rfl,rfl,hq,rfl,_,rfl,_,_,_,_,rfl,rfl,hq,rfl,szr rfl,λt nt=>?_⟩;have T:=af (o:=HO.tup [V.str "line",.int a,.int b]) nt;exact z t _ (lV.flat ((ao S0 n0).trans T) (T _ _ a8) (aH (ao (o:=wv ws) S0 n0) nt) (λe=>by rw[e,a8]at nt;cases nt) a8 λG e=>.line e)
   | none =>
    have hw':WL H wl ("line"::nT a::nT b::ws):=by simp only[Sk.wd,lnW,cZ ew]at hw;exact hw
    refine⟨_,rfl,wl,_,_,rfl,hw',_,rfl,Sum.inr "line",rfl,rfl,_,rfl,ah (no λx hx=>(pF x hx).1) ?_⟩;refine⟨_,rfl,rfl,_,rfl,aw (yab rfl) ?_⟩;refine⟨_,rfl,wl,H0,a,b,ws,rfl,a8,hv.1,hv.2.1,λ_=>hv.2.2,ao S0 n0,n0,λt H1 S1 w1 nt tw et=>?_⟩;exact z t _ (lV.flat S1 w1 nt tw et λG e=>.line e)
  | by_ a b =>
   simp only[Sk.vd]at hv;have hw':WL H wl ("by"::nT a::nT b::ws):=by simp only[Sk.wd]at hw;exact hw
   refine⟨_,rfl,wl,_,_,rfl,hw',_,rfl,Sum.inr "by",rfl,rfl,_,rfl,ah (no λx hx=>(pF x hx).2.1) ?_⟩;refine⟨_,rfl,rfl,_,rfl,ah (by decide +kernel) ?_⟩;refine⟨_,rfl,rfl,_,rfl,aw (yab rfl) ?_⟩;refine⟨_,rfl,wl,H0,a,b,ws,rfl,a8,hv.1,hv.2,λh=>h.elim,ao S0 n0,n0,λt H1 S1 w1 nt tw et=>?_⟩;exact z t _ (lV.flat S1 w1 nt tw et λG e=>.by_ e)
  | ink c =>
   simp only[Sk.vd]at hv;have hw':WL H wl ("ink"::c::ws):=by simp only[Sk.wd]at hw;exact hw
   refine⟨_,rfl,wl,_,_,rfl,hw',_,rfl,Sum.inr "ink",rfl,rfl,_,rfl,ah (no λx hx=>(pF x hx).2.2.1) ?_⟩;refine⟨_,rfl,rfl,_,rfl,ah (by decide +kernel) ?_⟩;refine⟨_,rfl,rfl,_,rfl,ah (by decide +kernel) ?_⟩;refine⟨_,rfl,rfl,_,rfl,aw (yab rfl) ?_⟩;refine⟨_,rfl,wl,H0,c,ws,rfl,a8,hv,qI hv,ao S0 n0,n0,λt H1 S1 w1 nt tw et=>?_⟩;exact z t _ (lV.flat S1 w1 nt tw et λG e=>.ink e)
  | back u =>
   simp only[Sk.vd]at hv;have hw':WL H wl ("("::(wds u++(")":AL)::ws)):=by simp only[Sk.wd,zb1,zah,zbd]at hw;exact hw
   have hlu:(wds u).length<=2000:=by simp only[Sk.wd,za2,za7]at hl;lia
   refine⟨_,rfl,wl,_,_,rfl,hw',_,rfl,Sum.inr "(",rfl,rfl,_,rfl,ah (no λx hx=>(pF x hx).2.2.2.1) ?_⟩;refine⟨_,rfl,rfl,_,rfl,ah (by decide +kernel) ?_⟩;refine⟨_,rfl,rfl,_,rfl,ah (by decide +kernel) ?_⟩;refine⟨_,rfl,rfl,_,rfl,ah (by decide +kernel) ?_⟩;refine⟨_,rfl,rfl,_,rfl,aw (yab rfl) ?_⟩;obtain⟨hu,e,he,hv⟩:=hv;refine⟨_,rfl,_,rfl,wl,H0,j,u,ws,rfl,a8,hu,⟨e,he,hv,hj⟩,hlu,ao S0 n0,n0,λL xs H2 R=>?_⟩;exact⟨szr rfl,λt nt=>z t _ (R.close nt λG e1 e2 e3=>.back e1 e2 e3)⟩
  | turn m u =>
   simp only[Sk.vd]at hv;have hw':WL H wl ("turn"::nT (m:Int)::("(":AL)::(wds u++(")":AL)::ws)):=by simp only[Sk.wd,zb1,zah,zbd]at hw;exact hw
   have hlu:(wds u).length<=2000:=by simp only[Sk.wd,za2,za7]at hl;lia
   refine⟨_,rfl,wl,_,_,rfl,hw',_,rfl,Sum.inr "turn",rfl,rfl,_,rfl,ah (no λx hx=>(pF x hx).2.2.2.2) ?_⟩;refine⟨_,rfl,rfl,_,rfl,ah (by decide +kernel) ?_⟩;refine⟨_,rfl,rfl,_,rfl,ah (by decide +kernel) ?_⟩;refine⟨_,rfl,rfl,_,rfl,ah (by decide +kernel) ?_⟩;refine⟨_,rfl,rfl,_,rfl,ah (by decide +kernel) ?_⟩;refine⟨_,rfl,rfl,_,rfl,aw (yab rfl) ?_⟩;obtain⟨hm,hu,e,he,hv⟩:=hv;exact⟨_,rfl,_,rfl,wl,H0,j,m,u,ws,rfl,a8,hm,hu,⟨e,he,hv,hj⟩,hlu,ao S0 n0,n0,z⟩
  | times m u =>
   simp only[Sk.vd]at hv;have hw':WL H wl (nT (m:Int)::("times":AL)::("(":AL)::(wds u++(")":AL)::ws)):=by simp only[Sk.wd,zb1,zah,zbd]at hw;exact hw
   have hlu:(wds u).length<=2000:=by simp only[Sk.wd,za2,za7]at hl;lia
   have nq:∀ {y:AL},((y.cps.toList.head?).any (λc=>decide (48<=c/\c<=57))=false)->decide (V.str (nT (m:Int))=V.str y)=false:=λh=>yaa λe=>cG h (by injection e)
   refine⟨_,rfl,wl,_,_,rfl,hw',_,rfl,Sum.inr (nT (m:Int)),rfl,rfl,_,rfl,ah (no λx hx=>yav (cG (Bt x hx))) ?_⟩;refine⟨_,rfl,rfl,_,rfl,ah (nq rfl) ?_⟩;refine⟨_,rfl,rfl,_,rfl,ah (nq rfl) ?_⟩;refine⟨_,rfl,rfl,_,rfl,ah (nq rfl) ?_⟩;refine⟨_,rfl,rfl,_,rfl,ah (nq rfl) ?_⟩;refine⟨_,rfl,rfl,_,rfl,ah (nq rfl) ?_⟩;obtain⟨hm1,hm,hu,e,he,hv⟩:=hv;exact⟨_,rfl,_,rfl,_,rfl,wl,H0,j,m,u,ws,rfl,a8,hm1,hm,hu,⟨e,he,hv,hj⟩,hlu,ao S0 n0,n0,z⟩
end
end K26
namespace K26
open PySem PySem.Spec PyProof.Rows L2 BF PySem.SeqAt
seal L2.PE L2.PA L2.PS L2.PSs L2.PT L2.PW L2.PG L2.PGs L2.PI BF.PTs L2.PPs L2.PO
theorem wG:∀ {u v:Ad} {d:Nat},vds (u++v) d->vds v d
 | [],_,_,h=>h
 | s::u,v,d,h=>by
  simp only[zb1,vds]at h;exact wG h.2
section
variable{P:AF}{w:AJ}{K:A2}{mg:A5}{base:AO}
theorem wH:az ["words","depth","strokes"] ["words","depth"] (aj jo):=fsk (by decide +kernel)
theorem Bu{f:AA}{fd:AG}{d:Nat}(D:Df K mg "read_row" jo f fd)
  (DS:Df K mg "read_stroke" eK fS fdS) (bS:ar K fdS ["words","depth"] []) (GS:ke P w K mg base CX0 k fS fdS ["words","depth"] (sM d)):ke P w K mg base CX0 (k+1) f fd ["words","depth"] (pA (d+1)):=by
 refine D.F.ok wH (λvs H Q E h=>?_) (λcdv A outer s H vs Q E hr h=>?_)
 ·obtain⟨wl,H0,j,u,ws,rfl,_⟩:=h
  rfl
 ·obtain⟨wl,H0,j,u,ws,rfl,hw,hb,⟨e,he,hv,hj⟩,hl,S0,n0,z⟩:=h
  obtain rfl:d=e:=by lia
  refine⟨_,(aa (ay (i:=2) wH.nd rfl (Or.inl rfl) (aZ a9))
   (aa (ma ybc (PW.pt (df (gf (pv 0) (λ_=>rfl)) (cR (ap ie (aD aL (pv 0) (cp bc ad) (λ_ _=>rfl)) ag (au _))))) (ae (aR (cX yap yan yao bJ (pv 2) (pac (pec GS hr rfl DS.m DS.F.kp bS .nil aF (pac (pv 0) (pac (pv 1) a9))) a9)))))
   (ae (av (pv 2))))),?_⟩
  refine⟨szr rfl,λL nL=>?_⟩;have T:=af (o:=HO.lst []) nL;have R0:lU H0 (upd H L (.lst [])) wl L [] [] (wds u++ws):=⟨S0.trans T,T _ _ hw,aH S0 nL,(λe=>by rw[e,show H wl=_ from hw]at nL;cases nL),a8,.nil⟩;refine⟨λm σ H1=>∃ (dn rs:Ad) (xs:Ac),m=rs.length/\u=dn++rs/\σ=[some (.ref wl),some (.int (j:Int)),some (.ref L)]/\lU H0 H1 wl L xs dn (wds rs++ws),⟨_,[],u,[],rfl,rfl,rfl,R0⟩,?_⟩;rintro m σ H1 ⟨dn,rs,xs,rfl,eu,rfl,R⟩;cases rs with
  | nil =>
   have R':lU H0 H1 wl L xs dn ws:=R;have eu':u=dn:=by rw[eu,zb0]
   rcases hb with rfl | ⟨r,rfl⟩
   ·refine⟨_,rfl,false,.inl ⟨_,SqL.of R'.hw,rfl⟩,kr (kr ⟨_,rfl,z L xs H1 ?_⟩)⟩
    rw[eu'];exact R'
   ·have h1:H1 wl=some (.lst (r.reverse.map V.str++[V.str (")":AL)])):=by rw[<- qG];exact R'.hw
    refine⟨_,rfl,true,.inl ⟨_,SqL.of h1,by simp⟩,kH ⟨_,rfl,_,rfl,wl,_,_,_,rfl,rfl,SqL.of h1,cc _ _,rfl,_,rfl,ah (by simp) ⟨_,rfl,z L xs H1 ?_⟩⟩⟩;rw[eu'];exact R'
  | cons st rs =>
   obtain⟨x,r,ex,nx⟩:=sI st;have ew:wds (st::rs)++ws=st.wd++(wds rs++ws):=by simp only[wds,zah]
   have hw1:WL H1 wl (st.wd++(wds rs++ws)):=by rw[<- ew];exact R.hw
   have h1:H1 wl=some (.lst ((r++(wds rs++ws)).reverse.map V.str++[V.str x])):=by
    rw[<- qG];rw[ex]at hw1;exact hw1
   refine⟨_,rfl,true,.inl ⟨_,SqL.of h1,by simp⟩,kH ⟨_,rfl,_,rfl,wl,_,_,_,rfl,rfl,SqL.of h1,cc _ _,rfl,_,rfl,aw ?_ ?_⟩⟩
   ·show(!decide (V.str x=V.str (")":AL)))=true
    rw[yaa (λz=>nx (by injection z))];rfl
   refine⟨_,λ_ _ h=>h,?_⟩;have hvs:st.vd d:=by
    rw[eu]at hv;have:=wG hv;simp only[vds]at this;exact this.1
   have len:(wds u).length=(wds dn).length+st.wd.length+(wds rs).length:=by
    rw[eu,qA];simp only[wds,za7]
    lia
   have R1:lU H0 H1 wl L xs dn (wds (st::rs)++ws):=R;refine⟨_,rfl,.inl ⟨rfl,_,SqL.of R.el⟩,_,rfl,_,rfl,wl,w1 H1 wl,j,st,_,rfl,hw1,hvs,hj,by lia,Dw,w1_no,λt H2 g=>?_⟩;have hL2:H2 L=some (.lst xs):=g.same _ _ (sL R.el R.ne);refine⟨L,xs,_,rfl,rfl,hL2,?_,?_⟩
   ·have a:=R.sk.length
    have b:=eX dn;rw[yau]
    lia
   ·exact⟨rs.length,zbc _,dn++[st],rs,_,rfl,by rw[eu,zah];rfl,rfl,R.push n0 g⟩
end
def eD(x:Str):Prop:=32∉x.cps.toList/\x.cps.toList≠[]
theorem d9(n:Int):eD (nT n):=by
 refine⟨zZ n,λe=>?_⟩;by_cases h:0<=n
 ·rw[uz h]at e
  exact sG _ e
 ·rw[nz (by lia)]at e
  have:((⟨#[45]⟩:AL)++kQ n).cps.toList=45::(kQ n).cps.toList:=by
   show((#[45]:Array Nat)++(kQ n).cps).toList=_;simp
  rw[this]at e;cases e
theorem yi(h:lS (.str c)=true):eD c:=by
 by_cases g:1<=c.length/\c.length<=8
 ·rw[nh g.1 g.2]at h
  refine⟨λm=>?_,λe=>?_⟩
  ·have:=List.all_eq_true.mp h 32 m
   exact absurd this (by decide)
  ·have e2:c.cps.toList.length=c.length:=zal
   rw[e]at e2;have:(0:Nat)=c.length:=e2
   lia
 ·rw[k9 g]at h
  cases h
theorem cE:eD "line"/\eD "by"/\eD "ink"/\eD "("/\eD ")"/\eD "times"/\eD "turn":=by
 unfold eD
 decide +kernel
theorem yj:∀ x∈cM,eD x.1:=by
 intro x hx;simp only[cM,za0,zad,yaw]at hx;unfold eD;rcases hx with rfl | rfl | rfl | rfl | rfl | rfl | rfl | rfl<;>decide +kernel
mutual
theorem Bv:∀ {s:Sk} {d:Nat},s.vd d->∀ x∈s.wd,eD x
 | .line true a b,d,h,x,hx=>by
  simp only[Sk.wd,lnW,za0,zad,yaw]at hx;rcases hx with rfl | rfl | rfl
  ·exact cE.1
  ·exact d9 _
  ·exact d9 _
 | .line false a b,d,h,x,hx=>by
  simp only[Sk.wd,lnW]at hx;cases ew:lG a b with
  | some y =>
   rw[cH ew]at hx;rw[zac.mp hx];exact yj _ (gL ew)
  | none =>
   rw[cZ ew]at hx;simp only[za0,zad,yaw]at hx;rcases hx with rfl | rfl | rfl
   ·exact cE.1
   ·exact d9 _
   ·exact d9 _
 | .by_ a b,d,h,x,hx=>by
  simp only[Sk.wd,za0,zad,yaw]at hx;rcases hx with rfl | rfl | rfl
  ·exact cE.2.1
  ·exact d9 _
  ·exact d9 _
 | .ink c,d,h,x,hx=>by
  simp only[Sk.vd]at h;simp only[Sk.wd,za0,zad,yaw]at hx;rcases hx with rfl | rfl
  ·exact cE.2.2.1
  ·exact yi h
 | .back u,d,h,x,hx=>by
  simp only[Sk.vd]at h;obtain⟨_,e,_,h⟩:=h;simp only[Sk.wd,za0,zaj,zad,yaw]at hx;rcases hx with rfl | hx | rfl
  ·exact cE.2.2.2.1
  ·exact dF h x hx
  ·exact cE.2.2.2.2.1
 | .times m u,d,h,x,hx=>by
  simp only[Sk.vd]at h;obtain⟨_,_,_,e,_,h⟩:=h;simp only[Sk.wd,za0,zaj,zad,yaw]at hx;rcases hx with rfl | rfl | rfl | hx | rfl
  ·exact d9 _
  ·exact cE.2.2.2.2.2.1
  ·exact cE.2.2.2.1
  ·exact dF h x hx
  ·exact cE.2.2.2.2.1
 | .turn m u,d,h,x,hx=>by
  simp only[Sk.vd]at h;obtain⟨_,_,e,_,h⟩:=h;simp only[Sk.wd,za0,zaj,zad,yaw]at hx;rcases hx with rfl | rfl | rfl | hx | rfl
  ·exact cE.2.2.2.2.2.2
  ·exact d9 _
  ·exact cE.2.2.2.1
  ·exact dF h x hx
  ·exact cE.2.2.2.2.1
theorem dF:∀ {u:Ad} {d:Nat},vds u d->∀ x∈wds u,eD x
 | [],d,h,x,hx=>by simp only[wds,zad]at hx
 | s::u,d,h,x,hx=>by
  simp only[vds]at h;simp only[wds,zaj]at hx;rcases hx with hx | hx
  ·exact Bv h.1 x hx
  ·exact dF h.2 x hx
end
def txt(u:List Sk):Str:=Txt.join aJ (wds u)
theorem Dy(h:vds u d):(txt u).length=0↔u=[]:=by
 constructor
 ·intro e
  cases u with
  | nil=>rfl
  | cons s r =>
   obtain⟨x,q,ex,_⟩:=sI s;have ew:wds (s::r)=x::(q++wds r):=by simp only[wds,ex,zb1]
   have cx:=dF h x (by rw[ew];exact za1);have e0:(txt (s::r)).cps.toList=[]:=by
    have:(txt (s::r)).cps.toList.length=(txt (s::r)).length:=zal;exact zaz (this.trans e)
   have e1:txt (s::r)=Str.join aJ (wds (s::r)):=ycw aJ _;rw[e1,j4,ew,zaa]at e0;cases hm:(q++wds r).map (λx:Str=>x.cps.toList) with
   | nil=>rw[hm]at e0;exact absurd e0 cx.2
   | cons y t =>
    rw[hm,rY]at e0;have:=ybm List.length e0;simp at this
 ·rintro rfl
  rfl
section
variable{P:AF}{w:AJ}{K:A2}{mg:A5}{base:AO}
theorem rows{fR:AA}{fdR:AG}(B:Blt mg)(W:Wy P w K mg)
  (DR:Df K mg "read_row" jo fR fdR) (bR:ar K fdR ["words","depth"] []) (DS:Df K mg "read_stroke" eK fS fdS) (bS:ar K fdS ["words","depth"] [])
  (DI:Df K mg "read_inner" dN fI fdI) (bI:ar K fdI ["words","depth"] []) (DT:Df K mg "read_turn" iL fT fdT) (bT:ar K fdT ["words","depth"] [])
  (DM:Df K mg "read_times" g9 fM fdM) (bM:ar K fdM ["word","words","depth"] [])
  (DX:Df K mg "expect" eZ fX fdX) (bX:ar K fdX ["words","wanted"] []) (GX:ke P w K mg base CX0 2 fX fdX ["words","wanted"] ft)
  (DN:Df K mg "next_word" ib fN fdN) (bN:ar K fdN ["words"] []) (GN:ke P w K mg base CX0 1 fN fdN ["words"] eY)
  (DU:Df K mg "number" dY fU fdU) (bU:ar K fdU ["word","least","most"] []) (GU:ke P w K mg base CX0 2 fU fdU ["word","least","most"] dH)
  (DL:Df K mg "read_line" iM fL fdL) (bL:ar K fdL ["words"] []) (GL:ke P w K mg base CX0 3 fL fdL ["words"] (pk "line" 9 True))
  (DB:Df K mg "read_by" sj fB fdB) (bB:ar K fdB ["words"] []) (GB:ke P w K mg base CX0 3 fB fdB ["words"] (pk "by" 1000000000 False))
  (DK:Df K mg "read_ink" mX fK fdK) (bK:ar K fdK ["words"] []) (GK:ke P w K mg base CX0 2 fK fdK ["words"] qH):∀ d:Nat,ke P w K mg base CX0 (3+4*d) fR fdR ["words","depth"] (pA d)
 | 0=>Dx
 | d+1=>by
  have ih:=rows B W DR bR DS bS DI bI DT bT DM bM DX bX GX DN bN GN DU bU GU DL bL GL DB bB GB DK bK GK d;have GI:=uF (k:=3+4*d) DI B DR bR ih DX bX GX (by lia);have GT:=yh (k:=3+4*d+1) DT B DI bI GI DX bX GX DN bN GN DU bU GU (by lia);have GM:=uG (k:=3+4*d+1) DM B DI bI GI DX bX GX DU bU GU (by omega);exact Bu (k:=3+4*d+1+1+1) DR DS bS (sP (k:=3+4*d+1) DS W DN bN GN DL bL GL DB bB GB DK bK GK DI bI GI DT bT GT DM bM GM (by lia))
def uH:Sp:=λvs H Q _=>∃ (u:List Sk),vs=[.str (txt u)]/\vds u 8/\(txt u).length<=2000/\(wds u).length<=2000/\∀ L xs H',kf H H'->H L=none->H' L=some (.lst xs)->aY (fr H H' [L]) xs u->Q (.ref L) H'
theorem uI:az ["text","words","strokes"] ["text"] (aj vX):=fsk (by decide +kernel)
theorem Dz{f:AA}{fd:AG}(D:Df K mg "read" vX f fd)(B:Blt mg)(DR:Df K mg "read_row" jo fR fdR)(bR:ar K fdR ["words","depth"] [])(GR:ke P w K mg base CX0 k fR fdR ["words","depth"] (pA 9)):ke P w K mg base CX0 (k+1) f fd ["text"] uH:=by
 obtain⟨tm,sig⟩:=B.sig;refine D.F.ok uI (λvs H Q E h=>?_) (λcdv A outer s H vs Q E hr h=>?_)
 ·obtain⟨u,rfl,_⟩:=h
  rfl
 ·obtain⟨u,rfl,hv,hl,hz,z⟩:=h
  refine⟨_,(aa (aK (PW.pt (dZ (cP (bq (aE cb (by rfl) B.isi yax (pac (pv 0) (pac (cr (v:=.ty "str") (by rfl) B.str yc8 rfl) a9))))) (f6 (ap eP (aE dC (by rfl) B.len ybe (pac (pv 0) a9)) (aP (v:=.int 2000) rfl sig ⟨_,rfl⟩) (au _))))) (ae (cF)) ax)
   (aa (ay (i:=1) uI.nd rfl (Or.inl rfl) (eN (gf (pv 0) (λ_=>rfl)) (ue rfl (by rfl) B.list (by rfl) B.rev (pac (cX yd5 ye3 F.type_str_split zY (pv 0) (pac (ag) a9)) a9)) (aZ a9)))
   (aa (ay (i:=2) uI.nd rfl (Or.inl rfl) (pec GR hr rfl DR.m DR.F.kp bR .nil aF (pac (pv 1) (pac (ad) a9))))
   (aa (aK (gf (pv 1) (λ_=>rfl)) (ae (cF)) ax)
   (ae (av (pv 2))))))),?_⟩
  have hl3:(txt u).length<=sizeLine:=by rw[yau];lia
  refine⟨_,rfl,_,.str,.str,rfl,.str _,_,rfl,kr ⟨_,rfl,_,rfl,hl3,_,_,rfl,rfl,_,rfl,ah (yaa (by show ¬ ((txt u).length:Int)>2000;lia)) ?_⟩⟩;refine' bz (λσ H1=>∃ wl,σ=[some (.str (txt u)),some (.ref wl),none]/\H wl=none/\kf H H1/\WL H1 wl (wds u)) (λfin=>_) _
  rotate_left
  ·by_cases hu:u=[]
   ·subst hu
    refine⟨_,rfl,false,⟨hl3,rfl⟩,kr ⟨szr rfl,λp np=>fin _ _ ⟨p,rfl,np,af np,a8⟩⟩⟩
   ·have hn:(txt u).length≠0:=λe=>hu ((Dy hv).mp e)
    have hne:wds u≠[]:=λe=>by
     have:=eX u;rw[e]at this;exact hu (zaz (Nat.le_zero.mp this))
    have sp:Txt.split (txt u) aJ=wds u:=rZ (λx hx=>(dF hv x hx).1) hne
    refine⟨_,rfl,true,⟨hl3,?_⟩,kH ⟨_,rfl,rfl,txt u,aJ,rfl,rfl,rfl,by lia,λp np=>?_⟩⟩
    ·symm
     simp only[bne_iff_ne,ne_eq]
     lia
    ·rw[sp]
     have T1:=af (o:=HO.lst ((wds u).map V.str)) np;refine⟨p,_,rfl,SqL.of a8,λq nq=>fin _ _ ⟨q,rfl,aH T1 nq,T1.trans (af nq),?_⟩⟩;show(upd _ q _) q=some (.lst ((wds u).reverse.map V.str));rw[a8,List.map_reverse]
  rintro σ H1 ⟨wl,rfl,nw,S1,hw⟩;refine⟨_,rfl,wl,H,0,u,[],rfl,by rw[zb0];exact hw,.inl rfl,⟨8,rfl,hv,by lia⟩,hz,S1,nw,λL xs H2 R=>?_⟩;refine⟨_,rfl,false,.inl ⟨_,SqL.of R.hw,rfl⟩,kr ⟨_,rfl,z L xs H2 R.same R.nl R.el (R.sk.same (sJ λc o a b e=>⟨a,λy=>b (by simp only[zac]at y;simp[y]),e⟩))⟩⟩
end
theorem DJ{X:Cx}(hr:ki k X.A):OpR X (compareOp .Eq) (λx y H Q=>∃ (a b:AA) (xs ys:Ac) (l m:Af),x=.ref a/\y=.ref b/\SqT X.K H a xs/\SqT X.K H b ys/\aG H xs l/\aG H ys m/\Dt.dps l<=50/\Q (.bl (Dt.beq (.tup l) (.tup m))) H):=by
 intro pins s σ H x y v u Q I rx ry h;obtain⟨a,b,xs,ys,l,m,rfl,rfl,e,e',h1,h2,h60,q⟩:=h;have hu:=hr.units;cases rx;cases ry;obtain⟨its,rv,p,_⟩:=I.tuple e;obtain⟨its',rv',p',_⟩:=I.tuple e';have n1:its.toArray.size=l.length:=by rw[zab,<- rv.length,h1.length]
 have n2:its'.toArray.size=m.length:=by rw[zab,<- rv'.length,h2.length]
 have R:=RcAt.tuples (A:=X.A) (s:=s) (e:=l8 l m) p p' (by lia) (λj j1 j2=>qd I X.A.in1 h1 rv h2 rv' (by show X.A.units+1+_<_;lia) j _ _ (by simp) (by simp));rw[n1,n2,db]at R;exact R X.prog X.w X.xe _ ⟨.bl _,H,I,rfl,q⟩
theorem E1{Gd:Hp->Prop}{kvs:Ae}{g:TG}{tb:TS}{D:Ends}{σ:L2.St}{H:Hp}(Pv:Nat->L2.St->Hp->Prop)(h0:Pv 0 σ H)(hl:∀ i σ H,i<=kvs.length->Pv i σ H->Gd H)
  (hs:∀ i kv p σ H,kvs[i]?=some kv->Pv i σ H->H p=none->g (.ref p) σ (upd H p (.tup [kV kv.1,kv.2])) λσ2 H2=>tb { D with nx:=Pv (i+1),ct:=Pv (i+1),bk:=D.nx } σ2 H2) (hd:∀ σ H,Pv kvs.length σ H->D.nx σ H) :
  ∃ W:Nat->Nat->L2.St->Hp->Prop,(∃ m,W 0 m σ H)/\∀ i m σ H,W i m σ H ->
   ((ItT Gd kvs).stop i H/\D.nx σ H)\/((ItT Gd kvs).go i H/\∃ N:L2.St->Hp->Prop,(∀ σ' H',N σ' H'->∃ m',m'<m/\W (i+1) m' σ' H')/\∀ x H',(ItT Gd kvs).yld i H x H'->g x σ H' λσ2 H2=>tb { D with nx:=N,ct:=N,bk:=D.nx } σ2 H2):=by
 refine⟨λi m σ H=>m=kvs.length-i/\i<=kvs.length/\Pv i σ H,⟨kvs.length,by simp,zb6 _,h0⟩,?_⟩;rintro i m σ H ⟨rfl,hi,hp⟩;by_cases h:i<kvs.length
 ·refine .inr ⟨⟨h,hl i σ H hi hp⟩,Pv (i+1),λσ' H' hp'=>⟨kvs.length-(i+1),by grind,rfl,h,hp'⟩,?_⟩
  rintro x H' ⟨p,kv,rfl,np,hk,rfl⟩;exact hs i kv p σ H hk hp np
 ·obtain rfl:i=kvs.length:=by lia
  exact .inl ⟨⟨za5 _,hl _ σ H hi hp⟩,hd σ H hp⟩
theorem ia(a b:AL):(a++b).cps.toList=a.cps.toList++b.cps.toList:=by
 show(a.cps++b.cps).toList=_;rw[zao]
theorem jz(a b c:AL):a++b++c=a++(b++c):=gO (by rw[ia,ia,ia,ia,zah])
theorem uJ(ws:AH):(Txt.join aJ ws).cps.toList=cat (ws.map λx=>x.cps.toList):=by
 have e1:Txt.join aJ ws=Str.join aJ ws:=ycw aJ ws;rw[e1,j4]
theorem gA(x:AL):Txt.join aJ [x]=x:=gO (uJ [x])
theorem cA(x:AL)(h:ws≠[]):Txt.join aJ (x::ws)=x++aJ++Txt.join aJ ws:=by
 apply gO;cases ws with
 | nil=>exact absurd rfl h
 | cons y r =>
  rw[uJ,ia,ia,uJ,zaa,zaa,rY,zah];rfl
theorem uK:∀ {ws vs:AH},ws≠[]->vs≠[]->Txt.join aJ (ws++vs)=Txt.join aJ ws++aJ++Txt.join aJ vs
 | [],_,h,_=>absurd rfl h
 | [x],vs,_,h=>by
  rw[gA];exact cA x h
 | x::y::r,vs,_,h=>by
  rw[zb1,cA x (by simp),cA x (by simp),uK (ws:=y::r) (by simp) h];simp only[jz]
theorem wI:∀ {l:List (List Str)},(∀ x∈l,x≠[])->Txt.join aJ (l.map (Txt.join aJ))=Txt.join aJ l.flatten
 | [],_=>rfl
 | [x],_=>by
  rw[zaa,zbs,gA,zbn,List.flatten_nil,zb0]
 | x::y::r,h=>by
  have hy:(y::r).flatten≠[]:=λe=>by
   rw[zbn]at e;exact h y (by simp) (List.append_eq_nil_iff.mp e).1
  rw[zaa,cA _ (by simp),wI (l:=y::r) (λz hz=>h z (za3 _ hz)),show(x::y::r).flatten=x++(y::r).flatten from zbn,uK (h x (by simp)) hy]
theorem dE{n:Nat}(h:n<10 ^ 10):n.log2<1920:=by
 by_cases h0:n=0
 ·rw[h0];decide
 ·have h1:n.log2<34:=(Nat.log2_lt h0).mpr (zaq h (by decide))
  lia
theorem sQ{a:Int}:∀ {l:List (Str×(Int×Int))} {i:Nat} {x:Str×(Int×Int)},(∀ y∈l.take i,y.2≠(a,b))->l[i]?=some x->x.2=(a,b)->(l.find? λy=>decide (y.2=(a,b)))=some x
 | [],i,x,_,e,_=>by simp at e
 | y::l,0,x,_,e,h=>by
  have e:=yat e;subst e;rw[List.find?_cons_of_pos (by simpa using h)]
 | y::l,i+1,x,hn,e,h=>by
  have h1:y.2≠(a,b):=hn y (by simp);rw[List.find?_cons_of_neg (by simpa using h1)];exact sQ (l:=l) (i:=i) (λz hz=>hn z (by simp[hz])) (by simpa using e) h
section
variable{P:AF}{w:AJ}{K:A2}{mg:A5}{base:AO}
def nE:Sp:=λvs H Q _=>∃ (a b:Int),vs=[.int a,.int b]/\a.natAbs<10 ^ 10/\b.natAbs<10 ^ 10/\∀ H',kf H H'->Q (.str (Txt.join aJ (ij a b))) H'
theorem nG:az ["x","y","word","way"] ["x","y"] (aj iK):=fsk (by decide +kernel)
theorem yk(D:Df K mg "shown_line" iK f fd)(W:Wy P w K mg):ke P w K mg base CX0 1 f fd ["x","y"] nE:=by
 obtain⟨dW,fW,mW,TW,sW⟩:=W;refine D.F.ok nG (λvs H Q E h=>?_) (λcdv A outer s H vs Q E hr h=>?_)
 ·obtain⟨a,b,rfl,_⟩:=h
  rfl
 ·obtain⟨a,b,rfl,ha,hb,z⟩:=h
  refine⟨_,(aa (cQ ybc rfl (xV TW (aP (v:=.ref dW) rfl mW rfl)) (gl (n:=2) rfl (ba (aQ (i:=2) nG.nd rfl (Or.inl rfl)) (ba (aQ (i:=3) nG.nd rfl (Or.inl rfl)) dq))) (ae (aK (ap (DJ hr) (pv 3) (aI (pac (pv 0) (pac (pv 1) a9))) (au _)) (ae (av (pv 2))) ax)))
   (ae (av (FC (by decide +kernel) (pv 0) (pv 1))))),?_⟩
  refine⟨rfl,?_⟩;refine E1 (λi σ H1=>(∃ v2 v3,σ=[some (.int a),some (.int b),v2,v3])/\kf H H1/\∀ y∈cM.take i,y.2≠(a,b)) ⟨⟨_,_,rfl⟩,λ_ _ e=>e,by simp⟩ (λ_ _ _ _ _=>True.intro) ?_ ?_
  ·rintro i kv p σ H1 hk ⟨⟨v2,v3,rfl⟩,S1,hn⟩ np
   have hk2:(cM[i]?).map (λx=>((Sum.inr x.1:Key),V.ref (fW x.1)))=some kv:=by rw[<- zan];exact hk
   obtain⟨x,hx,rfl⟩:=Option.map_eq_some_iff.mp hk2;have mx:x∈cM:=zam hx;have T:=af (o:=HO.tup [kV (Sum.inr x.1:Key),V.ref (fW x.1)]) np;refine⟨p,_,rfl,SqT.of a8,rfl,_,_,rfl,_,_,rfl,rfl,?_⟩;refine⟨_,rfl,_,rfl,_,rfl,szr rfl,λq nq=>?_⟩;have T2:=af (o:=HO.tup [V.int a,.int b]) nq;refine⟨fW x.1,q,_,_,[.int x.2.1,.int x.2.2],[.int a,.int b],rfl,rfl,sW x mx _,SqT.of a8,.cons (.int _) (.cons (.int _) .nil),.cons (.int _) (.cons (.int _) .nil),(by simp[Dt.dps,Dt.dp]),_,rfl,?_⟩;have S2:=S1.trans (T.trans T2);by_cases h:x.2=(a,b)
   ·refine aw ((Dt.beq_iff _ _).mpr (by rw[h])) ⟨_,rfl,?_⟩
    have e:ij a b=[x.1]:=cH (by unfold lG;rw[sQ hn hx h];rfl);have:=z _ S2;rw[e,gA]at this;exact this
   ·refine ah (Dt.beq_false.mpr λe=>h (by injection e with e;injection e with e1 e2;injection e2 with e2;injection e1 with e1;injection e2 with e2;exact Prod.ext e1 e2)) ⟨⟨_,_,rfl⟩,S2,λy hy=>?_⟩
    rw[ydm,hx]at hy;rcases zaj.mp hy with hy | hy
    ·exact hn y hy
    ·simp at hy
     rw[hy];exact h
  ·rintro σ H1 ⟨⟨v2,v3,rfl⟩,S1,hn⟩
   have en:lG a b=none:=by
    unfold lG;rw[zbq,ycn];intro y hy;have:=hn y (by rw[zav (by unfold kvW;rw[za4];exact za5 _)];exact hy);simpa using this
   have l1:=(cj ha).2;have l2:=(cj hb).2;refine⟨_,rfl,a,rfl,dE ha,?_,_,rfl,b,rfl,dE hb,?_,?_⟩
   ·show 5+(nT a).length+1<=1000
    lia
   ·show 5+(nT a).length+1+(nT b).length<=2000
    lia
   ·have:=z _ S1
    rw[cZ en,cA _ (by simp),cA _ (by simp),gA]at this;have e:(("line":AL)++aJ++(nT a++aJ++nT b))=("line ":AL)++nT a++(" ":AL)++nT b:=by
     rw[show("line ":AL)=("line":AL)++aJ by decide +kernel,show(" ":AL)=aJ from rfl];simp only[jz]
    rw[e]at this;exact this
end
def wsz(ws:List Str):Nat:=(ws.map λx=>x.length+1).sum
theorem aN(x:AL)(ws:AH):wsz (x::ws)=x.length+1+wsz ws:=by unfold wsz;rw[zaa,yeh]
theorem d4:wsz []=0:=rfl
theorem cq(ws vs:AH):wsz (ws++vs)=wsz ws+wsz vs:=by unfold wsz;rw[zae,List.sum_append]
theorem qJ(ws:AH):ws.length<=wsz ws:=by
 induction ws with
 | nil=>exact za5 _
 | cons x r ih=>rw[aN,za2];lia
theorem uL:∀ {ws:AH},ws≠[]->(Txt.join aJ ws).length+1=wsz ws
 | [],h=>absurd rfl h
 | [x],_=>by rw[gA,aN,d4]
 | x::y::r,_=>by
  have ih:=uL (ws:=y::r) (by simp);rw[cA x (by simp),ci,ci,aN,<- ih];show x.length+1+_+1=_
  lia
theorem sR:(Txt.join aJ ws).length<=wsz ws:=by
 cases ws with
 | nil=>exact za5 _
 | cons x r=>have:=uL (ws:=x::r) (by simp);lia
theorem sS:∀ u:List Sk,wds u=(u.map Sk.wd).flatten
 | []=>by simp only[wds,zbs,List.flatten_nil]
 | s::u=>by simp only[wds,zaa,zbn,sS u]
theorem Bw(s:Sk):s.wd≠[]:=λe=>by
 obtain⟨x,r,h,_⟩:=sI s;rw[h]at e;cases e
theorem E2(u:Ad):Txt.join aJ (u.map λs=>Txt.join aJ s.wd)=txt u:=by
 have:=wI (l:=u.map Sk.wd) (λx hx=>by obtain⟨s,_,rfl⟩:=za9.mp hx;exact Bw s);rw[ydi]at this;unfold txt;rw[sS];exact this
theorem wJ:∀ u:List Sk,((u.map λs=>Txt.join aJ s.wd).map λx=>x.length).sum+u.length=wsz (wds u)
 | []=>rfl
 | s::u=>by
  have ih:=wJ u;have h:=uL (Bw s);simp only[zaa,yeh,za2,wds,cq]
  lia
theorem wK:∀ {u:Ad} {s:Sk},s∈u->wsz s.wd<=wsz (wds u)
 | t::u,s,h=>by
  simp only[wds,cq];rcases za0.mp h with rfl | h
  ·lia
  ·have:=wK h
   lia
theorem uM:∀ {u:Ad} {d:Nat},vds u d->∀ s∈u,s.vd d
 | s::r,d,h,x,hx=>by
  simp only[vds]at h;rcases za0.mp hx with rfl | hx
  ·exact h.1
  ·exact uM h.2 x hx
theorem FV(h:u≠[]):Txt.join aJ (("(":AL)::(wds u++[(")":AL)]))=("( ":AL)++txt u++(" )":AL):=by
 have hn:wds u≠[]:=λe=>by
  have:=eX u;rw[e]at this;exact h (zaz (Nat.le_zero.mp this))
 rw[cA _ (by simp),uK hn (by simp),gA,show("( ":AL)=("(":AL)++aJ by decide +kernel,show(" )":AL)=aJ++(")":AL) by decide +kernel];simp only[jz];rfl
section
variable{P:AF}{w:AJ}{K:A2}{mg:A5}{base:AO}
def gP(d:Nat):Sp:=λvs H Q _=>∃ (l:Addr) (ys:List V) (u:List Sk),vs=[.ref l]/\H l=some (.lst ys)/\aY H ys u/\(∃ e,d=e+1/\vds u e)/\cns u/\wsz (wds u)<=2001/\∀ H',kf H H'->Q (.str (txt u)) H'
def pG(d:Nat):Sp:=λvs H Q _=>∃ (l:Addr) (ys:List V) (u:List Sk),vs=[.ref l]/\H l=some (.lst ys)/\aY H ys u/\u≠[]/\(∃ e,d=e+1/\vds u e)/\cns u/\wsz (wds u)<=2001/\∀ H',kf H H'->Q (.str (Txt.join aJ (("(":Str)::(wds u++[(")":Str)])))) H'
def nH(d:Nat):Sp:=λvs H Q _=>∃ (q:V) (s:Sk),vs=[q]/\kI H q s/\s.vd d/\s.cn/\wsz s.wd<=2001/\∀ H',kf H H'->Q (.str (Txt.join aJ s.wd)) H'
theorem yn:ke P w K mg base CX k f fd ["strokes"] (gP 0) :=
 ⟨λ_ _ _ _ h=>by obtain⟨_,_,_,_,_,_,⟨e,h,_⟩,_⟩:=h;lia,λ_ _ _ _ _ _ _ _ _ _ _ _ _ h=>by obtain⟨_,_,_,_,_,_,⟨e,h,_⟩,_⟩:=h;omega⟩
theorem yo:az ["strokes"] ["strokes"] (aj fJ):=fsk (by decide +kernel)
theorem uN{f:AA}{fd:AG}{d:Nat}(D:Df K mg "shown_inner" fJ f fd)(DS:Df K mg "shown" jn fS fdS)(bS:ar K fdS ["strokes"] [])(GS:ke P w K mg base CX0 k fS fdS ["strokes"] (gP d)):ke P w K mg base CX0 (k+1) f fd ["strokes"] (pG d):=by
 refine D.F.ok yo (λvs H Q E h=>?_) (λcdv A outer s H vs Q E hr h=>?_)
 ·obtain⟨l,ys,u,rfl,_⟩:=h
  rfl
 ·obtain⟨l,ys,u,rfl,el,hs,hu,hv,hc,hz,z⟩:=h
  refine⟨_,(ae (av (aq br (aq br ag (pec GS hr rfl DS.m DS.F.kp bS .nil aF (pac (pv 0) a9))) ag))),?_⟩;have hl:(txt u).length<=2001:=zap sR hz;refine⟨_,rfl,l,ys,u,rfl,el,hs,hv,hc,hz,λH1 S1=>?_⟩;have:=z _ S1;rw[FV hu]at this;refine⟨_,_,rfl,rfl,?_,_,_,rfl,rfl,?_,this⟩
  ·rw[yau]
   show 2+(txt u).length<=_
   lia
  ·rw[yau,ci]
   show 2+(txt u).length+2<=_
   lia
theorem nJ:az ["stroke","kind"] ["stroke"] (aj eJ):=fsk (by decide +kernel)
theorem sT{f:AA}{fd:AG}{d:Nat}(D:Df K mg "shown_stroke" eJ f fd)(B:Blt mg)(DL:Df K mg "shown_line" iK fL fdL)(bL:ar K fdL ["x","y"] [])(GL:ke P w K mg base CX0 1 fL fdL ["x","y"] nE)
  (DI:Df K mg "shown_inner" fJ fI fdI) (bI:ar K fdI ["strokes"] []) (GI:ke P w K mg base CX0 k fI fdI ["strokes"] (pG d)) (h1:1<=k):ke P w K mg base CX0 (k+1) f fd ["stroke"] (nH d):=by
 refine D.F.ok nJ (λvs H Q E h=>?_) (λcdv A outer s H vs Q E hr h=>?_)
 ·obtain⟨q,s,rfl,_⟩:=h
  rfl
 ·obtain⟨q,st,rfl,hs,hv,hc,hz,z⟩:=h
  have hr1:ki 1 _:=hr.mono h1;refine⟨_,(aa (ay (i:=1) nJ.nd rfl (Or.inl rfl) (aD aM (pv 0) ad (λ_ _=>rfl)))
   (aa (aK (ap aX (pv 1) ag (au _)) (ae (av (pec GL hr1 rfl DL.m DL.F.kp bL .nil aF (pac (aD aM (pv 0) ad (λ_ _=>rfl)) (pac (aD aM (pv 0) ad (λ_ _=>rfl)) a9))))) ax)
   (aa (aK (ap aX (pv 1) ag (au _)) (ae (av (aq br (aq br (aq br ag (b8 c9 (by rfl) B.str yc8 (pac (aD aM (pv 0) ad (λ_ _=>rfl)) a9))) ag) (b8 c9 (by rfl) B.str yc8 (pac (aD aM (pv 0) ad (λ_ _=>rfl)) a9))))) ax)
   (aa (aK (ap aX (pv 1) ag (au _)) (ae (av (aq br ag (aD aM (pv 0) ad (λ_ _=>rfl))))) ax)
   (aa (aK (ap aX (pv 1) ag (au _)) (ae (av (pec GI hr rfl DI.m DI.F.kp bI .nil aF (pac (aD aM (pv 0) ad (λ_ _=>rfl)) a9)))) ax)
   (aa (aK (ap aX (pv 1) ag (au _)) (ae (av (aq br (aq br (b8 c9 (by rfl) B.str yc8 (pac (aD aM (pv 0) ad (λ_ _=>rfl)) a9)) ag) (pec GI hr rfl DI.m DI.F.kp bI .nil aF (pac (aD aM (pv 0) ad (λ_ _=>rfl)) a9))))) ax)
   (ae (av (aq br (aq br (aq br ag (b8 c9 (by rfl) B.str yc8 (pac (aD aM (pv 0) ad (λ_ _=>rfl)) a9))) ag) (pec GI hr rfl DI.m DI.F.kp bI .nil aF (pac (aD aM (pv 0) ad (λ_ _=>rfl)) a9))))))))))),?_⟩
  cases hs with
  | @line q l a b e =>
   simp only[Sk.cn]at hc;subst hc;simp only[Sk.vd]at hv;simp only[Sk.wd,lnW]at z;refine⟨_,rfl,q,_,_,_,rfl,rfl,SqT.of e,rfl,_,rfl,rfl,_,rfl,aw (yab rfl) ?_⟩;exact⟨_,rfl,q,_,_,_,rfl,rfl,SqT.of e,rfl,_,rfl,q,_,_,_,rfl,rfl,SqT.of e,rfl,a,b,rfl,by omega,by omega,z⟩
  | @by_ q a b e =>
   simp only[Sk.vd]at hv;have ha:a.natAbs<10 ^ 10:=by omega
   have hb:b.natAbs<10 ^ 10:=by omega
   have l1:=(cj ha).2;have l2:=(cj hb).2;refine⟨_,rfl,q,_,_,_,rfl,rfl,SqT.of e,rfl,_,rfl,rfl,_,rfl,ah (by decide +kernel) ?_⟩;refine⟨_,rfl,rfl,_,rfl,aw (yab rfl) ?_⟩;refine⟨_,rfl,q,_,_,_,rfl,rfl,SqT.of e,rfl,a,rfl,dE ha,_,_,rfl,rfl,?_,_,_,rfl,rfl,?_,_,rfl,q,_,_,_,rfl,rfl,SqT.of e,rfl,b,rfl,dE hb,_,_,rfl,rfl,?_,?_⟩
   ·rw[yau]
    show 3+(nT a).length<=_
    lia
   ·rw[yau,ci]
    show 3+(nT a).length+1<=_
    lia
   ·rw[yau,ci,ci]
    show 3+(nT a).length+1+(nT b).length<=_
    lia
   ·have:=z _ (λ_ _ e=>e)
    simp only[Sk.wd]at this;rw[cA _ (by simp),cA _ (by simp),gA]at this;rw[show(("by":AL)++aJ++(nT a++aJ++nT b))=("by ":AL)++nT a++(" ":AL)++nT b by
     rw[show("by ":AL)=("by":AL)++aJ by decide +kernel,show(" ":AL)=aJ from rfl];simp only[jz]]at this
    exact this
  | @ink q c e =>
   simp only[Sk.vd]at hv;have lc:=qI hv;refine⟨_,rfl,q,_,_,_,rfl,rfl,SqT.of e,rfl,_,rfl,rfl,_,rfl,ah (by decide +kernel) ?_⟩;refine⟨_,rfl,rfl,_,rfl,ah (by decide +kernel) ?_⟩;refine⟨_,rfl,rfl,_,rfl,aw (yab rfl) ?_⟩;refine⟨_,rfl,q,_,_,_,rfl,rfl,SqT.of e,rfl,_,_,rfl,rfl,?_,?_⟩
   ·rw[yau]
    show 4+c.length<=_
    lia
   ·have:=z _ (λ_ _ e=>e)
    simp only[Sk.wd]at this;rw[cA _ (by simp),gA,show("ink":AL)++aJ=("ink ":AL) by decide +kernel]at this;exact this
  | @back q l ys u e el hs =>
   simp only[Sk.vd]at hv;simp only[Sk.cn]at hc;simp only[Sk.wd]at z;have hzu:wsz (wds u)<=2001:=by simp only[Sk.wd,aN,cq]at hz;lia
   refine⟨_,rfl,q,_,_,_,rfl,rfl,SqT.of e,rfl,_,rfl,rfl,_,rfl,ah (by decide +kernel) ?_⟩;refine⟨_,rfl,rfl,_,rfl,ah (by decide +kernel) ?_⟩;refine⟨_,rfl,rfl,_,rfl,ah (by decide +kernel) ?_⟩;refine⟨_,rfl,rfl,_,rfl,aw (yab rfl) ?_⟩;exact⟨_,rfl,q,_,_,_,rfl,rfl,SqT.of e,rfl,l,ys,u,rfl,el,hs,hv.1,hv.2,hc,hzu,z⟩
  | @times q l ys m u e el hs =>
   simp only[Sk.vd]at hv;simp only[Sk.cn]at hc;simp only[Sk.wd]at z;have hzu:wsz (wds u)<=2001:=by simp only[Sk.wd,aN,cq]at hz;lia
   have hzi:wsz (("(":AL)::(wds u++[(")":AL)]))<=2001:=by simp only[Sk.wd,aN (nT _),aN ("times":AL)]at hz;lia
   have li:=zap (sR (ws:=(("(":AL)::(wds u++[(")":AL)])))) hzi;have hm:((m:Int)).natAbs<10 ^ 10:=by grind
   have l1:=(cj hm).2;refine⟨_,rfl,q,_,_,_,rfl,rfl,SqT.of e,rfl,_,rfl,rfl,_,rfl,ah (by decide +kernel) ?_⟩;refine⟨_,rfl,rfl,_,rfl,ah (by decide +kernel) ?_⟩;refine⟨_,rfl,rfl,_,rfl,ah (by decide +kernel) ?_⟩;refine⟨_,rfl,rfl,_,rfl,ah (by decide +kernel) ?_⟩;refine⟨_,rfl,rfl,_,rfl,aw (yab rfl) ?_⟩;refine⟨_,rfl,q,_,_,_,rfl,rfl,SqT.of e,rfl,(m:Int),rfl,dE hm,_,_,rfl,rfl,?_,_,rfl,q,_,_,_,rfl,rfl,SqT.of e,rfl,l,ys,u,rfl,el,hs,hv.2.2.1,hv.2.2.2,hc,hzu,λH1 S1=>⟨_,_,rfl,rfl,?_,?_⟩⟩
   ·rw[yau]
    show(nT (m:Int)).length+7<=_
    lia
   ·rw[yau,ci]
    show(nT (m:Int)).length+7+_<=_
    lia
   ·have:=z _ S1
    rw[cA _ (by simp),cA _ (by simp)]at this;rw[show nT (m:Int)++aJ++(("times":AL)++aJ++Txt.join aJ (("(":AL)::(wds u++[(")":AL)])))=nT (m:Int)++(" times ":AL)++Txt.join aJ (("(":AL)::(wds u++[(")":AL)])) by
     rw[show(" times ":AL)=aJ++(("times":AL)++aJ) by decide +kernel];simp only[jz]]at this
    exact this
  | @turn q l ys m u e el hs =>
   simp only[Sk.vd]at hv;simp only[Sk.cn]at hc;simp only[Sk.wd]at z;have hzu:wsz (wds u)<=2001:=by simp only[Sk.wd,aN,cq]at hz;lia
   have hzi:wsz (("(":AL)::(wds u++[(")":AL)]))<=2001:=by simp only[Sk.wd,aN (nT _),aN ("turn":AL)]at hz;lia
   have li:=zap (sR (ws:=(("(":AL)::(wds u++[(")":AL)])))) hzi;have hm:((m:Int)).natAbs<10 ^ 10:=by omega
   have l1:=(cj hm).2;refine⟨_,rfl,q,_,_,_,rfl,rfl,SqT.of e,rfl,_,rfl,rfl,_,rfl,ah (by decide +kernel) ?_⟩;refine⟨_,rfl,rfl,_,rfl,ah (by decide +kernel) ?_⟩;refine⟨_,rfl,rfl,_,rfl,ah (by decide +kernel) ?_⟩;refine⟨_,rfl,rfl,_,rfl,ah (by decide +kernel) ?_⟩;refine⟨_,rfl,rfl,_,rfl,ah (by decide +kernel) ?_⟩;refine⟨_,rfl,q,_,_,_,rfl,rfl,SqT.of e,rfl,(m:Int),rfl,dE hm,_,_,rfl,rfl,?_,_,_,rfl,rfl,?_,_,rfl,q,_,_,_,rfl,rfl,SqT.of e,rfl,l,ys,u,rfl,el,hs,hv.2.1,hv.2.2,hc,hzu,λH1 S1=>⟨_,_,rfl,rfl,?_,?_⟩⟩
   ·rw[yau]
    show 5+(nT (m:Int)).length<=_
    lia
   ·rw[yau,ci]
    show 5+(nT (m:Int)).length+1<=_
    lia
   ·rw[yau,ci,ci]
    show 5+(nT (m:Int)).length+1+_<=_
    lia
   ·have:=z _ S1
    rw[cA _ (by simp),cA _ (by simp)]at this;rw[show("turn":AL)++aJ++(nT (m:Int)++aJ++Txt.join aJ (("(":AL)::(wds u++[(")":AL)])))=("turn ":AL)++nT (m:Int)++(" ":AL)++Txt.join aJ (("(":AL)::(wds u++[(")":AL)])) by
     rw[show("turn ":AL)=("turn":AL)++aJ by decide +kernel,show(" ":AL)=aJ from rfl];simp only[jz]]at this
    exact this
theorem E3:az ["strokes"] ["strokes"] (aj jn):=fsk (by decide +kernel)
theorem Bx{f:AA}{fd:AG}{d:Nat}(D:Df K mg "shown" jn f fd)(DS:Df K mg "shown_stroke" eJ fS fdS)(bS:ar K fdS ["stroke"] [])(GS:ke P w K mg base CX0 k fS fdS ["stroke"] (nH d)):ke P w K mg base CX0 (k+1) f fd ["strokes"] (gP (d+1)):=by
 refine D.F.ok E3 (λvs H Q E h=>?_) (λcdv A outer s H vs Q E hr h=>?_)
 ·obtain⟨l,ys,u,rfl,_⟩:=h
  rfl
 ·obtain⟨l,ys,u,rfl,el,hs,⟨e,he,hv⟩,hc,hz,z⟩:=h
  obtain rfl:d=e:=by lia
  refine⟨_,(ae (av (cX yd5 F.slot_str_join F.type_str_join qb ag (pac (iR (N':=["stroke"]) (idx:=[none]) (eR (by kernel_rfl)) (by kernel_rfl) rfl (cT (pv 0))
     (λ_ _ _ _ _=>aQ (i:=0) (show(["stroke"]:AH).Nodup by decide +kernel) rfl (Or.inl rfl)) (λ_ _ _ _ _=>iQ)
     (λ_ _ _ _ _=>pec GS hr rfl DS.m DS.F.kp bS .nil aF (pac (pv 0) a9))) a9)))),?_⟩
  have hy:=hs.length;have hu:u.length<=2001:=zap (eX u) (zap (qJ _) hz);refine⟨rfl,_,rfl,l,rfl,⟨_,SqL.of el⟩,λM nM=>?_⟩;refine mI (J:=Itl K l) (n:=ys.length) (λi σ2 H2=>(∃ v0,σ2=[v0])/\kf H H2/\H2 M=some (.lst (List.map V.str ((u.take i).map λs=>Txt.join aJ s.wd)))) ?_ ?_ ?_ ?_
  ·exact⟨⟨_,rfl⟩,af nM,a8⟩
  ·rintro i σ2 H2 hi ⟨⟨v0,rfl⟩,S2,_⟩
   exact⟨_,_,SqL.of (S2 _ _ el),za6 hi⟩
  ·rintro σ2 H2 ⟨⟨v0,rfl⟩,S2,eM⟩
   rw[zav (by lia)]at eM;refine⟨⟨_,SqL.of (S2 _ _ el),za5 _⟩,aJ,M,_,rfl,rfl,SqL.of eM,?_,?_⟩
   ·have:=wJ u
    rw[za4];show _+u.length*1<=_
    lia
   ·rw[E2]
    exact z _ S2
  ·rintro i σ2 H2 hi ⟨⟨v0,rfl⟩,S2,eM⟩ x H3 ⟨rfl,hx⟩
   have hx:=hx _ (SqL.of (S2 _ _ el));obtain⟨st,es,hst⟩:=hs.at hx;have ms:st∈u:=zam es;have tk:u.take (i+1)=u.take i++[st]:=by rw[zbo,es];rfl
   refine⟨_,rfl,_,st,rfl,hst.same S2,uM hv _ ms,Bc hc _ ms,zap (wK ms) hz,λH3 S3=>?_⟩;have eM3:=S3 _ _ eM;refine⟨_,eM3,?_,⟨_,rfl⟩,ao (S2.trans S3) nM,?_⟩
   ·rw[za4,za4,zaw,yau]
    grind
   ·rw[a8,tk,zae,zae]
    rfl
theorem By{f:AA}{fd:AG}(B:Blt mg)(DW:Df K mg "shown" jn f fd)(bW:ar K fd ["strokes"] [])(DS:Df K mg "shown_stroke" eJ fS fdS)(bS:ar K fdS ["stroke"] [])
  (DL:Df K mg "shown_line" iK fL fdL) (bL:ar K fdL ["x","y"] []) (GL:ke P w K mg base CX0 1 fL fdL ["x","y"] nE)
  (DI:Df K mg "shown_inner" fJ fI fdI) (bI:ar K fdI ["strokes"] []):∀ d:Nat,ke P w K mg base CX0 (1+3*d) f fd ["strokes"] (gP d)
 | 0=>yn
 | d+1=>by
  have ih:=By B DW bW DS bS DL bL GL DI bI d;exact Bx (k:=1+3*d+1+1) DW DS bS (sT (k:=1+3*d+1) DS B DL bL GL DI bI (uN (k:=1+3*d) DI DW bW ih) (by lia))
end
section
variable{X:Cx}{pins:A7}{σ:L2.St}{H:Hp}{s:AE}
end
mutual
theorem vd_gd:∀ {s:Sk} {d:Nat},s.vd d->s.gd d
 | .line l a b,d,h=>by simp only[Sk.gd]
 | .by_ a b,d,h=>by simp only[Sk.gd]
 | .ink c,d,h=>by simp only[Sk.gd]
 | .back u,d,h=>by
  simp only[Sk.vd]at h;obtain⟨_,e,he,h⟩:=h;simp only[Sk.gd];exact⟨e,he,iE h⟩
 | .times m u,d,h=>by
  simp only[Sk.vd]at h;obtain⟨_,hm,_,e,he,h⟩:=h;simp only[Sk.gd];exact⟨hm,e,he,iE h⟩
 | .turn m u,d,h=>by
  simp only[Sk.vd]at h;obtain⟨hm,_,e,he,h⟩:=h;simp only[Sk.gd];exact⟨hm,e,he,iE h⟩
theorem iE:∀ {u:Ad} {d:Nat},vds u d->gds u d
 | [],d,h=>by simp only[gds]
 | s::u,d,h=>by
  simp only[vds]at h;simp only[gds];exact⟨vd_gd h.1,iE h.2⟩
end
end K26
namespace K26
open PySem PySem.Spec PyProof.Rows L2 BF
seal L2.PE L2.PA L2.PS L2.PSs L2.PT L2.PW L2.PG L2.PGs L2.PI BF.PTs L2.PPs L2.PO
theorem qK{i:Int}(h:i.natAbs<2 ^ 64):i.natAbs.log2<1920:=by
 by_cases z:i.natAbs=0
 ·rw[z];decide
 ·have:=(Nat.log2_lt z).mpr h
  lia
def bv:List Str:=["n","ne","e","se","s","sw","w","nw"]
theorem yp(kvs:Ae)(k:Key)(v:V):(putK kvs k v).length<=kvs.length+1:=by
 unfold putK;split
 ·rw[za4];lia
 ·rw[za7];exact za5 _
def kZ:Str->Int×Int:=λx=>((([("n",(0,1)),("ne",(1,1)),("e",(1,0)),("se",(1,-1)),("s",(0,-1)),("sw",(-1,-1)),("w",(-1,0)),("nw",(-1,1))]:List (Str×(Int×Int))).lookup x).getD (0,0))
def GoodW(H:Hp)(kvs:List (Key×V))(word:Str):Prop:=∃ q,kB kvs (Sum.inr word)=some (.ref q)/\two H q (kZ word)
def Itm(H:Hp)(kv:Key×V):Prop:=∃ (wd:Str) (q:Addr),kv=(Sum.inr wd,V.ref q)/\wd∈bv/\two H q (kZ wd)
theorem Bz{kvs:Ae}{k:Key}{x:Key×V}(h:x∈putK kvs k v):x∈kvs\/x=(k,v):=by
 unfold putK at h;split at h
 ·obtain⟨y,hy,rfl⟩:=za9.mp h
  split
  ·rename_i e
   rw[e];exact .inr rfl
  ·exact .inl hy
 ·rcases zaj.mp h with h | h
  ·exact .inl h
  ·exact .inr (zac.mp h)
theorem FW:∀ x∈bv,lG (kZ x).1 (kZ x).2=some x:=by
 intro x hx;simp only[bv,za0,zad,yaw]at hx;rcases hx with rfl | rfl | rfl | rfl | rfl | rfl | rfl | rfl<;>decide +kernel
section
variable{P:AF}{w:AJ}{K:A2}{mg:A5}{base:AO}
def qL:Sp:=λvs H Q _=>vs=[]/\∀ d kvs H',kf H H'->H' d=some (.dK kvs)->(∀ x∈bv,GoodW H' kvs x)->(∀ kv∈kvs,Itm H' kv)->kvs.length<=8->Q (.ref d) H'
theorem qM:az ["_law_ways_here","_law_word","_law_far_here"] [] (aj pf):=fsk (by decide +kernel)
theorem E4(D:Df K mg "_law_ways" pf f fd):ke P w K mg base CX0 2 f fd [] qL:=by
 refine D.F.ok qM (λvs H Q E h=>?_) (λcdv A outer s H vs Q E hr h=>?_)
 ·obtain⟨rfl,_⟩:=h
  rfl
 ·obtain⟨rfl,z⟩:=h
  have hu:=hr.units;have hu2:(A.deeper (envOfC "_law_ways" (aj pf) s.heap.objs.size f cdv)).units+1<cLine:=by lia
  refine⟨_,(aa (ay (i:=0) qM.nd rfl (Or.inl rfl) (vh (cS ag (aI (pac (ad) (pac (ad) a9))) (cS ag (aI (pac (ad) (pac (ad) a9))) (cS ag (aI (pac (ad) (pac (ad) a9))) (cS ag (aI (pac (ad) (pac (cp bc ad) a9))) vg)))) rfl rfl (by simp) (by show 4<=15;decide)))
   (aa (cQ ybc rfl (cT (aZ (pac (aI (pac (ag) (pac (aI (pac (ad) (pac (cp bc ad) a9))) a9))) (pac (aI (pac (ag) (pac (aI (pac (cp bc ad) (pac (cp bc ad) a9))) a9))) (pac (aI (pac (ag) (pac (aI (pac (cp bc ad) (pac (ad) a9))) a9))) (pac (aI (pac (ag) (pac (aI (pac (cp bc ad) (pac (ad) a9))) a9))) a9)))))) (gl (n:=2) rfl (ba (aQ (i:=1) qM.nd rfl (Or.inl rfl)) (ba (aQ (i:=2) qM.nd rfl (Or.inl rfl)) dq))) (ae (d5 hu2 (pv 0) (pv 1) (pv 2) rfl)))
   (ae (av (pv 0))))),?_⟩
  refine λd nd=>⟨szr rfl,λq0 m0=>⟨szr rfl,λq1 m1=>⟨szr rfl,λq2 m2=>⟨_,rfl,szr rfl,λq3 m3=>⟨?_,[(Sum.inr "n",V.ref q0),(Sum.inr "ne",V.ref q1),(Sum.inr "e",V.ref q2),(Sum.inr "se",V.ref q3)],rfl,by show 4<=15;decide,?_⟩⟩⟩⟩⟩
  ·exact((af m0).trans ((af m1).trans ((af m2).trans (af m3)))) _ _ a8
  have T0:=af (o:=HO.tup [V.int 0,.int 1]) m0;have T1:=af (o:=HO.tup [V.int 1,.int 1]) m1;have T2:=af (o:=HO.tup [V.int 1,.int 0]) m2;have T3:=af (o:=HO.tup [V.int 1,.int (-1)]) m3;have Sd:=af (o:=HO.dK []) nd;have S3:=Sd.trans (T0.trans (T1.trans (T2.trans T3)));have g0:two (upd (upd (upd (upd (upd H d (.dK [])) q0 (.tup [V.int 0,.int 1])) q1 (.tup [V.int 1,.int 1])) q2 (.tup [V.int 1,.int 0])) q3 (.tup [V.int 1,.int (-1)])) q0 (0,1):=(T1.trans (T2.trans T3)) _ _ a8;have g1:two (upd (upd (upd (upd (upd H d (.dK [])) q0 (.tup [V.int 0,.int 1])) q1 (.tup [V.int 1,.int 1])) q2 (.tup [V.int 1,.int 0])) q3 (.tup [V.int 1,.int (-1)])) q1 (1,1):=(T2.trans T3) _ _ a8;have g2:two (upd (upd (upd (upd (upd H d (.dK [])) q0 (.tup [V.int 0,.int 1])) q1 (.tup [V.int 1,.int 1])) q2 (.tup [V.int 1,.int 0])) q3 (.tup [V.int 1,.int (-1)])) q2 (1,0):=T3 _ _ a8;have g3:two (upd (upd (upd (upd (upd H d (.dK [])) q0 (.tup [V.int 0,.int 1])) q1 (.tup [V.int 1,.int 1])) q2 (.tup [V.int 1,.int 0])) q3 (.tup [V.int 1,.int (-1)])) q3 (1,-1):=a8;have ed:(upd (upd (upd (upd (upd H d (.dK [])) q0 (.tup [V.int 0,.int 1])) q1 (.tup [V.int 1,.int 1])) q2 (.tup [V.int 1,.int 0])) q3 (.tup [V.int 1,.int (-1)])) d=some (.dK []):=(T0.trans (T1.trans (T2.trans T3))) _ _ a8;revert g0 g1 g2 g3 ed S3;generalize (upd (upd (upd (upd (upd H d (.dK [])) q0 (.tup [V.int 0,.int 1])) q1 (.tup [V.int 1,.int 1])) q2 (.tup [V.int 1,.int 0])) q3 (.tup [V.int 1,.int (-1)]))=H1;intro S3 g0 g1 g2 g3 ed;have em:f7 [] ([(Sum.inr "n",V.ref q0),(Sum.inr "ne",V.ref q1),(Sum.inr "e",V.ref q2),(Sum.inr "se",V.ref q3)]:Ae)=([(Sum.inr "n",V.ref q0),(Sum.inr "ne",V.ref q1),(Sum.inr "e",V.ref q2),(Sum.inr "se",V.ref q3)]:Ae):=rfl;rw[em];have keep:∀ {H':Hp} {kv kv':Ae} {q:AA} {p:Int×Int},H' d=some (.dK kv)->two H' q p->two (upd H' d (.dK kv')) q p:=fun {H' kv kv' q p} e t=>by
   show(upd H' d _) q=_;rw[am (λz=>by
    have t':H' q=_:=t;rw[z,e]at t';cases t')]
   exact t
  have S4:kf H (upd H1 d (.dK [(Sum.inr "n",V.ref q0),(Sum.inr "ne",V.ref q1),(Sum.inr "e",V.ref q2),(Sum.inr "se",V.ref q3)])):=ao S3 nd;have g0:=keep (kv':=[(Sum.inr "n",V.ref q0),(Sum.inr "ne",V.ref q1),(Sum.inr "e",V.ref q2),(Sum.inr "se",V.ref q3)]) ed g0;have g1:=keep (kv':=[(Sum.inr "n",V.ref q0),(Sum.inr "ne",V.ref q1),(Sum.inr "e",V.ref q2),(Sum.inr "se",V.ref q3)]) ed g1;have g2:=keep (kv':=[(Sum.inr "n",V.ref q0),(Sum.inr "ne",V.ref q1),(Sum.inr "e",V.ref q2),(Sum.inr "se",V.ref q3)]) ed g2;have g3:=keep (kv':=[(Sum.inr "n",V.ref q0),(Sum.inr "ne",V.ref q1),(Sum.inr "e",V.ref q2),(Sum.inr "se",V.ref q3)]) ed g3;have ed':(upd H1 d (.dK [(Sum.inr "n",V.ref q0),(Sum.inr "ne",V.ref q1),(Sum.inr "e",V.ref q2),(Sum.inr "se",V.ref q3)])) d=some (.dK [(Sum.inr "n",V.ref q0),(Sum.inr "ne",V.ref q1),(Sum.inr "e",V.ref q2),(Sum.inr "se",V.ref q3)]):=a8;revert S4 g0 g1 g2 g3 ed';generalize (upd H1 d (.dK [(Sum.inr "n",V.ref q0),(Sum.inr "ne",V.ref q1),(Sum.inr "e",V.ref q2),(Sum.inr "se",V.ref q3)]))=H2;intro S4 g0 g1 g2 g3 ed';refine⟨_,rfl,szr rfl,λa0 n0=>⟨szr rfl,λb0 o0=>⟨_,rfl,_,rfl,szr rfl,λa1 n1=>⟨szr rfl,λb1 o1=>⟨_,rfl,szr rfl,λa2 n2=>⟨szr rfl,λb2 o2=>⟨_,rfl,szr rfl,λa3 n3=>⟨szr rfl,λb3 o3=>⟨szr rfl,λl nl=>?_⟩⟩⟩⟩⟩⟩⟩⟩⟩;have U0:=af (o:=HO.tup [V.int 0,.int (-1)]) n0;have U1:=af (o:=HO.tup [V.str "s",.ref a0]) o0;have U2:=af (o:=HO.tup [V.int (-1),.int (-1)]) n1;have U3:=af (o:=HO.tup [V.str "sw",.ref a1]) o1;have U4:=af (o:=HO.tup [V.int (-1),.int 0]) n2;have U5:=af (o:=HO.tup [V.str "w",.ref a2]) o2;have U6:=af (o:=HO.tup [V.int (-1),.int 1]) n3;have U7:=af (o:=HO.tup [V.str "nw",.ref a3]) o3;have U8:=af (o:=HO.lst [V.ref b0,.ref b1,.ref b2,.ref b3]) nl;have W7:=U7.trans U8;have W6:=U6.trans W7;have W5:=U5.trans W6;have W4:=U4.trans W5;have W3:=U3.trans W4;have W2:=U2.trans W3;have W1:=U1.trans W2;have W0:=U0.trans W1;have rows:∃ H3,H3=(upd (upd (upd (upd (upd (upd (upd (upd (upd H2 a0 (.tup [V.int 0,.int (-1)])) b0 (.tup [V.str "s",.ref a0])) a1 (.tup [V.int (-1),.int (-1)])) b1 (.tup [V.str "sw",.ref a1])) a2 (.tup [V.int (-1),.int 0])) b2 (.tup [V.str "w",.ref a2])) a3 (.tup [V.int (-1),.int 1])) b3 (.tup [V.str "nw",.ref a3])) l (.lst [V.ref b0,.ref b1,.ref b2,.ref b3]))/\kf H2 H3/\H3 l=some (.lst [V.ref b0,.ref b1,.ref b2,.ref b3]) /\
    ∀ (i:Nat) (y:V),([V.ref b0,.ref b1,.ref b2,.ref b3]:Ac)[i]?=some y->∃ r wd q,y=.ref r/\H3 r=some (.tup [.str wd,.ref q])/\two H3 q (kZ wd)/\bv[4+i]?=some wd:=by
   refine⟨_,rfl,W0,a8,λi y hy=>?_⟩
   match i,hy with
   | 0,hy=>cases hy;exact⟨b0,_,a0,rfl,W2 _ _ a8,W1 _ _ a8,rfl⟩
   | 1,hy=>cases hy;exact⟨b1,_,a1,rfl,W4 _ _ a8,W3 _ _ a8,rfl⟩
   | 2,hy=>cases hy;exact⟨b2,_,a2,rfl,W6 _ _ a8,W5 _ _ a8,rfl⟩
   | 3,hy=>cases hy;exact⟨b3,_,a3,rfl,U8 _ _ a8,W7 _ _ a8,rfl⟩
   | i+4,hy=>simp at hy
  obtain⟨H3,eH,S23,el,row⟩:=rows;rw[<- eH];have S5:=S4.trans S23;refine⟨l,rfl,⟨_,SqL.of el⟩,?_⟩;have first:∀ x∈bv.take 4,GoodW H3 [(Sum.inr "n",V.ref q0),(Sum.inr "ne",V.ref q1),(Sum.inr "e",V.ref q2),(Sum.inr "se",V.ref q3)] x:=λx hx=>by
   have hx':x∈(["n","ne","e","se"]:AH):=hx;simp only[za0,zad,yaw]at hx';rcases hx' with rfl | rfl | rfl | rfl
   ·exact⟨q0,rfl,S23 _ _ g0⟩
   ·exact⟨q1,rfl,S23 _ _ g1⟩
   ·exact⟨q2,rfl,S23 _ _ g2⟩
   ·exact⟨q3,rfl,S23 _ _ g3⟩
  have firstI:∀ kv∈([(Sum.inr "n",V.ref q0),(Sum.inr "ne",V.ref q1),(Sum.inr "e",V.ref q2),(Sum.inr "se",V.ref q3)]:Ae),Itm H3 kv:=λkv hk=>by
   simp only[za0,zad,yaw]at hk;rcases hk with rfl | rfl | rfl | rfl
   ·exact⟨_,q0,rfl,by decide +kernel,S23 _ _ g0⟩
   ·exact⟨_,q1,rfl,by decide +kernel,S23 _ _ g1⟩
   ·exact⟨_,q2,rfl,by decide +kernel,S23 _ _ g2⟩
   ·exact⟨_,q3,rfl,by decide +kernel,S23 _ _ g3⟩
  have nl0:∀ {kv:Ae} {H':Hp},H' d=some (.dK kv)->∀ {xs:Ac},H' l=some (.lst xs)->l≠d:=fun {kv H'} e {xs} e2 z=>by rw[z,e]at e2;cases e2
  refine cW (K:=K) (a:=l) (xs:=[V.ref b0,.ref b1,.ref b2,.ref b3]) (λi σ H4=>(∃ v1 v2,σ=[some (.ref d),v1,v2])/\kf H H4/\H4 l=some (.lst [V.ref b0,.ref b1,.ref b2,.ref b3])/\(∀ (j:Nat) (y:V),([V.ref b0,.ref b1,.ref b2,.ref b3]:Ac)[j]?=some y->∃ r wd q,y=.ref r/\H4 r=some (.tup [.str wd,.ref q])/\two H4 q (kZ wd)/\bv[4+j]?=some wd)/\∃ kvs,H4 d=some (.dK kvs)/\kvs.length<=4+i/\(∀ kv∈kvs,Itm H4 kv)/\∀ x∈bv.take (4+i),GoodW H4 kvs x)
   ⟨⟨_,_,rfl⟩,S5,el,row,_,S23 _ _ ed',za5 _,firstI,first⟩ (λi σ H4 _ ⟨_,_,e,_⟩=>SqL.of e) ?_ ?_
  ·rintro i y σ H4 hy ⟨⟨v1,v2,rfl⟩,Sx,e4,row4,kvs,ek,kl,ik,gk⟩
   have hi:i<4:=(zaf.mp hy).1;obtain⟨r,wd,q,rfl,er,tq,ew⟩:=row4 i y hy;refine⟨r,_,rfl,SqT.of er,rfl,_,_,rfl,_,_,rfl,rfl,?_⟩;refine⟨_,rfl,_,rfl,_,rfl,d,_,rfl,lP.k (k:=Sum.inr wd) ek (by rw[yau];lia),⟨_,_,rfl⟩,ao Sx nd,?_,λj y hy=>?_,putK kvs (Sum.inr wd) (.ref q),a8,zap (yp _ _ _) (by lia),λkv hk=>?_,λx hx=>?_⟩
   ·rw[am (nl0 ek e4)]
    exact e4
   ·obtain⟨r',wd',q',e1,e2,e3,e5⟩:=row4 j y hy
    refine⟨r',wd',q',e1,?_,keep ek e3,e5⟩;rw[am (λz=>by rw[z,ek]at e2;cases e2)];exact e2
   ·rcases Bz hk with hk | rfl
    ·obtain⟨wd',q',e1,e2,e3⟩:=ik kv hk
     exact⟨wd',q',e1,e2,keep ek e3⟩
    ·exact⟨wd,q,rfl,zam ew,keep ek tq⟩
   ·rw[show 4+(i+1)=(4+i)+1 from rfl,zbo,ew]at hx
    by_cases hxw:x=wd
    ·subst hxw
     exact⟨q,by rw[rg,yad rfl],keep ek tq⟩
    ·rcases zaj.mp hx with hx | hx
     ·obtain⟨q',e1,e2⟩:=gk x hx
      refine⟨q',?_,keep ek e2⟩;rw[rg,yac (λe=>hxw (Sum.inr.inj e))];exact e1
     ·exact absurd (zac.mp hx) hxw
  ·rintro σ H4 ⟨⟨v1,v2,rfl⟩,Sx,e4,row4,kvs,ek,kl,ik,gk⟩
   exact⟨_,rfl,z d kvs H4 Sx ek (λx hx=>gk x hx) ik kl⟩
end
inductive Hd where
 | no
 | back
 | times (m:Nat)
 | turn (k:Nat)
abbrev Aj:=List (Hd×List Sk)
def hdV:Hd->List V
 | .no=>[]
 | .back=>[.str "back"]
 | .times m=>[.str "times",.int (m:Int)]
 | .turn k=>[.str "turn",.int (k:Int)]
def gq(n:Int):Nat:=(if n / 180 % 4 / 3=0 then 1+n / 3 % 4 else 1+n / 3 % 60).toNat
def hdF(n:Int):Hd:=if n % 3=0 then .back else if n % 3=1 then .times (gq n) else .turn (n / 3 % 8).toNat
def hdW:Hd->List Str
 | .no=>[]
 | .back=>[]
 | .times m=>[nT (m:Int),"times"]
 | .turn k=>["turn",nT (k:Int)]
theorem BA{n:Int}(h:n.natAbs<10 ^ 10):(nT n).length<=11:=by
 have len:∀ x:Str,x.cps.toList.length=x.length:=λx=>zal
 have hl:=qF (m:=n.natAbs) h;by_cases h0:0<=n
 ·obtain⟨m,rfl⟩:=ybh h0
  rw[<- len,jr];have:(m:Int).natAbs=m:=by lia
  rw[this]at hl
  lia
 ·obtain⟨m,hm⟩:∃ m:Nat,n=-(m:Int):=⟨n.natAbs,by grind⟩
  subst hm;have e:(-(m:Int)).natAbs=m:=by lia
  rw[e]at hl;rw[<- len,nv m (by lia),za2]
  lia
theorem jW{n:Int}(h:n.natAbs<10 ^ 2):(nT n).length<=3:=by
 have len:∀ x:Str,x.cps.toList.length=x.length:=λx=>zal
 have hl:=qE 1 n.natAbs h;by_cases h0:0<=n
 ·obtain⟨m,rfl⟩:=ybh h0
  rw[<- len,jr];have:(m:Int).natAbs=m:=by omega
  rw[this]at hl
  lia
 ·obtain⟨m,hm⟩:∃ m:Nat,n=-(m:Int):=⟨n.natAbs,by omega⟩
  subst hm;have e:(-(m:Int)).natAbs=m:=by omega
  rw[e]at hl;rw[<- len,nv m (by lia),za2]
  lia
theorem BB:∀ x∈bv,x.length<=2:=by
 intro x hx;simp only[bv,za0,zad,yaw]at hx;rcases hx with rfl | rfl | rfl | rfl | rfl | rfl | rfl | rfl<;>decide +kernel
theorem FX:∀ x∈bv,(-9<=(kZ x).1/\(kZ x).1<=9)/\(-9<=(kZ x).2/\(kZ x).2<=9)/\¬ ((kZ x).1=0/\(kZ x).2=0):=by
 intro x hx;simp only[bv,za0,zad,yaw]at hx;rcases hx with rfl | rfl | rfl | rfl | rfl | rfl | rfl | rfl<;>decide +kernel
section
variable{P:AF}{w:AJ}{K:A2}{mg:A5}{base:AO}
def BC:Sp:=λvs H Q _=>∃ n:Int,vs=[.int n]/\∀ (r t l:Addr) H',kf H H'->H' r=some (.tup [.ref t,.ref l])->H' t=some (.tup (hdV (hdF n)))->H' l=some (.lst ((hdW (hdF n)).map V.str))->H l=none->Q (.ref r) H'
theorem BD:az ["_law_number_here","_law_many"] ["_law_number_here"] (aj vZ):=fsk (by decide +kernel)
theorem E5(D:Df K mg "_law_head" vZ f fd)(B:Blt mg):ke P w K mg base CX0 1 f fd ["_law_number_here"] BC:=by
 refine D.F.ok BD (λvs H Q E h=>?_) (λcdv A outer s H vs Q E hr h=>?_)
 ·obtain⟨n,rfl,_⟩:=h
  rfl
 ·obtain⟨n,rfl,z⟩:=h
  refine⟨_,(aa (aK (ap aX (aq aT (pv 0) ad) ad (au _)) (ae (av (aI (pac (aI (pac (ag) a9)) (pac (aZ a9) a9))))) ax)
   (aa (aK (ap aX (aq aT (pv 0) ad) ad (au _)) (aa (ay (i:=1) BD.nd rfl (Or.inl rfl) (aD aL (aZ (pac (aq aW ad (aq aT (aq bZ (pv 0) ad) ad)) (pac (aq aW ad (aq aT (aq bZ (pv 0) ad) ad)) a9))) (aq bZ (aq aT (aq bZ (pv 0) ad) ad) ad) (λ_ _=>rfl)))
   (ae (av (aI (pac (aI (pac (ag) (pac (pv 1) a9))) (pac (aZ (pac (b8 c9 (by rfl) B.str yc8 (pac (pv 1) a9)) (pac (ag) a9))) a9)))))) ax)
   (ae (av (aI (pac (aI (pac (ag) (pac (aq aT (aq bZ (pv 0) ad) ad) a9))) (pac (aZ (pac (ag) (pac (b8 c9 (by rfl) B.str yc8 (pac (aq aT (aq bZ (pv 0) ad) ad) a9)) a9))) a9))))))),?_⟩
  refine⟨_,rfl,_,_,rfl,rfl,(by show(0:Int)<_;decide),rfl,_,rfl,?_⟩;by_cases g0:n % 3=0
  ·refine aw (yab (by show V.int (n % 3)=V.int 0;rw[g0])) ?_
   refine⟨szr rfl,λt nt=>⟨szr rfl,λl nl=>⟨szr rfl,λr nr=>?_⟩⟩⟩;have T1:=af (o:=HO.tup [V.str "back"]) nt;have T2:=af (o:=HO.lst []) nl;have T3:=af (o:=HO.tup [V.ref t,.ref l]) nr;have eh:hdF n=.back:=by unfold hdF;rw[yad g0]
   refine z r t l _ (T1.trans (T2.trans T3)) a8 ?_ ?_ (aH T1 nl)
   ·rw[eh]
    exact(T2.trans T3) _ _ a8
   ·rw[eh]
    exact T3 _ _ a8
  refine ah (yaa λe=>g0 (by injection e)) ?_;refine⟨_,rfl,_,_,rfl,rfl,(by show(0:Int)<_;decide),rfl,_,rfl,?_⟩;by_cases g1:n % 3=1
  ·refine aw (yab (by show V.int (n % 3)=V.int 1;rw[g1])) ?_
   refine⟨_,rfl,_,_,rfl,rfl,⟨by decide,by decide⟩,_,_,rfl,rfl,(by show(0:Int)<_;decide),_,_,rfl,rfl,?_⟩;refine⟨_,rfl,_,_,rfl,rfl,⟨by decide,by decide⟩,_,_,rfl,rfl,(by show(0:Int)<_;decide),_,_,rfl,rfl,szr rfl,λl0 n0=>?_⟩;have T0:=af (o:=HO.lst [V.int (1+n / 3 % 4),.int (1+n / 3 % 60)]) n0;have ix:n / 180 % 4 / 3=0\/n / 180 % 4 / 3=1:=by lia
   have em:atI [V.int (1+n / 3 % 4),.int (1+n / 3 % 60)] (n / 180 % 4 / 3)=some (V.int ((gq n:Nat):Int)):=by
    unfold gq;rcases ix with e | e
    ·rw[e,yad rfl,ybn (by grind)]
     rfl
    ·rw[e,yac (by decide),ybn (by grind)]
     rfl
   have mb:((gq n:Nat):Int)<=60:=by
    unfold gq;split<;>rw[ybn (by omega)]<;>grind
   refine⟨_,rfl,_,_,rfl,rfl,⟨by decide,by decide⟩,_,_,rfl,rfl,(by show(0:Int)<_;decide),_,_,rfl,rfl,⟨by decide,by decide⟩,l0,_,_,_,rfl,rfl,SqL.of a8,em,?_⟩;refine⟨_,rfl,szr rfl,λt nt=>⟨_,rfl,_,rfl,qK (by omega),szr rfl,λl nl=>⟨szr rfl,λr nr=>?_⟩⟩⟩;have T1:=af (o:=HO.tup [V.str "times",.int ((gq n:Nat):Int)]) nt;have T2:=af (o:=HO.lst [V.str (Str.ofString (toString ((gq n:Nat):Int))),.str "times"]) nl;have T3:=af (o:=HO.tup [V.ref t,.ref l]) nr;have eh:hdF n=.times (gq n):=by unfold hdF;rw[yac g0,yad g1]
   refine z r t l _ (T0.trans (T1.trans (T2.trans T3))) a8 ?_ ?_ (aH (T0.trans T1) nl)
   ·rw[eh]
    exact(T2.trans T3) _ _ a8
   ·rw[eh]
    exact T3 _ _ a8
  refine ah (yaa λe=>g1 (by injection e)) ?_;have e8:((n / 3 % 8).toNat:Int)=n / 3 % 8:=ybn (by grind);refine⟨_,rfl,_,_,rfl,rfl,⟨by decide,by decide⟩,_,_,rfl,rfl,(by show(0:Int)<_;decide),szr rfl,λt nt=>?_⟩;refine⟨_,rfl,_,_,rfl,rfl,⟨by decide,by decide⟩,_,_,rfl,rfl,(by show(0:Int)<_;decide),_,rfl,qK (by show(n / 3 % 8).natAbs<_;grind),szr rfl,λl nl=>⟨szr rfl,λr nr=>?_⟩⟩;have T1:=af (o:=HO.tup [V.str "turn",.int (n / 3 % 8)]) nt;have T2:=af (o:=HO.lst [V.str "turn",.str (Str.ofString (toString (n / 3 % 8)))]) nl;have T3:=af (o:=HO.tup [V.ref t,.ref l]) nr;have eh:hdF n=.turn (n / 3 % 8).toNat:=by unfold hdF;rw[yac g0,yac g1]
  refine z r t l _ (T1.trans (T2.trans T3)) a8 ?_ ?_ (aH T1 nl)
  ·rw[eh]
   show _=some (HO.tup [V.str "turn",V.int ((n / 3 % 8).toNat:Int)]);rw[e8];exact(T2.trans T3) _ _ a8
  ·rw[eh]
   show _=some (HO.lst [V.str "turn",V.str (nT ((n / 3 % 8).toNat:Int))]);rw[e8];exact T3 _ _ a8
end
def wo(H:Hp)(M:List Addr):Hp:=λc=>if c∈M then none else H c
theorem E6:kf (wo H M) H:=λc o e=>by
 unfold wo at e;split at e
 ·cases e
 ·exact e
theorem nK{H:Hp}(e:H c=some o)(h:¬ c∈M):wo H M c=some o:=by
 unfold wo;rw[yac h];exact e
theorem nN{H H':Hp}{M:AM}(h:∀ c o,H c=some o->¬ c∈M->H' c=some o/\¬ c∈M'):kf (wo H M) (wo H' M'):=λc o e=>by
 unfold wo at e;split at e
 ·cases e
 ·rename_i hc
  obtain⟨a,b⟩:=h c o e hc;exact nK a b
structure Fr where
 e:Addr
 h:Addr
 l:Addr
 hd:Hd
 xs:List V
 sk:List Sk
abbrev An:=List Fr
def frM(fs:List Fr):List Addr:=fs.flatMap λf=>[f.e,f.l]
theorem cV(f:Fr)(r:An):frM (f::r)=f.e::f.l::frM r:=rfl
theorem wL{f:Fr}(h:f∈fs):f.e∈frM fs:=List.mem_flatMap.mpr ⟨f,h,za1⟩
theorem wM{f:Fr}(h:f∈fs):f.l∈frM fs:=List.mem_flatMap.mpr ⟨f,h,za3 _ za1⟩
def kA(fs:List Fr):List (Hd×List Sk):=fs.map λf=>(f.hd,f.sk)
structure FrI(H Hw:Hp)(n:Nat)(f:Fr):Prop where
 he:H f.e=some (.lst [.ref f.h,.ref f.l])
 hh:H f.h=some (.tup (hdV f.hd))
 hl:H f.l=some (.lst f.xs)
 sk:aY Hw f.xs f.sk
 ln:f.sk.length<=n
structure kE(H0 H:Hp)(s W:Addr)(fs:List Fr)(n:Nat)(ww:List V):Prop where
 sub:kf H0 H
 no:∀ a∈s::W::frM fs,H0 a=none
 es:H s=some (.lst (fs.reverse.map λf=>V.ref f.e))
 ew:H W=some (.lst ww)/\ww.length<=n
 fr:∀ f∈fs,FrI H (wo H (s::W::frM fs)) n f
 nd:(s::W::frM fs).Nodup
theorem kE.lst{H0 H:Hp}{s:AA}(I:kE H0 H s W fs n ww):∀ a∈s::W::frM fs,∃ ys,H a=some (.lst ys):=λa ha=>by
 rcases za0.mp ha with rfl | ha
 ·exact⟨_,I.es⟩
 rcases za0.mp ha with rfl | ha
 ·exact⟨_,I.ew.1⟩
 obtain⟨f,hf,ha⟩:=List.mem_flatMap.mp ha;rcases za0.mp ha with rfl | ha
 ·exact⟨_,(I.fr f hf).he⟩
 ·rw[zac.mp ha]
  exact⟨_,(I.fr f hf).hl⟩
theorem kE.fresh{H0 H:Hp}{s:AA}(I:kE H0 H s W fs n ww)(h:H c=none):¬ c∈s::W::frM fs:=λz=>by
 obtain⟨ys,e⟩:=I.lst c z;rw[h]at e;cases e
theorem kE.tup{H0 H:Hp}{s:AA}(I:kE H0 H s W fs n ww)(h:H c=some (.tup xs)):¬ c∈s::W::frM fs:=λz=>by
 obtain⟨ys,e⟩:=I.lst c z;rw[h]at e;cases e
theorem kE.same{H0:Hp}{s:AA}(I:kE H0 H s W fs n ww)(S:kf H H'):kE H0 H' s W fs n ww:=by
 obtain⟨e,l⟩:=I.ew;refine⟨I.sub.trans S,I.no,S _ _ I.es,⟨S _ _ e,l⟩,λf hf=>?_,I.nd⟩;have q:=I.fr f hf;exact⟨S _ _ q.he,S _ _ q.hh,S _ _ q.hl,q.sk.same (nN λc o e hc=>⟨S _ _ e,hc⟩),q.ln⟩
theorem kE.mono{H0:Hp}{s:AA}{n:Nat}(I:kE H0 H s W fs n ww)(h:n<=m):kE H0 H s W fs m ww:=by
 obtain⟨e,l⟩:=I.ew;refine⟨I.sub,I.no,I.es,⟨e,zap l h⟩,λf hf=>?_,I.nd⟩;have q:=I.fr f hf;exact⟨q.he,q.hh,q.hl,q.sk,zap q.ln h⟩
theorem kE.wset{H0 H:Hp}{s:AA}{ws:Ac}(I:kE H0 H s W fs n ww)(f:H W'=none)(l:ws.length<=n):kE H0 (upd H W' (.lst ws)) s W' fs n ws:=by
 have T:=af (o:=HO.lst ws) f;have nw:=I.fresh f;have nd:=I.nd;rw[zak,zak]at nd;refine⟨I.sub.trans T,λa ha=>?_,T _ _ I.es,⟨a8,l⟩,λg hg=>?_,?_⟩
 ·rcases za0.mp ha with rfl | ha
  ·exact I.no _ za1
  rcases za0.mp ha with rfl | ha
  ·exact aH I.sub f
  ·exact I.no _ (za3 _ (za3 _ ha))
 ·have q:=I.fr g hg
  refine⟨T _ _ q.he,T _ _ q.hh,T _ _ q.hl,q.sk.same (nN λc o e hc=>⟨T _ _ e,λz=>?_⟩),q.ln⟩;rcases za0.mp z with rfl | z
  ·exact hc za1
  rcases za0.mp z with rfl | z
  ·rw[f]at e;cases e
  ·exact hc (za3 _ (za3 _ z))
 ·rw[zak,zak]
  refine⟨λz=>?_,λz=>nw (za3 _ (za3 _ z)),nd.2.2⟩;rcases za0.mp z with rfl | z
  ·exact nw za1
  ·exact nd.1 (za3 _ z)
theorem qN(h:a∈M):kf (wo H M) (wo (upd H a o) M):=nN λc o' e hc=>⟨by rw[am (λz=>hc (by rw[z];exact h))];exact e,hc⟩
theorem kE.wapp{H0:Hp}{s:AA}{ws:Ac}(I:kE H0 H s W fs n ww)(l:ws.length<=n):kE H0 (upd H W (.lst ws)) s W fs n ws:=by
 have nd:=I.nd;rw[zak,zak]at nd;have wm:W∈s::W::frM fs:=za3 _ za1;refine⟨ao I.sub (I.no W wm),I.no,?_,⟨a8,l⟩,λg hg=>?_,I.nd⟩
 ·rw[am (λz=>nd.1 (by rw[z];exact za1))]
  exact I.es
 ·have q:=I.fr g hg
  refine⟨?_,?_,?_,q.sk.same (qN wm),q.ln⟩
  ·rw[am (λz=>nd.2.1 (by rw[<- z];exact wL hg))];exact q.he
  ·rw[am (λz=>I.tup q.hh (by rw[z];exact wm))];exact q.hh
  ·rw[am (λz=>nd.2.1 (by rw[<- z];exact wM hg))];exact q.hl
theorem kE.push{H0 H:Hp}{s W:AA}{f:Fr}{r:An}{n:Nat}{v:V}{st:Sk}{ww:Ac}(I:kE H0 H s W (f::r) n ww)(h:kI (wo H (s::W::frM (f::r))) v st):kE H0 (upd H f.l (.lst (f.xs++[v]))) s W ({ f with xs:=f.xs++[v],sk:=f.sk++[st] }::r) (n+1) ww:=by
 have nd:=I.nd;rw[cV,zak,zak,zak,zak]at nd;obtain⟨n1,n2,n3,n4,_⟩:=nd;have lm:f.l∈s::W::frM (f::r):=by rw[cV];simp
 obtain⟨ew,wl⟩:=I.ew;have eM:frM ({ f with xs:=f.xs++[v],sk:=f.sk++[st] }::r)=frM (f::r):=rfl;have nsl:s≠f.l:=λz=>n1 (by rw[z];simp)
 have nwl:W≠f.l:=λz=>n2 (by rw[z];simp)
 have nel:f.e≠f.l:=λz=>n3 (by rw[z];simp)
 refine⟨ao I.sub (I.no _ lm),I.no,?_,⟨by rw[am nwl];exact ew,by lia⟩,λg hg=>?_,I.nd⟩
 ·rw[am nsl]
  have:=I.es;rw[zar,zae]at this ⊢;exact this
 ·rw[eM]
  rcases za0.mp hg with rfl | hg
  ·have q:=I.fr f za1
   refine⟨?_,?_,a8,aY.snoc (q.sk.same (qN lm)) (h.same (qN lm)),?_⟩
   ·rw[am nel];exact q.he
   ·rw[am (λz=>I.tup q.hh (by rw[z];exact lm))];exact q.hh
   ·show(f.sk++[st]).length<=_
    rw[za7];have:=q.ln;show _+1<=_
    lia
  ·have q:=I.fr g (za3 _ hg)
   refine⟨?_,?_,?_,q.sk.same (qN lm),Nat.le_succ_of_le q.ln⟩
   ·rw[am (λz=>n4 (by rw[<- z];exact wL hg))];exact q.he
   ·rw[am (λz=>I.tup q.hh (by rw[z];exact lm))];exact q.hh
   ·rw[am (λz=>n4 (by rw[<- z];exact wM hg))];exact q.hl
theorem kE.opn{H0 H:Hp}{s:AA}{fs:An}(I:kE H0 H s W fs n ww)(ht:H t=some (.tup (hdV hd)))(fl:H l=none)(fe:(upd H l (.lst [])) e=none) :
  kE H0 (upd (upd (upd H l (.lst [])) e (.lst [.ref t,.ref l])) s (.lst ((fs.reverse.map λf=>V.ref f.e)++[.ref e]))) s W (⟨e,t,l,hd,[],[]⟩::fs) n ww:=by
 have T1:=af (o:=HO.lst []) fl;have T2:=af (o:=HO.lst [.ref t,.ref l]) fe;have fe0:H e=none:=aH T1 fe;have nel:e≠l:=λz=>by rw[z,a8]at fe;cases fe
 have nl:=I.fresh fl;have ne:=I.fresh fe0;have nd:=I.nd;rw[zak]at nd;have S:=T1.trans T2;have nsl:l≠s:=λz=>nl (by rw[z];exact za1)
 have nts:t≠s:=λz=>I.tup ht (by rw[z];exact za1)
 have nse:e≠s:=λz=>ne (by rw[z];exact za1)
 have keep:∀ {c o},H c=some o->c≠s->(upd (upd (upd H l (.lst [])) e (.lst [.ref t,.ref l])) s (.lst ((fs.reverse.map λf=>V.ref f.e)++[.ref e]))) c=some o:=fun {c o} h1 h2=>by
  rw[am h2];exact S _ _ h1
 have key:∀ c o,H c=some o->¬ c∈s::W::frM fs->(upd (upd (upd H l (.lst [])) e (.lst [.ref t,.ref l])) s (.lst ((fs.reverse.map λf=>V.ref f.e)++[.ref e]))) c=some o/\¬ c∈s::W::frM (⟨e,t,l,hd,[],[]⟩::fs):=λc o h1 h2=>by
  refine⟨keep h1 (λz=>h2 (by rw[z];exact za1)),λz=>?_⟩;rw[cV]at z;simp only[za0]at z h2;rcases z with z | z | z | z | z
  ·exact h2 (.inl z)
  ·exact h2 (.inr (.inl z))
  ·rw[z,fe0]at h1;cases h1
  ·rw[z,fl]at h1;cases h1
  ·exact h2 (.inr (.inr z))
 obtain⟨ew,wl⟩:=I.ew;refine⟨ao (I.sub.trans S) (I.no s za1),λa ha=>?_,?_,⟨keep ew (λz=>nd.1 (by rw[<- z];exact za1)),wl⟩,λg hg=>?_,?_⟩
 ·rw[cV]at ha
  simp only[za0]at ha;rcases ha with rfl | rfl | rfl | rfl | ha
  ·exact I.no _ za1
  ·exact I.no _ (za3 _ za1)
  ·exact aH I.sub fe0
  ·exact aH I.sub fl
  ·exact I.no _ (za3 _ (za3 _ ha))
 ·rw[a8,zar,zae]
  rfl
 ·rcases za0.mp hg with rfl | hg
  ·refine⟨?_,keep ht nts,?_,.nil,zb6 _⟩
   ·rw[am nse];exact a8
   ·rw[am nsl];exact T2 _ _ a8
  ·have q:=I.fr g hg
   refine⟨keep q.he ?_,keep q.hh ?_,keep q.hl ?_,q.sk.same (nN key),q.ln⟩
   ·exact λz=>nd.1 (za3 _ (by rw[<- z];exact wL hg))
   ·exact λz=>I.tup q.hh (by rw[z];exact za1)
   ·exact λz=>nd.1 (za3 _ (by rw[<- z];exact wM hg))
 ·rw[cV]
  have n0:=I.nd;simp only[zak,za0,not_or]at n0 nl ne ⊢;exact⟨⟨n0.1.1,yav nse,yav nsl,n0.1.2⟩,⟨yav ne.2.1,yav nl.2.1,n0.2.1⟩,⟨nel,ne.2.2⟩,nl.2.2,n0.2.2⟩
theorem kE.pop{H0:Hp}{s:AA}{f:Fr}(I:kE H0 H s W (f::f'::r) n ww) :
  kE H0 (upd H s (.lst ((f'::r).reverse.map λf=>V.ref f.e))) s W (f'::r) n ww/\(upd H s (.lst ((f'::r).reverse.map λf=>V.ref f.e))) f.e=some (.lst [.ref f.h,.ref f.l])/\(upd H s (.lst ((f'::r).reverse.map λf=>V.ref f.e))) f.h=some (.tup (hdV f.hd))/\(upd H s (.lst ((f'::r).reverse.map λf=>V.ref f.e))) f.l=some (.lst f.xs)/\¬ f.l∈s::W::frM (f'::r)/\aY (wo (upd H s (.lst ((f'::r).reverse.map λf=>V.ref f.e))) (s::W::frM (f'::r))) f.xs f.sk:=by
 have nd:=I.nd;rw[cV]at nd;generalize hN:f'::r=R at *;simp only[zak,za0,not_or]at nd;obtain⟨⟨a1,a2,a3,a4⟩,⟨b1,b2,b3⟩,⟨c1,c2⟩,d1,e1⟩:=nd;have key:∀ c o,H c=some o->¬ c∈s::W::frM (f::R)->(upd H s (.lst (R.reverse.map λf=>V.ref f.e))) c=some o/\¬ c∈s::W::frM R:=λc o h1 h2=>by
  rw[cV]at h2;simp only[za0,not_or]at h2 ⊢;exact⟨by rw[am h2.1];exact h1,h2.1,h2.2.1,h2.2.2.2.2⟩
 have q:=I.fr f za1;obtain⟨ew,wl⟩:=I.ew;refine⟨⟨ao I.sub (I.no s za1),λa ha=>I.no a ?_,a8,⟨by rw[am (yav a1)];exact ew,wl⟩,λg hg=>?_,?_⟩,?_,?_,?_,?_,q.sk.same (nN key)⟩
 ·rw[cV]
  simp only[za0]at ha ⊢;rcases ha with h | h | h
  ·exact .inl h
  ·exact .inr (.inl h)
  ·exact .inr (.inr (.inr (.inr h)))
 ·have q:=I.fr g (za3 _ hg)
  refine⟨?_,?_,?_,q.sk.same (nN key),q.ln⟩
  ·rw[am (λz=>a4 (by rw[<- z];exact wL hg))];exact q.he
  ·rw[am (λz=>I.tup q.hh (by rw[z];exact za1))];exact q.hh
  ·rw[am (λz=>a4 (by rw[<- z];exact wM hg))];exact q.hl
 ·simp only[zak,za0,not_or]
  exact⟨⟨a1,a4⟩,b3,e1⟩
 ·rw[am (yav a2)];exact q.he
 ·rw[am (λz=>I.tup q.hh (by rw[z];exact za1))];exact q.hh
 ·rw[am (yav a3)];exact q.hl
 ·simp only[za0,not_or]
  exact⟨yav a3,yav b2,d1⟩
def mk:Hd->List Sk->Sk
 | .no,l=>.back l
 | .back,l=>.back l
 | .times m,l=>.times m l
 | .turn k,l=>.turn k l
theorem mk_is{H:Hp}{t:AA}(hn:hd≠.no)(e:H t=some (.tup (hdV hd++[.ref l])))(el:H l=some (.lst xs))(h:aY H xs sk):kI H (.ref t) (mk hd sk):=by
 cases hd with
 | no=>exact absurd rfl hn
 | back=>exact .back e el h
 | times m=>exact .times e el h
 | turn k=>exact .turn e el h
section
variable{P:AF}{w:AJ}{K:A2}{mg:A5}{base:AO}
def sU:Sp:=λvs H Q _=>∃ (s W:Addr) (H0:Hp) (f f':Fr) (r:List Fr) (n:Nat) (ww:List V),vs=[.ref s,.ref W]/\kE H0 H s W (f::f'::r) n ww/\f.hd≠.no/\n<900/\∀ xs' H',kE H0 H' s W ({ f' with xs:=xs',sk:=f'.sk++[mk f.hd f.sk] }::r) (n+2) (ww++[V.str ")"])->Q .non H'
theorem nP:az ["_law_stack","_law_words","_law_head_here","_law_strokes"] ["_law_stack","_law_words"] (aj jT):=fsk (by decide +kernel)
theorem yq(D:Df K mg "_law_closed" jT f fd):ke P w K mg base CX0 1 f fd ["_law_stack","_law_words"] sU:=by
 refine D.F.ok nP (λvs H Q E h=>?_) (λcdv A outer s H vs Q E hr h=>?_)
 ·obtain⟨s,W,H0,f,f',r,n,ww,rfl,_⟩:=h
  rfl
 ·obtain⟨st,W,H0,f,f',r,n,ww,rfl,I,hn,nb,z⟩:=h
  refine⟨_,(aa (pQ (tM yap ye8 F.type_list_pop tP (pv 0)) (CY (n:=2) rfl (ba (aQ (i:=2) nP.nd rfl (Or.inl rfl)) (ba (aQ (i:=3) nP.nd rfl (Or.inl rfl)) dq))))
   (aa (aR (cX yap yan yao bJ (aD aL (aD aL (pv 0) (cp bc ad) (λ_ _=>rfl)) ad (λ_ _=>rfl)) (pac (aq ve (pv 2) (aI (pac (pv 3) a9))) a9)))
   (ae (aR (cX yap yan yao bJ (pv 1) (pac (ag) a9)))))),?_⟩
  obtain⟨I1,he,hh,hl,nl,hsk⟩:=I.pop;have es:=I.es;rw[zar,zae]at es;refine⟨_,rfl,.inl ⟨rfl,_,SqL.of es⟩,st,_,.ref f.e,rfl,rfl,es,by simp,?_⟩;show EA _ _ _ _ _ (upd H st (.lst (((f'::r).reverse.map λf=>V.ref f.e)++[V.ref f.e]).dropLast)) _;rw[yea];revert I1 he hh hl hsk;generalize (upd H st (.lst ((f'::r).reverse.map λf=>V.ref f.e)))=H1;intro I1 he hh hl hsk;refine⟨f.e,_,rfl,SqL.of he,rfl,_,_,rfl,_,_,rfl,rfl,?_⟩;have es1:=I1.es;rw[zar,zae]at es1;have q1:=I1.fr f' za1;refine⟨_,rfl,_,rfl,st,_,_,_,rfl,rfl,SqL.of es1,cc _ _,f'.e,_,_,_,rfl,rfl,SqL.of q1.he,rfl,.inl ⟨rfl,_,SqL.of q1.hl⟩,?_⟩;refine⟨_,rfl,_,rfl,szr rfl,λt1 nt1=>?_⟩;have T1:=af (o:=HO.tup [V.ref f.l]) nt1;refine⟨f.h,t1,_,_,rfl,rfl,SqT.of (T1 _ _ hh),SqT.of a8,?_,?_,λh=>(by cases h),λ_ t nt=>?_⟩
  ·cases hf:f.hd with
   | no=>exact absurd hf hn
   | back=>simp[hdV]
   | times m=>simp[hdV]
   | turn k=>simp[hdV]
  ·rw[yau]
   cases f.hd<;>simp[hdV]
  have T2:=af (o:=HO.tup (hdV f.hd++[V.ref f.l])) nt;have T:=T1.trans T2;have I3:=I1.same T;have et:(upd (upd H1 t1 (HO.tup [V.ref f.l])) t (HO.tup (hdV f.hd++[V.ref f.l]))) t=some (HO.tup (hdV f.hd++[V.ref f.l])):=a8;have hl3:=T _ _ hl;have sk3:=hsk.same (nN (M:=st::W::frM (f'::r)) (M':=st::W::frM (f'::r)) λc o e hc=>⟨T _ _ e,hc⟩);revert I3 et hl3 sk3;generalize (upd (upd H1 t1 (HO.tup [V.ref f.l])) t (HO.tup (hdV f.hd++[V.ref f.l])))=H3;intro I3 et hl3 sk3;have q3:=I3.fr f' za1;have skt:kI (wo H3 (st::W::frM (f'::r))) (.ref t) (mk f.hd f.sk):=mk_is hn (nK et (I3.tup et)) (nK hl3 nl) sk3;have xl:f'.xs.length<=n:=by rw[q3.sk.length];exact q3.ln
  refine⟨f'.l,f'.xs,_,rfl,rfl,q3.hl,bp (by lia),?_⟩;have I4:=I3.push skt;revert I4;generalize (upd H3 f'.l (.lst (f'.xs++[V.ref t])))=H4;intro I4;obtain⟨ew,wl⟩:=I4.ew;refine⟨_,rfl,.inl ⟨rfl,_,SqL.of ew⟩,W,ww,_,rfl,rfl,ew,bp (by lia),?_⟩;exact z _ _ ((I4.mono (yd6 _)).wapp (by rw[za7];show _+1<=_;lia))
end
end K26
namespace K26
open PySem PySem.Spec PyProof.Rows L2 BF PySem.SeqAt
seal L2.PE L2.PA L2.PS L2.PSs L2.PT L2.PW L2.PG L2.PGs L2.PI BF.PTs L2.PPs L2.PO
def flat:Sk->Prop
 | .line _ _ _=>True
 | .by_ _ _=>True
 | .ink _=>True
 | _=>False
theorem EL:∀ ws:List Str,(Str.join "" ws).cps.toList=(ws.map λx=>x.cps.toList).flatten
 | []=>rfl
 | [x]=>by
  show x.cps.toList=_;simp
 | x::y::r=>by
  have ih:=EL (y::r);rw[zaa,zbn,<- ih];show((x.cps++("":AL).cps)++(Str.join "" (y::r)).cps).toList=_;rw[zao,zao];have:("":AL).cps.toList=[]:=rfl;rw[this,zb0]
theorem E7{ws:AH}(h1:1<=ws.length)(h8:ws.length<=8)(h:∀ x∈ws,∃ c,x=⟨#[c]⟩/\cz c=true):lS (.str (Txt.join "" ws))=true:=by
 have e1:Txt.join "" ws=Str.join "" ws:=ycw "" ws;have e2:∀ l:List Str,(∀ x∈l,∃ c,x=⟨#[c]⟩/\cz c=true)->(l.map λx=>x.cps.toList).flatten.length=l.length/\(l.map λx=>x.cps.toList).flatten.all cz=true:=by
  intro l
  induction l with
  | nil=>intro _;exact⟨rfl,rfl⟩
  | cons x r ih =>
   intro hl;obtain⟨a,b⟩:=ih λy hy=>hl y (za3 _ hy)
   obtain⟨c,rfl,hc⟩:=hl x za1;rw[zaa,zbn,za7,List.all_append,a,b];exact⟨by show 1+_=_;rw[za2];lia,by show([c].all cz&&true)=true;simp[hc]⟩
 obtain⟨a,b⟩:=e2 ws h;rw[<- EL,<- e1]at a b;rw[nA]at a;rw[nh (by lia) (by lia)];exact b
section
variable{P:AF}{w:AJ}{K:A2}{mg:A5}{base:AO}
def pH:Sp:=λvs H Q _=>∃ (c:Int) (k:Nat),vs=[.int c,.int (k:Int)]/\k<=100/\∀ n:Int,0<=n->n<2147483629->Q (.int n) H
theorem sV:az ["_law_cell","_law_k","_law_number_here","_law_turn","_law_one"] ["_law_cell","_law_k"] (aj uf):=fsk (by decide +kernel)
theorem FY(D:Df K mg "_law_number" uf f fd)(B:Blt mg):ke P w K mg base CX0 1 f fd ["_law_cell","_law_k"] pH:=by
 refine D.F.ok sV (λvs H Q E h=>?_) (λcdv A outer s H vs Q E hr h=>?_)
 ·obtain⟨c,k,rfl,_⟩:=h
  rfl
 ·obtain⟨c,k,rfl,hk,z⟩:=h
  refine⟨_,(aa (ay (i:=2) sV.nd rfl (Or.inl rfl) (aq bZ (pv 0) ad))
   (aa (cQ ybc rfl (dD rfl B.range (pac (aq dR (pv 1) (b8 i8 (by rfl) B.int yd4 (pac (cU aX (aq aT (pv 0) ad) ad (au _)) a9))) a9)) (aQ (i:=3) sV.nd rfl (Or.inl rfl)) (ae (ay (i:=2) sV.nd rfl (Or.inl rfl) (aq zU (pv 2) ad))))
   (aa (aK (PW.pt (df (ap aX (aq aT (pv 0) ad) ad (au _)) (cR (ap eP (pv 2) ad (au _))))) (ae (av (aq aT (pv 2) ad))) ax)
   (aa (ay (i:=4) sV.nd rfl (Or.inl rfl) (aq aT (aq dR (aq aW (aq aW (aq aT (pv 0) ad) (aq dR (aq dR ad (pv 1)) (pv 1))) ad) ad) ad))
   (ae (av (aq aT (aq dR (pv 4) (aq aW (aq aT (pv 4) ad) ad)) ad))))))),?_⟩
  have ck:∀ i:Int,yI i (k:Int):=λi=>vi (by lia) (by lia)
  refine⟨_,rfl,_,_,rfl,rfl,⟨by decide,by decide⟩,?_⟩;refine⟨_,rfl,_,rfl,_,_,rfl,rfl,(by show(0:Int)<2;decide),rfl,_,rfl,_,_,rfl,rfl,?_,_,rfl,?_,?_,?_⟩
  ·split
   ·exact vi (by decide) (by decide)
   ·exact vi (by decide) (by decide)
  ·show -2 ^ 62<=(k:Int)*_
   split<;>lia
  ·show(k:Int)*_<2 ^ 62
   split<;>lia
  generalize ((k:Int)*_).toNat=m;refine eQ (λi σ H1=>(∃ n v3,σ=[some (.int c),some (.int (k:Int)),some (.int n),v3,none])/\H1=H) ⟨⟨_,_,rfl⟩,rfl⟩ ?_ ?_
  ·rintro i σ H1 hi ⟨⟨n,v3,rfl⟩,rfl⟩
   exact⟨_,rfl,_,_,rfl,rfl,⟨by decide,by decide⟩,⟨_,_,rfl⟩,rfl⟩
  rintro σ H1 ⟨⟨n,v3,rfl⟩,rfl⟩;refine' bz (λσ H2=>(∃ v4,σ=[some (.int c),some (.int (k:Int)),some (.int n),v3,v4])/\H2=H1) (λfin=>_) _
  rotate_left
  ·refine⟨_,rfl,_,_,rfl,rfl,(by show(0:Int)<2;decide),rfl,_,rfl,ifC (λ_=>?_) (λ_=>kr (fin _ _ ⟨⟨_,rfl⟩,rfl⟩))⟩
   refine⟨_,rfl,_,_,rfl,rfl,_,rfl,ifC (λ_=>?_) (λ_=>fin _ _ ⟨⟨_,rfl⟩,rfl⟩)⟩;exact⟨_,rfl,_,_,rfl,rfl,(by show(0:Int)<2147483629;decide),z _ (ydf _ (by decide)) (yco _ (by decide))⟩
  rintro σ H2 ⟨⟨v4,rfl⟩,rfl⟩;have h1:=ydf c (show(2147483647:Int)≠0 by decide);have h2:=yco c (show(0:Int)<2147483647 by decide);have kk:(7919:Int)*(k:Int)*(k:Int)<=79190000:=by
   have:(k:Int)*(k:Int)<=10000:=by
    have a:(k:Int)<=100:=by lia
    exact Int.le_trans (Int.mul_le_mul_of_nonneg_left a (by lia)) (by lia)
   rw[Int.mul_assoc]
   lia
  have kk0:0<=(7919:Int)*(k:Int)*(k:Int):=Int.mul_nonneg (Int.mul_nonneg (by decide) (by omega)) (by omega);refine⟨_,rfl,_,_,rfl,rfl,(by show(0:Int)<2147483647;decide),_,rfl,_,_,rfl,rfl,ck _,_,rfl,_,_,rfl,rfl,ck _,_,_,rfl,rfl,_,_,rfl,rfl,_,_,rfl,rfl,vi (by decide) (by decide),_,_,rfl,rfl,(by show(0:Int)<2147483629;decide),?_⟩;generalize ((c % 2147483647+7919*(k:Int)*(k:Int)+11)*69621)=o;have o1:=ydf o (show(2147483629:Int)≠0 by decide);have o2:=yco o (show(0:Int)<2147483629 by decide);refine⟨_,rfl,_,rfl,_,_,rfl,rfl,(by show(0:Int)<65521;decide),_,_,rfl,rfl,_,_,rfl,rfl,.inl ⟨by show -(2 ^ 64)<o % 2147483629;lia,by show o % 2147483629<2 ^ 64;lia⟩,_,_,rfl,rfl,(by show(0:Int)<2147483587;decide),z _ (ydf _ (by decide)) ?_⟩;exact Int.lt_of_lt_of_le (yco _ (show(0:Int)<2147483587 by decide)) (by decide)
end
def fIn(so:Str)(x y:Int):Prop:=(so="line"->(-9<=x/\x<=9)/\(-9<=y/\y<=9))/\(-1000000000<=x/\x<=1000000000)/\(-1000000000<=y/\y<=1000000000)
section
variable{P:AF}{w:AJ}{K:A2}{mg:A5}{base:AO}
def BE:Sp:=λvs H Q _=>∃ (c n:Int) (so:Str),vs=[.int c,.int n,.str so]/\(so="line"\/so="by")/\∀ (x y:Int) (r t l:Addr) H',fIn so x y->(so="line"->¬ (x=0/\y=0))->kf H H'->H' r=some (.tup [.ref t,.ref l])->H' t=some (.tup [.str so,.int x,.int y])->H' l=some (.lst ([so,nT x,nT y].map V.str))->H l=none->Q (.ref r) H'
theorem nQ:az ["_law_cell","_law_number_here","_law_sort","_law_x","_law_y"] ["_law_cell","_law_number_here","_law_sort"] (aj sFar):=fsk (by decide +kernel)
theorem FZ{f:AA}{fd:AG}(D:Df K mg "_law_far" sFar f fd)(B:Blt mg)(DN:Df K mg "_law_number" uf fN fdN)(bN:ar K fdN ["_law_cell","_law_k"] [])(GN:ke P w K mg base CX0 1 fN fdN ["_law_cell","_law_k"] pH):ke P w K mg base CX0 2 f fd ["_law_cell","_law_number_here","_law_sort"] BE:=by
 refine D.F.ok nQ (λvs H Q E h=>?_) (λcdv A outer s H vs Q E hr h=>?_)
 ·obtain⟨c,n,so,rfl,_⟩:=h
  rfl
 ·obtain⟨c,n,so,rfl,hso,z⟩:=h
  refine⟨_,(aa (ay (i:=3) nQ.nd rfl (Or.inl rfl) (aq dQ (aq aT (pv 1) ad) ad))
   (aa (ay (i:=4) nQ.nd rfl (Or.inl rfl) (aq dQ (aq aT (aq bZ (pv 1) ad) ad) ad))
   (aa (aK (PW.pt (df (ap aX (pv 2) ag (au _)) (cR (ap aX (aq aT (aq bZ (pv 1) ad) ad) ad (au _))))) (aa (ay (i:=3) nQ.nd rfl (Or.inl rfl) (aq dQ (aq aT (pec GN hr rfl DN.m DN.F.kp bN .nil aF (pac (pv 0) (pac (ad) a9))) (aq aW (aq dR ad oN) ad)) oN))
   (ae (ay (i:=4) nQ.nd rfl (Or.inl rfl) (aq dQ (aq aT (pec GN hr rfl DN.m DN.F.kp bN .nil aF (pac (pv 0) (pac (ad) a9))) (aq aW (aq dR ad oN) ad)) oN)))) ax)
   (aa (aK (PW.pt (df (ap aX (pv 2) ag (au _)) (cR (ap aX (aq aT (aq bZ (pv 1) ad) ad) ad (au _))))) (ae (ay (i:=3) nQ.nd rfl (Or.inl rfl) (aq dR (aq dQ ad (aq dR ad (aq aT (aq bZ (pv 1) ad) ad))) (aq dQ oN (aq aT (aq bZ (pv 1) ad) ad))))) ax)
   (aa (aK (PW.pt (df (ap aX (pv 2) ag (au _)) (df (ap aX (pv 3) ad (au _)) (cR (ap aX (pv 4) ad (au _)))))) (ae (ay (i:=3) nQ.nd rfl (Or.inl rfl) ad)) ax)
   (ae (av (aI (pac (aI (pac (pv 2) (pac (pv 3) (pac (pv 4) a9)))) (pac (aZ (pac (pv 2) (pac (b8 c9 (by rfl) B.str yc8 (pac (pv 3) a9)) (pac (b8 c9 (by rfl) B.str yc8 (pac (pv 4) a9)) a9)))) a9)))))))))),?_⟩
  refine⟨_,rfl,_,_,rfl,rfl,(by show(0:Int)<19;decide),_,_,rfl,rfl,?_⟩;refine⟨_,rfl,_,_,rfl,rfl,⟨by decide,by decide⟩,_,_,rfl,rfl,(by show(0:Int)<19;decide),_,_,rfl,rfl,?_⟩;have lb:so="by"->so≠"line":=λh=>by rw[h];decide +kernel
  refine' bz (λσ H1=>∃ x y:Int,σ=[some (.int c),some (.int n),some (.str so),some (.int x),some (.int y)]/\H1=H/\fIn so x y) (λfin=>_) _
  rotate_left
  ·refine⟨_,rfl,rfl,_,rfl,?_⟩
   have f0:fIn so (n % 19-9) (n / 19 % 19-9):=⟨λ_=>⟨by lia,by lia⟩,by lia,by lia⟩;by_cases k1:so="by"
   ·refine aw (yab (by rw[k1])) ⟨_,rfl,_,_,rfl,rfl,⟨by decide,by decide⟩,_,_,rfl,rfl,(by show(0:Int)<8;decide),rfl,_,rfl,ifC (λ_=>?_) (λ_=>fin _ _ ⟨_,_,rfl,rfl,f0⟩)⟩
    refine⟨_,rfl,c,1,rfl,by decide,λa a0 a1=>?_⟩;refine⟨_,_,rfl,rfl,.inl ⟨by decide,by decide⟩,_,_,rfl,rfl,_,_,rfl,rfl,(by show(0:Int)<2*1000000000+1;decide),_,_,rfl,rfl,?_⟩;refine⟨_,rfl,c,2,rfl,by decide,λb b0 b1=>?_⟩;refine⟨_,_,rfl,rfl,.inl ⟨by decide,by decide⟩,_,_,rfl,rfl,_,_,rfl,rfl,(by show(0:Int)<2*1000000000+1;decide),_,_,rfl,rfl,?_⟩;exact fin _ _ ⟨a % (2*1000000000+1)-1000000000,b % (2*1000000000+1)-1000000000,rfl,rfl,λh=>absurd h (lb k1),by grind,by grind⟩
   ·exact ah (yaa λe=>k1 (by injection e)) (kr (fin _ _ ⟨_,_,rfl,rfl,f0⟩))
  rintro σ H1 ⟨x0,y0,rfl,rfl,f1⟩;refine' bz (λσ H2=>∃ x y:Int,σ=[some (.int c),some (.int n),some (.str so),some (.int x),some (.int y)]/\H2=H1/\fIn so x y) (λfin=>_) _
  rotate_left
  ·refine⟨_,rfl,rfl,_,rfl,?_⟩
   by_cases k1:so="by"
   ·refine aw (yab (by rw[k1])) ⟨_,rfl,_,_,rfl,rfl,⟨by decide,by decide⟩,_,_,rfl,rfl,(by show(0:Int)<8;decide),rfl,_,rfl,ifC (λ_=>?_) (λ_=>fin _ _ ⟨_,_,rfl,rfl,f1⟩)⟩
    refine⟨_,rfl,_,_,rfl,rfl,⟨by decide,by decide⟩,_,_,rfl,rfl,(by show(0:Int)<_;decide),_,_,rfl,rfl,.inl ⟨by decide,by decide⟩,_,_,rfl,rfl,_,rfl,_,_,rfl,rfl,⟨by decide,by decide⟩,_,_,rfl,rfl,(by show(0:Int)<_;decide),_,_,rfl,rfl,_,_,rfl,rfl,.inl ⟨by show -(2 ^ 64)<1-2*(n / 2888 % 2);lia,by show 1-2*(n / 2888 % 2)<2 ^ 64;lia⟩,?_⟩;have hcase:n / 2888 % 2=0\/n / 2888 % 2=1:=by lia
    refine fin _ _ ⟨(1-2*(n / 2888 % 2))*(1000000000-n / 5776 % 30),y0,rfl,rfl,λh=>absurd h (lb k1),?_,f1.2.2⟩;rcases hcase with h | h<;>rw[h]<;>lia
   ·exact ah (yaa λe=>k1 (by injection e)) (kr (fin _ _ ⟨_,_,rfl,rfl,f1⟩))
  rintro σ H2 ⟨x1,y1,rfl,rfl,f2⟩;refine' bz (λσ H3=>∃ x y:Int,σ=[some (.int c),some (.int n),some (.str so),some (.int x),some (.int y)]/\H3=H2/\fIn so x y/\(so="line"->¬ (x=0/\y=0))) (λfin=>_) _
  rotate_left
  ·refine⟨_,rfl,rfl,_,rfl,?_⟩
   by_cases k1:so≠"line"
   ·exact ah (yaa λe=>k1 (by injection e)) (kr (fin _ _ ⟨_,_,rfl,rfl,f2,λh=>absurd h k1⟩))
   have k1:so="line":=Classical.not_not.mp k1;refine aw (yab (by rw[k1])) ⟨_,rfl,rfl,_,rfl,?_⟩;by_cases hx:x1≠0
   ·exact ah (yaa λe=>hx (by injection e)) (kr (fin _ _ ⟨_,_,rfl,rfl,f2,λ_ q=>hx q.1⟩))
   have hx:x1=0:=Classical.not_not.mp hx;refine aw (yab (by rw[hx])) ⟨_,rfl,rfl,_,rfl,?_⟩;by_cases hy:y1≠0
   ·exact ah (yaa λe=>hy (by injection e)) (fin _ _ ⟨_,_,rfl,rfl,f2,λ_ q=>hy q.2⟩)
   have hy:y1=0:=Classical.not_not.mp hy;exact aw (yab (by rw[hy])) (fin _ _ ⟨9,y1,rfl,rfl,⟨λh=>⟨by lia,(f2.1 h).2⟩,by lia,f2.2.2⟩,λ_ q=>by lia⟩)
  rintro σ H3 ⟨x,y,rfl,rfl,f3,f4⟩;obtain⟨_,bx,by'⟩:=id f3;refine⟨_,rfl,_,rfl,_,rfl,szr rfl,λt nt=>⟨_,rfl,_,rfl,x,rfl,qK (by omega),_,rfl,y,rfl,qK (by omega),szr rfl,λl nl=>⟨szr rfl,λr nr=>?_⟩⟩⟩;have T1:=af (o:=HO.tup [V.str so,.int x,.int y]) nt;have T2:=af (o:=HO.lst [V.str so,.str (nT x),.str (nT y)]) nl;have T3:=af (o:=HO.tup [V.ref t,.ref l]) nr;exact z x y r t l _ f3 f4 (T1.trans (T2.trans T3)) a8 ((T2.trans T3) _ _ a8) (T3 _ _ a8) (aH T1 nl)
def BG:Sp:=λvs H Q _=>∃ c n:Int,vs=[.int c,.int n]/\∀ (z:Str) H',lS (.str z)=true->kf H H'->Q (.str z) H'
theorem BH:az ["_law_cell","_law_number_here","_law_named"] ["_law_cell","_law_number_here"] (aj iO):=fsk (by decide +kernel)
theorem G0:∀ m:Fin 8,lS (.str (Txt.slice "abcdefgh" (some (m.val:Int)) none))=true:=by decide +kernel
theorem G2:∀ m:Fin 26,∃ c,atI ("abcdefghijklmnopqrstuvwxyz":AL).cps.toList (m.val:Int)=some c/\cz c=true:=by
 intro m;have:∀ m:Fin 26,(match atI ("abcdefghijklmnopqrstuvwxyz":AL).cps.toList (m.val:Int) with | some c=>cz c | none=>false)=true:=by decide +kernel
 have h:=this m;split at h
 ·rename_i c e
  exact⟨c,e,h⟩
 ·cases h
theorem E8{f:AA}{fd:AG}(D:Df K mg "_law_colour" iO f fd)(B:Blt mg)(DN:Df K mg "_law_number" uf fN fdN)(bN:ar K fdN ["_law_cell","_law_k"] [])(GN:ke P w K mg base CX0 1 fN fdN ["_law_cell","_law_k"] pH):ke P w K mg base CX0 2 f fd ["_law_cell","_law_number_here"] BG:=by
 refine D.F.ok BH (λvs H Q E h=>?_) (λcdv A outer s H vs Q E hr h=>?_)
 ·obtain⟨c,n,rfl,_⟩:=h
  rfl
 ·obtain⟨c,n,rfl,z⟩:=h
  refine⟨_,(aa (ay (i:=2) BH.nd rfl (Or.inl rfl) (aZ (pac (ag) (pac (ag) (pac (my z7 ag (pU (aq aT (aq bZ (pv 1) ad) ad)) pT) (pac (ag) (pac (ag) (pac (ag) (pac (ag) (pac (ag) a9))))))))))
   (aa (aK (ap mf (aq aT (pv 1) ad) ad (au _)) (ae (av (aD aL (pv 2) (aq aT (pv 1) ad) (λ_ _=>rfl)))) ax)
   (ae (av (cX yd5 F.slot_str_join F.type_str_join qb ag (pac (iR (N':=["_law_j","_law_cell"]) (idx:=[none,some 0]) (eR (by kernel_rfl)) (by kernel_rfl) rfl (dD rfl B.range (pac (aq aW ad (aq aT (aq bZ (pv 1) ad) ad)) a9))
     (λ_ _ _ _ _=>aQ (i:=0) (show(["_law_j","_law_cell"]:AH).Nodup by decide +kernel) rfl (Or.inl rfl)) (λ_ _ _ _ _=>iQ)
     (λ_ _ _ _ _=>aD yT ag (aq aT (pec GN hr rfl DN.m DN.F.kp bN .nil aF (pac (pv 1) (pac (aq aW ad (pv 0)) a9))) ad) (λ_ _=>rfl))) a9)))))),?_⟩
  refine⟨_,rfl,_,_,rfl,rfl,⟨by decide,by decide⟩,_,_,rfl,rfl,(by show(0:Int)<8;decide),_,rfl,_,rfl,by rw[yau];decide,szr rfl,λl nl=>?_⟩;have Tl:=af (o:=HO.lst [V.str "black",.str "red",.str (Txt.slice "abcdefgh" (some (n / 9 % 8)) none),.str "z",.str "n",.str "line",.str "times",.str "turn"]) nl;refine⟨_,rfl,_,_,rfl,rfl,(by show(0:Int)<9;decide),_,_,rfl,rfl,_,rfl,ifC (λh8=>?_) (λ_=>?_)⟩
  ·have h8:n % 9<8:=yae h8
   obtain⟨v,hv,hm⟩:=z8 (xs:=[V.str "black",.str "red",.str (Txt.slice "abcdefgh" (some (n / 9 % 8)) none),.str "z",.str "n",.str "line",.str "times",.str "turn"]) (m:=n % 9) (by lia) h8;have ha:lS (.str (Txt.slice "abcdefgh" (some (n / 9 % 8)) none))=true:=by
    have:=G0 ⟨(n / 9 % 8).toNat,by lia⟩;simp only at this;rw[ybn (by lia)]at this;exact this
   obtain⟨x,rfl,hx⟩:∃ x,v=V.str x/\lS (.str x)=true:=by
    simp only[za0,zad,yaw]at hm;rcases hm with rfl | rfl | rfl | rfl | rfl | rfl | rfl | rfl
    ·exact⟨_,rfl,by decide +kernel⟩
    ·exact⟨_,rfl,by decide +kernel⟩
    ·exact⟨_,rfl,ha⟩
    ·exact⟨_,rfl,by decide +kernel⟩
    ·exact⟨_,rfl,by decide +kernel⟩
    ·exact⟨_,rfl,by decide +kernel⟩
    ·exact⟨_,rfl,by decide +kernel⟩
    ·exact⟨_,rfl,by decide +kernel⟩
   exact⟨_,rfl,_,rfl,_,_,rfl,rfl,(by show(0:Int)<9;decide),l,_,_,_,rfl,rfl,SqL.of a8,hv,z x _ hx Tl⟩
  ·obtain⟨a,ha⟩:∃ a:Nat,1+n / 9 % 8=(a:Int):=⟨_,(ybn (by lia)).symm⟩
   refine⟨rfl,_,rfl,_,_,rfl,rfl,⟨by decide,by decide⟩,_,_,rfl,rfl,(by show(0:Int)<8;decide),_,_,rfl,rfl,_,rfl,(by show -2 ^ 62<=1+n / 9 % 8;lia),(by show 1+n / 9 % 8<2 ^ 62;lia),λD nD=>?_⟩;rw[show(1+n / 9 % 8).toNat=a by grind];refine mI (J:=Itr 0 a) (n:=a) (λi σ2 H2=>(∃ v0,σ2=[v0,some (.int c)])/\kf H H2/\∃ zs:List Str,H2 D=some (.lst (zs.map V.str))/\zs.length=i/\∀ x∈zs,∃ c,x=⟨#[c]⟩/\cz c=true) ?_ ?_ ?_ ?_
   ·exact⟨⟨_,rfl⟩,Tl.trans (af nD),[],a8,rfl,λx hx=>by simp at hx⟩
   ·rintro i σ2 H2 hi _
    exact hi
   ·rintro σ2 H2 ⟨⟨v0,rfl⟩,S2,zs,ez,lz,hz⟩
    refine⟨za5 _,"",D,zs,rfl,rfl,SqL.of ez,?_,z _ _ (E7 (by lia) (by lia) hz) S2⟩;have:(zs.map (·.length)).sum<=1*zs.length:=by
     clear lz ez
     induction zs with
     | nil=>exact za5 _
     | cons x r ih =>
      obtain⟨c',rfl,_⟩:=hz x za1;have:=ih λy hy=>hz y (za3 _ hy)
      rw[zaa,yeh,za2];show 1+_<=_
      lia
    show _+zs.length*0<=_
    lia
   ·rintro i σ2 H2 hi ⟨⟨v0,rfl⟩,S2,zs,ez,lz,hz⟩ x H3 ⟨rfl,rfl⟩
    refine⟨_,rfl,_,rfl,_,_,rfl,rfl,c,3+i,by rw[Int.zero_add];show [V.int c,V.int (3+(i:Int))]=[V.int c,V.int ((3+i:Nat):Int)];rw[show((3+i:Nat):Int)=3+(i:Int) by lia],by lia,λk k0 k1=>?_⟩;obtain⟨ch,hc,ok⟩:=G2 ⟨(k % 26).toNat,by grind⟩;simp only at hc;rw[ybn (by grind)]at hc;refine⟨_,_,rfl,rfl,(by show(0:Int)<26;decide),_,_,ch,rfl,rfl,by rw[yau];decide,hc,?_⟩;refine⟨_,ez,by rw[za4,yau];lia,⟨_,rfl⟩,ao S2 (aH Tl nD),zs++[⟨#[ch]⟩],?_,?_,λx hx=>?_⟩
    ·rw[a8,zae]
     rfl
    ·rw[za7,lz]
     rfl
    ·rcases zaj.mp hx with hx | hx
     ·exact hz x hx
     ·exact⟨ch,zac.mp hx,ok⟩
end
theorem BI{X:Cx}(hr:ki k X.A):OpR X (compareOp .Eq) (λx y H Q=>∃ (a b:AA) (xs:Ac),x=.ref a/\y=.ref b/\SqL X.K H a xs/\SqL X.K H b []/\Q (.bl xs.isEmpty) H):=by
 intro pins s σ H x y v u Q I rx ry h;obtain⟨a,b,xs,rfl,rfl,hx,hy,q⟩:=h;have hu:=hr.units;cases rx;cases ry;obtain⟨its,rv,p,_⟩:=I.list hx;obtain⟨its',rv',p',_⟩:=I.list hy;have n1:its.length=xs.length:=rv.length.symm;have n2:its'.length=0:=rv'.length.symm;have fin:∀ c,c=xs.isEmpty->RcAt X.A s (.ref a) (.ref b) c->wpAny (model X.prog X.w) X.A (richCompare .Eq (.ref a) (.ref b)) (EP X pins σ Q) X.xe s:=λc hc R=>by
  subst hc;exact R X.prog X.w X.xe _ ⟨.bl _,H,I,rfl,q⟩
 cases xs with
 | nil =>
  have R:=RcAt.lists (A:=X.A) (s:=s) (e:=λ_=>true) p.isList p'.isList (by rw[zab,zab,n1,n2];rfl) (by lia) (λj j1 j2=>by
   have:j<its.length:=by simpa using j1
   rw[n1]at this;exact absurd this (Nat.not_lt_zero _))
  exact fin _ (by simp) R
 | cons v0 xs0 =>
  exact fin false rfl (RcAt.lists_lengths p.isList p'.isList (by rw[zab,zab,n1,n2];simp) (by lia))
def pushD:List (Hd×List Sk)->Sk->List (Hd×List Sk)
 | [],_=>[]
 | (h,l)::r,st=>(h,l++[st])::r
def yr:List (Hd×List Sk)->Bool
 | (_,l)::_=>l.isEmpty
 | []=>false
def Pc(sd:List (Hd×List Sk))(n:Int):Prop:=n % 8<5\/(n % 8=5/\sd.length=9)\/(5<n % 8/\yr sd=true)
instance (sd:List (Hd×List Sk)) (n:Int):Decidable (Pc sd n):=by unfold Pc;exact inferInstance
def fill(l:List Sk):List Sk:=if l.isEmpty=true then l++[.line false 0 1] else l
def hOk:Hd->Prop
 | .no=>False
 | .back=>True
 | .times m=>1<=m/\m<=60
 | .turn k=>k<8
def okD:List (Hd×List Sk)->Prop
 | []=>True
 | (h,l)::r=>vds l (8-r.length)/\r.length<=8/\((r≠[]->hOk h)/\(r=[]->h=.no))/\okD r
theorem BJ:∀ {ss:Ad} {d:Nat},(∀ s∈ss,s.vd d)->vds ss d
 | [],_,_=>by simp only[vds]
 | s::r,d,h=>by
  simp only[vds];exact⟨h s za1,BJ λx hx=>h x (za3 _ hx)⟩
theorem nR{s:Sk}(h:vds l d)(g:s.vd d):vds (l++[s]) d:=BJ λx hx=>by
 rcases zaj.mp hx with hx | hx
 ·exact uM h x hx
 ·rw[zac.mp hx];exact g
theorem BK{st:Sk}(h:okD sd)(g:∀ d,st.vd d):okD (pushD sd st):=by
 cases sd with
 | nil=>exact h
 | cons a r =>
  obtain⟨h1,h2,h3,h4⟩:=h;exact⟨nR h1 (g _),h2,h3,h4⟩
theorem mk_vd(a:hOk h)(b:vds l d)(n:l≠[]):(mk h l).vd (d+1):=by
 cases h with
 | no=>exact a.elim
 | back=>simp only[mk,Sk.vd];exact⟨n,d,rfl,b⟩
 | times m=>simp only[mk,Sk.vd];exact⟨a.1,a.2,n,d,rfl,b⟩
 | turn k=>simp only[mk,Sk.vd];exact⟨a,n,d,rfl,b⟩
theorem pI{h:Hd}{l:Ad}{r:Aj}(o:okD ((h,l)::(h',l')::r))(hl:vds l2 (8-(r.length+1)))(n:l2≠[]):okD ((h',l'++[mk h l2])::r):=by
 obtain⟨h1,h2,h3,h4,h5,h6,h7⟩:=o;rw[za2]at h1 h2;refine⟨nR h4 ?_,h5,h6,h7⟩;have:=mk_vd (h3.1 (by simp)) hl n;rw[show 8-(r.length+1)+1=8-r.length by grind]at this;exact this
theorem BL(n:Int):hOk (hdF n):=by
 unfold hdF;split
 ·exact True.intro
 ·split
  ·show 1<=gq n/\gq n<=60
   unfold gq;split<;>grind
  ·show(n / 3 % 8).toNat<8
   grind
theorem BM{sd:Aj}(h:okD sd)(l:sd.length<=8)(ne:sd≠[]):okD ((hdF n,[])::sd):=⟨by simp only[vds],l,⟨λ_=>BL n,λz=>absurd z ne⟩,h⟩
def hdP:Hd->List Str
 | .no=>[]
 | h=>hdW h++[("(":Str)]
theorem BN(n:h≠.no):hdP h=hdW h++[("(":AL)]:=by
 cases h with
 | no=>exact absurd rfl n
 | back=>rfl
 | times m=>rfl
 | turn k=>rfl
def wsD:List (Hd×List Sk)->List Str
 | []=>[]
 | (h,l)::r=>wsD r++hdP h++wds l
theorem E9(s:Sk):wds [s]=s.wd:=by simp only[wds,zb0]
theorem iC(h:Hd)(l:Ad)(r:Aj)(st:Sk):wsD ((h,l++[st])::r)=wsD ((h,l)::r)++st.wd:=by
 simp only[wsD,qA,E9,zah]
theorem sX(n:h≠.no)(r:Aj):wsD ((h,[])::r)=wsD r++hdW h++[("(":AL)]:=by
 simp only[wsD,wds,zb0,BN n,zah]
theorem mk_wd(n:h≠.no)(l:Ad):(mk h l).wd=hdP h++wds l++[(")":AL)]:=by
 rw[BN n];cases h with
 | no=>exact absurd rfl n
 | back=>simp[mk,Sk.wd,hdW]
 | times m=>simp[mk,Sk.wd,hdW]
 | turn k=>simp[mk,Sk.wd,hdW]
theorem pJ(n:h≠.no)(h':Hd)(l l':Ad)(r:Aj):wsD ((h',l'++[mk h l])::r)=wsD ((h,l)::(h',l')::r)++[(")":AL)]:=by
 rw[iC,mk_wd n];simp only[wsD,zah]
theorem G3(h:Hd):(hdW h).length<=2:=by cases h<;>first | exact zb6 _ | exact za5 _
theorem G4(o:hOk h):wsz (hdW h++[("(":AL)])<=29:=by
 have l1:("(":AL).length=1:=by decide +kernel
 have l2:("times":AL).length=5:=by decide +kernel
 have l3:("turn":AL).length=4:=by decide +kernel
 rw[cq,aN,d4,l1];cases h with
 | no=>exact o.elim
 | back=>show 0+_<=_;lia
 | times m =>
  have o2:m<=60:=o.2;have:(nT (m:Int)).length<=3:=jW (by omega);show wsz [nT (m:Int),"times"]+_<=_;rw[aN,aN,d4,l2]
  lia
 | turn k =>
  have o2:k<8:=o;have:(nT (k:Int)).length<=3:=jW (by omega);show wsz ["turn",nT (k:Int)]+_<=_;rw[aN,aN,d4,l3]
  lia
theorem kE.words{H0:Hp}{s:AA}{ww:Ac}(I:kE H0 H s W fs n ww)(e:vv=ww):kE H0 H s W fs n vv:=e▸I
theorem n_wd:(Sk.line false 0 1).wd=[("n":AL)]:=by
 simp only[Sk.wd,lnW];exact cH (by decide +kernel)
theorem BO:wsz [(")":AL)]=2:=by decide +kernel
theorem wsz_n:wsz [("n":AL)]=2:=by decide +kernel
theorem Ea{H:Hp}{M:AM}{t:AA}{st:Sk}(h:kI H (.ref t) st)(f:flat st)(nt:∀ xs,H t=some (.tup xs)->¬ t∈M):kI (wo H M) (.ref t) st:=by
 cases h with
 | line e=>exact .line (nK e (nt _ e))
 | by_ e=>exact .by_ (nK e (nt _ e))
 | ink e=>exact .ink (nK e (nt _ e))
 | back e el h=>exact f.elim
 | times e el h=>exact f.elim
 | turn e el h=>exact f.elim
theorem BP{G:Prop}{A:Hp->Prop}(C:Hp->Prop)(main:(∀ H',C H'->A H')->G)(last:∀ H',C H'->A H'):G:=main last
section
variable{P:AF}{w:AJ}{K:A2}{mg:A5}{base:AO}
def qO:Sp:=λvs H Q _=>∃ c n:Int,vs=[.int c,.int n]/\∀ (st:Sk) (r t l:Addr) H',flat st->(∀ d,st.vd d)->wsz st.wd<=29->st.wd.length<=3->kf H H'->H' r=some (.tup [.ref t,.ref l])->kI H' (.ref t) st->H' l=some (.lst (st.wd.map V.str))->H l=none->Q (.ref r) H'
theorem iI:az ["_law_cell","_law_number_here","_law_sort","_law_word","_law_colour_here"] ["_law_cell","_law_number_here"] (aj mY):=fsk (by decide +kernel)
theorem BQ{f:AA}{fd:AG}(D:Df K mg "_law_plain" mY f fd)(DW:Df K mg "_law_ways" pf fW fdW)(bW:ar K fdW [] [])(GW:ke P w K mg base CX0 2 fW fdW [] qL)
  (DF:Df K mg "_law_far" sFar fF fdF) (bF:ar K fdF ["_law_cell","_law_number_here","_law_sort"] []) (GF:ke P w K mg base CX0 2 fF fdF ["_law_cell","_law_number_here","_law_sort"] BE)
  (DK:Df K mg "_law_colour" iO fK fdK) (bK:ar K fdK ["_law_cell","_law_number_here"] []) (GK:ke P w K mg base CX0 2 fK fdK ["_law_cell","_law_number_here"] BG):ke P w K mg base CX0 3 f fd ["_law_cell","_law_number_here"] qO:=by
 refine D.F.ok iI (λvs H Q E h=>?_) (λcdv A outer s H vs Q E hr h=>?_)
 ·obtain⟨c,n,rfl,_⟩:=h
  rfl
 ·obtain⟨c,n,rfl,z⟩:=h
  have hu:=hr.units;have hu2:(A.deeper (envOfC "_law_plain" (aj mY) s.heap.objs.size f cdv)).units+1<cLine:=by lia
  refine⟨_,(aa (ay (i:=2) iI.nd rfl (Or.inl rfl) (aq aT (pv 1) ad))
   (aa (ay (i:=1) iI.nd rfl (Or.inl rfl) (aq bZ (pv 1) ad))
   (aa (aK (ap mf (pv 2) ad (au _)) (aa (ay (i:=3) iI.nd rfl (Or.inl rfl) (aD aL (aZ (pac (ag) (pac (ag) (pac (ag) (pac (ag) (pac (ag) (pac (ag) (pac (ag) (pac (ag) a9))))))))) (aq aT (pv 1) ad) (λ_ _=>rfl)))
   (ae (av (aI (pac (aq ve (aI (pac (ag) a9)) (bw hu2 (iT GW hr rfl DW.m DW.F.kp bW .nil aF) (pv 3) (λ_ _=>rfl))) (pac (aZ (pac (pv 3) a9)) a9)))))) ax)
   (aa (aK (ap mf (pv 2) ad (au _)) (ae (av (pec GF hr rfl DF.m DF.F.kp bF .nil aF (pac (pv 0) (pac (pv 1) (pac (ag) a9)))))) ax)
   (aa (aK (ap mf (pv 2) ad (au _)) (ae (av (pec GF hr rfl DF.m DF.F.kp bF .nil aF (pac (pv 0) (pac (pv 1) (pac (ag) a9)))))) ax)
   (aa (ay (i:=4) iI.nd rfl (Or.inl rfl) (pec GK hr rfl DK.m DK.F.kp bK .nil aF (pac (pv 0) (pac (pv 1) a9))))
   (ae (av (aI (pac (aI (pac (ag) (pac (pv 4) a9))) (pac (aZ (pac (ag) (pac (pv 4) a9))) a9))))))))))),?_⟩
  have lb:("by":AL).length=2:=by decide +kernel
  have ll:("line":AL).length=4:=by decide +kernel
  have li:("ink":AL).length=3:=by decide +kernel
  refine⟨_,rfl,_,_,rfl,rfl,(by show(0:Int)<_;decide),?_⟩;refine⟨_,rfl,_,_,rfl,rfl,⟨by decide,by decide⟩,?_⟩;refine⟨_,rfl,_,_,rfl,rfl,_,rfl,ifC (λg1=>?_) (λg1=>?_)⟩
  ·refine⟨szr rfl,λl nl=>?_⟩
   have Tl:=af (o:=HO.lst (bv.map V.str)) nl;obtain⟨v,hv,hm⟩:=z8 (xs:=bv.map V.str) (m:=n / 16 % 8) (by grind) (by show n / 16 % 8<8;grind);obtain⟨wd,hw,rfl⟩:=za9.mp hm;refine⟨_,rfl,_,_,rfl,rfl,(by show(0:Int)<_;decide),l,_,_,_,rfl,rfl,SqL.of a8,hv,?_⟩;refine⟨szr rfl,λt1 n1=>?_⟩;have T1:=af (o:=HO.tup [V.str "line"]) n1;refine⟨rfl,λd kvs H2 S2 ed gd _ _=>?_⟩;obtain⟨q,hq,tq⟩:=gd wd hw;refine⟨_,rfl,d,.ref q,rfl,?_,?_⟩
   ·have:=kK.k (k:=Sum.inr wd) ed
    rw[hq]at this;exact this
   refine⟨t1,q,_,_,rfl,rfl,SqT.of (S2 _ _ a8),SqT.of tq,by simp,szr rfl,λh=>(by cases h),λ_ t n2=>?_⟩;have T2:=af (o:=HO.tup ([V.str "line"]++[V.int (kZ wd).1,.int (kZ wd).2])) n2;refine⟨_,rfl,szr rfl,λl2 n3=>⟨szr rfl,λr nr=>?_⟩⟩;have T3:=af (o:=HO.lst [V.str wd]) n3;have T4:=af (o:=HO.tup [V.ref t,.ref l2]) nr;have ew:(Sk.line false (kZ wd).1 (kZ wd).2).wd=[wd]:=by
    simp only[Sk.wd,lnW];exact cH (FW wd hw)
   refine z (.line false (kZ wd).1 (kZ wd).2) r t l2 _ True.intro (λd=>by simp only[Sk.vd];exact FX wd hw) ?_ (by rw[ew];show 1<=3;decide) ((Tl.trans T1).trans (S2.trans (T2.trans (T3.trans T4)))) a8 (.line ((T3.trans T4) _ _ a8)) ?_ (aH ((Tl.trans T1).trans (S2.trans T2)) n3)
   ·rw[ew,aN,d4]
    have:=BB wd hw
    lia
   ·rw[ew]
    exact T4 _ _ a8
  refine⟨_,rfl,_,_,rfl,rfl,_,rfl,ifC (λg2=>?_) (λg2=>?_)⟩
  ·refine⟨_,rfl,_,rfl,c,_,"line",rfl,.inl rfl,λx y r t l H' fi fn S er et el nl=>?_⟩
   obtain⟨b1,b2⟩:=fi.1 rfl;refine z (.line true x y) r t l H' True.intro (λd=>by simp only[Sk.vd];exact⟨b1,b2,fn rfl⟩) ?_ (by simp only[Sk.wd,lnW];exact za5 _) S er (.line et) (by simp only[Sk.wd,lnW];exact el) nl;simp only[Sk.wd,lnW];rw[aN,aN,aN,d4,ll];have h1:(nT x).length<=3:=jW (by omega);have h2:(nT y).length<=3:=jW (by omega)
   lia
  refine⟨_,rfl,_,_,rfl,rfl,_,rfl,ifC (λg3=>?_) (λg3=>?_)⟩
  ·refine⟨_,rfl,_,rfl,c,_,"by",rfl,.inr rfl,λx y r t l H' fi fn S er et el nl=>?_⟩
   obtain⟨_,b1,b2⟩:=fi;refine z (.by_ x y) r t l H' True.intro (λd=>by simp only[Sk.vd];exact⟨b1,b2⟩) ?_ (by simp only[Sk.wd];exact za5 _) S er (.by_ et) (by simp only[Sk.wd];exact el) nl;simp only[Sk.wd];rw[aN,aN,aN,d4,lb];have h1:(nT x).length<=11:=BA (by omega);have h2:(nT y).length<=11:=BA (by omega)
   lia
  refine⟨_,rfl,_,rfl,c,_,rfl,λcol H1 hc S1=>?_⟩;refine⟨_,rfl,szr rfl,λt nt=>⟨_,rfl,szr rfl,λl2 n3=>⟨szr rfl,λr nr=>?_⟩⟩⟩;have T2:=af (o:=HO.tup [V.str "ink",.str col]) nt;have T3:=af (o:=HO.lst [V.str "ink",.str col]) n3;have T4:=af (o:=HO.tup [V.ref t,.ref l2]) nr;refine z (.ink col) r t l2 _ True.intro (λd=>by simp only[Sk.vd];exact hc) ?_ (by simp only[Sk.wd];show 2<=3;decide) (S1.trans (T2.trans (T3.trans T4))) a8 (.ink ((T3.trans T4) _ _ a8)) (by simp only[Sk.wd];exact T4 _ _ a8) (aH (S1.trans T2) n3);simp only[Sk.wd];rw[aN,aN,d4,li];have:=qI hc
  lia
def uO(K:PySem.W.Frag):Sp:=λvs H Q _=>∃ (a:Addr) (ns:List Int),vs=[.ref a]/\SqL K H a (ns.map V.int)/\ns.length<=60/\∀ (u:List Sk) (r l W:Addr) (xs:List V) H',kf H H'->H' r=some (.tup [.ref l,.ref W])->H' l=some (.lst xs)->H' W=some (.lst ((wds u).map V.str))->aY H' xs u->vds u 8->wsz (wds u)<=1800->Q (.ref r) H'
theorem dJ:az ["_law_cells","_law_stack","_law_words","_law_k","_law_number_here","_law_stroke","_law_some","_law_head_here"] ["_law_cells"] (aj w5):=fsk (by decide +kernel)
theorem Eb{f fN fP fH fC:AA}{fd fdN fdP fdH fdC:AG}(D:Df K mg "_law_tree" w5 f fd)(B:Blt mg)
  (DN:Df K mg "_law_number" uf fN fdN) (bN:ar K fdN ["_law_cell","_law_k"] []) (GN:ke P w K mg base CX0 1 fN fdN ["_law_cell","_law_k"] pH)
  (DP:Df K mg "_law_plain" mY fP fdP) (bP:ar K fdP ["_law_cell","_law_number_here"] []) (GP:ke P w K mg base CX0 3 fP fdP ["_law_cell","_law_number_here"] qO)
  (DH:Df K mg "_law_head" vZ fH fdH) (bH:ar K fdH ["_law_number_here"] []) (GH:ke P w K mg base CX0 1 fH fdH ["_law_number_here"] BC)
  (DC:Df K mg "_law_closed" jT fC fdC) (bC:ar K fdC ["_law_stack","_law_words"] []) (GC:ke P w K mg base CX0 1 fC fdC ["_law_stack","_law_words"] sU):ke P w K mg base CX0 4 f fd ["_law_cells"] (uO K):=by
 refine D.F.ok dJ (λvs H Q E h=>?_) (λcdv A outer s H vs Q E hr h=>?_)
 ·obtain⟨a,ns,rfl,_⟩:=h
  rfl
 ·obtain⟨a,ns,rfl,hS,hlen,z⟩:=h
  have hr1:ki 1 _:=hr.mono (by decide);have xl:(ns.map V.int).length=ns.length:=za4 ..;refine⟨_,(aa (ay (i:=1) dJ.nd rfl (Or.inl rfl) (aZ (pac (aZ (pac (aI a9) (pac (aZ a9) a9))) a9)))
   (aa (ay (i:=2) dJ.nd rfl (Or.inl rfl) (aZ a9))
   (aa (cQ ybc rfl (dD rfl B.range (pac (aE bn (by rfl) B.len ybe (pac (pv 0) a9)) a9)) (aQ (i:=3) dJ.nd rfl (Or.inl rfl)) (aa (ay (i:=4) dJ.nd rfl (Or.inl rfl) (pec GN hr1 rfl DN.m DN.F.kp bN .nil aF (pac (aD aL (pv 0) (pv 3) (λ_ _=>rfl)) (pac (ad) a9))))
   (ae (aK (PW.pt (dZ (ap mf (aq aT (pv 4) ad) ad (au _))
       (dZ (PW.pt (df (ap aX (aq aT (pv 4) ad) ad (au _)) (cR (ap aX (aE bn (by rfl) B.len ybe (pac (pv 1) a9)) ad (au _)))))
       (f6 (PW.pt (df (ap eP (aq aT (pv 4) ad) ad (au _)) (cR (ap (BI hr1) (aD aL (aD aL (pv 1) (cp bc ad) (λ_ _=>rfl)) ad (λ_ _=>rfl)) (aZ a9) (au _)))))))))
      (aa (pQ (pec GP hr rfl DP.m DP.F.kp bP .nil aF (pac (aD aL (pv 0) (pv 3) (λ_ _=>rfl)) (pac (aq bZ (pv 4) ad) a9))) (gl (n:=2) rfl (ba (aQ (i:=5) dJ.nd rfl (Or.inl rfl)) (ba (aQ (i:=6) dJ.nd rfl (Or.inl rfl)) dq))))
   (aa (aR (cX yap yan yao bJ (aD aL (aD aL (pv 1) (cp bc ad) (λ_ _=>rfl)) ad (λ_ _=>rfl)) (pac (pv 5) a9)))
   (ae (ay (i:=2) dJ.nd rfl (Or.inl rfl) (aq pY (pv 2) (pv 6))))))
      (ae (aK (ap aX (aq aT (pv 4) ad) ad (au _))
       (aa (pQ (pec GH hr1 rfl DH.m DH.F.kp bH .nil aF (pac (aq bZ (pv 4) ad) a9)) (gl (n:=2) rfl (ba (aQ (i:=7) dJ.nd rfl (Or.inl rfl)) (ba (aQ (i:=6) dJ.nd rfl (Or.inl rfl)) dq))))
   (aa (aR (cX yap yan yao bJ (pv 1) (pac (aZ (pac (pv 7) (pac (aZ a9) a9))) a9)))
   (ae (ay (i:=2) dJ.nd rfl (Or.inl rfl) (aq pY (aq pY (pv 2) (pv 6)) (aZ (pac (ag) a9)))))))
       (ae (aK (ap eP (aE bn (by rfl) B.len ybe (pac (pv 1) a9)) ad (au _)) (ae (aR (pec GC hr1 rfl DC.m DC.F.kp bC .nil aF (pac (pv 1) (pac (pv 2) a9))))) ax))))))))
   (aa (ma ybc (ap eP (aE bn (by rfl) B.len ybe (pac (pv 1) a9)) ad (au _)) (aa (aK (ap (BI hr1) (aD aL (aD aL (pv 1) (cp bc ad) (λ_ _=>rfl)) ad (λ_ _=>rfl)) (aZ a9) (au _))
      (aa (aR (cX yap yan yao bJ (aD aL (aD aL (pv 1) (cp bc ad) (λ_ _=>rfl)) ad (λ_ _=>rfl)) (pac (aI (pac (ag) (pac (ad) (pac (ad) a9)))) a9)))
   (ae (aR (cX yap yan yao bJ (pv 2) (pac (ag) a9))))) ax)
   (ae (aR (pec GC hr1 rfl DC.m DC.F.kp bC .nil aF (pac (pv 1) (pac (pv 2) a9)))))))
   (ae (av (aI (pac (aD aL (aD aL (pv 1) ad (λ_ _=>rfl)) ad (λ_ _=>rfl)) (pac (pv 2) a9))))))))),?_⟩
  refine⟨szr rfl,λt0 m0=>⟨szr rfl,λl0 m1=>⟨szr rfl,λe0 m2=>⟨szr rfl,λst m3=>?_⟩⟩⟩⟩;refine⟨szr rfl,λW0 m4=>?_⟩;have T0:=af (o:=HO.tup []) m0;have T1:=af (o:=HO.lst []) m1;have T2:=af (o:=HO.lst [V.ref t0,.ref l0]) m2;have T3:=af (o:=HO.lst [V.ref e0]) m3;have T4:=af (o:=HO.lst []) m4;have I0:kE H (upd (upd (upd (upd (upd H t0 (.tup [])) l0 (.lst [])) e0 (.lst [V.ref t0,.ref l0])) st (.lst [V.ref e0])) W0 (.lst [])) st W0 [⟨e0,t0,l0,.no,[],[]⟩] 0 []:=by
   have nel:e0≠l0:=λz=>by rw[z,a8]at m2;cases m2
   have nse:st≠e0:=λz=>by rw[z,a8]at m3;cases m3
   have nsl:st≠l0:=λz=>by rw[z,T2 _ _ a8]at m3;cases m3
   have nws:W0≠st:=λz=>by rw[z,a8]at m4;cases m4
   have nwe:W0≠e0:=λz=>by rw[z,T3 _ _ a8]at m4;cases m4
   have nwl:W0≠l0:=λz=>by rw[z,T3 _ _ (T2 _ _ a8)]at m4;cases m4
   refine⟨T0.trans (T1.trans (T2.trans (T3.trans T4))),λb hb=>?_,T4 _ _ a8,⟨a8,za5 _⟩,λg hg=>?_,?_⟩
   ·simp only[frM,List.flatMap_cons,List.flatMap_nil,zb0,za0,zad,yaw]at hb
    rcases hb with rfl | rfl | rfl | rfl
    ·exact aH (T0.trans (T1.trans T2)) m3
    ·exact aH (T0.trans (T1.trans (T2.trans T3))) m4
    ·exact aH (T0.trans T1) m2
    ·exact aH T0 m1
   ·rw[zac.mp hg]
    exact⟨(T3.trans T4) _ _ a8,(T1.trans (T2.trans (T3.trans T4))) _ _ a8,(T2.trans (T3.trans T4)) _ _ a8,.nil,za5 _⟩
   ·simp only[frM,List.flatMap_cons,List.flatMap_nil,zb0,zak,za0,zad,yaw,not_or,not_false_eq_true,ycx,and_true]
    exact⟨⟨yav nws,nse,nsl⟩,⟨nwe,nwl⟩,nel⟩
  revert I0;generalize (upd (upd (upd (upd (upd H t0 (.tup [])) l0 (.lst [])) e0 (.lst [V.ref t0,.ref l0])) st (.lst [V.ref e0])) W0 (.lst []))=H5;intro I0;refine⟨_,rfl,a,_,rfl,.inl (I0.sub.seq hS),_,rfl,by lia,by lia,?_⟩;rw[xl,show((ns.length:Int)).toNat=ns.length from ybx _];refine eQ (λi σ H1=>∃ (W:AA) (fs:An),(∃ v3 v4 v5 v6 v7,σ=[some (.ref a),some (.ref st),some (.ref W),v3,v4,v5,v6,v7])/\kE H H1 st W fs (4*i) ((wsD (kA fs)).map V.str)/\okD (kA fs)/\fs≠[]/\wsz (wsD (kA fs))<=29*i) ⟨W0,_,⟨_,_,_,_,_,rfl⟩,I0.words (by simp[kA,wsD,wds,hdP]),⟨by simp only[vds],by decide,⟨λh=>absurd rfl h,λ_=>rfl⟩,True.intro⟩,by simp,by simp[kA,wsD,wds,hdP,wsz]⟩ ?_ ?_
  ·rintro i σ H1 hi ⟨W,fs,⟨v3,v4,v5,v6,v7,rfl⟩,I,ok,ne,wz⟩
   have ez:(0:Int)+(i:Int)=(i:Int):=Int.zero_add _;rw[ez];refine⟨_,rfl,_,rfl,a,_,_,.int ns[i],rfl,rfl,I.sub.seq hS,fj (by rw[zan,za6 hi];rfl),ns[i],0,rfl,by lia,λn _ _=>?_⟩;have m8:(0:Int)<8:=by decide
   cases fs with
   | nil=>exact absurd rfl ne
   | cons f r =>
    have e1:=I.es;have ei:=e1;rw[zar,zae]at ei;have q:=I.fr f za1;have fl:((f::r).reverse.map λf=>V.ref f.e).length=(kA (f::r)).length:=by simp[kA]
    have xe:f.xs.isEmpty=yr (kA (f::r)):=by
     show f.xs.isEmpty=f.sk.isEmpty;have:=q.sk.length;cases hx:f.xs<;>cases hk:f.sk<;>simp_all
    have xln:f.xs.length<=4*i:=by rw[q.sk.length];exact q.ln
    refine⟨_,rfl,_,_,rfl,rfl,m8,_,_,rfl,rfl,_,rfl,?_⟩;by_cases hp:Pc (kA (f::r)) n
    ·refine' BP (λH2=>kE H H2 st W (f::r) (4*i) ((wsD (kA (f::r))).map V.str)) (λfin=>_) _
     rotate_left
     ·refine ifC (λ_=>kH (fin H1 I)) (λhc=>?_)
      have h5:¬ n % 8<5:=yeg hc;refine⟨_,rfl,_,_,rfl,rfl,m8,rfl,_,rfl,?_⟩;by_cases e5:n % 8=5
      ·have hl:(kA (f::r)).length=9:=by
        rcases hp with h | ⟨_,h⟩ | ⟨h,_⟩
        ·exact absurd h h5
        ·exact h
        ·lia
       refine aw (yab (by show V.int (n % 8)=V.int 5;rw[e5])) ?_;exact⟨_,rfl,st,_,rfl,.inl (SqL.of e1),rfl,_,rfl,aw (yab (by rw[fl,hl];rfl)) (kH (fin H1 I))⟩
      ·have ht:yr (kA (f::r))=true:=by
        rcases hp with h | ⟨h,_⟩ | ⟨_,h⟩
        ·exact absurd h h5
        ·exact absurd h e5
        ·exact h
       refine ah (yaa (λe=>e5 (by injection e))) (kr ?_);refine⟨_,rfl,_,_,rfl,rfl,m8,_,_,rfl,rfl,_,rfl,aw (yab (by show n % 8>5;lia)) ?_⟩;refine⟨_,rfl,_,rfl,st,_,_,_,rfl,rfl,SqL.of ei,cc _ _,f.e,_,_,_,rfl,rfl,SqL.of q.he,rfl,szr rfl,λb nb=>?_⟩;have Tb:=af (o:=HO.lst []) nb;exact⟨f.l,b,f.xs,rfl,rfl,SqL.of (Tb _ _ q.hl),SqL.of a8,_,rfl,aw (xe.trans ht) (fin _ (I.same Tb))⟩
     intro H2 I2;have q2:=I2.fr f za1;have ei2:=I2.es;rw[zar,zae]at ei2;refine⟨_,rfl,_,rfl,a,_,_,.int ns[i],rfl,rfl,I2.sub.seq hS,fj (by rw[zan,za6 hi];rfl),_,rfl,_,_,rfl,rfl,⟨by decide,by decide⟩,ns[i],n / 8,rfl,λstk r1 t l H3 fk vk wk lk S3 er sk el nl=>?_⟩;refine⟨r1,_,rfl,SqT.of er,rfl,_,_,rfl,_,_,rfl,rfl,?_⟩;have I3:=I2.same S3;have q3:=I3.fr f za1;have ei3:=I3.es;rw[zar,zae]at ei3;refine⟨_,rfl,_,rfl,st,_,_,_,rfl,rfl,SqL.of ei3,cc _ _,f.e,_,_,_,rfl,rfl,SqL.of q3.he,rfl,.inl ⟨rfl,_,SqL.of q3.hl⟩,_,rfl,f.l,f.xs,_,rfl,rfl,q3.hl,bp (by lia),?_⟩;have I4:=I3.push (Ea sk fk λxs e=>I3.tup e);have nlm:l≠f.l:=λz=>I2.fresh nl (by rw[z,cV];simp)
     have el4:(upd H3 f.l (.lst (f.xs++[V.ref t]))) l=some (.lst (stk.wd.map V.str)):=by rw[am nlm];exact el
     revert I4 el4;generalize (upd H3 f.l (.lst (f.xs++[V.ref t])))=H4;intro I4 el4;obtain⟨ew4,wl4⟩:=I4.ew;have wl:(stk.wd.map V.str).length<=3:=by rw[za4];exact lk
     refine⟨_,rfl,_,rfl,W,l,_,_,rfl,rfl,ew4,el4,by rw[yau];lia,λW' nW=>?_⟩;refine⟨W',_,⟨_,_,_,_,_,rfl⟩,((I4.mono (m:=4*(i+1)) (by lia)).wset nW (by rw[za7];lia)).words ?_,?_,by simp,?_⟩
     ·show(wsD ((f.hd,f.sk++[stk])::kA r)).map V.str=_
      rw[iC,zae];rfl
     ·have:=BK ok vk
      exact this
     ·show wsz (wsD ((f.hd,f.sk++[stk])::kA r))<=_
      rw[iC,cq];have w1:=wk;have w2:wsz (wsD ((f.hd,f.sk)::kA r))<=29*i:=wz
      lia
    ·have hp':¬ n % 8<5/\¬ (n % 8=5/\(kA (f::r)).length=9)/\¬ (5<n % 8/\yr (kA (f::r))=true):=⟨λz=>hp (.inl z),λz=>hp (.inr (.inl z)),λz=>hp (.inr (.inr z))⟩
     obtain⟨h5,h9,ht⟩:=hp';have n7:n % 8<8:=yco n m8;refine ah (yaa h5) ?_;refine⟨_,rfl,_,_,rfl,rfl,m8,rfl,_,rfl,?_⟩;by_cases e5:n % 8=5
     ·have hl:¬ (kA (f::r)).length=9:=λz=>h9 ⟨e5,z⟩
      have hl8:(kA (f::r)).length<=8:=by
       have:=ok.2.1;have e:(kA (f::r)).length=(kA r).length+1:=by simp[kA]
       have e':(List.map (λf:Fr=>(f.hd,f.sk)) r).length=(kA r).length:=rfl
       lia
      refine aw (yab (by show V.int (n % 8)=V.int 5;rw[e5])) ?_;refine⟨_,rfl,st,_,rfl,.inl (SqL.of e1),rfl,_,rfl,ah (yaa (λe=>hl (by rw[fl]at e;injection e with e;lia))) ?_⟩;refine⟨_,rfl,_,_,rfl,rfl,m8,_,_,rfl,rfl,_,rfl,ah (yaa (by show ¬ n % 8>5;lia)) (kr ?_)⟩;refine⟨_,rfl,_,_,rfl,rfl,m8,rfl,_,rfl,aw (yab (by show V.int (n % 8)=V.int 5;rw[e5])) ?_⟩;refine⟨_,rfl,_,_,rfl,rfl,⟨by decide,by decide⟩,n / 8,rfl,λr1 t l H3 S3 er et el nl=>?_⟩;refine⟨r1,_,rfl,SqT.of er,rfl,_,_,rfl,_,_,rfl,rfl,?_⟩;have I3:=I.same S3;have hno8:hdF (n / 8)≠.no:=λz=>by
       have:=BL (n / 8);rw[z]at this;exact this
      refine⟨_,rfl,.inl ⟨rfl,_,SqL.of I3.es⟩,_,rfl,szr rfl,λl' nl'=>⟨szr rfl,λe' ne'=>?_⟩⟩;have T1:=af (o:=HO.lst []) nl';have T2:=af (o:=HO.lst [V.ref t,.ref l']) ne';have I4:=I3.opn et nl' ne';have es4:=T2 _ _ (T1 _ _ I3.es);have ll:((f::r).reverse.map λf=>V.ref f.e).length<=8:=by rw[fl];exact hl8
      refine⟨st,_,_,rfl,rfl,es4,bp (by lia),?_⟩;have nls:l≠st:=λz=>I.fresh nl (by rw[z];exact za1)
      have el4:(upd (upd (upd H3 l' (.lst [])) e' (.lst [.ref t,.ref l'])) st (.lst (((f::r).reverse.map λf=>V.ref f.e)++[.ref e']))) l=some (.lst ((hdW (hdF (n / 8))).map V.str)):=by
       rw[am nls];exact T2 _ _ (T1 _ _ el)
      revert I4 el4;generalize (upd (upd (upd H3 l' (.lst [])) e' (.lst [.ref t,.ref l'])) st (.lst (((f::r).reverse.map λf=>V.ref f.e)++[.ref e'])))=H4;intro I4 el4;obtain⟨ew4,wl4⟩:=I4.ew;have wl:((hdW (hdF (n / 8))).map V.str).length<=2:=by rw[za4];exact G3 _
      refine⟨_,rfl,_,rfl,W,l,_,_,rfl,rfl,ew4,el4,by rw[yau];lia,λp np=>?_⟩;have Tp:=af (o:=HO.lst ((wsD (kA (f::r))).map V.str++(hdW (hdF (n / 8))).map V.str)) np;refine⟨szr rfl,λp2 np2=>?_⟩;have Tp2:=af (o:=HO.lst [V.str "("]) np2;have I5:=I4.same (Tp.trans Tp2);refine⟨p,p2,_,_,rfl,rfl,Tp2 _ _ a8,a8,by rw[yau,za7];show _+1<=_;lia,λW' nW=>?_⟩;refine⟨W',_,⟨_,_,_,_,_,rfl⟩,((I5.mono (m:=4*(i+1)) (by lia)).wset nW (by rw[za7,za7];show _+1<=_;lia)).words ?_,BM ok hl8 (by simp[kA]),by simp,?_⟩
      ·show(wsD ((hdF (n / 8),[])::kA (f::r))).map V.str=_
       rw[sX hno8,zae,zae];rfl
      ·show wsz (wsD ((hdF (n / 8),[])::kA (f::r)))<=_
       rw[sX hno8,zah,cq];have w1:=G4 (BL (n / 8))
       lia
     ·have ht':yr (kA (f::r))=false:=by
       cases h:yr (kA (f::r)) with
       | false=>rfl
       | true=>exact absurd ⟨by lia,h⟩ ht
      refine ah (yaa (λe=>e5 (by injection e))) (kr ?_);refine⟨_,rfl,_,_,rfl,rfl,m8,_,_,rfl,rfl,_,rfl,aw (yab (by show n % 8>5;omega)) ?_⟩;refine⟨_,rfl,_,rfl,st,_,_,_,rfl,rfl,SqL.of ei,cc _ _,f.e,_,_,_,rfl,rfl,SqL.of q.he,rfl,szr rfl,λb nb=>?_⟩;have Tb:=af (o:=HO.lst []) nb;refine⟨f.l,b,f.xs,rfl,rfl,SqL.of (Tb _ _ q.hl),SqL.of a8,_,rfl,ah (xe.trans ht') ?_⟩;have I2:=I.same Tb;have e2:=Tb _ _ e1;revert I2 e2;generalize (upd H1 b (HO.lst []))=H2;intro I2 e2;refine⟨_,rfl,_,_,rfl,rfl,m8,rfl,_,rfl,ah (yaa (λe=>e5 (by injection e))) ?_⟩;refine⟨_,rfl,st,_,rfl,.inl (SqL.of e2),_,_,rfl,rfl,_,rfl,?_⟩;cases r with
      | nil =>
       refine ah (yaa (by show ¬ (1:Int)>1;decide)) ?_;exact⟨W,_,⟨_,_,_,_,_,rfl⟩,I2.mono (by lia),ok,by simp,zap wz (by lia)⟩
      | cons f' r =>
       refine aw (yab (by rw[fl];show((kA r).length+1+1:Nat)>(1:Int);lia)) ?_;have hno:f.hd≠.no:=λz=>by
        have h3:=ok.2.2.1.1 (by simp[kA]);rw[z]at h3;exact h3
       refine⟨_,rfl,_,rfl,st,W,H,f,f',r,4*i,_,rfl,I2,hno,by lia,λxs' H' I'=>?_⟩;have wc:wsD ((f'.hd,f'.sk++[mk f.hd f.sk])::kA r)=wsD (kA (f::f'::r))++[(")":AL)]:=pJ hno _ _ _ _;refine⟨W,_,⟨_,_,_,_,_,rfl⟩,(I'.mono (by lia)).words ?_,?_,by simp,?_⟩
       ·show(wsD ((f'.hd,f'.sk++[mk f.hd f.sk])::kA r)).map V.str=_
        rw[wc,zae];rfl
       ·have h1:=ok.1
        refine pI ok h1 (λz=>?_);have h2:f.sk.isEmpty=false:=ht';rw[z]at h2;cases h2
       ·show wsz (wsD ((f'.hd,f'.sk++[mk f.hd f.sk])::kA r))<=_
        rw[wc,cq,BO]
        lia
  ·rintro σ H1 ⟨W,fs,⟨v3,v4,v5,v6,v7,rfl⟩,I,ok,ne,wz⟩
   refine⟨λm σ H2=>∃ (W:AA) (fs:An) (n:Nat),m=fs.length/\(∃ v3 v4 v5 v6 v7,σ=[some (.ref a),some (.ref st),some (.ref W),v3,v4,v5,v6,v7])/\kE H H2 st W fs n ((wsD (kA fs)).map V.str)/\n+4*fs.length<=300/\okD (kA fs)/\fs≠[]/\wsz (wsD (kA fs))+4*fs.length<=1800,⟨_,W,fs,_,rfl,⟨_,_,_,_,_,rfl⟩,I,?_,ok,ne,?_⟩,?_⟩
   ·cases fs with
    | nil=>exact absurd rfl ne
    | cons f r =>
     have:=ok.2.1;have e':(List.map (λf:Fr=>(f.hd,f.sk)) r).length=r.length:=za4 ..;rw[za2]
     lia
   ·cases fs with
    | nil=>exact absurd rfl ne
    | cons f r =>
     have:=ok.2.1;have e':(List.map (λf:Fr=>(f.hd,f.sk)) r).length=r.length:=za4 ..;rw[za2]
     lia
   ·rintro m σ H2 ⟨W,fs,n,rfl,⟨v3,v4,v5,v6,v7,rfl⟩,I,nb,ok,ne,wz⟩
    cases fs with
    | nil=>exact absurd rfl ne
    | cons f r =>
     have q:=I.fr f za1;refine⟨_,rfl,st,_,rfl,.inl (SqL.of I.es),_,_,rfl,rfl,_,rfl,?_⟩;cases r with
     | nil =>
      refine ah (yaa (by show ¬ (1:Int)>1;decide)) ?_;have e0:H2 st=some (.lst [V.ref f.e]):=I.es;refine⟨_,rfl,st,_,_,_,rfl,rfl,SqL.of e0,rfl,f.e,_,_,_,rfl,rfl,SqL.of q.he,rfl,_,rfl,szr rfl,λr1 nr=>?_⟩;have T:=af (o:=HO.tup [V.ref f.l,.ref W]) nr;have eb:f.hd=.no:=ok.2.2.1.2 rfl;have ews:wsD (kA [f])=wds f.sk:=by
       show wsD []++hdP f.hd++wds f.sk=_;rw[eb];rfl
      have wz':=wz;have I':=I.ew.1;rw[ews]at wz' I';exact z f.sk r1 f.l W f.xs _ (I.sub.trans T) a8 (T _ _ q.hl) (T _ _ I') ((q.sk.same E6).same T) ok.1 (by lia)
     | cons f' r =>
      have fl:((f::f'::r).reverse.map λf=>V.ref f.e).length=r.length+1+1:=by simp
      refine aw (yab (by rw[fl];show((r.length+1+1:Nat):Int)>(1:Int);lia)) ?_;refine⟨_,λ_ _ h=>h,?_⟩;have ei:=I.es;rw[zar,zae]at ei;have xl':f.xs.length=f.sk.length:=q.sk.length;have lk:=q.ln;rw[za2,za2]at nb;refine' bz (λσ H3=>(∃ v3 v4 v5 v6 v7,σ=[some (.ref a),some (.ref st),some (.ref W),v3,v4,v5,v6,v7])/\∃ f1:Fr,kE H H3 st W (f1::f'::r) (n+2) ((wsD (kA (f1::f'::r))).map V.str)/\f1.hd=f.hd/\f1.sk=fill f.sk/\wsz (wsD (kA (f1::f'::r)))<=wsz (wsD (kA (f::f'::r)))+2) (λfin=>_) _
      rotate_left
      ·refine⟨_,rfl,_,rfl,st,_,_,_,rfl,rfl,SqL.of ei,cc _ _,f.e,_,_,_,rfl,rfl,SqL.of q.he,rfl,szr rfl,λb nb'=>?_⟩
       have Tb:=af (o:=HO.lst []) nb';refine⟨f.l,b,f.xs,rfl,rfl,SqL.of (Tb _ _ q.hl),SqL.of a8,_,rfl,?_⟩;have I2:=I.same Tb;revert I2;generalize (upd H2 b (HO.lst []))=H3;intro I2;have q2:=I2.fr f za1;have ei2:=I2.es;rw[zar,zae]at ei2;have xe:f.xs.isEmpty=f.sk.isEmpty:=by
        cases hx:f.xs<;>cases hk:f.sk<;>simp_all
       refine ifC (λhe=>?_) (λhe=>fin _ _ ⟨⟨_,_,_,_,_,rfl⟩,f,I2.mono (by lia),rfl,by rw[fill,yac (by rw[<- xe,he];decide)],by lia⟩);refine⟨_,rfl,_,rfl,st,_,_,_,rfl,rfl,SqL.of ei2,cc _ _,f.e,_,_,_,rfl,rfl,SqL.of q2.he,rfl,.inl ⟨rfl,_,SqL.of q2.hl⟩,szr rfl,λt nt=>?_⟩;have Tt:=af (o:=HO.tup [V.str "line",.int 0,.int 1]) nt;have I3:=I2.same Tt;have et:(upd H3 t (HO.tup [V.str "line",.int 0,.int 1])) t=some (HO.tup [V.str "line",.int 0,.int 1]):=a8;have q3:=I3.fr f za1;refine⟨f.l,f.xs,_,rfl,rfl,q3.hl,bp (by lia),?_⟩;have I4:=I3.push (st:=.line false 0 1) (.line (nK et (I3.tup et)));revert I4;generalize (upd (upd H3 t (HO.tup [V.str "line",.int 0,.int 1])) f.l (.lst (f.xs++[V.ref t])))=H4;intro I4;obtain⟨ew4,wl4⟩:=I4.ew;refine⟨_,rfl,.inl ⟨rfl,_,SqL.of ew4⟩,W,_,_,rfl,rfl,ew4,bp (by lia),?_⟩;have wp:wsD ((f.hd,f.sk++[Sk.line false 0 1])::kA (f'::r))=wsD (kA (f::f'::r))++[("n":AL)]:=by rw[iC,n_wd];rfl
       refine fin _ _ ⟨⟨_,_,_,_,_,rfl⟩,_,((I4.mono (yd6 _)).wapp (by rw[za7];show _+1<=_;lia)).words ?_,rfl,by rw[fill,yad (by rw[<- xe,he])],?_⟩
       ·show(wsD ((f.hd,f.sk++[Sk.line false 0 1])::kA (f'::r))).map V.str=_
        rw[wp,zae];rfl
       ·show wsz (wsD ((f.hd,f.sk++[Sk.line false 0 1])::kA (f'::r)))<=_
        rw[wp,cq,wsz_n];exact za5 _
      rintro σ H3 ⟨⟨v3,v4,v5,v6,v7,rfl⟩,f1,I3,e1,e2,wz3⟩;have hno:f1.hd≠.no:=λz=>by
       have h3:=ok.2.2.1.1 (by simp[kA]);rw[<- e1,z]at h3;exact h3
      refine⟨_,rfl,_,rfl,st,W,H,f1,f',r,n+2,_,rfl,I3,hno,by lia,λxs' H' I'=>?_⟩;have wc:wsD ((f'.hd,f'.sk++[mk f1.hd f1.sk])::kA r)=wsD (kA (f1::f'::r))++[(")":AL)]:=pJ hno _ _ _ _;refine⟨r.length+1,by rw[za2,za2];lia,W,{ f' with xs:=xs',sk:=f'.sk++[mk f1.hd f1.sk] }::r,n+2+2,rfl,⟨_,_,_,_,_,rfl⟩,I'.words ?_,by rw[za2];lia,?_,by simp,?_⟩
      ·show(wsD ((f'.hd,f'.sk++[mk f1.hd f1.sk])::kA r)).map V.str=_
       rw[wc,zae];rfl
      ·show okD ((f'.hd,f'.sk++[mk f1.hd f1.sk])::kA r)
       rw[e1,e2];refine pI (h:=f.hd) (l:=f.sk) ok ?_ ?_
       ·have h1:=ok.1
        have h1:vds f.sk (8-((kA r).length+1)):=h1;unfold fill;split
        ·exact nR h1 (by simp only[Sk.vd];decide)
        ·exact h1
       ·unfold fill
        split
        ·simp
        ·rename_i hz
         exact λz=>hz (by rw[z];rfl)
      ·show wsz (wsD ((f'.hd,f'.sk++[mk f1.hd f1.sk])::kA r))+_<=_
       rw[wc,cq,BO];rw[za2,za2]at wz;rw[za2]
       lia
end
end K26
namespace K26
open PySem PySem.Spec PyProof.Rows L2 BF
seal L2.PE L2.PA L2.PS L2.PSs L2.PT L2.PW L2.PG L2.PGs L2.PI BF.PTs L2.PPs L2.PO
def kvS(q L:Addr)(S:kg)(td:Str):List (Key×V):=[(Sum.inr "place",.ref q),(Sum.inr "colour",.str S.c),(Sum.inr "pairs",.ref L),(Sum.inr "begun",.int (S.n:Int)),(Sum.inr "told",.str td)]
structure StI(H:Hp)(x L:Addr)(S:kg)(td:Str):Prop where
 ex:∃ q,H x=some (.dK (kvS q L S td))/\two H q S.p
 pic:Pic H L S.ps
theorem StI.ne{x:AA}(h:StI H x L S td):x≠L:=λe=>by
 obtain⟨q,h1,_⟩:=h.ex;obtain⟨xs,h2,_⟩:=h.pic;rw[e,h2]at h1;cases h1
theorem StI.same{H:Hp}{x:AA}(h:StI H x L S td)(s:kf H H'):StI H' x L S td:=by
 obtain⟨q,h1,h2⟩:=h.ex;exact⟨⟨q,s _ _ h1,s _ _ h2⟩,h.pic.same s⟩
theorem StI.put{H:Hp}{x:AA}{S S':kg}{td:AL}(h:StI H x L S td)(e:H x=some (.dK (kvS q L S td)))(t:two H q' S'.p)(ep:S'.ps=S.ps):StI (upd H x (.dK (kvS q' L S' td'))) x L S' td':=by
 have nt:∀ xs,H x≠some (.tup xs):=λxs z=>by rw[e]at z;cases z
 refine⟨⟨q',a8,?_⟩,?_⟩
 ·show(upd H x _) q'=_
  rw[am (λz=>nt _ (by rw[<- z];exact t))];exact t
 ·obtain⟨xs,e2,d2⟩:=h.pic
  rw[ep];exact⟨xs,by rw[am (yav h.ne)];exact e2,aG.qy nt d2⟩
def word:Res->Str
 | .ok _=>""
 | .many=>"many"
 | .hole=>"hole"
theorem wN(R:Res):R.bind .ok=R:=by cases R<;>rfl
theorem eU(R:Res)(f g:kg->Res):(R.bind f).bind g=R.bind λS=>(f S).bind g:=by cases R<;>rfl
def sY(ks:List Nat)(t:Nat):Prop:=(∀ k∈ks,k<8)/\t<8/\∀ p,ks.foldl (λp k=>aA k p) p=aA t p
theorem sY.more{t:Nat}(h:sY ks t)(k8:k<8):sY (k::ks) (kP k t):=by
 obtain⟨a,b,c⟩:=h;refine⟨λj hj=>?_,i9 _ _,λp=>?_⟩
 ·rcases za0.mp hj with rfl | hj
  ·exact k8
  ·exact a j hj
 ·show ks.foldl _ (aA k p)=_
  rw[c,eV k8 b]
theorem gZ(q L:AA)(S:kg)(td:AL):(kvS q L S td).length<sizeLine:=by rw[yau];show 5<_;decide
theorem gD{H:Hp}{x:AA}(e:H x=some (.dK (kvS q L S td))):kK H x (.str "place") (some (.ref q)):=kK.k (k:=Sum.inr "place") e
theorem pK{H:Hp}{x:AA}{S:kg}(e:H x=some (.dK (kvS q L S td))):kK H x (.str "colour") (some (.str S.c)):=kK.k (k:=Sum.inr "colour") e
theorem ja{H:Hp}{x:AA}(e:H x=some (.dK (kvS q L S td))):kK H x (.str "pairs") (some (.ref L)):=kK.k (k:=Sum.inr "pairs") e
theorem dS{H:Hp}{x:AA}{S:kg}(e:H x=some (.dK (kvS q L S td))):kK H x (.str "begun") (some (.int (S.n:Int))):=kK.k (k:=Sum.inr "begun") e
theorem qP{H:Hp}{x:AA}(e:H x=some (.dK (kvS q L S td))):kK H x (.str "told") (some (.str td)):=kK.k (k:=Sum.inr "told") e
theorem nU{H:Hp}{x:AA}{S:kg}(p:Int×Int)(e:H x=some (.dK (kvS q L S td))):lP H x (.str "place") (.ref q') (upd H x (.dK (kvS q' L { S with p:=p } td))):=lP.k (k:=Sum.inr "place") e (gZ _ _ _ _)
theorem pL{H:Hp}{x:AA}{S:kg}(c:AL)(e:H x=some (.dK (kvS q L S td))):lP H x (.str "colour") (.str c) (upd H x (.dK (kvS q L { S with c:=c } td))):=lP.k (k:=Sum.inr "colour") e (gZ _ _ _ _)
theorem nV{H:Hp}{x:AA}{S:kg}(e:H x=some (.dK (kvS q L S td))):lP H x (.str "begun") (.int ((S.n:Int)+1)) (upd H x (.dK (kvS q L { S with n:=S.n+1 } td))):=lP.k (k:=Sum.inr "begun") e (gZ _ _ _ _)
theorem wO{H:Hp}{x:AA}(td':AL)(e:H x=some (.dK (kvS q L S td))):lP H x (.str "told") (.str td') (upd H x (.dK (kvS q L S td'))):=lP.k (k:=Sum.inr "told") e (gZ _ _ _ _)
theorem andN{A I:Prop}(b:B)(h:c=true->B->I):if c=true then I else (if false=true then A else B):=by
 cases c with
 | true=>exact h rfl b
 | false=>exact b
theorem orB{A:Prop}(a:A)(h:c=false->A->B):if c=true then A else B:=by
 cases c with
 | true=>exact a
 | false=>exact h rfl a
section
variable{P:AF}{w:AJ}{K:A2}{mg:A5}{base:AO}
def gQ:Sp:=λvs H Q _=>∃ (a b:Int) (k:Nat),vs=[.int a,.int b,.int (k:Int)]/\k<8/\∀ r H',kf H H'->two H' r (aA k (a,b))->Q (.ref r) H'
theorem gR:az ["_law_x","_law_y","_law_way","_law_quarter"] ["_law_x","_law_y","_law_way"] (aj gc):=fsk (by decide +kernel)
theorem uP(D:Df K mg "_law_turned" gc f fd)(B:Blt mg):ke P w K mg base CX0 1 f fd ["_law_x","_law_y","_law_way"] gQ:=by
 refine D.F.ok gR (λvs H Q E h=>?_) (λcdv A outer s H vs Q E hr h=>?_)
 ·obtain⟨a,b,k,rfl,_⟩:=h
  rfl
 ·obtain⟨a,b,k,rfl,k8,z⟩:=h
  refine⟨_,(aa (aK (ap eP (pv 2) ad (au _)) (ae (ay (i:=0) gR.nd rfl (Or.inl rfl) (aq dQ ad (pv 0)))) ax)
   (aa (cQ ybc rfl (dD rfl B.range (pac (aq aT (pv 2) ad) a9)) (aQ (i:=3) gR.nd rfl (Or.inl rfl)) (ae (EX (i:=0) (j:=1) rfl gR.nd rfl rfl (by decide) rfl rfl (pac (aq dQ ad (pv 1)) (pac (pv 0) a9)) rfl)))
   (ae (av (aI (pac (pv 0) (pac (pv 1) a9))))))),?_⟩
  refine' bz (λσ H1=>(∃ v3,σ=[some (.int (mir k (a,b)).1),some (.int (mir k (a,b)).2),some (.int (k:Int)),v3])/\H1=H) (λfin=>_) _
  rotate_left
  ·refine⟨_,rfl,_,_,rfl,rfl,_,rfl,?_⟩
   by_cases h4:4<=k
   ·refine aw (yab (by show(k:Int)>3;lia)) ⟨_,rfl,_,_,rfl,rfl,fin _ _ ⟨⟨none,?_⟩,rfl⟩⟩
    unfold mir;rw[yad h4];show [some (V.int (0-a)),_,_,_]=_;rw[ybv]
   ·refine ah (yaa (by show ¬ (k:Int)>3;lia)) (fin _ _ ⟨⟨none,?_⟩,rfl⟩)
    unfold mir;rw[yac h4];rfl
  rintro σ H1 ⟨⟨v3,rfl⟩,rfl⟩;refine⟨_,rfl,_,_,rfl,rfl,(by show(0:Int)<4;decide),_,rfl,by show -2 ^ 62<=(k:Int) % 4;grind,by show(k:Int) % 4<2 ^ 62;grind,?_⟩;have e4:((k:Int) % 4).toNat=k % 4:=by lia
  rw[e4];refine eQ (λi σ H2=>(∃ v,σ=[some (.int (tW i (mir k (a,b))).1),some (.int (tW i (mir k (a,b))).2),some (.int (k:Int)),v])/\H2=H1) ⟨⟨_,rfl⟩,rfl⟩ ?_ ?_
  ·rintro i σ H2 hi ⟨⟨v,rfl⟩,rfl⟩
   refine⟨_,rfl,_,_,rfl,rfl,_,rfl,_,_,rfl,⟨some (.int (0+(i:Int))),?_⟩,rfl⟩;show [some (V.int (0-(tW i (mir k (a,b))).2)),_,_,_]=[some (V.int (-(tW i (mir k (a,b))).2)),_,_,_];rw[ybv];rfl
  ·rintro σ H2 ⟨⟨v,rfl⟩,rfl⟩
   refine⟨_,rfl,_,rfl,szr rfl,λr nr=>?_⟩;exact z r _ (af nr) a8
end
end K26
namespace K26
open PySem PySem.Spec PyProof.Rows L2 BF PySem.SeqAt
seal L2.PE L2.PA L2.PS L2.PSs L2.PT L2.PW L2.PG L2.PGs L2.PI BF.PTs L2.PPs L2.PO
inductive Fk where
 | back (p:Int×Int) (c:Str) (r:List Sk)
 | turn (t:Nat) (r:List Sk)
 | times (m:Nat) (b r:List Sk)
abbrev Ai:=List Fk
def Fk.rest:Fk->List Sk
 | .back _ _ r=>r
 | .turn _ r=>r
 | .times _ _ r=>r
def yt:List Fk->kg->Res
 | [],S=>.ok S
 | .back p c r::K,S=>(ko r { S with p:=p,c:=c }).bind (yt K)
 | .turn t r::K,S=>(ko r { S with t:=t }).bind (yt K)
 | .times m b r::K,S=>(tmR (ko b) m S).bind λS1=>(ko r S1).bind (yt K)
def fin(cur:List Sk)(K:List Fk)(S:kg):Res:=(ko cur S).bind (yt K)
theorem jb(K:Ai)(S:kg):fin [] K S=yt K S:=by
 unfold fin;simp only[ko];rfl
theorem sZ(s:Sk)(r:Ad)(K:Ai)(S:kg):fin (s::r) K S=(bg S (stR s)).bind λS1=>fin r K S1:=by
 unfold fin;simp only[ko];rw[eU]
theorem gE{s:Sk}{r:Ad}{K:Ai}{S:kg}(h:2000<=S.n):fin (s::r) K S=.many:=by
 rw[sZ,bg,yad h];rfl
theorem nX{s:Sk}{r:Ad}{K:Ai}{S:kg}(h:¬ 2000<=S.n):fin (s::r) K S=(stR s { S with n:=S.n+1 }).bind λS1=>fin r K S1:=by
 rw[sZ,bg,yac h]
theorem BR{u r:Ad}{K:Ai}{S:kg}(h:¬ 2000<=S.n):fin (.back u::r) K S=fin u (.back S.p S.c r::K) { S with n:=S.n+1 }:=by
 rw[nX h];simp only[stR];rw[eU];rfl
theorem BS{k:Nat}{u r:Ad}{K:Ai}{S:kg}(h:¬ 2000<=S.n):fin (.turn k u::r) K S=fin u (.turn S.t r::K) { S with n:=S.n+1,t:=kP k S.t }:=by
 rw[nX h];simp only[stR];rw[eU];rfl
theorem pM{m:Nat}{u r:Ad}{K:Ai}{S:kg}(h:¬ 2000<=S.n):fin (.times (m+1) u::r) K S=if 2000<=S.n+1 then .many else fin u (.times m u r::K) { S with n:=S.n+1+1 }:=by
 rw[nX h];simp only[stR];show((bg { S with n:=S.n+1 } (ko u)).bind (tmR (ko u) m)).bind _=_;by_cases h2:2000<=S.n+1
 ·rw[yad h2,bg,yad h2]
  rfl
 ·rw[yac h2,bg,yac h2,eU]
  rfl
theorem yu{p:Int×Int}{c:AL}{r:Ad}{K:Ai}{S:kg}:fin [] (.back p c r::K) S=fin r K { S with p:=p,c:=c }:=by rw[jb];rfl
theorem yv{t:Nat}{r:Ad}{K:Ai}{S:kg}:fin [] (.turn t r::K) S=fin r K { S with t:=t }:=by rw[jb];rfl
theorem t4{b r:Ad}{K:Ai}{S:kg}:fin [] (.times 0 b r::K) S=fin r K S:=by rw[jb];rfl
theorem uQ{m:Nat}{b r:Ad}{K:Ai}{S:kg}:fin [] (.times (m+1) b r::K) S=if 2000<=S.n then .many else fin b (.times m b r::K) { S with n:=S.n+1 }:=by
 rw[jb];show((bg S (ko b)).bind (tmR (ko b) m)).bind _=_;by_cases h:2000<=S.n
 ·rw[yad h,bg,yad h]
  rfl
 ·rw[yac h,bg,yac h,eU]
  rfl
def dX:List Fk->List Str
 | []=>[]
 | F::K=>(")":Str)::(wds F.rest++dX K)
theorem jj:∀ K:List Fk,K.length<=(dX K).length
 | []=>za5 _
 | F::K=>by
  have:=jj K;simp only[dX,za2,za7]
  lia
structure Of where
 e:Addr
 q:Addr
 wl:Addr
 kd:Str
 m:Nat
 st:Nat
 p:Int×Int
 c:Str
 ks:List Nat
abbrev Ak:=List Of
def ofV(f:Of):List V:=[.str f.kd,.int (f.m:Int),.int (f.st:Int),.ref f.q,.str f.c,.ref f.wl]
structure FrO(H:Hp)(f:Of):Prop where
 he:H f.e=some (.lst (ofV f))
 hq:two H f.q f.p
 hw:H f.wl=some (.lst (f.ks.map λk:Nat=>V.int (k:Int)))
def ofE(fs:List Of):List Addr:=fs.map (·.e)
structure DuI(H0 H:Hp)(x L O:Addr)(fs:List Of)(S:kg)(td:Str):Prop where
 sub:kf H0 H
 no:∀ a∈x::L::O::ofE fs,H0 a=none
 st:StI H x L S td
 op:H O=some (.lst (fs.reverse.map λf=>V.ref f.e))
 fr:∀ f∈fs,FrO H f
 nd:(x::L::O::ofE fs).Nodup
 wl:∀ f∈fs,¬ f.wl∈x::L::O::ofE fs
theorem FrO.same{H:Hp}(h:FrO H f)(s:kf H H'):FrO H' f:=⟨s _ _ h.he,s _ _ h.hq,s _ _ h.hw⟩
theorem DuI.same{H0:Hp}{x:AA}(I:DuI H0 H x L O fs S td)(s:kf H H'):DuI H0 H' x L O fs S td :=
 ⟨I.sub.trans s,I.no,I.st.same s,s _ _ I.op,λf hf=>(I.fr f hf).same s,I.nd,I.wl⟩
theorem DuI.obj{H0 H:Hp}{x:AA}(I:DuI H0 H x L O fs S td):∀ a∈x::L::O::ofE fs,∃ o,H a=some o/\∀ xs,o≠.tup xs:=λa ha=>by
 obtain⟨q,ex,_⟩:=I.st.ex;obtain⟨us,eL,_⟩:=I.st.pic;rcases za0.mp ha with rfl | ha
 ·exact⟨_,ex,λxs z=>by cases z⟩
 rcases za0.mp ha with rfl | ha
 ·exact⟨_,eL,λxs z=>by cases z⟩
 rcases za0.mp ha with rfl | ha
 ·exact⟨_,I.op,λxs z=>by cases z⟩
 obtain⟨f,hf,rfl⟩:=za9.mp ha;exact⟨_,(I.fr f hf).he,λxs z=>by cases z⟩
theorem DuI.tup{H0 H:Hp}{x:AA}(I:DuI H0 H x L O fs S td)(h:H c=some (.tup xs)):¬ c∈x::L::O::ofE fs:=λz=>by
 obtain⟨o,e,n⟩:=I.obj c z;rw[h]at e;cases e;exact n xs rfl
theorem DuI.fresh{H0 H:Hp}{x:AA}(I:DuI H0 H x L O fs S td)(h:H c=none):¬ c∈x::L::O::ofE fs:=λz=>by
 obtain⟨o,e,_⟩:=I.obj c z;rw[h]at e;cases e
theorem DuI.set{H0 H H':Hp}{x:AA}{S:kg}{td:AL}(I:DuI H0 H x L O fs S td)(sub:kf H0 H')(k:∀ c o,c≠x->c≠L->H c=some o->H' c=some o)(st:StI H' x L S' td'):DuI H0 H' x L O fs S' td':=by
 have nd:=I.nd;simp only[zak,za0,not_or]at nd;obtain⟨⟨a1,a2,a3⟩,⟨b1,b2⟩,c1,d1⟩:=nd;have kt:∀ {c xs},H c=some (.tup xs)->H' c=some (.tup xs):=fun {c xs} h=>k c _ (λz=>I.tup h (by rw[z];exact za1)) (λz=>I.tup h (by rw[z];exact za3 _ za1)) h
 refine⟨sub,I.no,st,k _ _ (yav a2) (yav b1) I.op,λf hf=>?_,I.nd,I.wl⟩;have q:=I.fr f hf;have em:f.e∈ofE fs:=za9.mpr ⟨f,hf,rfl⟩;have nw:=I.wl f hf;simp only[za0,not_or]at nw;exact⟨k _ _ (λz=>a3 (by rw[<- z];exact em)) (λz=>b2 (by rw[<- z];exact em)) q.he,kt q.hq,k _ _ nw.1 nw.2.1 q.hw⟩
theorem DuI.opn{H0 H:Hp}{x:AA}{fs:Ak}{f:Of}(I:DuI H0 H x L O fs S td)(he:H f.e=some (.lst (ofV f)))(n0:H0 f.e=none)(ne:¬ f.e∈x::L::O::ofE fs)(hq:two H f.q f.p)(hw:H f.wl=some (.lst (f.ks.map λk:Nat=>V.int (k:Int))))(nw:¬ f.wl∈x::L::O::ofE (f::fs))(ow:∀ g∈fs,g.wl≠f.e) :
  DuI H0 (upd H O (.lst ((fs.reverse.map λf=>V.ref f.e)++[.ref f.e]))) x L O (f::fs) S td:=by
 have nd:=I.nd;have nd2:=nd;simp only[zak,za0,not_or]at nd ne;obtain⟨⟨a1,a2,a3⟩,⟨b1,b2⟩,c1,d1⟩:=nd;obtain⟨n1,n2,n3,n4⟩:=ne;have kO:∀ {c o},c≠O->H c=some o->(upd H O (.lst ((fs.reverse.map λf=>V.ref f.e)++[.ref f.e]))) c=some o:=fun {c o} h1 h2=>by rw[am h1];exact h2
 have kt:∀ {c xs},H c=some (.tup xs)->(upd H O (.lst ((fs.reverse.map λf=>V.ref f.e)++[.ref f.e]))) c=some (.tup xs):=fun {c xs} h=>kO (λz=>I.tup h (by rw[z];simp)) h
 refine⟨ao I.sub (I.no O (by simp)),λa ha=>?_,?_,?_,λg hg=>?_,?_,λg hg=>?_⟩
 ·simp only[ofE,zaa,za0]at ha
  rcases ha with h | h | h | h | h
  ·exact I.no a (by simp[h])
  ·exact I.no a (by simp[h])
  ·exact I.no a (by simp[h])
  ·rw[h];exact n0
  ·exact I.no a (by simp only[ofE,za0];exact .inr (.inr (.inr h)))
 ·obtain⟨q,ex,tq⟩:=I.st.ex
  obtain⟨us,eL,dL⟩:=I.st.pic;refine⟨⟨q,kO a2 ex,kt tq⟩,us,kO b1 eL,?_⟩;refine aG.qy (λxs z=>?_) dL;rw[I.op]at z;cases z
 ·rw[a8,zar,zae]
  rfl
 ·rcases za0.mp hg with rfl | hg
  ·simp only[za0,not_or]at nw
   exact⟨kO n3 he,kt hq,kO nw.2.2.1 hw⟩
  ·have q:=I.fr g hg
   have w':=I.wl g hg;simp only[za0,not_or]at w';exact⟨kO (λz=>c1 (by rw[<- z];exact za9.mpr ⟨g,hg,rfl⟩)) q.he,kt q.hq,kO w'.2.2.1 q.hw⟩
 ·simp only[ofE,zaa,zak,za0,not_or]
  exact⟨⟨a1,a2,yav n1,a3⟩,⟨b1,yav n2,b2⟩,⟨yav n3,c1⟩,n4,d1⟩
 ·rcases za0.mp hg with rfl | hg
  ·exact nw
  ·have w':=I.wl g hg
   simp only[ofE,zaa,za0,not_or]at w' ⊢;exact⟨w'.1,w'.2.1,w'.2.2.1,ow g hg,w'.2.2.2⟩
theorem DuI.pop{H0:Hp}{x:AA}{f:Of}{fs:Ak}(I:DuI H0 H x L O (f::fs) S td):DuI H0 (upd H O (.lst (fs.reverse.map λf=>V.ref f.e))) x L O fs S td:=by
 have nd:=I.nd;simp only[ofE,zaa,zak,za0,not_or]at nd;obtain⟨⟨a1,a2,a3,a4⟩,⟨b1,b2,b3⟩,⟨c1,c2⟩,d1,e1⟩:=nd;have kO:∀ {c o},c≠O->H c=some o->(upd H O (.lst (fs.reverse.map λf=>V.ref f.e))) c=some o:=fun {c o} h1 h2=>by rw[am h1];exact h2
 have kt:∀ {c xs},H c=some (.tup xs)->(upd H O (.lst (fs.reverse.map λf=>V.ref f.e))) c=some (.tup xs):=fun {c xs} h=>kO (λz=>I.tup h (by rw[z];simp)) h
 refine⟨ao I.sub (I.no O (by simp)),λa ha=>I.no a ?_,?_,a8,λg hg=>?_,?_,λg hg=>?_⟩
 ·simp only[ofE,zaa,za0]at ha ⊢
  rcases ha with h | h | h | h
  ·exact .inl h
  ·exact .inr (.inl h)
  ·exact .inr (.inr (.inl h))
  ·exact .inr (.inr (.inr (.inr h)))
 ·obtain⟨q,ex,tq⟩:=I.st.ex
  obtain⟨us,eL,dL⟩:=I.st.pic;refine⟨⟨q,kO a2 ex,kt tq⟩,us,kO b1 eL,?_⟩;refine aG.qy (λxs z=>?_) dL;rw[I.op]at z;cases z
 ·have q:=I.fr g (za3 _ hg)
  have w':=I.wl g (za3 _ hg);simp only[ofE,zaa,za0,not_or]at w';exact⟨kO (λz=>c2 (by rw[<- z];exact za9.mpr ⟨g,hg,rfl⟩)) q.he,kt q.hq,kO w'.2.2.1 q.hw⟩
 ·simp only[ofE,zak,za0,not_or]
  exact⟨⟨a1,a2,a4⟩,⟨b1,b3⟩,c2,e1⟩
 ·have w':=I.wl g (za3 _ hg)
  simp only[ofE,zaa,za0,not_or]at w' ⊢;exact⟨w'.1,w'.2.1,w'.2.2.1,w'.2.2.2.2⟩
theorem DuI.put{H0 H:Hp}{x:AA}{f f':Of}(I:DuI H0 H x L O (f::fs) S td)(ee:f'.e=f.e)(hq:two H f'.q f'.p)(hw:H f'.wl=some (.lst (f'.ks.map λk:Nat=>V.int (k:Int))))(nw:¬ f'.wl∈x::L::O::ofE (f::fs)):DuI H0 (upd H f.e (.lst (ofV f'))) x L O (f'::fs) S td:=by
 have nd:=I.nd;have eM:ofE (f'::fs)=ofE (f::fs):=by simp[ofE,ee]
 simp only[ofE,zaa,zak,za0,not_or]at nd;obtain⟨⟨a1,a2,a3,a4⟩,⟨b1,b2,b3⟩,⟨c1,c2⟩,d1,e1⟩:=nd;have kO:∀ {c o},c≠f.e->H c=some o->(upd H f.e (.lst (ofV f'))) c=some o:=fun {c o} h1 h2=>by rw[am h1];exact h2
 have em:f.e∈x::L::O::ofE (f::fs):=by simp[ofE]
 have kt:∀ {c xs},H c=some (.tup xs)->(upd H f.e (.lst (ofV f'))) c=some (.tup xs):=fun {c xs} h=>kO (λz=>I.tup h (by rw[z];exact em)) h
 refine⟨ao I.sub (I.no _ em),λa ha=>I.no a (by rw[<- eM];exact ha),?_,?_,λg hg=>?_,by rw[eM];exact I.nd,λg hg=>?_⟩
 ·obtain⟨q,ex,tq⟩:=I.st.ex
  obtain⟨us,eL,dL⟩:=I.st.pic;refine⟨⟨q,kO a3 ex,kt tq⟩,us,kO b2 eL,?_⟩;refine aG.qy (λxs z=>?_) dL;rw[(I.fr f za1).he]at z;cases z
 ·have:=I.op
  rw[kO c1 this,zar,zar,zae,zae];show some (HO.lst (_++[V.ref f.e]))=some (HO.lst (_++[V.ref f'.e]));rw[ee]
 ·rcases za0.mp hg with rfl | hg
  ·refine⟨by rw[ee];exact a8,kt hq,kO (λz=>nw (by rw[z];exact em)) hw⟩
  ·have q:=I.fr g (za3 _ hg)
   have w':=I.wl g (za3 _ hg);simp only[ofE,zaa,za0,not_or]at w';exact⟨kO (λz=>d1 (by rw[<- z];exact za9.mpr ⟨g,hg,rfl⟩)) q.he,kt q.hq,kO w'.2.2.2.1 q.hw⟩
 ·rw[eM]
  rcases za0.mp hg with rfl | hg
  ·exact nw
  ·exact I.wl g (za3 _ hg)
inductive Mt(ws:List Str):List Of->List Fk->Nat->Prop where
 | nil:Mt ws [] [] 0
 | back {f:Of} {fs:List Of} {K:List Fk} {t:Nat} {r:List Sk} (h1:f.kd="(") (h2:f.ks=[]) (h:Mt ws fs K t):Mt ws (f::fs) (.back f.p f.c r::K) t
 | turn {f:Of} {fs:List Of} {K:List Fk} {t k:Nat} {r:List Sk} (h1:f.kd="turn") (h2:f.ks=[k]) (h3:k<8) (h:Mt ws fs K t):Mt ws (f::fs) (.turn t r::K) (kP k t)
 | times {f:Of} {fs:List Of} {K:List Fk} {t m:Nat} {b r:List Sk} (h1:f.kd="times") (h2:f.ks=[]) (h3:f.m=m+1) (h4:ws.drop f.st=wds b++(")":Str)::(wds r++dX K)) (h5:∃ d,vds b d) (h:Mt ws fs K t):Mt ws (f::fs) (.times m b r::K) t
def lH(fs:List Of):List Nat:=fs.flatMap (·.ks)
theorem Mt.ways{ws:AH}{fs:Ak}{K:Ai}{t:Nat}(h:Mt ws fs K t):sY (lH fs) t:=by
 induction h with
 | nil=>exact⟨λk hk=>by simp[lH]at hk,by decide,λp=>by cases p;rfl⟩
 | @back f fs K t r h1 h2 h ih=>show sY (f.ks++lH fs) t;rw[h2];exact ih
 | @turn f fs K t k r h1 h2 h3 h ih=>show sY (f.ks++lH fs) _;rw[h2];exact ih.more h3
 | @times f fs K t m b r h1 h2 h3 h4 h5 h ih=>show sY (f.ks++lH fs) t;rw[h2];exact ih
def goR(dr:Bool)(S:kg)(a b:Int):Res:=if dr=true then gr S a b else byR S a b
theorem DuI.place{H0 H:Hp}{x:AA}{S:kg}(I:DuI H0 H x L O fs S td)(ex:H x=some (.dK (kvS q L S td)))(tp:two H pp p):DuI H0 (upd H x (.dK (kvS pp L { S with p:=p } td))) x L O fs { S with p:=p } td :=
 I.set (ao I.sub (I.no x (by simp))) (λc o h1 _ e=>by rw[am h1];exact e) (I.st.put ex tp rfl)
theorem DuI.told{H0 H:Hp}{x:AA}{S:kg}{td:AL}(I:DuI H0 H x L O fs S td)(ex:H x=some (.dK (kvS q L S td)))(tq:two H q S.p):DuI H0 (upd H x (.dK (kvS q L S td'))) x L O fs S td' :=
 I.set (ao I.sub (I.no x (by simp))) (λc o h1 _ e=>by rw[am h1];exact e) (I.st.put ex tq rfl)
section
variable{P:AF}{w:AJ}{K:A2}{mg:A5}{base:AO}
def BU:Sp:=λvs H Q _=>∃ (a b:Int) (dr:Bool) (x L O:Addr) (H0:Hp) (fs:List Of) (S:kg),vs=[.int a,.int b,.bl dr,.ref O,.ref x]/\DuI H0 H x L O fs S ""/\sY (lH fs) S.t/\S.ps.length<=400/\fs.length<=2500/\∀ H' S',DuI H0 H' x L O fs S' (word (goR dr S a b))->(∀ S0,goR dr S a b=.ok S0->S0=S')->S'.n=S.n->Q .non H'
theorem jl:az ["_law_x","_law_y","_law_draws","_law_open_ones","_law_state","_law_one","_law_way","_law_place"] ["_law_x","_law_y","_law_draws","_law_open_ones","_law_state"] (aj sm):=fsk (by decide +kernel)
theorem Ec{f:AA}{fd:AG}(D:Df K mg "_law_gone" sm f fd)(B:Blt mg)
  (DT:Df K mg "_law_turned" gc fT fdT) (bT:ar K fdT ["_law_x","_law_y","_law_way"] []) (GT:ke P w K mg base CX0 1 fT fdT ["_law_x","_law_y","_law_way"] gQ):ke P w K mg base CX0 2 f fd ["_law_x","_law_y","_law_draws","_law_open_ones","_law_state"] BU:=by
 refine D.F.ok jl (λvs H Q E h=>?_) (λcdv A outer s H vs Q E hr h=>?_)
 ·obtain⟨a,b,dr,x,L,O,H0,fs,S,rfl,_⟩:=h
  rfl
 ·obtain⟨a,b,dr,x,L,O,H0,fs,S,rfl,I,wy,pl,fl,z⟩:=h
  have hu:=hr.units;have hu2:(A.deeper (envOfC "_law_gone" (aj sm) s.heap.objs.size f cdv)).units+1<cLine:=by lia
  refine⟨_,(aa (cQ ybc rfl (cT (Fx Fy (pv 3) (cp bc ad))) (aQ (i:=5) jl.nd rfl (Or.inl rfl)) (ae (cQ ybc rfl (cT (aD aL (pv 5) ad (λ_ _=>rfl))) (aQ (i:=6) jl.nd rfl (Or.inl rfl)) (ae (pQ (pec GT hr rfl DT.m DT.F.kp bT .nil aF (pac (pv 0) (pac (pv 1) (pac (pv 6) a9)))) (gl (n:=2) rfl (ba (aQ (i:=0) jl.nd rfl (Or.inl rfl)) (ba (aQ (i:=1) jl.nd rfl (Or.inl rfl)) dq))))))))
   (aa (ay (i:=7) jl.nd rfl (Or.inl rfl) (aI (pac (aq aW (aD aM (bw hu2 (pv 4) ag (λ_ _=>rfl)) ad (λ_ _=>rfl)) (pv 0)) (pac (aq aW (aD aM (bw hu2 (pv 4) ag (λ_ _=>rfl)) ad (λ_ _=>rfl)) (pv 1)) a9))))
   (aa (aK (PW.pt (df (bq (pv 2)) (cR (ap aX (aE bn (by rfl) B.len ybe (pac (bw hu2 (pv 4) ag (λ_ _=>rfl)) a9)) ad (au _))))) (ae (d5 hu2 (pv 4) ag ag rfl))
    (ae (aK (ap eP (aE (oC rfl) (by rfl) B.max boot_max (pac (aE qY (by rfl) B.abs boot_abs (pac (aD aM (pv 7) ad (λ_ _=>rfl)) a9)) (pac (aE qY (by rfl) B.abs boot_abs (pac (aD aM (pv 7) ad (λ_ _=>rfl)) a9)) a9))) oN (au _)) (ae (d5 hu2 (pv 4) ag ag rfl))
    (ae (aK (bq (pv 2)) (ae (aR (cX yap yan yao bJ (bw hu2 (pv 4) ag (λ_ _=>rfl)) (pac (aI (pac (aI (pac (aE (oR rfl hu2) (by rfl) B.min boot_min (pac (pv 7) (pac (bw hu2 (pv 4) ag (λ_ _=>rfl)) a9))) (pac (aE (oS rfl hu2) (by rfl) B.max boot_max (pac (pv 7) (pac (bw hu2 (pv 4) ag (λ_ _=>rfl)) a9))) a9))) (pac (bw hu2 (pv 4) ag (λ_ _=>rfl)) a9))) a9)))) ax)))))
   (ae (d5 hu2 (pv 4) ag (pv 7) rfl))))),?_⟩
  have vr:(fs.reverse.map λf=>V.ref f.e).reverse=fs.map λf=>V.ref f.e:=by rw[<- List.map_reverse,ye9]
  refine⟨_,rfl,_,rfl,rfl,O,_,rfl,SqL.of I.op,λp np=>?_⟩;rw[vr];have Tp:=af (o:=HO.lst (fs.map λf=>V.ref f.e)) np;refine⟨p,rfl,⟨_,SqL.of a8⟩,?_⟩;have e0:(upd H p (.lst (fs.map λf=>V.ref f.e))) p=some (.lst (fs.map λf=>V.ref f.e)):=a8;have I1:=I.same Tp;revert e0 I1;generalize (upd H p (.lst (fs.map λf=>V.ref f.e)))=H1;intro e0 I1;refine cW (K:=K) (a:=p) (xs:=fs.map λf=>V.ref f.e) (λi σ H2=>(∃ v5 v6,σ=[some (.int ((lH (fs.take i)).foldl (λp k=>aA k p) (a,b)).1),some (.int ((lH (fs.take i)).foldl (λp k=>aA k p) (a,b)).2),some (.bl dr),some (.ref O),some (.ref x),v5,v6,none])/\kf H1 H2)
   ⟨⟨_,_,rfl⟩,kf.refl _⟩ (λi σ H2 _ ⟨_,s2⟩=>SqL.of (s2 _ _ e0)) ?_ ?_
  ·rintro i y σ H2 hy ⟨⟨v5,v6,rfl⟩,S2⟩
   rw[zan]at hy;cases hk:fs[i]? with
   | none=>rw[hk]at hy;cases hy
   | some g =>
   rw[hk]at hy;cases hy;have gm:g∈fs:=zam hk;have q:=I1.fr g gm;refine⟨_,rfl,g.e,_,_,.ref g.wl,rfl,rfl,SqL.of (S2 _ _ q.he),rfl,g.wl,rfl,⟨_,SqL.of (S2 _ _ q.hw)⟩,?_⟩;have tk:fs.take (i+1)=fs.take i++[g]:=by rw[zbo,hk];rfl
   have ak:lH (fs.take (i+1))=lH (fs.take i)++g.ks:=by
    rw[tk];unfold lH;rw[List.flatMap_append,List.flatMap_cons,List.flatMap_nil,zb0]
   have kin:∀ k∈g.ks,k<8:=λk hk=>wy.1 k (List.mem_flatMap.mpr ⟨g,gm,hk⟩)
   refine cW (K:=K) (a:=g.wl) (xs:=g.ks.map λk:Nat=>V.int (k:Int)) (λj σ H3=>(∃ v6,σ=[some (.int ((lH (fs.take i)++g.ks.take j).foldl (λp k=>aA k p) (a,b)).1),some (.int ((lH (fs.take i)++g.ks.take j).foldl (λp k=>aA k p) (a,b)).2),some (.bl dr),some (.ref O),some (.ref x),some (.ref g.e),v6,none])/\kf H1 H3)
    ⟨⟨v6,?_⟩,S2⟩ (λi σ H2 _ ⟨_,s2⟩=>SqL.of (s2 _ _ q.hw)) ?_ ?_
   ·rw[List.take_zero,zb0]
    rfl
   ·rintro j y σ H3 hy ⟨⟨v6,rfl⟩,S3⟩
    rw[zan]at hy;cases hj:g.ks[j]? with
    | none=>rw[hj]at hy;cases hy
    | some k =>
    rw[hj]at hy;cases hy;refine⟨_,rfl,_,rfl,_,rfl,_,_,k,rfl,kin k (zam hj),λr' H' S' t'=>?_⟩;refine⟨r',_,rfl,SqT.of t',rfl,_,_,rfl,_,_,rfl,rfl,⟨some (.int (k:Int)),?_⟩,S3.trans S'⟩;have et:(lH (fs.take i)++g.ks.take (j+1)).foldl (λp k=>aA k p) (a,b)=aA k ((lH (fs.take i)++g.ks.take j).foldl (λp k=>aA k p) (a,b)):=by
     rw[zbo,hj];show(_++(g.ks.take j++[k])).foldl _ _=_;rw[<- zah,ydv];rfl
    rw[et];rfl
   ·rintro σ H3 ⟨⟨v6,rfl⟩,S3⟩
    refine⟨⟨some (.ref g.e),v6,?_⟩,S3⟩;rw[za4,List.take_length,ak]
  rintro σ H2 ⟨⟨v5,v6,rfl⟩,S2⟩;rw[za4,List.take_length,wy.2.2];have I2:=I1.same S2;obtain⟨q,ex2,tq2⟩:=I2.st.ex;refine⟨_,rfl,x,_,rfl,gD ex2,q,_,_,_,rfl,rfl,SqT.of tq2,rfl,_,rfl,_,_,rfl,rfl,?_⟩;refine⟨_,rfl,x,_,rfl,gD ex2,q,_,_,_,rfl,rfl,SqT.of tq2,rfl,_,rfl,_,_,rfl,rfl,szr rfl,λpp npp=>?_⟩;show qW 7 (V.ref pp) _ (upd H2 pp (HO.tup [V.int (S.p.1+(aA S.t (a,b)).1),V.int (S.p.2+(aA S.t (a,b)).2)])) _;have T3:=af (o:=HO.tup [V.int (S.p.1+(aA S.t (a,b)).1),V.int (S.p.2+(aA S.t (a,b)).2)]) npp;have tp:two (upd H2 pp (HO.tup [V.int (S.p.1+(aA S.t (a,b)).1),V.int (S.p.2+(aA S.t (a,b)).2)])) pp (aO S a b):=a8;have I3:=I2.same T3;have ex3:=T3 _ _ ex2;have tq3:two (upd H2 pp (HO.tup [V.int (S.p.1+(aA S.t (a,b)).1),V.int (S.p.2+(aA S.t (a,b)).2)])) q S.p:=T3 _ _ tq2;revert tp I3 ex3 tq3;generalize (upd H2 pp (HO.tup [V.int (S.p.1+(aA S.t (a,b)).1),V.int (S.p.2+(aA S.t (a,b)).2)]))=H3;intro tp I3 ex3 tq3;obtain⟨us,eL,dL⟩:=I3.st.pic;have ul:us.length=S.ps.length:=by rw[dL.length,za4]
  have tpx:∀ {o},two (upd H3 x o) pp (aO S a b):=fun {o}=>by
   show(upd H3 x _) pp=_;rw[am (λe=>I3.tup tp (by rw[e];simp))];exact tp
  by_cases hf:dr=true/\400<=S.ps.length
  ·obtain⟨hd,h4⟩:=hf
   have er:goR dr S a b=.many:=by rw[goR,yad hd,gr,yad h4]
   refine⟨_,rfl,_,rfl,?_⟩;rw[hd];refine kH ⟨_,rfl,x,_,rfl,ja ex3,L,us,rfl,.inl (SqL.of eL),rfl,_,rfl,?_⟩;refine aw (yab (by rw[show us.length=400 by lia];rfl)) ?_;refine⟨_,rfl,x,_,rfl,wO _ ex3,?_⟩;have I4:=I3.told (td':="many") ex3 tq3;have I5:=I4.place (pp:=pp) (p:=aO S a b) a8 tpx;rw[er]at z;exact⟨_,rfl,_,rfl,x,_,rfl,nU (aO S a b) a8,z _ _ I5 (λ_ e=>by cases e) rfl⟩
  refine' BP (λH4=>∃ (S4:kg) (q4:AA) (R:Res),goR dr S a b=R/\DuI H0 H4 x L O fs S4 (word R)/\H4 x=some (.dK (kvS q4 L S4 (word R)))/\two H4 pp (aO S a b)/\S4.n=S.n/\∀ S0,R=.ok S0->S0={ S4 with p:=aO S a b }) (λfin=>_) _
  rotate_left
  ·have h4:dr=true->¬ 400<=S.ps.length:=λe g=>hf ⟨e,g⟩
   refine⟨_,rfl,_,rfl,andN ?_ (λhl m=>?_)⟩
   rotate_left
   ·have:=h4 hl
    exact⟨_,rfl,x,_,rfl,ja ex3,L,us,rfl,.inl (SqL.of eL),rfl,_,rfl,ah (yaa (λe=>by injection e with e;lia)) m⟩
   refine⟨_,rfl,pp,_,_,_,rfl,rfl,SqT.of tp,rfl,_,rfl,_,rfl,pp,_,_,_,rfl,rfl,SqT.of tp,rfl,_,rfl,_,_,rfl,_,_,rfl,rfl,_,rfl,?_⟩;by_cases hb:inB (aO S a b)=true
   ·refine ah ((Bl _ _).trans (by rw[show((aO S a b).1,(aO S a b).2)=aO S a b from rfl,hb];rfl)) ?_
    refine⟨_,rfl,_,rfl,?_⟩;by_cases hd:dr=false
    ·have er:goR dr S a b=.ok { S with p:=aO S a b }:=by rw[goR,yac (by rw[hd];decide),byR,yad hb]
     exact ah hd (fin _ ⟨S,q,_,er,I3,ex3,tp,rfl,λ_ e=>by cases e;rfl⟩)
    ·have hd:dr=true:=by cases h:dr with | true=>rfl | false=>exact absurd h hd
     have er:goR dr S a b=.ok (sA S a b):=by rw[goR,yad hd,gr,yac (h4 hd),yad hb]
     refine aw hd ?_;refine⟨_,rfl,x,_,rfl,ja ex3,.inl ⟨rfl,_,SqL.of eL⟩,?_⟩;refine⟨_,rfl,_,rfl,x,_,rfl,gD ex3,pp,q,[(aO S a b).1,(aO S a b).2],[S.p.1,S.p.2],rfl,SqT.of tp,SqT.of tq3,?_⟩;refine⟨_,rfl,_,rfl,x,_,rfl,gD ex3,pp,q,[(aO S a b).1,(aO S a b).2],[S.p.1,S.p.2],rfl,SqT.of tp,SqT.of tq3,?_⟩;refine⟨szr rfl,λt1 nt1=>?_⟩;have T4:=af (o:=.tup [(if hLt S.p (aO S a b)=true then V.ref q else .ref pp),(if hLt (aO S a b) S.p=true then V.ref q else .ref pp)]) nt1;refine⟨_,rfl,x,_,rfl,pK (T4 _ _ ex3),szr rfl,λt nt=>?_⟩;obtain⟨m1,m2⟩:=vN tp tq3;rw[gW]at m1 m2;have T5:=af (o:=.tup [.ref t1,.str S.c]) nt;have T45:=T4.trans T5;have eL6:=T45 _ _ eL;have I5:=I3.same T45;refine⟨L,us,_,rfl,rfl,eL6,bp (by have:=h4 hd;lia),?_⟩;have xL:x≠L:=I3.st.ne;have st6:StI (upd (upd (upd H3 t1 (.tup [(if hLt S.p (aO S a b)=true then V.ref q else .ref pp),(if hLt (aO S a b) S.p=true then V.ref q else .ref pp)])) t (.tup [.ref t1,.str S.c])) L (.lst (us++[V.ref t]))) x L { S with ps:=(sA S a b).ps } "":=by
      refine⟨⟨q,?_,?_⟩,⟨us++[.ref t],a8,?_⟩⟩
      ·rw[am xL]
       exact T45 _ _ ex3
      ·show(upd _ L _) q=_
       rw[am (λe=>by
        have tp':H3 q=_:=tq3;rw[e,eL]at tp';cases tp')]
       exact T45 _ _ tq3
      ·show aG _ _ ((S.ps++[(⟨(kz S.p (aO S a b)).1,(kz S.p (aO S a b)).2,S.c⟩:Pl)]).map pD)
       rw[zae];refine aG.snoc (kj.lT eL6 ?_) (aG.lT eL6 ((dL.same T4).same T5));exact .tup a8 (.cons (.tup (T5 _ _ a8) (.cons ((m1.same T4).same T5) (.cons ((m2.same T4).same T5) .nil))) (.cons (.str _) .nil))
     refine fin _ ⟨{ S with ps:=(sA S a b).ps },q,_,er,I5.set (ao I5.sub (I.no L (by simp))) (λc o _ h2 e=>by rw[am h2];exact e) st6,?_,?_,rfl,λ_ e=>by cases e;rfl⟩
     ·rw[am xL]
      exact T45 _ _ ex3
     ·show(upd _ L _) pp=_
      rw[am (λe=>by
       have tp':H3 pp=_:=tp;rw[e,eL]at tp';cases tp')]
      exact T45 _ _ tp
   ·have hb:inB (aO S a b)=false:=by cases h:inB (aO S a b) with | false=>rfl | true=>exact absurd h hb
    have er:goR dr S a b=.hole:=by
     cases hd:dr with
     | true=>rw[goR,yad rfl,gr,yac (h4 hd),yac (by rw[hb];decide)]
     | false=>rw[goR,yac (by decide),byR,yac (by rw[hb];decide)]
    refine aw ((Bl _ _).trans (by rw[show((aO S a b).1,(aO S a b).2)=aO S a b from rfl,hb];rfl)) ?_;refine⟨_,rfl,x,_,rfl,wO _ ex3,?_⟩;exact fin _ ⟨S,q,_,er,I3.told ex3 tq3,a8,tpx,rfl,λ_ e=>by cases e⟩
  rintro H4 ⟨S4,q4,R,er,I4,ex4,tp4,n4,ho⟩;rw[er]at z;exact⟨_,rfl,_,rfl,x,_,rfl,nU (aO S a b) ex4,z _ _ (I4.place ex4 tp4) ho n4⟩
end
theorem DuI.begun{H0 H:Hp}{x:AA}{S:kg}(I:DuI H0 H x L O fs S td)(ex:H x=some (.dK (kvS q L S td)))(tq:two H q S.p):DuI H0 (upd H x (.dK (kvS q L { S with n:=S.n+1 } td))) x L O fs { S with n:=S.n+1 } td :=
 I.set (ao I.sub (I.no x (by simp))) (λc o h1 _ e=>by rw[am h1];exact e) (I.st.put ex tq rfl)
theorem DuI.BV{H0 H:Hp}{x:AA}{S:kg}{td:AL}(I:DuI H0 H x L O fs S td)(ex:H x=some (.dK (kvS q L S td)))(tq:two H q S.p):DuI H0 (upd H x (.dK (kvS q L { S with c:=c } td))) x L O fs { S with c:=c } td :=
 I.set (ao I.sub (I.no x (by simp))) (λc o h1 _ e=>by rw[am h1];exact e) (I.st.put ex tq rfl)
section
variable{P:AF}{w:AJ}{K:A2}{mg:A5}{base:AO}
def nY:Sp:=λvs H Q _=>∃ (W:Addr) (i:Nat) (ws:List Str) (y:Str) (x L O:Addr) (H0:Hp) (fs:List Of) (S:kg),vs=[.ref W,.int (i:Int),.ref O,.ref x]/\H0 W=some (.lst (ws.map V.str))/\ws[i]?=some y/\DuI H0 H x L O fs S ""/\fs.length<=2500 /\
 (y="("->∀ f H',DuI H0 H' x L O (f::fs) S ""->f.kd="("->f.ks=[]->f.p=S.p->f.c=S.c->Q (.int ((i+1:Nat):Int)) H') /\
 (y="turn"->∃ k:Nat,k<8/\ws[i+1]?=some (nT (k:Int))/\∀ f H',DuI H0 H' x L O (f::fs) S ""->f.kd="turn"->f.ks=[k]->Q (.int ((i+3:Nat):Int)) H') /\
 (y≠"("->y≠"turn"->∃ m:Nat,y=nT (m:Int)/\m<=60/\∀ f H',DuI H0 H' x L O (f::fs) { S with n:=S.n+1 } ""->f.kd="times"->f.ks=[]->f.m=m->f.st=i+3->Q (.int ((i+3:Nat):Int)) H')
theorem BW:az ["_law_words","_law_at","_law_open_ones","_law_state"] ["_law_words","_law_at","_law_open_ones","_law_state"] (aj iN):=fsk (by decide +kernel)
theorem yw(D:Df K mg "_law_opened" iN f fd)(B:Blt mg):ke P w K mg base CX0 1 f fd ["_law_words","_law_at","_law_open_ones","_law_state"] nY:=by
 refine D.F.ok BW (λvs H Q E h=>?_) (λcdv A outer s H vs Q E hr h=>?_)
 ·obtain⟨W,i,ws,y,x,L,O,H0,fs,S,rfl,_⟩:=h
  rfl
 ·obtain⟨W,i,ws,y,x,L,O,H0,fs,S,rfl,eW0,gi,I,fl,kb,kt,km⟩:=h
  have hu:=hr.units;have hu2:(A.deeper (envOfC "_law_opened" (aj iN) s.heap.objs.size f cdv)).units+1<cLine:=by lia
  refine⟨_,(aa (aR (cX yap yan yao bJ (pv 2) (pac (aZ (pac (aD aL (pv 0) (pv 1) (λ_ _=>rfl)) (pac (ad) (pac (aq aW (pv 1) ad) (pac (bw hu2 (pv 3) ag (λ_ _=>rfl)) (pac (bw hu2 (pv 3) ag (λ_ _=>rfl)) (pac (aZ a9) a9))))))) a9)))
   (aa (aK (ap aX (aD aL (pv 0) (pv 1) (λ_ _=>rfl)) ag (au _)) (aa (gT (aD aL (pv 2) (cp bc ad) (λ_ _=>rfl)) ad (aq aW (pv 1) ad) rfl)
   (aa (gT (aD aL (pv 2) (cp bc ad) (λ_ _=>rfl)) ad (aZ (pac (b8 eT (by rfl) B.int yd4 (pac (aD aL (pv 0) (aq aW (pv 1) ad) (λ_ _=>rfl)) a9)) a9)) rfl)
   (ae (av (aq aW (pv 1) ad))))) ax)
   (aa (aK (ap ie (aD aL (pv 0) (pv 1) (λ_ _=>rfl)) ag (au _)) (aa (gT (aD aL (pv 2) (cp bc ad) (λ_ _=>rfl)) ad ag rfl)
   (aa (gT (aD aL (pv 2) (cp bc ad) (λ_ _=>rfl)) ad (b8 eT (by rfl) B.int yd4 (pac (aD aL (pv 0) (pv 1) (λ_ _=>rfl)) a9)) rfl)
   (aa (gT (aD aL (pv 2) (cp bc ad) (λ_ _=>rfl)) ad (aq aW (pv 1) ad) rfl)
   (aa (d5 hu2 (pv 3) ag (aq aW (bw hu2 (pv 3) ag (λ_ _=>rfl)) ad) rfl)
   (ae (av (aq aW (pv 1) ad))))))) ax)
   (ae (av (aq aW (pv 1) ad)))))),?_⟩
  have eW:∀ {H'},kf H0 H'->SqL K H' W (ws.map V.str):=λs=>SqL.of (s _ _ eW0)
  have ai:∀ {j:Nat} {v:AL},ws[j]?=some v->atI (ws.map V.str) (j:Int)=some (V.str v):=λh=>fj (by rw[zan,h];rfl)
  obtain⟨q,ex,tq⟩:=I.st.ex;refine⟨_,rfl,.inl ⟨rfl,_,SqL.of I.op⟩,_,rfl,_,rfl,W,_,_,_,rfl,rfl,eW I.sub,ai gi,_,rfl,_,_,rfl,rfl,_,rfl,x,_,rfl,gD ex,_,rfl,x,_,rfl,pK ex,szr rfl,λwl nw=>⟨szr rfl,λe ne=>?_⟩⟩;have T1:=af (o:=HO.lst []) nw;have T2:=af (o:=HO.lst [V.str y,.int 1,.int ((i:Int)+1),.ref q,.str S.c,.ref wl]) ne;have I1:=I.same (T1.trans T2);have op1:=I1.op;refine⟨O,_,_,rfl,rfl,op1,by rw[za4,yed,yau];lia,?_⟩;have nwe:wl≠e:=λz=>by rw[<- z,a8]at ne;cases ne
  have fw:=I.fresh nw;have fe:=(I.same T1).fresh ne;have I2:DuI H0 _ x L O (⟨e,q,wl,y,1,i+1,S.p,S.c,[]⟩::fs) S "":=I1.opn (f:=⟨e,q,wl,y,1,i+1,S.p,S.c,[]⟩) a8 (aH (I.sub.trans T1) ne) fe ((T1.trans T2) _ _ tq) (T2 _ _ a8) (by
   simp only[ofE,zaa,za0,not_or]at fw ⊢;exact⟨fw.1,fw.2.1,fw.2.2.1,nwe,fw.2.2.2⟩) (λg hg z=>by
   have h:=(I.fr g hg).hw;rw[z]at h;rw[aH T1 ne]at h;cases h)
  revert I2;generalize (upd (upd (upd H wl _) e _) O _)=H2;intro I2;have lst:∀ {H':Hp} {g:Of} {S':kg},DuI H0 H' x L O (g::fs) S' ""->H' O=some (.lst ((fs.reverse.map λf=>V.ref f.e)++[V.ref g.e])):=λh=>by
   have:=h.op;rw[zar,zae]at this;exact this
  refine⟨_,rfl,_,rfl,W,_,_,_,rfl,rfl,eW I2.sub,ai gi,rfl,_,rfl,?_⟩;by_cases k1:y="turn"
  ·refine aw (yab (by rw[k1])) ?_
   obtain⟨k,k8,gk,kq⟩:=kt k1;obtain⟨r1,r2⟩:=cj (n:=(k:Int)) (by omega);refine' bz (λσ H3=>σ=[some (.ref W),some (.int (i:Int)),some (.ref O),some (.ref x)]/\DuI H0 H3 x L O (⟨e,q,wl,y,1,i+3,S.p,S.c,[]⟩::fs) S "") (λfin=>_) _
   rotate_left
   ·have q2:=I2.fr _ za1
    have w2:=I2.wl _ za1;exact⟨_,rfl,_,_,rfl,rfl,_,rfl,_,rfl,O,_,_,_,rfl,rfl,SqL.of (lst I2),cc _ _,e,_,2,2,rfl,rfl,rfl,q2.he,by show 2<6;decide,fin _ _ ⟨rfl,I2.put (f':=⟨e,q,wl,y,1,i+3,S.p,S.c,[]⟩) rfl q2.hq q2.hw w2⟩⟩
   rintro σ H3 ⟨rfl,I3⟩;refine' bz (λσ H4=>σ=[some (.ref W),some (.int (i:Int)),some (.ref O),some (.ref x)]/\∃ wl',DuI H0 H4 x L O (⟨e,q,wl',y,1,i+3,S.p,S.c,[k]⟩::fs) S "") (λfin=>_) _
   rotate_left
   ·have g1:(i:Int)+1=((i+1:Nat):Int):=rfl
    refine⟨_,rfl,_,rfl,_,_,rfl,rfl,W,_,_,_,rfl,rfl,eW I3.sub,(by show atI _ ((i:Int)+1)=_;rw[g1];exact ai gk),_,_,rfl,r1,r2,szr rfl,λwl' nw'=>?_⟩;have T3:=af (o:=HO.lst [V.int (k:Int)]) nw';have I3':=I3.same T3;have q3:=I3'.fr _ za1;exact⟨_,rfl,_,rfl,O,_,_,_,rfl,rfl,SqL.of (lst I3'),cc _ _,e,_,5,5,rfl,rfl,rfl,q3.he,by show 5<6;decide,fin _ _ ⟨rfl,wl',I3'.put (f':=⟨e,q,wl',y,1,i+3,S.p,S.c,[k]⟩) rfl q3.hq a8 (I3.fresh nw')⟩⟩
   rintro σ H4 ⟨rfl,wl',I4⟩;exact⟨_,rfl,_,_,rfl,rfl,kq _ _ I4 k1 rfl⟩
  refine ah (yaa λe=>k1 (by injection e)) ?_;refine⟨_,rfl,_,rfl,W,_,_,_,rfl,rfl,eW I2.sub,ai gi,rfl,_,rfl,?_⟩;by_cases k2:y="("
  ·refine ah (by rw[k2];simp) ?_
   exact⟨_,rfl,_,_,rfl,rfl,kb k2 _ _ I2 k2 rfl rfl rfl⟩
  refine aw (by show(!decide (V.str y=V.str "("))=true;rw[yaa λe=>k2 (by injection e)];rfl) ?_;obtain⟨m,em,m60,kq⟩:=km k2 k1;obtain⟨r1,r2⟩:=cj (n:=(m:Int)) (by omega);rw[<- em]at r1 r2;refine' bz (λσ H3=>σ=[some (.ref W),some (.int (i:Int)),some (.ref O),some (.ref x)]/\DuI H0 H3 x L O (⟨e,q,wl,"times",1,i+1,S.p,S.c,[]⟩::fs) S "") (λfin=>_) _
  rotate_left
  ·have q2:=I2.fr _ za1
   have w2:=I2.wl _ za1;exact⟨_,rfl,_,rfl,O,_,_,_,rfl,rfl,SqL.of (lst I2),cc _ _,e,_,0,0,rfl,rfl,rfl,q2.he,by show 0<6;decide,fin _ _ ⟨rfl,I2.put (f':=⟨e,q,wl,"times",1,i+1,S.p,S.c,[]⟩) rfl q2.hq q2.hw w2⟩⟩
  rintro σ H3 ⟨rfl,I3⟩;refine' bz (λσ H4=>σ=[some (.ref W),some (.int (i:Int)),some (.ref O),some (.ref x)]/\DuI H0 H4 x L O (⟨e,q,wl,"times",m,i+1,S.p,S.c,[]⟩::fs) S "") (λfin=>_) _
  rotate_left
  ·have q3:=I3.fr _ za1
   have w3:=I3.wl _ za1;exact⟨_,rfl,_,rfl,W,_,_,_,rfl,rfl,eW I3.sub,ai gi,_,_,rfl,r1,r2,_,rfl,_,rfl,O,_,_,_,rfl,rfl,SqL.of (lst I3),cc _ _,e,_,1,1,rfl,rfl,rfl,q3.he,by show 1<6;decide,fin _ _ ⟨rfl,I3.put (f':=⟨e,q,wl,"times",m,i+1,S.p,S.c,[]⟩) rfl q3.hq q3.hw w3⟩⟩
  rintro σ H4 ⟨rfl,I4⟩;refine' bz (λσ H5=>σ=[some (.ref W),some (.int (i:Int)),some (.ref O),some (.ref x)]/\DuI H0 H5 x L O (⟨e,q,wl,"times",m,i+3,S.p,S.c,[]⟩::fs) S "") (λfin=>_) _
  rotate_left
  ·have q3:=I4.fr _ za1
   have w3:=I4.wl _ za1;exact⟨_,rfl,_,_,rfl,rfl,_,rfl,_,rfl,O,_,_,_,rfl,rfl,SqL.of (lst I4),cc _ _,e,_,2,2,rfl,rfl,rfl,q3.he,by show 2<6;decide,fin _ _ ⟨rfl,I4.put (f':=⟨e,q,wl,"times",m,i+3,S.p,S.c,[]⟩) rfl q3.hq q3.hw w3⟩⟩
  rintro σ H5 ⟨rfl,I5⟩;obtain⟨q5,ex5,tq5⟩:=I5.st.ex;refine⟨_,rfl,x,_,rfl,dS ex5,_,_,rfl,rfl,_,rfl,x,_,rfl,nV ex5,?_⟩;exact⟨_,rfl,_,_,rfl,rfl,kq _ _ (I5.begun ex5 tq5) rfl rfl rfl rfl⟩
def wQ:Sp:=λvs H Q _=>∃ (i:Nat) (x L O:Addr) (H0:Hp) (f:Of) (fs:List Of) (S:kg),vs=[.int (i:Int),.ref O,.ref x]/\DuI H0 H x L O (f::fs) S "" /\
 (∀ m,f.kd="times"->f.m=m+2->∀ H',DuI H0 H' x L O ({ f with m:=m+1 }::fs) { S with n:=S.n+1 } ""->Q (.int (f.st:Int)) H') /\
 (¬ (f.kd="times"/\1<f.m)->∀ H',DuI H0 H' x L O fs (if f.kd="(" then { S with p:=f.p,c:=f.c } else S) ""->Q (.int ((i+1:Nat):Int)) H')
theorem wR:az ["_law_at","_law_open_ones","_law_state","_law_last"] ["_law_at","_law_open_ones","_law_state"] (aj mZ):=fsk (by decide +kernel)
theorem BX(D:Df K mg "_law_ended" mZ f_ fd):ke P w K mg base CX0 1 f_ fd ["_law_at","_law_open_ones","_law_state"] wQ:=by
 refine D.F.ok wR (λvs H Q E h=>?_) (λcdv A outer s H vs Q E hr h=>?_)
 ·obtain⟨i,x,L,O,H0,f,fs,S,rfl,_⟩:=h
  rfl
 ·obtain⟨i,x,L,O,H0,f,fs,S,rfl,I,kt,kp⟩:=h
  have hu:=hr.units;have hu2:(A.deeper (envOfC "_law_ended" (aj mZ) s.heap.objs.size f_ cdv)).units+1<cLine:=by lia
  refine⟨_,(aa (ay (i:=3) wR.nd rfl (Or.inl rfl) (aD aL (pv 1) (cp bc ad) (λ_ _=>rfl)))
   (aa (aK (PW.pt (df (ap aX (aD aL (pv 3) ad (λ_ _=>rfl)) ag (au _)) (cR (ap eP (aD aL (pv 3) ad (λ_ _=>rfl)) ad (au _))))) (aa (gT (pv 3) ad (aq dQ (aD aL (pv 3) ad (λ_ _=>rfl)) ad) rfl)
   (aa (d5 hu2 (pv 2) ag (aq aW (bw hu2 (pv 2) ag (λ_ _=>rfl)) ad) rfl)
   (ae (av (aD aL (pv 3) ad (λ_ _=>rfl)))))) ax)
   (aa (aR (tM yap ye8 F.type_list_pop tP (pv 1)))
   (aa (aK (ap aX (aD aL (pv 3) ad (λ_ _=>rfl)) ag (au _)) (aa (d5 hu2 (pv 2) ag (aD aL (pv 3) ad (λ_ _=>rfl)) rfl)
   (ae (d5 hu2 (pv 2) ag (aD aL (pv 3) ad (λ_ _=>rfl)) rfl))) ax)
   (ae (av (aq aW (pv 0) ad))))))),?_⟩
  have op:=I.op;rw[zar,zae]at op;have q:=I.fr f za1;have he:SqL K H f.e (ofV f):=SqL.of q.he;refine⟨_,rfl,_,rfl,O,_,_,_,rfl,rfl,SqL.of op,cc _ _,?_⟩;by_cases hc:f.kd="times"/\1<f.m
  ·obtain⟨k1,k2⟩:=hc
   obtain⟨m,hm⟩:∃ m,f.m=m+2:=⟨f.m-2,by grind⟩;refine⟨_,rfl,f.e,_,_,_,rfl,rfl,he,rfl,rfl,_,rfl,aw (yab (by rw[k1])) ?_⟩;refine⟨_,rfl,f.e,_,_,_,rfl,rfl,he,rfl,_,_,rfl,rfl,_,rfl,aw (yab (by show(f.m:Int)>1;lia)) ?_⟩;refine' bz (λσ H1=>σ=[some (.int (i:Int)),some (.ref O),some (.ref x),some (.ref f.e)]/\DuI H0 H1 x L O ({ f with m:=m+1 }::fs) S "") (λfin=>_) _
   rotate_left
   ·have e1:((f.m:Int)-1)=((m+1:Nat):Int):=by lia
    refine⟨_,rfl,f.e,_,_,_,rfl,rfl,he,rfl,_,_,rfl,rfl,_,rfl,f.e,_,1,1,rfl,rfl,rfl,q.he,by show 1<6;decide,fin _ _ ⟨rfl,?_⟩⟩;have wf:=I.wl f za1;have I1:=I.put (f':={ f with m:=m+1 }) rfl q.hq q.hw wf;have e2:(ofV f).set 1 (V.int ((f.m:Int)-1))=ofV { f with m:=m+1 }:=by
     rw[e1];rfl
    show DuI H0 (upd H f.e (.lst ((ofV f).set 1 (V.int ((f.m:Int)-1))))) _ _ _ _ _ _;rw[e2];exact I1
   rintro σ H1 ⟨rfl,I1⟩;obtain⟨q1,ex1,tq1⟩:=I1.st.ex;refine⟨_,rfl,x,_,rfl,dS ex1,_,_,rfl,rfl,_,rfl,x,_,rfl,nV ex1,?_⟩;have I2:=I1.begun ex1 tq1;exact⟨_,rfl,f.e,_,_,_,rfl,rfl,SqL.of (I2.fr _ za1).he,rfl,kt m k1 hm _ I2⟩
  have kp:=kp hc;refine' bz (λσ H1=>σ=[some (.int (i:Int)),some (.ref O),some (.ref x),some (.ref f.e)]/\H1=H) (λfin=>_) _
  rotate_left
  ·refine⟨_,rfl,f.e,_,_,_,rfl,rfl,he,rfl,rfl,_,rfl,?_⟩
   by_cases k1:f.kd≠"times"
   ·exact ah (yaa λe=>k1 (by injection e)) (kr (fin _ _ ⟨rfl,rfl⟩))
   have k1:f.kd="times":=Classical.not_not.mp k1;refine aw (yab (by rw[k1])) ?_;exact⟨_,rfl,f.e,_,_,_,rfl,rfl,he,rfl,_,_,rfl,rfl,_,rfl,ah (yaa (by show ¬ (f.m:Int)>1;exact λg=>hc ⟨k1,by omega⟩)) (fin _ _ ⟨rfl,rfl⟩)⟩
  rintro σ H1 ⟨rfl,rfl⟩;have I1:=I.pop;have nd:=I.nd;simp only[ofE,zaa,zak,za0,not_or]at nd;have eO:f.e≠O:=yav nd.2.2.1.1;have fe1:(upd H1 O (.lst (fs.reverse.map λf=>V.ref f.e))) f.e=some (.lst (ofV f)):=by rw[am eO];exact q.he
  have fq1:two (upd H1 O (.lst (fs.reverse.map λf=>V.ref f.e))) f.q f.p:=by
   show(upd H1 O _) f.q=_;rw[am (λz=>I.tup q.hq (by rw[z];simp))];exact q.hq
  refine⟨_,rfl,.inl ⟨rfl,_,SqL.of op⟩,O,_,.ref f.e,rfl,rfl,op,by simp,?_⟩;have dl:(List.map (λf:Of=>V.ref f.e) fs.reverse++List.map (λf:Of=>V.ref f.e) [f]).dropLast=fs.reverse.map λf=>V.ref f.e:=yea
  rw[dl];revert I1 fe1 fq1;generalize (upd H1 O (.lst (fs.reverse.map λf=>V.ref f.e)))=H2;intro I1 fe1 fq1;refine⟨_,rfl,f.e,_,_,_,rfl,rfl,SqL.of fe1,rfl,rfl,_,rfl,?_⟩;by_cases k1:f.kd="("
  ·refine aw (yab (by rw[k1])) ?_
   rw[yad k1]at kp;obtain⟨q2,ex2,tq2⟩:=I1.st.ex;refine⟨_,rfl,f.e,_,_,_,rfl,rfl,SqL.of fe1,rfl,_,rfl,x,_,rfl,nU f.p ex2,?_⟩;have I2:=I1.place (pp:=f.q) (p:=f.p) ex2 fq1;have xe:f.e≠x:=yav nd.1.2.2.1;have fe2:(upd H2 x (.dK (kvS f.q L { S with p:=f.p } ""))) f.e=some (.lst (ofV f)):=by rw[am xe];exact fe1
   revert I2 fe2;have ex3:(upd H2 x (.dK (kvS f.q L { S with p:=f.p } ""))) x=some (.dK (kvS f.q L { S with p:=f.p } "")):=a8;revert ex3;generalize (upd H2 x (.dK (kvS f.q L { S with p:=f.p } "")))=H3;intro ex3 I2 fe2;obtain⟨q3,ex3',tq3⟩:=I2.st.ex;refine⟨_,rfl,f.e,_,_,_,rfl,rfl,SqL.of fe2,rfl,_,rfl,x,_,rfl,pL f.c ex3',?_⟩;exact⟨_,rfl,_,_,rfl,rfl,kp _ (I2.BV ex3' tq3)⟩
  ·refine ah (yaa λe=>k1 (by injection e)) ?_
   rw[yac k1]at kp;exact⟨_,rfl,_,_,rfl,rfl,kp _ I1⟩
end
theorem DuI.tt{H0:Hp}{x:AA}{S:kg}(I:DuI H0 H x L O fs S td)(t:Nat):DuI H0 H x L O fs { S with t:=t } td:=⟨I.sub,I.no,⟨I.st.ex,I.st.pic⟩,I.op,I.fr,I.nd,I.wl⟩
theorem Mt.len{fs:Ak}{K:Ai}(h:Mt ws fs K t):fs.length=K.length:=by
 induction h with
 | nil=>rfl
 | back _ _ _ ih=>rw[za2,za2,ih]
 | turn _ _ _ _ ih=>rw[za2,za2,ih]
 | times _ _ _ _ _ _ ih=>rw[za2,za2,ih]
structure Cfg(ws:List Str)(i:Nat)(fs:List Of)(cur:List Sk)(K:List Fk)(S:kg)(R:Res):Prop where
 mt:Mt ws fs K S.t
 dw:ws.drop i=wds cur++dX K
 vc:∃ d,vds cur d
 ok:∀ F∈K,∃ d,vds F.rest d
 n:S.n<=2000
 ps:S.ps.length<=400
 rs:fin cur K S=R
def mu(S:kg)(K:List Fk):Nat:=(2001-S.n)*3000+K.length
theorem Cfg.kl{ws:AH}{fs:Ak}{K:Ai}(c:Cfg ws i fs cur K S R)(h:ws.length<=2500):fs.length<=2500/\K.length<=2500:=by
 have:=ybm List.length c.dw;rw[zbe,za7]at this;have h2:=jj K;have h3:=c.mt.len;omega
theorem BY(i:∀ kv∈kvs,Itm H kv)(h:y∉bv):kB kvs (Sum.inr y)=none:=by
 cases e:kB kvs (Sum.inr y) with
 | none=>rfl
 | some v =>
  unfold kB at e;obtain⟨kv,h1,h2⟩:=Option.map_eq_some_iff.mp e;have hm:=yde h1;have hk:=List.find?_some h1;obtain⟨wd,q,e,hw,_⟩:=i kv hm;rw[e]at hk;have:(Sum.inr wd:Key)=Sum.inr y:=by simpa using hk
  cases this;exact absurd hw h
theorem dA{ws:AH}(h:ws.drop i=y::r):ws[i]?=some y/\ws.drop (i+1)=r:=by
 constructor
 ·have:=ybm List.head? h
  rw[List.head?_drop]at this;exact this
 ·rw[<- List.drop_drop,h]
  rfl
theorem way8{a:Int}(h:lG a b=some x):x∈bv/\kZ x=(a,b):=by
 have hm:=gL h;simp only[cM,za0,zad,yaw]at hm;rcases hm with hm | hm | hm | hm | hm | hm | hm | hm<;>cases hm<;>exact⟨by decide +kernel,by decide +kernel⟩
section
variable{P:AF}{w:AJ}{K:A2}{mg:A5}{base:AO}
def uR:Sp:=λvs H Q _=>∃ (W:Addr) (i:Nat) (ws:List Str) (x L O:Addr) (H0:Hp) (fs:List Of) (S:kg) (cur:List Sk) (Kf:List Fk) (R:Res),vs=[.ref W,.int (i:Int),.ref O,.ref x]/\H0 W=some (.lst (ws.map V.str))/\ws.length<=2500/\DuI H0 H x L O fs S ""/\Cfg ws i fs cur Kf S R/\¬ (cur=[]/\Kf=[]) /\
 (∀ (j:Nat) fs' cur' K' S' H',DuI H0 H' x L O fs' S' ""->Cfg ws j fs' cur' K' S' R->mu S' K'<mu S Kf->Q (.int (j:Int)) H') /\
 (∀ (j:Nat) fs' S' td H',DuI H0 H' x L O fs' S' td->((2000<S'.n/\R=.many)\/(S'.n<=2000/\td≠""/\td=word R/\∀ S0,R≠.ok S0))->Q (.int (j:Int)) H')
theorem qQ:az ["_law_words","_law_at","_law_open_ones","_law_state","_law_word","_law_far_here"] ["_law_words","_law_at","_law_open_ones","_law_state"] (aj sq):=fsk (by decide +kernel)
theorem Ed{f:AA}{fd:AG}(D:Df K mg "_law_step" sq f fd)(B:Blt mg)
  (DE:Df K mg "_law_ended" mZ fE fdE) (bE:ar K fdE ["_law_at","_law_open_ones","_law_state"] []) (GE:ke P w K mg base CX0 1 fE fdE ["_law_at","_law_open_ones","_law_state"] wQ)
  (DG:Df K mg "_law_gone" sm fG fdG) (bG:ar K fdG ["_law_x","_law_y","_law_draws","_law_open_ones","_law_state"] []) (GG:ke P w K mg base CX0 2 fG fdG ["_law_x","_law_y","_law_draws","_law_open_ones","_law_state"] BU)
  (DO:Df K mg "_law_opened" iN fO fdO) (bO:ar K fdO ["_law_words","_law_at","_law_open_ones","_law_state"] []) (GO:ke P w K mg base CX0 1 fO fdO ["_law_words","_law_at","_law_open_ones","_law_state"] nY)
  (DY:Df K mg "_law_ways" pf fY fdY) (bY:ar K fdY [] []) (GY:ke P w K mg base CX0 2 fY fdY [] qL):ke P w K mg base CX0 3 f fd ["_law_words","_law_at","_law_open_ones","_law_state"] uR:=by
 refine D.F.ok qQ (λvs H Q E h=>?_) (λcdv A outer s H vs Q E hr h=>?_)
 ·obtain⟨W,i,ws,x,L,O,H0,fs,S,cur,Kf,R,rfl,_⟩:=h
  rfl
 ·obtain⟨W,i,ws,x,L,O,H0,fs,S,cur,Kf,R,rfl,eW0,wl,I,cf,ne,ka,kb⟩:=h
  have hu:=hr.units;have hu2:(A.deeper (envOfC "_law_step" (aj sq) s.heap.objs.size f cdv)).units+1<cLine:=by lia
  have hr1:ki 1 _:=hr.mono (by decide);refine⟨_,(aa (ay (i:=4) qQ.nd rfl (Or.inl rfl) (aD aL (pv 0) (pv 1) (λ_ _=>rfl)))
   (aa (aK (ap aX (pv 4) ag (au _)) (ae (av (pec GE hr1 rfl DE.m DE.F.kp bE .nil aF (pac (pv 1) (pac (pv 2) (pac (pv 3) a9)))))) ax)
   (aa (d5 hu2 (pv 3) ag (aq aW (bw hu2 (pv 3) ag (λ_ _=>rfl)) ad) rfl)
   (aa (aK (ap aX (pv 4) ag (au _)) (aa (d5 hu2 (pv 3) ag (aD aL (pv 0) (aq aW (pv 1) ad) (λ_ _=>rfl)) rfl)
   (ae (av (aq aW (pv 1) ad)))) ax)
   (aa (aK (PW.pt (dZ (EU (F7 hu2 (pv 4) (iT GY hr rfl DY.m DY.F.kp bY .nil aF))) (dZ (ap aX (pv 4) ag (au _)) (f6 (ap aX (pv 4) ag (au _)))))) (aa (ay (i:=5) qQ.nd rfl (Or.inl rfl) (z4 hu2 (iT GY hr rfl DY.m DY.F.kp bY .nil aF) (pv 4) ⟨by rfl,by rfl,by rfl,by rfl⟩))
   (aa (aK (ap yK (pv 5) tz (au _)) (ae (ay (i:=5) qQ.nd rfl (Or.inl rfl) (aI (pac (b8 eT (by rfl) B.int yd4 (pac (aD aL (pv 0) (aq aW (pv 1) ad) (λ_ _=>rfl)) a9)) (pac (b8 eT (by rfl) B.int yd4 (pac (aD aL (pv 0) (aq aW (pv 1) ad) (λ_ _=>rfl)) a9)) a9))))) ax)
   (aa (aK (ap iW (bw hu2 (pv 3) ag (λ_ _=>rfl)) ad (au _)) (ae (aR (pec GG hr rfl DG.m DG.F.kp bG .nil aF (pac (aD aM (pv 5) ad (λ_ _=>rfl)) (pac (aD aM (pv 5) ad (λ_ _=>rfl)) (pac (cU ie (pv 4) ag (au _)) (pac (pv 2) (pac (pv 3) a9)))))))) ax)
   (ae (av (aq aW (aq aW (pv 1) ad) (aq dR ad (b8 i8 (by rfl) B.int yd4 (pac (ET (xp hu2 (pv 4) (iT GY hr rfl DY.m DY.F.kp bY .nil aF))) a9))))))))) ax)
   (ae (av (pec GO hr1 rfl DO.m DO.F.kp bO .nil aF (pac (pv 0) (pac (pv 1) (pac (pv 2) (pac (pv 3) a9)))))))))))),?_⟩
  have eW:∀ {H'},kf H0 H'->SqL K H' W (ws.map V.str):=λs=>SqL.of (s _ _ eW0)
  have ai:∀ {j:Nat} {v:AL},ws[j]?=some v->atI (ws.map V.str) (j:Int)=some (V.str v):=λh=>fj (by rw[zan,h];rfl)
  obtain⟨fl,kl⟩:=cf.kl wl;cases cur with
  | nil =>
   cases Kf with
   | nil=>exact absurd ⟨rfl,rfl⟩ ne
   | cons F Kf =>
   have dw:ws.drop i=(")":AL)::(wds F.rest++dX Kf):=cf.dw;obtain⟨gi,d1⟩:=dA dw;have okF:=cf.ok F za1;have okK:∀ G∈Kf,∃ d,vds G.rest d:=λG hG=>cf.ok G (za3 _ hG)
   have rs:=cf.rs;refine⟨_,rfl,_,rfl,W,_,_,_,rfl,rfl,eW I.sub,ai gi,?_⟩;refine⟨_,rfl,rfl,_,rfl,aw (yab rfl) ?_⟩;have mk0:∀ (S':kg),S'.n=S.n->mu S' Kf<mu S (F::Kf):=λS' h=>by unfold mu;rw[h,za2];lia
   have mt:=cf.mt;generalize hT:S.t=T at mt;cases mt with
   | @back g fs' _ _ r h1 h2 h =>
    refine⟨_,rfl,_,rfl,_,rfl,i,x,L,O,H0,g,fs',S,rfl,I,λm e=>absurd (h1.symm.trans e) (by decide +kernel),λ_ H' I'=>?_⟩;rw[yad h1]at I';exact ka (i+1) fs' r Kf _ H' I' ⟨by rw[hT];exact h,d1,okF,okK,cf.n,cf.ps,by rw[<- yu];exact rs⟩ (mk0 _ rfl)
   | @turn g fs' _ t k r h1 h2 h3 h =>
    refine⟨_,rfl,_,rfl,_,rfl,i,x,L,O,H0,g,fs',S,rfl,I,λm e=>absurd (h1.symm.trans e) (by decide +kernel),λ_ H' I'=>?_⟩;rw[yac (by rw[h1];decide +kernel)]at I';exact ka (i+1) fs' r Kf _ H' (I'.tt t) ⟨h,d1,okF,okK,cf.n,cf.ps,by rw[<- yv];exact rs⟩ (mk0 _ rfl)
   | @times g fs' _ _ m b r h1 h2 h3 h4 h5 h =>
    refine⟨_,rfl,_,rfl,_,rfl,i,x,L,O,H0,g,fs',S,rfl,I,λm' _ e H' I'=>?_,λhn H' I'=>?_⟩
    ·have em:m=m'+1:=by lia
     subst em;rw[uQ]at rs;by_cases big:2000<=S.n
     ·rw[yad big]at rs
      exact kb g.st _ _ _ H' I' (.inl ⟨by show 2000<S.n+1;lia,rs.symm⟩)
     ·rw[yac big]at rs
      refine ka g.st _ b (.times m' b r::Kf) _ H' I' ⟨by show Mt ws _ _ S.t;rw[hT];exact .times h1 h2 rfl h4 h5 h,h4,h5,?_,by show S.n+1<=2000;lia,cf.ps,rs⟩ ?_
      ·intro G hG
       rcases za0.mp hG with rfl | hG
       ·exact okF
       ·exact okK G hG
      ·unfold mu
       show(2001-(S.n+1))*3000+_<_;rw[za2,za2]
       grind
    ·have em:m=0:=by
      cases m with
      | zero=>rfl
      | succ m=>exact absurd ⟨h1,by lia⟩ hn
     subst em;rw[yac (by rw[h1];decide +kernel)]at I';exact ka (i+1) fs' r Kf _ H' I' ⟨by rw[hT];exact h,d1,okF,okK,cf.n,cf.ps,by rw[<- t4];exact rs⟩ (mk0 _ rfl)
  | cons st rest =>
   obtain⟨y,r,ey,ny⟩:=sI st;have vst:∃ d,st.vd d:=by obtain⟨d,h⟩:=cf.vc;simp only[vds]at h;exact⟨d,h.1⟩
   have vre:∃ d,vds rest d:=by obtain⟨d,h⟩:=cf.vc;simp only[vds]at h;exact⟨d,h.2⟩
   have dw:ws.drop i=y::(r++(wds rest++dX Kf)):=by
    rw[cf.dw];simp only[wds,ey,zah,zb1]
   obtain⟨gi,d1⟩:=dA dw;have rs:=cf.rs;refine⟨_,rfl,_,rfl,W,_,_,_,rfl,rfl,eW I.sub,ai gi,?_⟩;refine⟨_,rfl,rfl,_,rfl,ah (yaa λe=>ny (by injection e)) ?_⟩;obtain⟨q,ex,tq⟩:=I.st.ex;refine⟨_,rfl,x,_,rfl,dS ex,_,_,rfl,rfl,_,rfl,x,_,rfl,nV ex,?_⟩;have I1:=I.begun ex tq;revert I1;generalize (upd H x (.dK (kvS q L { S with n:=S.n+1 } "")))=H1;intro I1;clear ex tq;have mus:∀ (S':kg) (K':Ai),S.n+1<=S'.n->S'.n<=2000->K'.length<=Kf.length+1->mu S' K'<mu S Kf:=λS' K' h1 h2 h3=>by unfold mu;grind
   rcases Classical.em (∃ (dr:Bool) (a b:Int),((y∈bv/\kZ y=(a,b)/\dr=true/\r=[])\/(y=(if dr=true then ("line":AL) else "by")/\r=[nT a,nT b]))/\a.natAbs<10 ^ 10/\b.natAbs<10 ^ 10/\(∀ S1,stR st S1=goR dr S1 a b)) with ⟨dr,a,b,hy,ha,hb,es⟩ | hno
   ·skip
    have n1:y≠"ink":=by
     rcases hy with ⟨h,_⟩ | ⟨h,_⟩
     ·intro e;rw[e]at h;exact absurd h (by decide +kernel)
     ·rw[h];cases dr<;>decide +kernel
    have wdec:∀ {H':Hp} {kvs:Ae},(∀ x∈bv,GoodW H' kvs x)->(∀ kv∈kvs,Itm H' kv)->(r=[]/\dr=true/\∃ q,kB kvs (Sum.inr y)=some (.ref q)/\two H' q (a,b))\/(r=[nT a,nT b]/\y=(if dr=true then ("line":AL) else "by")/\kB kvs (Sum.inr y)=none):=fun {H' kvs} g ik=>by
     rcases hy with ⟨h1,h2,h3,h4⟩ | ⟨h1,h2⟩
     ·obtain⟨q,e1,e2⟩:=g y h1
      rw[h2]at e2;exact .inl ⟨h4,h3,q,e1,e2⟩
     ·exact .inr ⟨h2,h1,BY ik (by rw[h1];cases dr<;>decide +kernel)⟩
    refine⟨_,rfl,rfl,_,rfl,ah (yaa λe=>n1 (by injection e)) ?_⟩;refine' bz (λσ H2=>σ=[some (.ref W),some (.int (i:Int)),some (.ref O),some (.ref x),some (.str y),none]/\kf H1 H2) (λfin=>_) _
    rotate_left
    ·refine⟨_,rfl,rfl,λd kvs H2 S2 ed gd ik kl=>?_⟩
     rcases wdec gd ik with ⟨_,_,q,ev,_⟩ | ⟨_,hy1,ev⟩
     ·refine⟨d,some (.ref q),rfl,?_,_,rfl,kH (kH (fin _ _ ⟨rfl,S2⟩))⟩
      have:=kK.k (k:=Sum.inr y) ed;rw[ev]at this;exact this
     ·refine⟨d,none,rfl,?_,_,rfl,kr ?_⟩
      ·have:=kK.k (k:=Sum.inr y) ed
       rw[ev]at this;exact this
      refine⟨_,rfl,rfl,_,rfl,?_⟩;cases dr with
      | true=>exact aw (yab (by rw[hy1];rfl)) (kH (fin _ _ ⟨rfl,S2⟩))
      | false =>
       refine ah (by rw[hy1];decide +kernel) ⟨_,rfl,rfl,_,rfl,aw (yab (by rw[hy1];rfl)) (fin _ _ ⟨rfl,S2⟩)⟩
    rintro σ H2 ⟨rfl,S2⟩;refine' bz (λσ H3=>∃ qf,σ=[some (.ref W),some (.int (i:Int)),some (.ref O),some (.ref x),some (.str y),some (.ref qf)]/\kf H1 H3/\two H3 qf (a,b)) (λfin=>_) _
    rotate_left
    ·refine⟨rfl,λd kvs H3 S3 ed gd ik kl=>?_⟩
     have S13:=S2.trans S3;rcases wdec gd ik with ⟨_,_,q,ev,tq⟩ | ⟨er,_,ev⟩
     ·refine⟨d,rfl,.inl ⟨_,.inl ed⟩,_,rfl,some (.ref q),?_,?_⟩
      ·have:=kK.k (k:=Sum.inr y) ed
       rw[ev]at this;exact this
      exact⟨_,rfl,rfl,_,rfl,ah (yaa (λe=>by cases e)) (fin _ _ ⟨q,rfl,S13,tq⟩)⟩
     ·refine⟨d,rfl,.inl ⟨_,.inl ed⟩,_,rfl,none,?_,?_⟩
      ·have:=kK.k (k:=Sum.inr y) ed
       rw[ev]at this;exact this
      have d1':=d1;rw[er]at d1';obtain⟨g1,d2⟩:=dA d1';obtain⟨g2,d3⟩:=dA d2;obtain⟨a1,a2⟩:=cj ha;obtain⟨b1,b2⟩:=cj hb;have I3:=I1.same S13;refine⟨_,rfl,rfl,_,rfl,aw (yab rfl) ?_⟩;refine⟨_,rfl,_,rfl,_,_,rfl,rfl,W,_,_,_,rfl,rfl,eW I3.sub,ai g1,_,_,rfl,a1,a2,_,rfl,_,rfl,_,_,rfl,rfl,W,_,_,_,rfl,rfl,eW I3.sub,ai g2,_,_,rfl,b1,b2,szr rfl,λqf nq=>?_⟩;exact fin _ _ ⟨qf,rfl,S13.trans (af nq),a8⟩
    rintro σ H3 ⟨qf,rfl,S3,tf⟩;have I3:=I1.same S3;have dj:ws.drop (i+1+r.length)=wds rest++dX Kf:=by
     rw[<- List.drop_drop,d1];exact List.drop_left ..
    refine' bz (λσ H4=>σ=[some (.ref W),some (.int (i:Int)),some (.ref O),some (.ref x),some (.str y),some (.ref qf)]/\∃ S4 td,DuI H0 H4 x L O fs S4 td/\((td=""/\Cfg ws (i+1+r.length) fs rest Kf S4 R/\mu S4 Kf<mu S Kf)\/((2000<S4.n/\R=.many)\/(S4.n<=2000/\td≠""/\td=word R/\∀ S0,R≠.ok S0)))) (λfin=>_) _
    rotate_left
    ·obtain⟨q3,ex3,tq3⟩:=I3.st.ex
     refine⟨_,rfl,x,_,rfl,dS ex3,_,_,rfl,rfl,_,rfl,?_⟩;by_cases big:2000<=S.n
     ·rw[gE big]at rs
      exact ah (yaa (by show ¬ ((S.n+1:Nat):Int)<=2000;lia)) (fin _ _ ⟨rfl,_,_,I3,.inr (.inl ⟨by show 2000<S.n+1;lia,rs.symm⟩)⟩)
     ·refine aw (yab (by show((S.n+1:Nat):Int)<=2000;lia)) ?_
      have hdr:(!decide (V.str y=V.str "by"))=dr:=by
       rcases hy with ⟨h1,_,h3,_⟩ | ⟨h1,_⟩
       ·rw[h3,yaa λe=>by injection e with e;rw[e]at h1;exact absurd h1 (by decide +kernel)]
        rfl
       ·rw[h1]
        cases dr<;>decide +kernel
      refine⟨_,rfl,qf,_,_,_,rfl,rfl,SqT.of tf,rfl,_,rfl,qf,_,_,_,rfl,rfl,SqT.of tf,rfl,_,rfl,rfl,_,rfl,_,rfl,a,b,dr,x,L,O,H0,fs,{ S with n:=S.n+1 },by show [V.int a,V.int b,V.bl (!decide (V.str y=V.str "by")),V.ref O,V.ref x]=_;rw[hdr],I3,cf.mt.ways,cf.ps,fl,λH4 S4 I4 h4 n4=>?_⟩;rw[nX big,es]at rs;cases hR:goR dr { S with n:=S.n+1 } a b with
      | ok S5 =>
       have e5:=h4 S5 hR;subst e5;rw[hR]at I4 rs;have kp:Kp { S with n:=S.n+1 } (goR dr { S with n:=S.n+1 } a b):=by rw[<- es];exact Bd _ _
       obtain⟨t1,p1⟩:=kp _ hR;have n5:S5.n=S.n+1:=n4;refine fin _ _ ⟨rfl,S5,"",I4,.inl ⟨rfl,⟨by rw[t1];exact cf.mt,dj,vre,cf.ok,by lia,p1 cf.ps,rs⟩,mus _ _ (by lia) (by omega) (by lia)⟩⟩
      | many =>
       rw[hR]at I4 rs;refine fin _ _ ⟨rfl,S4,"many",I4,.inr (.inr ⟨by rw[n4];show S.n+1<=2000;lia,by decide +kernel,by rw[<- rs];rfl,λS0 e=>by rw[<- rs]at e;cases e⟩)⟩
      | hole =>
       rw[hR]at I4 rs;refine fin _ _ ⟨rfl,S4,"hole",I4,.inr (.inr ⟨by rw[n4];show S.n+1<=2000;omega,by decide +kernel,by rw[<- rs];rfl,λS0 e=>by rw[<- rs]at e;cases e⟩)⟩
    rintro σ H4 ⟨rfl,S4,td,I4,out⟩;refine⟨_,rfl,_,_,rfl,rfl,_,rfl,rfl,λd kvs H5 S5 ed gd ik kl=>?_⟩;have I5:=I4.same S5;have fin5:Q (.int ((i+1+r.length:Nat):Int)) H5:=by
     rcases out with ⟨rfl,c5,m5⟩ | out
     ·exact ka _ fs rest Kf S4 H5 I5 c5 m5
     ·exact kb _ fs S4 td H5 I5 out
    rcases wdec gd ik with ⟨er,_,q,ev,_⟩ | ⟨er,_,ev⟩
    ·refine⟨d,some (.ref q),rfl,?_,_,rfl,_,_,rfl,rfl,.inl ⟨by decide,by decide⟩,_,_,rfl,rfl,?_⟩
     ·have:=kK.k (k:=Sum.inr y) ed
      rw[ev]at this;exact this
     ·rw[er]at fin5
      exact fin5
    ·refine⟨d,none,rfl,?_,_,rfl,_,_,rfl,rfl,.inl ⟨by decide,by decide⟩,_,_,rfl,rfl,?_⟩
     ·have:=kK.k (k:=Sum.inr y) ed
      rw[ev]at this;exact this
     ·rw[er]at fin5
      exact fin5
   rcases Classical.em (y≠"ink"/\y∉bv/\y≠"line"/\y≠"by"/\∀ H2,kf H1 H2->nY [.ref W,.int (i:Int),.ref O,.ref x] H2 Q E0) with ⟨n1,n2,n3,n4,h⟩ | hn2
   ·refine⟨_,rfl,rfl,_,rfl,ah (yaa λe=>n1 (by injection e)) ?_⟩
    refine⟨_,rfl,rfl,λd kvs H2 S2 ed gd ik kl=>?_⟩;refine⟨d,none,rfl,?_,_,rfl,kr ?_⟩
    ·have:=kK.k (k:=Sum.inr y) ed
     rw[BY ik n2]at this;exact this
    refine⟨_,rfl,rfl,_,rfl,ah (yaa λe=>n3 (by injection e)) ?_⟩;refine⟨_,rfl,rfl,_,rfl,ah (yaa λe=>n4 (by injection e)) ?_⟩;exact⟨_,rfl,_,rfl,_,rfl,_,rfl,h H2 S2⟩
   obtain⟨dv,vst⟩:=vst;cases st with
   | line l a b =>
    exfalso;simp only[Sk.vd]at vst;have ha:a.natAbs<10 ^ 10:=by omega
    have hb:b.natAbs<10 ^ 10:=by omega
    have es:∀ S1,stR (.line l a b) S1=goR true S1 a b:=λS1=>by simp only[stR];rw[goR,yad rfl]
    have long:(Sk.line l a b).wd=[("line":AL),nT a,nT b]->False:=λh=>by
     rw[ey]at h;injection h with h1 h2
     exact hno ⟨true,a,b,.inr ⟨h1,h2⟩,ha,hb,es⟩
    cases l with
    | true=>exact long (by simp only[Sk.wd,lnW])
    | false =>
     cases ew:lG a b with
     | none=>exact long (by simp only[Sk.wd,lnW];exact cZ ew)
     | some z =>
      have h:(Sk.line false a b).wd=[z]:=by simp only[Sk.wd,lnW];exact cH ew
      rw[ey]at h;injection h with h1 h2
      obtain⟨w1,w2⟩:=way8 ew;exact hno ⟨true,a,b,.inl ⟨by rw[h1];exact w1,by rw[h1];exact w2,rfl,h2⟩,ha,hb,es⟩
   | by_ a b =>
    exfalso;simp only[Sk.vd]at vst;have h:(Sk.by_ a b).wd=[("by":AL),nT a,nT b]:=by simp only[Sk.wd]
    rw[ey]at h;injection h with h1 h2
    exact hno ⟨false,a,b,.inr ⟨h1,h2⟩,by omega,by omega,λS1=>by simp only[stR];rw[goR,yac (by decide)]⟩
   | ink c =>
    have h:(Sk.ink c).wd=[("ink":AL),c]:=by simp only[Sk.wd]
    rw[ey]at h;injection h with h1 h2
    subst h1 h2;obtain⟨g1,d2⟩:=dA d1;obtain⟨q1,ex1,tq1⟩:=I1.st.ex;refine⟨_,rfl,rfl,_,rfl,aw (yab rfl) ?_⟩;refine⟨_,rfl,_,rfl,_,_,rfl,rfl,W,_,_,_,rfl,rfl,eW I1.sub,ai g1,_,rfl,x,_,rfl,pL c ex1,?_⟩;have I2:=I1.BV (c:=c) ex1 tq1;refine⟨_,rfl,_,_,rfl,rfl,?_⟩;by_cases big:2000<=S.n
    ·rw[gE big]at rs
     exact kb (i+2) _ _ _ _ I2 (.inl ⟨by show 2000<S.n+1;lia,rs.symm⟩)
    ·rw[nX big]at rs
     simp only[stR]at rs;exact ka (i+2) fs rest Kf _ _ I2 ⟨cf.mt,d2,vre,cf.ok,by show S.n+1<=2000;lia,cf.ps,rs⟩ (mus _ _ (za5 _) (by show S.n+1<=2000;omega) (by lia))
   | back u =>
    exfalso;simp only[Sk.vd]at vst;have h:(Sk.back u).wd=("(":AL)::(wds u++[(")":AL)]):=by simp only[Sk.wd]
    rw[ey]at h;injection h with h1 h2
    subst h1 h2;refine hn2 ⟨by decide +kernel,by decide +kernel,by decide +kernel,by decide +kernel,λH2 S2=>?_⟩;refine⟨W,i,ws,"(",x,L,O,H0,fs,{ S with n:=S.n+1 },rfl,eW0,gi,I1.same S2,fl,λ_ g H' I' e1 e2 e3 e4=>?_,λe=>absurd e (by decide +kernel),λe=>absurd rfl e⟩;by_cases big:2000<=S.n
    ·rw[gE big]at rs
     exact kb (i+1) _ _ _ _ I' (.inl ⟨by show 2000<S.n+1;lia,rs.symm⟩)
    ·rw[BR big]at rs
     have eF:Fk.back S.p S.c rest=Fk.back g.p g.c rest:=by rw[e3,e4]
     rw[eF]at rs;refine ka (i+1) (g::fs) u (.back g.p g.c rest::Kf) _ H' I' ⟨.back e1 e2 cf.mt,?_,?_,?_,by show S.n+1<=2000;lia,cf.ps,rs⟩ (mus _ _ (za5 _) (by show S.n+1<=2000;omega) (za5 _))
     ·rw[d1]
      simp only[dX,Fk.rest,zah,zb1,zbd]
     ·obtain⟨_,e,_,hv⟩:=vst
      exact⟨e,hv⟩
     ·intro G hG
      rcases za0.mp hG with rfl | hG
      ·exact vre
      ·exact cf.ok G hG
   | turn k u =>
    exfalso;simp only[Sk.vd]at vst;have h:(Sk.turn k u).wd=("turn":AL)::nT (k:Int)::("(":AL)::(wds u++[(")":AL)]):=by simp only[Sk.wd]
    rw[ey]at h;injection h with h1 h2
    subst h1 h2;have d1:ws.drop (i+1)=nT (k:Int)::("(":AL)::(wds u++(")":AL)::(wds rest++dX Kf)):=by rw[d1];simp
    obtain⟨g1,d2⟩:=dA d1;obtain⟨g2,d3⟩:=dA d2;refine hn2 ⟨by decide +kernel,by decide +kernel,by decide +kernel,by decide +kernel,λH2 S2=>?_⟩;refine⟨W,i,ws,"turn",x,L,O,H0,fs,{ S with n:=S.n+1 },rfl,eW0,gi,I1.same S2,fl,λe=>absurd e (by decide +kernel),λ_=>⟨k,vst.1,g1,λg H' I' e1 e2=>?_⟩,λ_ e=>absurd rfl e⟩;by_cases big:2000<=S.n
    ·rw[gE big]at rs
     exact kb (i+3) _ _ _ _ I' (.inl ⟨by show 2000<S.n+1;lia,rs.symm⟩)
    ·rw[BS big]at rs
     refine ka (i+3) (g::fs) u (.turn S.t rest::Kf) _ H' (I'.tt (kP k S.t)) ⟨.turn e1 e2 vst.1 cf.mt,?_,?_,?_,by show S.n+1<=2000;lia,cf.ps,rs⟩ (mus _ _ (za5 _) (by show S.n+1<=2000;omega) (za5 _))
     ·exact d3
     ·obtain⟨_,_,e,_,hv⟩:=vst
      exact⟨e,hv⟩
     ·intro G hG
      rcases za0.mp hG with rfl | hG
      ·exact vre
      ·exact cf.ok G hG
   | times m u =>
    exfalso;simp only[Sk.vd]at vst;have h:(Sk.times m u).wd=nT (m:Int)::("times":AL)::("(":AL)::(wds u++[(")":AL)]):=by simp only[Sk.wd]
    rw[ey]at h;injection h with h1 h2
    subst h1 h2;have d1:ws.drop (i+1)=("times":AL)::("(":AL)::(wds u++(")":AL)::(wds rest++dX Kf)):=by rw[d1];simp
    obtain⟨g1,d2⟩:=dA d1;obtain⟨g2,d3⟩:=dA d2;have n8:nT (m:Int)∉bv:=λhm=>by
     simp only[bv,za0,zad,yaw]at hm;rcases hm with hm | hm | hm | hm | hm | hm | hm | hm<;>exact absurd hm (cG rfl)
    refine hn2 ⟨cG rfl,n8,cG rfl,cG rfl,λH2 S2=>?_⟩;refine⟨W,i,ws,nT (m:Int),x,L,O,H0,fs,{ S with n:=S.n+1 },rfl,eW0,gi,I1.same S2,fl,λe=>absurd e (cG rfl),λe=>absurd e (cG rfl),λ_ _=>⟨m,rfl,vst.2.1,λg H' I' e1 e2 e3 e4=>?_⟩⟩;obtain⟨m',rfl⟩:∃ m',m=m'+1:=⟨m-1,by grind⟩;have dg:ws.drop g.st=wds u++(")":AL)::(wds rest++dX Kf):=by
     rw[e4];exact d3
    have vu:∃ d,vds u d:=by
     obtain⟨_,_,_,e,_,hv⟩:=vst;exact⟨e,hv⟩
    have kbig:2000<=S.n+1->R=.many:=λh=>by
     by_cases big:2000<=S.n
     ·rw[gE big]at rs
      exact rs.symm
     ·rw[pM big,yad h]at rs
      exact rs.symm
    by_cases big:2000<=S.n+1
    ·exact kb (i+3) _ _ _ _ I' (.inl ⟨by show 2000<S.n+1+1;lia,kbig big⟩)
    ·rw[pM (by lia),yac big]at rs
     refine ka (i+3) (g::fs) u (.times m' u rest::Kf) _ H' I' ⟨.times e1 e2 e3 dg vu cf.mt,by rw[<- e4];exact dg,vu,?_,by show S.n+1+1<=2000;lia,cf.ps,rs⟩ (mus _ _ (by show S.n+1<=S.n+1+1;lia) (by show S.n+1+1<=2000;omega) (za5 _));intro G hG;rcases za0.mp hG with rfl | hG
     ·exact vre
     ·exact cf.ok G hG
def BZ:Sp:=λvs H Q _=>∃ (W:Addr) (u:List Sk),vs=[.ref W]/\H W=some (.lst ((wds u).map V.str))/\(∃ d,vds u d)/\(wds u).length<=2500/\Outs H Q u
theorem t5:az ["_law_words","_law_state","_law_open_ones","_law_at"] ["_law_words"] (aj Ax):=fsk (by decide +kernel)
theorem G5{f:AA}{fd:AG}(D:Df K mg "_law_due" Ax f fd)(B:Blt mg)
  (DD:Df K mg "_law_step" sq fD fdD) (bD:ar K fdD ["_law_words","_law_at","_law_open_ones","_law_state"] []) (GD:ke P w K mg base CX0 3 fD fdD ["_law_words","_law_at","_law_open_ones","_law_state"] uR)
  (DP:Df K mg "_law_picture" qq fP fdP) (bP:ar K fdP ["_law_pairs"] []) (GP:ke P w K mg base CX0 2 fP fdP ["_law_pairs"] wB):ke P w K mg base CX0 4 f fd ["_law_words"] BZ:=by
 refine D.F.ok t5 (λvs H Q E h=>?_) (λcdv A outer s H vs Q E hr h=>?_)
 ·obtain⟨W,u,rfl,_⟩:=h
  rfl
 ·obtain⟨W,u,rfl,eW,vu,wl,k3,k4,kk⟩:=h
  have hu:=hr.units;have hu2:(A.deeper (envOfC "_law_due" (aj Ax) s.heap.objs.size f cdv)).units+1<cLine:=by lia
  have hr2:ki 2 _:=hr.mono (by decide);refine⟨_,(aa (ay (i:=1) t5.nd rfl (Or.inl rfl) (vh (cS ag (aI (pac (ad) (pac (ad) a9))) (cS ag ag (cS ag (aZ a9) (cS ag ad (cS ag ag vg))))) rfl rfl (by simp) (by show 5<=15;decide)))
   (aa (ay (i:=2) t5.nd rfl (Or.inl rfl) (aZ a9))
   (aa (ay (i:=3) t5.nd rfl (Or.inl rfl) ad)
   (aa (ma ybc (ap mf (pv 3) (aE bn (by rfl) B.len ybe (pac (pv 0) a9)) (au _)) (aa (ay (i:=3) t5.nd rfl (Or.inl rfl) (pec GD hr rfl DD.m DD.F.kp bD .nil aF (pac (pv 0) (pac (pv 3) (pac (pv 2) (pac (pv 1) a9))))))
   (aa (aK (ap eP (bw hu2 (pv 1) ag (λ_ _=>rfl)) ad (au _)) (ae (av ag)) ax)
   (ae (aK (ap ie (bw hu2 (pv 1) ag (λ_ _=>rfl)) ag (au _)) (ae (av (bw hu2 (pv 1) ag (λ_ _=>rfl)))) ax)))))
   (ae (av (pec GP hr2 rfl DP.m DP.F.kp bP .nil aF (pac (bw hu2 (pv 1) ag (λ_ _=>rfl)) a9)))))))),?_⟩
  refine λx nx=>⟨szr rfl,λq mq=>⟨szr rfl,λL mL=>⟨?_,kvS q L S00 "",rfl,by show 5<=15;decide,?_⟩⟩⟩
  ·exact((af mq).trans (af mL)) _ _ a8
  have Tx:=af (o:=HO.dK []) nx;have Tq:=af (o:=HO.tup [V.int 0,.int 0]) mq;have TL:=af (o:=HO.lst []) mL;have nL:=aH (Tx.trans Tq) mL;have S1:kf H (upd (upd (upd (upd H x (.dK [])) q (.tup [V.int 0,.int 0])) L (.lst [])) x (.dK (f7 [] (kvS q L S00 "")))):=ao (Tx.trans (Tq.trans TL)) nx;have nqx:q≠x:=λe=>by rw[e,a8]at mq;cases mq
  have nLx:L≠x:=λe=>by rw[e,Tq _ _ a8]at mL;cases mL
  have nLq:L≠q:=λe=>by rw[e,a8]at mL;cases mL
  have st1:StI (upd (upd (upd (upd H x (.dK [])) q (.tup [V.int 0,.int 0])) L (.lst [])) x (.dK (f7 [] (kvS q L S00 "")))) x L S00 "":=by
   refine⟨⟨q,a8,?_⟩,⟨[],?_,.nil⟩⟩
   ·show(upd _ x _) q=_
    rw[am nqx,am (yav nLq),a8];rfl
   ·rw[am nLx,a8]
  revert S1 st1;generalize (upd (upd (upd (upd H x (.dK [])) q (.tup [V.int 0,.int 0])) L (.lst [])) x (.dK (f7 [] (kvS q L S00 ""))))=H1;intro S1 st1;refine⟨szr rfl,λO nO=>?_⟩;have TO:=af (o:=HO.lst []) nO;have nOx:O≠x:=λe=>by
   obtain⟨q1,ex1,_⟩:=st1.ex;rw[e,ex1]at nO;cases nO
  have nOL:O≠L:=λe=>by
   obtain⟨us,eL,_⟩:=st1.pic;rw[e,eL]at nO;cases nO
  have I0:DuI H (upd H1 O (.lst [])) x L O [] S00 "":=by
   refine⟨S1.trans TO,λb hb=>?_,st1.same TO,a8,λg hg=>by simp at hg,?_,λg hg=>by simp at hg⟩
   ·simp only[ofE,zbs,za0,zad,yaw]at hb
    rcases hb with rfl | rfl | rfl
    ·exact nx
    ·exact nL
    ·exact aH S1 nO
   ·simp only[ofE,zbs,zak,za0,zad,yaw,not_or,not_false_eq_true,ycx,and_true]
    exact⟨⟨yav nLx,yav nOx⟩,yav nOL⟩
  revert I0;generalize (upd H1 O (.lst []))=H2;intro I0;have c0:Cfg (wds u) 0 [] u [] S00 (ko u S00):=⟨.nil,by rw[ydl];simp[dX],vu,λF hF=>by simp at hF,by decide,by decide,by unfold fin;exact wN _⟩;have b0:(ko u S00).bind (yt [])=ko u S00:=wN _;refine⟨λm σ H3=>∃ (i:Nat) (fs:Ak) (S:kg) (cur:Ad) (Kf:Ai),m=mu S Kf/\σ=[some (.ref W),some (.ref x),some (.ref O),some (.int (i:Int))]/\DuI H H3 x L O fs S ""/\Cfg (wds u) i fs cur Kf S (ko u S00),⟨_,0,[],S00,u,[],rfl,rfl,I0,c0⟩,?_⟩;rintro m σ H3 ⟨i,fs,S,cur,Kf,rfl,rfl,I,cf⟩;have eW3:H3 W=some (.lst ((wds u).map V.str)):=I.sub _ _ eW;refine⟨_,rfl,_,rfl,W,_,rfl,.inl (SqL.of eW3),_,_,rfl,rfl,_,rfl,?_⟩;have dl:=ybm List.length cf.dw;rw[zbe,za7]at dl;by_cases hlt:i<(wds u).length
  ·refine aw (yab (by rw[za4];show(i:Int)<((wds u).length:Int);lia)) ?_
   refine⟨_,λ_ _ h=>h,?_⟩;have ne:¬ (cur=[]/\Kf=[]):=λh=>by
    rw[h.1,h.2]at dl;have:(wds []).length+(dX []).length=0:=rfl
    grind
   refine⟨_,rfl,_,rfl,_,rfl,_,rfl,W,i,wds u,x,L,O,H,fs,S,cur,Kf,ko u S00,rfl,eW,wl,I,cf,ne,λj fs' cur' K' S' H' I' c' mm=>?_,λj fs' S' td H' I' out=>?_⟩
   ·obtain⟨q',ex',tq'⟩:=I'.st.ex
    refine⟨_,rfl,x,_,rfl,dS ex',_,_,rfl,rfl,_,rfl,ah (yaa (by show ¬ (S'.n:Int)>2000;have:=c'.n;lia)) ?_⟩;refine⟨_,rfl,x,_,rfl,qP ex',rfl,_,rfl,ah (by simp) ?_⟩;exact⟨_,mm,j,fs',S',cur',K',rfl,rfl,I',c'⟩
   ·obtain⟨q',ex',tq'⟩:=I'.st.ex
    rcases out with ⟨big,hm⟩ | ⟨small,htd,hw,hno⟩
    ·exact⟨_,rfl,x,_,rfl,dS ex',_,_,rfl,rfl,_,rfl,aw (yab (by show(S'.n:Int)>2000;lia)) (k3 hm _ I'.sub)⟩
    ·refine⟨_,rfl,x,_,rfl,dS ex',_,_,rfl,rfl,_,rfl,ah (yaa (by show ¬ (S'.n:Int)>2000;lia)) ?_⟩
     refine⟨_,rfl,x,_,rfl,qP ex',rfl,_,rfl,aw (by show(!decide (V.str td=V.str ""))=true;rw[yaa λe=>htd (by injection e)];rfl) ?_⟩;refine⟨_,rfl,x,_,rfl,qP ex',?_⟩;cases hR:ko u S00 with
     | many=>rw[hw,hR];exact k3 hR _ I'.sub
     | hole=>rw[hw,hR];exact k4 hR _ I'.sub
     | ok S0=>exact absurd hR (hno S0)
  ·refine ah (yaa (by rw[za4];show ¬ (i:Int)<((wds u).length:Int);lia)) ?_
   have e0:cur=[]/\Kf=[]:=by
    have h1:=eX cur;have h2:=jj Kf;exact⟨zaz (by lia),zaz (by lia)⟩
   obtain⟨rfl,rfl⟩:=e0;have rs:=cf.rs;rw[jb]at rs;have hR:ko u S00=.ok S:=rs.symm;obtain⟨c1,c2,c3⟩:=kk S hR;obtain⟨q',ex',tq'⟩:=I.st.ex;refine⟨_,rfl,x,_,rfl,ja ex',L,S.ps,rfl,I.st.pic,cf.ps,λt H' Sx=>c1 t H' (I.sub.trans Sx),λn g H' Sx=>c2 n g H' (I.sub.trans Sx),λn g l qs H' o=>c3 n g l qs H' ⟨I.sub.trans o.same,aH I.sub o.new,o.pic,o.nd,o.mem,o.rise⟩⟩
end
structure Sim(Rl:kg->kg->Prop):Prop where
 bg:∀ {S T},Rl S T->Rl { S with n:=S.n+1 } { T with n:=T.n+1 }
 line:∀ {S T S1 T1 a b},Rl S T->gr S a b=.ok S1->gr T a b=.ok T1->Rl S1 T1
 by_:∀ {S T S1 T1 a b},Rl S T->byR S a b=.ok S1->byR T a b=.ok T1->Rl S1 T1
 ink:∀ {S T c},Rl S T->Rl { S with c:=c } { T with c:=c }
 back:∀ {S T S2 T2},Rl S T->Rl S2 T2->Rl { S2 with p:=S.p,c:=S.c } { T2 with p:=T.p,c:=T.c }
 turn:∀ {S T k},k<8->Rl S T->Rl { S with t:=kP k S.t } { T with t:=kP k T.t }
 uS:∀ {S T S2 T2},Rl S T->Rl S2 T2->Rl { S2 with t:=S.t } { T2 with t:=T.t }
theorem cK{R:Res}{f:kg->Res}(h:R.bind f=.ok S):∃ S1,R=.ok S1/\f S1=.ok S:=by
 cases R with
 | ok S1=>exact⟨S1,rfl,h⟩
 | many=>cases h
 | hole=>cases h
theorem nZ{S:kg}(h:bg S f=.ok S'):f { S with n:=S.n+1 }=.ok S':=by
 unfold bg at h;split at h
 ·cases h
 ·exact h
theorem Sim.tm{Rl:kg->kg->Prop}(Z:Sim Rl){f:kg->Res}(hf:∀ {S T S' T'},Rl S T->f S=.ok S'->f T=.ok T'->Rl S' T'):∀ (m:Nat) {S T S' T':kg},Rl S T->tmR f m S=.ok S'->tmR f m T=.ok T'->Rl S' T'
 | 0,S,T,S',T',h,h1,h2=>by
  cases h1;cases h2;exact h
 | m+1,S,T,S',T',h,h1,h2=>by
  obtain⟨S1,a1,b1⟩:=cK h1;obtain⟨T1,a2,b2⟩:=cK h2;exact Sim.tm Z hf m (hf (Z.bg h) (nZ a1) (nZ a2)) b1 b2
mutual
theorem Sim.st{Rl:kg->kg->Prop}(Z:Sim Rl):∀ (s:Sk) {d:Nat} {S T S' T':kg},s.gd d->Rl S T->stR s S=.ok S'->stR s T=.ok T'->Rl S' T'
 | .line l a b,d,S,T,S',T',_,h,h1,h2=>by
  simp only[stR]at h1 h2;exact Z.line h h1 h2
 | .by_ a b,d,S,T,S',T',_,h,h1,h2=>by
  simp only[stR]at h1 h2;exact Z.by_ h h1 h2
 | .ink c,d,S,T,S',T',_,h,h1,h2=>by
  simp only[stR]at h1 h2;cases h1;cases h2;exact Z.ink h
 | .back u,d,S,T,S',T',g,h,h1,h2=>by
  simp only[stR]at h1 h2;simp only[Sk.gd]at g;obtain⟨e,_,g⟩:=g;obtain⟨S1,a1,b1⟩:=cK h1;obtain⟨T1,a2,b2⟩:=cK h2;cases b1;cases b2;exact Z.back h (Sim.run Z u g h a1 a2)
 | .times m u,d,S,T,S',T',g,h,h1,h2=>by
  simp only[stR]at h1 h2;simp only[Sk.gd]at g;obtain⟨_,e,_,g⟩:=g;exact Z.tm (λh a b=>Sim.run Z u g h a b) m h h1 h2
 | .turn k u,d,S,T,S',T',g,h,h1,h2=>by
  simp only[stR]at h1 h2;simp only[Sk.gd]at g;obtain⟨k8,e,_,g⟩:=g;obtain⟨S1,a1,b1⟩:=cK h1;obtain⟨T1,a2,b2⟩:=cK h2;cases b1;cases b2;exact Z.uS h (Sim.run Z u g (Z.turn k8 h) a1 a2)
theorem Sim.run{Rl:kg->kg->Prop}(Z:Sim Rl):∀ (u:Ad) {d:Nat} {S T S' T':kg},gds u d->Rl S T->ko u S=.ok S'->ko u T=.ok T'->Rl S' T'
 | [],d,S,T,S',T',_,h,h1,h2=>by
  simp only[ko]at h1 h2;cases h1;cases h2;exact h
 | s::r,d,S,T,S',T',g,h,h1,h2=>by
  simp only[ko]at h1 h2;simp only[gds]at g;obtain⟨S1,a1,b1⟩:=cK h1;obtain⟨T1,a2,b2⟩:=cK h2;exact Sim.run Z r g.2 (Sim.st Z s g.1 (Z.bg h) (nZ a1) (nZ a2)) b1 b2
end
def nrm(x:Pl):Prop:=kz x.p x.q=(x.p,x.q)
theorem wU(p q:Int×Int):kz p q=(p,q)\/kz p q=(q,p):=by
 unfold kz;split
 ·exact .inl rfl
 ·exact .inr rfl
theorem G6(p q:Int×Int)(c:AL):nrm ⟨(kz p q).1,(kz p q).2,c⟩:=by
 show kz (kz p q).1 (kz p q).2=((kz p q).1,(kz p q).2);rcases wU p q with e | e
 ·rw[e];exact e
 ·have h:=gW q p
  rw[e]at h;rw[e];exact h
theorem C0(h:k<8)(p q:Int×Int):aA k (p.1+q.1,p.2+q.2)=((aA k p).1+(aA k q).1,(aA k p).2+(aA k q).2):=by
 rw[dG h,dG h,dG h];have hk:k=0\/k=1\/k=2\/k=3\/k=4\/k=5\/k=6\/k=7:=by lia
 rcases hk with rfl | rfl | rfl | rfl | rfl | rfl | rfl | rfl<;>simp[tabN]<;>lia
structure R1(k:Nat)(S T:kg):Prop where
 p:T.p=aA k S.p
 c:T.c=S.c
 t:∀ q,aA T.t q=aA k (aA S.t q)
 t1:S.t<8
 t2:T.t<8
 ps:T.ps=S.ps.map (cD k)
 nr:∀ x∈S.ps,nrm x
theorem R1.come(k8:k<8){S:kg}(h:R1 k S T)(a b:Int):aO T a b=aA k (aO S a b):=by
 have e:∀ X:kg,aO X a b=(X.p.1+(aA X.t (a,b)).1,X.p.2+(aA X.t (a,b)).2):=λX=>rfl
 rw[e,e,C0 k8,h.p,h.t]
theorem sim1(k8:k<8):Sim (R1 k) where
 bg h:=⟨h.p,h.c,h.t,h.t1,h.t2,h.ps,h.nr⟩
 line:=by
  intro S T S1 T1 a b h h1 h2;unfold gr at h1 h2;split at h1
  ·cases h1
  split at h1
  ·cases h1
   split at h2
   ·cases h2
   split at h2
   ·cases h2
    have hc:=h.come k8 a b;refine⟨hc,h.c,h.t,h.t1,h.t2,?_,λx hx=>?_⟩
    ·show T.ps++[_]=(S.ps++[_]).map _
     rw[zae,h.ps,hc,h.p,h.c]
     congr 1
     show [_]=[cD k _];rw[eI];show [(⟨_,_,_⟩:Pl)]=[⟨(kz (aA k (kz S.p (aO S a b)).1) (aA k (kz S.p (aO S a b)).2)).1,(kz (aA k (kz S.p (aO S a b)).1) (aA k (kz S.p (aO S a b)).2)).2,S.c⟩];have key:kz (aA k (kz S.p (aO S a b)).1) (aA k (kz S.p (aO S a b)).2)=kz (aA k S.p) (aA k (aO S a b)):=by
      rcases wU S.p (aO S a b) with e | e
      ·rw[e]
      ·rw[e];exact gW _ _
     rw[key]
    ·have hx':x∈S.ps++[(⟨(kz S.p (aO S a b)).1,(kz S.p (aO S a b)).2,S.c⟩:Pl)]:=hx
     rcases zaj.mp hx' with hx | hx
     ·exact h.nr x hx
     ·rw[zac.mp hx]
      exact G6 _ _ _
   ·cases h2
  ·cases h1
 by_:=by
  intro S T S1 T1 a b h h1 h2;unfold byR at h1 h2;split at h1
  ·cases h1
   split at h2
   ·cases h2
    exact⟨h.come k8 a b,h.c,h.t,h.t1,h.t2,h.ps,h.nr⟩
   ·cases h2
  ·cases h1
 ink h:=⟨h.p,rfl,h.t,h.t1,h.t2,h.ps,h.nr⟩
 back h g:=⟨h.p,h.c,g.t,g.t1,g.t2,g.ps,g.nr⟩
 turn j8 h:=⟨h.p,h.c,λq=>by rw[eV j8 h.t2,eV j8 h.t1,h.t],i9 _ _,i9 _ _,h.ps,h.nr⟩
 uS h g:=⟨g.p,g.c,h.t,h.t1,h.t2,g.ps,g.nr⟩
structure R2(A:List Pl)(S T:kg):Prop where
 p:T.p=S.p
 c:T.c=S.c
 t:T.t=S.t
 ps:T.ps=A++S.ps
theorem sim2(A:Ag):Sim (R2 A) where
 bg h:=⟨h.p,h.c,h.t,h.ps⟩
 line:=by
  intro S T S1 T1 a b h h1 h2;have hc:aO T a b=aO S a b:=by unfold aO;rw[h.p,h.t]
  unfold gr at h1 h2;split at h1
  ·cases h1
  split at h1
  ·cases h1
   split at h2
   ·cases h2
   split at h2
   ·cases h2
    refine⟨hc,h.c,h.t,?_⟩;show T.ps++[_]=A++(S.ps++[_]);rw[h.ps,hc,h.p,h.c,zah]
   ·cases h2
  ·cases h1
 by_:=by
  intro S T S1 T1 a b h h1 h2;have hc:aO T a b=aO S a b:=by unfold aO;rw[h.p,h.t]
  unfold byR at h1 h2;split at h1
  ·cases h1
   split at h2
   ·cases h2
    exact⟨hc,h.c,h.t,h.ps⟩
   ·cases h2
  ·cases h1
 ink h:=⟨h.p,rfl,h.t,h.ps⟩
 back h g:=⟨h.p,h.c,g.t,g.ps⟩
 turn j8 h:=⟨h.p,h.c,by show kP _ _=kP _ _;rw[h.t],h.ps⟩
 uS h g:=⟨g.p,g.c,h.t,g.ps⟩
theorem uT{d:Nat}{S1 S2:kg}(k8:k<8)(g:gds u d)(h1:ko u S00=.ok S1)(h2:ko [.turn k u] S00=.ok S2):S2.ps=S1.ps.map (cD k)/\∀ x∈S1.ps,nrm x:=by
 simp only[ko]at h2;obtain⟨T1,a,b⟩:=cK h2;have a:=nZ a;simp only[stR]at a;obtain⟨T2,a1,a2⟩:=cK a;cases a2;cases b;have z0:(0,0)=aA k (0,0):=by
  rw[dG k8];have hk:k=0\/k=1\/k=2\/k=3\/k=4\/k=5\/k=6\/k=7:=by omega
  rcases hk with rfl | rfl | rfl | rfl | rfl | rfl | rfl | rfl<;>rfl
 have e:∀ p,aA 0 p=p:=λp=>by cases p;rfl
 have r0:R1 k S00 ⟨S00.p,S00.c,kP k S00.t,S00.n+1,S00.ps⟩:=⟨z0,rfl,λq=>by
  show aA (kP k 0) q=aA k (aA 0 q);rw[eV k8 (by decide),e,e],by decide,i9 _ _,rfl,λx hx=>by cases hx⟩
 have r:=(sim1 k8).run u g r0 h1 a1;exact⟨r.ps,r.nr⟩
theorem yx{S1 S2:kg}(g:gds u d)(h1:ko u S00=.ok S1)(h2:ko ([.back u,.ink "black"]++u) S00=.ok S2):S2.ps=S1.ps++S1.ps:=by
 have h2:ko (.back u::.ink "black"::u) S00=.ok S2:=h2;simp only[ko]at h2;obtain⟨T1,a,b⟩:=cK h2;have a:=nZ a;simp only[stR]at a;obtain⟨T2,a1,a2⟩:=cK a;cases a2;obtain⟨T3,c1,c2⟩:=cK b;have c1:=nZ c1;simp only[stR]at c1;cases c1;have r1:=(sim2 []).run u g (S:=S00) (T:={ S00 with n:=S00.n+1 }) ⟨rfl,rfl,rfl,rfl⟩ h1 a1;have r2:=(sim2 S1.ps).run u g (S:=S00) (T:=⟨S00.p,"black",T2.t,T2.n+1,T2.ps⟩) ⟨rfl,rfl,(gz u _ _ a1 |>.1),by
  have:=r1.ps;rw[zbd]at this;show T2.ps=S1.ps++[];rw[this,zb0]⟩ h1 c2
 exact r2.ps
theorem Ee{vs:Ac}{n:Nat}:tK vs none (some (n:Int))=vs.take n:=by
 unfold tK HT.sIx;have:¬ ((n:Int)<0):=by lia
 simp[this]
def qR(sts:List Sk)(x:Str):Prop:=(x="many"/\(ko sts S00=.many\/∃ S',ko sts S00=.ok S'/\¬ lh S'.ps/\Big S'.ps))\/(x="hole"/\ko sts S00=.hole)\/(x="two"/\∃ S',ko sts S00=.ok S'/\lh S'.ps)
def t6(H:Hp)(sts:List Sk)(v:V):Prop:=(∃ x,v=.str x/\qR sts x)\/∃ S' l qs,v=.ref l/\ko sts S00=.ok S'/\¬ lh S'.ps/\¬ Big S'.ps/\Pic H l qs/\qs.Nodup/\(∀ a,a∈qs↔a∈S'.ps)/\oA qs
theorem iV{Q:VK}(h:∀ v H',kf H H'->t6 H' sts v->Q v H'):Outs H Q sts :=
 ⟨λn H' S=>h _ _ S (.inl ⟨_,rfl,.inl ⟨rfl,.inl n⟩⟩),λn H' S=>h _ _ S (.inl ⟨_,rfl,.inr (.inl ⟨rfl,n⟩)⟩),λS' e=>⟨λt H' S=>h _ _ S (.inl ⟨_,rfl,.inr (.inr ⟨rfl,S',e,t⟩)⟩),λn b H' S=>h _ _ S (.inl ⟨_,rfl,.inl ⟨rfl,.inr ⟨S',e,n,b⟩⟩⟩),λn b l qs H' o=>h _ _ o.same (.inr ⟨S',l,qs,rfl,e,n,b,o.pic,o.nd,o.mem,o.rise⟩)⟩⟩
theorem t6.later{H:Hp}(h:t6 H sts v)(s:kf H H'):t6 H' sts v:=by
 rcases h with h | ⟨S',l,qs,e,r,n,b,p,nd,m,ri⟩
 ·exact .inl h
 ·exact .inr ⟨S',l,qs,e,r,n,b,p.same s,nd,m,ri⟩
theorem C1{x:AL}(h:qR sts x)(g:qR sts y):x=y:=by
 rcases h with ⟨rfl,h | ⟨S,e,n,b⟩⟩ | ⟨rfl,h⟩ | ⟨rfl,S,e,t⟩<;>rcases g with ⟨rfl,h' | ⟨S',e',n',b'⟩⟩ | ⟨rfl,h'⟩ | ⟨rfl,S',e',t'⟩
 ·rfl
 ·rfl
 ·rw[h]at h';cases h'
 ·rw[h]at e';cases e'
 ·rfl
 ·rfl
 ·rw[e]at h';cases h'
 ·rw[e]at e';cases e';exact absurd t' n
 ·rw[h]at h';cases h'
 ·rw[h]at e';cases e'
 ·rfl
 ·rw[h]at e';cases e'
 ·rw[e]at h';cases h'
 ·rw[e]at e';cases e';exact absurd t n'
 ·rw[e]at h';cases h'
 ·rfl
theorem wV{S:kg}(h:qR sts x)(e:ko sts S00=.ok S)(n:¬ lh S.ps)(b:¬ Big S.ps):False:=by
 rcases h with ⟨_,h | ⟨S',e',n',b'⟩⟩ | ⟨_,h⟩ | ⟨_,S',e',t⟩
 ·rw[h]at e;cases e
 ·rw[e']at e;cases e;exact b b'
 ·rw[h]at e;cases e
 ·rw[e']at e;cases e;exact n t
theorem t6.alike{u:V}(h:t6 H sts u)(g:t6 H sts v):Alike H u v:=by
 rcases h with ⟨x,rfl,hx⟩ | ⟨S1,l,qs,rfl,r,n,b,p,nd,m,ri⟩<;>rcases g with ⟨y,rfl,hy⟩ | ⟨S2,l',qs',rfl,r',n',b',p',nd',m',ri'⟩
 ·rw[C1 hx hy]
  exact .inl ⟨_,rfl,rfl⟩
 ·exact(wV hx r' n' b').elim
 ·exact(wV hy r n b).elim
 ·rw[r]at r'
  cases r';have pm:qs.Perm qs':=(zbg nd nd').mpr λa=>(m a).trans (m' a).symm
  have e:qs=qs':=(ydj λx y e=>gU e).mp (jU (pm.map pD) ri ri');subst e;exact .inr ⟨l,l',qs,rfl,rfl,p,p'⟩
mutual
noncomputable def Sk.nm:Sk->Sk
 | .line _ a b=>.line false a b
 | .by_ a b=>.by_ a b
 | .ink c=>.ink c
 | .back u=>.back (nms u)
 | .times m u=>.times m (nms u)
 | .turn k u=>.turn k (nms u)
noncomputable def nms:List Sk->List Sk
 | []=>[]
 | s::r=>s.nm::nms r
end
theorem qS:∀ {u:Ad},nms u=[]->u=[]
 | [],_=>rfl
 | s::r,h=>by simp only[nms]at h;cases h
mutual
theorem is_nm:∀ {s:Sk} {v:V},kI H v s->kI H v s.nm
 | .line _ _ _=>by
  intro g;cases g with
  | line e=>exact by simp only[Sk.nm];exact .line e
 | .by_ _ _=>by
  intro g;cases g with
  | by_ e=>exact by simp only[Sk.nm];exact .by_ e
 | .ink _=>by
  intro g;cases g with
  | ink e=>exact by simp only[Sk.nm];exact .ink e
 | .back _=>by
  intro g;cases g with
  | back e el h=>exact by simp only[Sk.nm];exact .back e el (o8 h)
 | .times _ _=>by
  intro g;cases g with
  | times e el h=>exact by simp only[Sk.nm];exact .times e el (o8 h)
 | .turn _ _=>by
  intro g;cases g with
  | turn e el h=>exact by simp only[Sk.nm];exact .turn e el (o8 h)
theorem o8:∀ {u:Ad} {vs:Ac},aY H vs u->aY H vs (nms u)
 | []=>by intro g;cases g;exact by simp only[nms];exact .nil
 | _::_=>by
  intro g;cases g with
  | cons h t=>exact by simp only[nms];exact .cons (is_nm h) (o8 t)
end
mutual
theorem nm_is:∀ {s:Sk} {v:V},kI H v s.nm->kI H v s
 | .line l a b,v,h=>by
  simp only[Sk.nm]at h;cases h with
  | line e=>exact .line e
 | .by_ a b,v,h=>by simp only[Sk.nm]at h;exact h
 | .ink c,v,h=>by simp only[Sk.nm]at h;exact h
 | .back u,v,h=>by
  simp only[Sk.nm]at h;cases h with
  | back e el h=>exact .back e el (o9 h)
 | .times m u,v,h=>by
  simp only[Sk.nm]at h;cases h with
  | times e el h=>exact .times e el (o9 h)
 | .turn k u,v,h=>by
  simp only[Sk.nm]at h;cases h with
  | turn e el h=>exact .turn e el (o9 h)
theorem o9:∀ {u:Ad} {vs:Ac},aY H vs (nms u)->aY H vs u
 | [],vs,h=>by simp only[nms]at h;exact h
 | s::r,vs,h=>by
  simp only[nms]at h;cases h with
  | cons h t=>exact .cons (nm_is h) (o9 t)
end
mutual
theorem vd_nm:∀ {s:Sk} {d:Nat},s.vd d->s.nm.vd d
 | .line _ _ _,d,h=>by simp only[Sk.nm,Sk.vd]at h ⊢;exact h
 | .by_ _ _,d,h=>by simp only[Sk.nm];exact h
 | .ink _,d,h=>by simp only[Sk.nm];exact h
 | .back u,d,h=>by
  simp only[Sk.nm,Sk.vd]at h ⊢;obtain⟨n,e,he,hv⟩:=h;exact⟨λz=>n (qS z),e,he,ji hv⟩
 | .times m u,d,h=>by
  simp only[Sk.nm,Sk.vd]at h ⊢;obtain⟨m1,m2,n,e,he,hv⟩:=h;exact⟨m1,m2,λz=>n (qS z),e,he,ji hv⟩
 | .turn k u,d,h=>by
  simp only[Sk.nm,Sk.vd]at h ⊢;obtain⟨m2,n,e,he,hv⟩:=h;exact⟨m2,λz=>n (qS z),e,he,ji hv⟩
theorem ji:∀ {u:Ad} {d:Nat},vds u d->vds (nms u) d
 | [],d,h=>by simp only[nms];exact h
 | s::r,d,h=>by
  simp only[vds]at h;simp only[nms,vds];exact⟨vd_nm h.1,ji h.2⟩
end
mutual
theorem cn_nm:∀ s:Sk,s.nm.cn
 | .line _ _ _=>by simp only[Sk.nm,Sk.cn]
 | .by_ _ _=>by simp only[Sk.nm,Sk.cn]
 | .ink _=>by simp only[Sk.nm,Sk.cn]
 | .back u=>by simp only[Sk.nm,Sk.cn];exact og u
 | .times m u=>by simp only[Sk.nm,Sk.cn];exact og u
 | .turn k u=>by simp only[Sk.nm,Sk.cn];exact og u
theorem og:∀ u:List Sk,cns (nms u)
 | []=>by simp only[nms,cns]
 | s::r=>by simp only[nms,cns];exact⟨cn_nm s,og r⟩
end
theorem ln_sz(l:Bool)(a b:Int):wsz (lnW false a b)<=wsz (lnW l a b):=by
 cases l with
 | false=>exact za5 _
 | true =>
  have ll:("line":AL).length=4:=by decide +kernel
  show wsz (ij a b)<=wsz [("line":AL),nT a,nT b];cases ew:lG a b with
  | none=>rw[cZ ew];exact za5 _
  | some x =>
   have:=BB x (way8 ew).1;rw[cH ew,aN,d4,aN,aN,aN,d4,ll]
   lia
mutual
theorem G7:∀ s:Sk,wsz s.nm.wd<=wsz s.wd
 | .line l a b=>by simp only[Sk.nm,Sk.wd];exact ln_sz l a b
 | .by_ _ _=>by simp only[Sk.nm];exact za5 _
 | .ink _=>by simp only[Sk.nm];exact za5 _
 | .back u=>by
  have:=iB u;simp only[Sk.nm,Sk.wd,aN,cq]
  lia
 | .times m u=>by
  have:=iB u;simp only[Sk.nm,Sk.wd,aN,cq]
  lia
 | .turn k u=>by
  have:=iB u;simp only[Sk.nm,Sk.wd,aN,cq]
  lia
theorem iB:∀ u:List Sk,wsz (wds (nms u))<=wsz (wds u)
 | []=>by simp only[nms];exact za5 _
 | s::r=>by
  have a:=G7 s;have b:=iB r;simp only[nms,wds,cq]
  lia
end
mutual
noncomputable def Sk.dp:Sk->Nat
 | .back u=>1+dps u
 | .times _ u=>1+dps u
 | .turn _ u=>1+dps u
 | _=>0
noncomputable def dps:List Sk->Nat
 | []=>0
 | s::r=>max s.dp (dps r)
end
mutual
theorem gd_dp:∀ {s:Sk} {e d:Nat},s.vd e->s.dp<=d->s.gd d
 | .line _ _ _,e,d,_,_=>by simp only[Sk.gd]
 | .by_ _ _,e,d,_,_=>by simp only[Sk.gd]
 | .ink _,e,d,_,_=>by simp only[Sk.gd]
 | .back u,e,d,v,h=>by
  simp only[Sk.vd]at v;simp only[Sk.dp]at h;simp only[Sk.gd];obtain⟨_,e',_,hv⟩:=v;exact⟨d-1,by lia,oh hv (by omega)⟩
 | .times m u,e,d,v,h=>by
  simp only[Sk.vd]at v;simp only[Sk.dp]at h;simp only[Sk.gd];obtain⟨_,m2,_,e',_,hv⟩:=v;exact⟨m2,d-1,by lia,oh hv (by lia)⟩
 | .turn k u,e,d,v,h=>by
  simp only[Sk.vd]at v;simp only[Sk.dp]at h;simp only[Sk.gd];obtain⟨m2,_,e',_,hv⟩:=v;exact⟨m2,d-1,by omega,oh hv (by omega)⟩
theorem oh:∀ {u:Ad} {e d:Nat},vds u e->dps u<=d->gds u d
 | [],e,d,_,_=>by simp only[gds]
 | s::r,e,d,v,h=>by
  simp only[vds]at v;simp only[dps]at h;simp only[gds];exact⟨gd_dp v.1 (by grind),oh v.2 (by grind)⟩
end
def cg(p:Int×Int)(y:Str):Int×Int :=
 let d:=p.1+(if decide (V.str y=V.str "(")=true then 1 else 0)-(if decide (V.str y=V.str ")")=true then 1 else 0)
 (d,if d>p.2 then d else p.2)
theorem wW(a b:Int):b<=(if a>b then a else b)/\a<=(if a>b then a else b):=by
 split<;>lia
theorem C2{p:Int×Int}{y:AL}(h1:y≠"(")(h2:y≠")"):(cg p y).1=p.1/\p.2<=(cg p y).2:=by
 unfold cg;rw[yaa λe=>h1 (by injection e),yaa λe=>h2 (by injection e)];refine⟨by show p.1+0-0=p.1;lia,?_⟩;exact(wW _ _).1
theorem C3(p:Int×Int):(cg p "(").1=p.1+1/\p.2<=(cg p "(").2/\p.1+1<=(cg p "(").2:=by
 unfold cg;rw[yab rfl,yaa (by decide +kernel)];refine⟨by show p.1+1-0=_;lia,?_,?_⟩
 ·exact(wW _ _).1
 ·have:=(wW (p.1+1-0) p.2).2
  show _<=if p.1+1-0>p.2 then p.1+1-0 else p.2
  lia
theorem C4(p:Int×Int):(cg p ")").1=p.1-1/\p.2<=(cg p ")").2:=by
 unfold cg;rw[yab rfl,yaa (by decide +kernel)];refine⟨by show p.1+0-1=_;lia,?_⟩;exact(wW _ _).1
def Dp(ws:List Str)(n:Nat):Prop:=∀ p:Int×Int,(ws.foldl cg p).1=p.1/\p.2<=(ws.foldl cg p).2/\(n=0\/p.1+n<=(ws.foldl cg p).2)
theorem i4{ws:AH}(h:∀ y∈ws,y≠"("/\y≠")"):Dp ws 0:=by
 induction ws with
 | nil=>intro p;exact⟨rfl,Int.le_refl _,.inl rfl⟩
 | cons y r ih =>
  intro p;obtain⟨a,b⟩:=C2 (p:=p) (h y za1).1 (h y za1).2;obtain⟨c,d,_⟩:=ih (λz hz=>h z (za3 _ hz)) (cg p y);exact⟨c.trans a,Int.le_trans b d,.inl rfl⟩
theorem C5(h:Dp ws n):Dp (("(":AL)::(ws++[(")":AL)])) (1+n):=by
 intro p;rw[List.foldl_cons,ydv];obtain⟨a1,a2,a3⟩:=C3 p;obtain⟨b1,b2,b3⟩:=h (cg p "(");obtain⟨c1,c2⟩:=C4 (ws.foldl cg (cg p "("));show(cg _ ")").1=_/\_<=(cg _ ")").2/\(_\/_<=(cg _ ")").2);refine⟨by lia,by lia,.inr ?_⟩;rcases b3 with b3 | b3<;>lia
theorem uU{ws:AH}{n:Nat}(h:Dp ws n)(g:Dp vs m):Dp (ws++vs) (max n m):=by
 intro p;rw[ydv];obtain⟨a1,a2,a3⟩:=h p;obtain⟨b1,b2,b3⟩:=g (ws.foldl cg p);refine⟨by lia,by lia,?_⟩;rcases a3 with a3 | a3<;>rcases b3 with b3 | b3<;>grind
theorem jp(n:Int):nT n≠"("/\nT n≠")":=by
 by_cases h:0<=n
 ·obtain⟨m,rfl⟩:=ybh h
  exact⟨cG rfl,cG rfl⟩
 ·obtain⟨m,hm⟩:∃ m:Nat,n=-(m:Int):=⟨n.natAbs,by grind⟩
  subst hm;have e:=nv m (by lia);refine⟨λz=>?_,λz=>?_⟩
  ·rw[z]at e
   have e':[40]=45::dg m:=e;injection e' with e'
   lia
  ·rw[z]at e
   have e':[41]=45::dg m:=e;injection e' with e'
   lia
theorem G8:∀ x∈bv,x≠"("/\x≠")":=by
 intro x hx;simp only[bv,za0,zad,yaw]at hx;rcases hx with rfl | rfl | rfl | rfl | rfl | rfl | rfl | rfl<;>decide +kernel
mutual
theorem dp_wd:∀ {s:Sk} {e:Nat},s.vd e->Dp s.wd s.dp
 | .line l a b,e,v=>by
  simp only[Sk.dp];refine i4 λy hy=>?_
  have long:y∈[("line":AL),nT a,nT b]->y≠"("/\y≠")":=λh=>by
   simp only[za0,zad,yaw]at h;rcases h with rfl | rfl | rfl
   ·decide +kernel
   ·exact jp _
   ·exact jp _
  simp only[Sk.wd]at hy;cases l with
  | true=>exact long hy
  | false =>
   have hy:y∈ij a b:=hy;cases ew:lG a b with
   | none=>rw[cZ ew]at hy;exact long hy
   | some x=>rw[cH ew]at hy;rw[zac.mp hy];exact G8 x (way8 ew).1
 | .by_ a b,e,v=>by
  simp only[Sk.dp];refine i4 λy hy=>?_
  simp only[Sk.wd,za0,zad,yaw]at hy;rcases hy with rfl | rfl | rfl
  ·decide +kernel
  ·exact jp _
  ·exact jp _
 | .ink c,e,v=>by
  simp only[Sk.dp];simp only[Sk.vd]at v;refine i4 λy hy=>?_
  simp only[Sk.wd,za0,zad,yaw]at hy;rcases hy with rfl | rfl
  ·decide +kernel
  ·refine⟨λz=>?_,λz=>?_⟩
   ·rw[z]at v;exact absurd v (by decide +kernel)
   ·rw[z]at v;exact absurd v (by decide +kernel)
 | .back u,e,v=>by
  simp only[Sk.vd]at v;simp only[Sk.dp,Sk.wd];obtain⟨_,e',_,hv⟩:=v;exact C5 (oj hv)
 | .times m u,e,v=>by
  simp only[Sk.vd]at v;simp only[Sk.dp,Sk.wd];obtain⟨_,_,_,e',_,hv⟩:=v;have h:=uU (i4 (ws:=[nT (m:Int),("times":AL)]) λy hy=>by
   simp only[za0,zad,yaw]at hy;rcases hy with rfl | rfl
   ·exact jp _
   ·decide +kernel) (C5 (oj hv))
  rw[Nat.zero_max]at h;exact h
 | .turn k u,e,v=>by
  simp only[Sk.vd]at v;simp only[Sk.dp,Sk.wd];obtain⟨_,_,e',_,hv⟩:=v;have h:=uU (i4 (ws:=[("turn":AL),nT (k:Int)]) λy hy=>by
   simp only[za0,zad,yaw]at hy;rcases hy with rfl | rfl
   ·decide +kernel
   ·exact jp _) (C5 (oj hv))
  rw[Nat.zero_max]at h;exact h
theorem oj:∀ {u:Ad} {e:Nat},vds u e->Dp (wds u) (dps u)
 | [],e,v=>by
  simp only[wds,dps];exact i4 λy hy=>by simp at hy
 | s::r,e,v=>by
  simp only[vds]at v;simp only[wds,dps];exact uU (dp_wd v.1) (oj v.2)
end
section
variable{P:AF}{w:AJ}{K:A2}{mg:A5}{base:AO}
def C6(K:A2):Sp:=λvs H Q _=>∃ (a:Addr) (ns:List Int) (k:Int),vs=[.ref a,.int k]/\SqL K H a (ns.map V.int)/\0<=k/\∀ c:Int,Q (.int c) H
theorem G9:az ["_law_script","_law_k"] ["_law_script","_law_k"] (aj vY):=fsk (by decide +kernel)
theorem Ef(D:Df K mg "_law_cell_at" vY f fd)(B:Blt mg):ke P w K mg base CX0 1 f fd ["_law_script","_law_k"] (C6 K):=by
 refine D.F.ok G9 (λvs H Q E h=>?_) (λcdv A outer s H vs Q E hr h=>?_)
 ·obtain⟨a,ns,k,rfl,_⟩:=h
  rfl
 ·obtain⟨a,ns,k,rfl,hS,hk,z⟩:=h
  refine⟨_,(aa (aK (ap mf (pv 1) (aE bn (by rfl) B.len ybe (pac (pv 0) a9)) (au _)) (ae (av (aD aL (pv 0) (pv 1) (λ_ _=>rfl)))) ax)
   (ae (av (aq aW (aq dR ad (pv 1)) ad)))),?_⟩
  refine⟨_,rfl,_,rfl,a,_,rfl,.inl hS,_,_,rfl,rfl,_,rfl,ifC (λh=>?_) (λ_=>⟨_,rfl,_,_,rfl,rfl,.inl ⟨by decide,by decide⟩,_,_,rfl,rfl,z _⟩)⟩;have h:=yae h;rw[za4]at h;obtain⟨j,rfl⟩:=ybh hk;have hj:j<ns.length:=by lia
  exact⟨_,rfl,_,rfl,a,_,_,.int ns[j],rfl,rfl,hS,fj (by rw[zan,za6 hj];rfl),z _⟩
def C7:Sp:=λvs H Q _=>∃ (W:Addr) (ws:List Str),vs=[.ref W]/\H W=some (.lst (ws.map V.str))/\Q (.int (ws.foldl cg (0,0)).2) H
theorem jm:az ["_law_words","_law_deep_here","_law_most","_law_word"] ["_law_words"] (aj wa):=fsk (by decide +kernel)
theorem Eg(D:Df K mg "_law_deep" wa f fd)(B:Blt mg):ke P w K mg base CX0 1 f fd ["_law_words"] C7:=by
 refine D.F.ok jm (λvs H Q E h=>?_) (λcdv A outer s H vs Q E hr h=>?_)
 ·obtain⟨W,ws,rfl,_⟩:=h
  rfl
 ·obtain⟨W,ws,rfl,eW,z⟩:=h
  refine⟨_,(aa (ay (i:=1) jm.nd rfl (Or.inl rfl) ad)
   (aa (ay (i:=2) jm.nd rfl (Or.inl rfl) ad)
   (aa (cQ ybc rfl (cT (pv 0)) (aQ (i:=3) jm.nd rfl (Or.inl rfl)) (aa (ay (i:=1) jm.nd rfl (Or.inl rfl) (aq dQ (aq aW (pv 1) (b8 i8 (by rfl) B.int yd4 (pac (cU aX (pv 3) ag (au _)) a9))) (b8 i8 (by rfl) B.int yd4 (pac (cU aX (pv 3) ag (au _)) a9))))
   (ae (ay (i:=2) jm.nd rfl (Or.inl rfl) (aE (oC rfl) (by rfl) B.max boot_max (pac (pv 2) (pac (pv 1) a9)))))))
   (ae (av (pv 2)))))),?_⟩
  refine⟨_,rfl,W,rfl,⟨_,SqL.of eW⟩,?_⟩;refine cW (K:=K) (a:=W) (xs:=ws.map V.str) (λi σ H1=>(∃ v3,σ=[some (.ref W),some (.int ((ws.take i).foldl cg (0,0)).1),some (.int ((ws.take i).foldl cg (0,0)).2),v3])/\H1=H) ⟨⟨_,rfl⟩,rfl⟩ (λi σ H1 _ h=>by rw[h.2];exact SqL.of eW) ?_ ?_
  ·rintro i y σ H1 hy ⟨⟨v3,rfl⟩,rfl⟩
   rw[zan]at hy;cases hk:ws[i]? with
   | none=>rw[hk]at hy;cases hy
   | some wd =>
   rw[hk]at hy;cases hy;have tk:(ws.take (i+1)).foldl cg (0,0)=cg ((ws.take i).foldl cg (0,0)) wd:=by
    rw[zbo,hk];show(ws.take i++[wd]).foldl _ _=_;rw[ydv];rfl
   refine⟨_,rfl,_,rfl,rfl,_,rfl,_,_,rfl,rfl,_,rfl,rfl,_,rfl,_,_,rfl,rfl,?_⟩;refine⟨_,rfl,_,rfl,_,_,rfl,⟨some (.str wd),?_⟩,rfl⟩;rw[tk];rfl
  ·rintro σ H1 ⟨⟨v3,rfl⟩,rfl⟩
   refine⟨_,rfl,?_⟩;rw[za4,List.take_length];exact z
def C8:Sp:=λvs H Q _=>∃ (a:Addr) (ps:List Pl) (k:Nat),vs=[.ref a,.int (k:Int)]/\Pic H a ps/\ps.length<=400/\k<8/\∀ l rs H',kf H H'->Pic H' l rs->rs.Perm (ps.map (cD k))->oA rs->Q (.ref l) H'
theorem jk:az ["_law_pairs","_law_way","_law_found","_law_ends","_law_colour_here","_law_one","_law_other"] ["_law_pairs","_law_way"] (aj fu):=fsk (by decide +kernel)
theorem Eh{f:AA}{fd:AG}(D:Df K mg "_law_turned_picture" fu f fd)(B:Blt mg)(DU:Df K mg "_law_turned" gc fU fdU)(bU:ar K fdU ["_law_x","_law_y","_law_way"] [])(GU:ke P w K mg base CX0 1 fU fdU ["_law_x","_law_y","_law_way"] gQ):ke P w K mg base CX0 2 f fd ["_law_pairs","_law_way"] C8:=by
 refine D.F.ok jk (λvs H Q E h=>?_) (λcdv A outer s H vs Q E hr h=>?_)
 ·obtain⟨a,ps,k,rfl,_⟩:=h
  rfl
 ·obtain⟨a,ps,k,rfl,hp,hlen,hk,z⟩:=h
  obtain⟨xs,ea,hD⟩:=hp;have hxl:xs.length=ps.length:=by rw[hD.length,za4]
  have hu:=hr.un;have hu1:=hr.units;have hu2:(A.deeper (envOfC "_law_turned_picture" (aj fu) s.heap.objs.size f cdv)).units+1<cLine:=by lia
  refine⟨_,(aa (ay (i:=2) jk.nd rfl (Or.inl rfl) (aZ a9))
   (aa (cQ ybc rfl (cT (pv 0)) (gl rfl (ba (aQ (i:=3) jk.nd rfl (Or.inl rfl)) (ba (aQ (i:=4) jk.nd rfl (Or.inl rfl)) dq)))
    (aa (ay (i:=5) jk.nd rfl (Or.inl rfl) (pec GU hr rfl DU.m DU.F.kp bU .nil aF (pac (aD aM (aD aM (pv 3) ad (λ_ _=>rfl)) ad (λ_ _=>rfl)) (pac (aD aM (aD aM (pv 3) ad (λ_ _=>rfl)) ad (λ_ _=>rfl)) (pac (pv 1) a9)))))
   (aa (ay (i:=6) jk.nd rfl (Or.inl rfl) (pec GU hr rfl DU.m DU.F.kp bU .nil aF (pac (aD aM (aD aM (pv 3) ad (λ_ _=>rfl)) ad (λ_ _=>rfl)) (pac (aD aM (aD aM (pv 3) ad (λ_ _=>rfl)) ad (λ_ _=>rfl)) (pac (pv 1) a9)))))
   (ae (aR (cX yap yan yao bJ (pv 2) (pac (aI (pac (aI (pac (aE (oR rfl hu2) (by rfl) B.min boot_min (pac (pv 5) (pac (pv 6) a9))) (pac (aE (oS rfl hu2) (by rfl) B.max boot_max (pac (pv 5) (pac (pv 6) a9))) a9))) (pac (pv 4) a9))) a9)))))))
   (ae (av (aE jf (by rfl) B.sorted boot_sorted (pac (pv 2) a9)))))),?_⟩
  refine⟨szr rfl,λL nL=>?_⟩;refine⟨_,rfl,a,rfl,⟨_,SqL.of ((af nL) _ _ ea)⟩,?_⟩;refine cW (K:=K) (a:=a) (xs:=xs) (λi σ H2=>(∃ v3 v4 v5 v6,σ=[some (.ref a),some (.int k),some (.ref L),v3,v4,v5,v6])/\kf H H2/\∃ ys qs,H2 L=some (.lst ys)/\aG H2 ys (List.map pD qs)/\qs=(ps.map (cD k)).take i)
   ⟨⟨_,_,_,_,rfl⟩,af nL,[],[],a8,.nil,by simp⟩ (λi σ H2 _ ⟨_,s2,_⟩=>SqL.of (s2 _ _ ea)) ?_ ?_
  ·rintro i x σ H2 hx ⟨⟨v3,v4,v5,v6,rfl⟩,S2,ys,qs,eL,hD2,hq⟩
   obtain⟨d,ed,dx⟩:=(hD.same S2).at i x hx;rw[zan]at ed;cases hp:ps[i]? with
   | none=>rw[hp]at ed;cases ed
   | some b =>
    rw[hp]at ed;cases ed;have hi:i<ps.length:=(zaf.mp hp).1;obtain⟨r,xl,rfl,er,hl⟩:=qj dx;obtain⟨x1,y1,el,hx1,hy1⟩:=rQ hl;refine⟨r,_,rfl,SqT.of er,rfl,_,_,rfl,_,_,rfl,rfl,?_⟩;refine⟨_,rfl,xl,_,_,_,rfl,rfl,SqT.of el,rfl,x1,_,_,_,rfl,rfl,SqT.of hx1,rfl,_,rfl,xl,_,_,_,rfl,rfl,SqT.of el,rfl,x1,_,_,_,rfl,rfl,SqT.of hx1,rfl,_,rfl,b.p.1,b.p.2,k,rfl,hk,λr1 H3 S3 h3=>?_⟩;have el3:=S3 _ _ el;have hy3:two H3 y1 b.q:=S3 _ _ hy1;refine⟨_,rfl,xl,_,_,_,rfl,rfl,SqT.of el3,rfl,y1,_,_,_,rfl,rfl,SqT.of hy3,rfl,_,rfl,xl,_,_,_,rfl,rfl,SqT.of el3,rfl,y1,_,_,_,rfl,rfl,SqT.of hy3,rfl,_,rfl,b.q.1,b.q.2,k,rfl,hk,λr2 H4 S4 h4=>?_⟩;have h3':two H4 r1 (aA k b.p):=S4 _ _ h3;have h4:two H4 r2 (aA k b.q):=h4;have eL4:=S4 _ _ (S3 _ _ eL);refine⟨_,rfl,.inl ⟨rfl,_,SqL.of eL4⟩,?_⟩;refine⟨_,rfl,_,rfl,r1,r2,[(aA k b.p).1,(aA k b.p).2],[(aA k b.q).1,(aA k b.q).2],rfl,SqT.of h3',SqT.of h4,?_⟩;refine⟨_,rfl,_,rfl,r1,r2,[(aA k b.p).1,(aA k b.p).2],[(aA k b.q).1,(aA k b.q).2],rfl,SqT.of h3',SqT.of h4,?_⟩;refine⟨szr rfl,λt1 nt1=>⟨_,rfl,szr rfl,λt nt=>?_⟩⟩;obtain⟨m1,m2⟩:=vN h3' h4;have T1:=af (o:=.tup [(if hLt (aA k b.q) (aA k b.p)=true then V.ref r2 else .ref r1),(if hLt (aA k b.p) (aA k b.q)=true then V.ref r2 else .ref r1)]) nt1;have T2:=af (o:=.tup [.ref t1,.str b.c]) nt;have dl:kj (upd H4 t1 (.tup [(if hLt (aA k b.q) (aA k b.p)=true then V.ref r2 else .ref r1),(if hLt (aA k b.p) (aA k b.q)=true then V.ref r2 else .ref r1)])) (.ref t1) (lD (cD k b)):=by
     rw[tZ];exact .tup a8 (.cons (m1.same T1) (.cons (m2.same T1) .nil))
    have eL6:=T2 _ _ (T1 _ _ eL4);refine⟨L,ys,_,rfl,rfl,eL6,?_,⟨_,_,_,_,rfl⟩,ao ((((S2.trans S3).trans S4).trans T1).trans T2) nL,ys++[.ref t],qs++[cD k b],a8,?_,?_⟩
    ·have h1:ys.length=qs.length:=by rw[hD2.length,za4]
     have h2:qs.length<=ps.length:=by rw[hq,zaw,za4];grind
     exact bp (by lia)
    ·rw[zae]
     refine aG.snoc (kj.lT eL6 ?_) (aG.lT eL6 ((((hD2.same S3).same S4).same T1).same T2));have:pD (cD k b)=.tup [lD (cD k b),.str b.c]:=by unfold cD;split<;>rfl
     rw[this];exact .tup a8 (.cons (dl.same T2) (.cons (.str _) .nil))
    ·rw[hq,ydm,zan,hp];rfl
  ·rintro σ H2 ⟨⟨v3,v4,v5,v6,rfl⟩,S2,ys,qs,eL,hD2,hq⟩
   refine⟨_,rfl,L,ys,_,"tuple",rfl,SqL.of eL,hD2,zJ _,oZ _,λd hd=>?_,λl zs es nl pz dz pe srt=>?_⟩
   ·have:=jV _ d hd
    show(A.deeper _).units+4+_<_
    lia
   ·obtain⟨rs,rfl,_⟩:=CS (es:=es) (G:=λ_=>True) λd hd=>by
     obtain⟨p,_,rfl⟩:=za9.mp (pe.mem_iff.mp hd);exact⟨p,rfl,trivial⟩
    have hq':qs=ps.map (cD k):=by rw[hq,zav (by rw[za4];lia)]
    rw[hq']at pe;exact z l rs _ (S2.trans (af nl)) ⟨zs,a8,dz.same (af nl)⟩ (xH pe) srt
theorem yy(h:k<8):∃ j,j<8/\kP k j=0:=by
 have hk:k=0\/k=1\/k=2\/k=3\/k=4\/k=5\/k=6\/k=7:=by lia
 rcases hk with rfl | rfl | rfl | rfl | rfl | rfl | rfl | rfl
 ·exact⟨0,by decide,rfl⟩
 ·exact⟨3,by decide,rfl⟩
 ·exact⟨2,by decide,rfl⟩
 ·exact⟨1,by decide,rfl⟩
 ·exact⟨4,by decide,rfl⟩
 ·exact⟨5,by decide,rfl⟩
 ·exact⟨6,by decide,rfl⟩
 ·exact⟨7,by decide,rfl⟩
theorem t7(h:nrm x):cD 0 x=x:=by
 rw[eI];have e:∀ p,aA 0 p=p:=λp=>by cases p;rfl
 rw[e,e];have h':kz x.p x.q=(x.p,x.q):=h;rw[h']
theorem C9(k8:k<8){x:Pl}(hx:nrm x)(hy:nrm y)(e:cD k x=cD k y):x=y:=by
 obtain⟨j,j8,hj⟩:=yy k8;have a:=p5 k8 j8 x;have b:=p5 k8 j8 y;rw[hj,t7 hx]at a;rw[hj,t7 hy]at b;rw[a,b,e]
theorem pN{f:α->β}:∀ {l:List α},l.Nodup->(∀ x∈l,∀ y∈l,f x=f y->x=y)->(l.map f).Nodup
 | [],_,_=>ycx
 | a::l,h,inj=>by
  rw[zak]at h;rw[zaa,zak];refine⟨λz=>?_,pN h.2 λx hx y hy=>inj x (za3 _ hx) y (za3 _ hy)⟩;obtain⟨b,hb,e⟩:=za9.mp z;have:=inj b (za3 _ hb) a za1 e;rw[this]at hb;exact h.1 hb
theorem yA(k8:k<8){ps qs rs ts:Ag}(nr:∀ x∈ps,nrm x)(nq:qs.Nodup)(mq:∀ a,a∈qs↔a∈ps)(nt:ts.Nodup)(mt:∀ a,a∈ts↔a∈ps.map (cD k))(rt:oA ts)(pr:rs.Perm (qs.map (cD k)))(rr:oA rs):ts=rs:=by
 have n2:(qs.map (cD k)).Nodup:=pN nq λx hx y hy e=>C9 k8 (nr x ((mq x).mp hx)) (nr y ((mq y).mp hy)) e
 have p2:ts.Perm (qs.map (cD k)):=(zbg nt n2).mpr λa=>by
  rw[mt a,za9,za9];constructor
  ·rintro⟨x,hx,e⟩
   exact⟨x,(mq x).mpr hx,e⟩
  ·rintro⟨x,hx,e⟩
   exact⟨x,(mq x).mp hx,e⟩
 have pm:=p2.trans pr.symm;exact(ydj λx y e=>gU e).mp (jU (pm.map pD) rt rr)
theorem Ca{ps qs ts:Ag}(nq:qs.Nodup)(mq:∀ a,a∈qs↔a∈ps)(rq:oA qs)(nt:ts.Nodup)(mt:∀ a,a∈ts↔a∈ps++ps)(rt:oA ts):ts=qs:=by
 have pm:ts.Perm qs:=(zbg nt nq).mpr λa=>by
  rw[mt a,mq a,zaj];exact⟨λh=>h.elim id id,.inl⟩
 exact(ydj λx y e=>gU e).mp (jU (pm.map pD) rt rq)
end
theorem qT(h:t6 H u v):(∃ x,v=.str x)\/∃ S' l qs,v=.ref l/\ko u S00=.ok S'/\Pic H l qs/\qs.Nodup/\(∀ a,a∈qs↔a∈S'.ps)/\oA qs:=by
 rcases h with ⟨x,e,_⟩ | ⟨S',l,qs,e,r,_,_,p,nd,m,ri⟩
 ·exact .inl ⟨x,e⟩
 ·exact .inr ⟨S',l,qs,e,r,p,nd,m,ri⟩
theorem Ei(ws:AH):(ws.map (·.length)).sum+ws.length=wsz ws:=by
 induction ws with
 | nil=>rfl
 | cons x r ih=>rw[aN,zaa,yeh,za2];lia
theorem Cb:∀ {l m:List α},l.Nodup->(∀ a∈l,a∈m)->l.length<=m.length
 | [],m,_,_=>zb6 _
 | a::l,m,h,g=>by
  rw[zak]at h;obtain⟨m1,m2,rfl⟩:=List.append_of_mem (g a za1);have ih:=Cb (m:=m1++m2) h.2 λb hb=>by
   have hb':=g b (za3 _ hb);rcases zaj.mp hb' with hb' | hb'
   ·exact zaj.mpr (.inl hb')
   ·rcases za0.mp hb' with rfl | hb'
    ·exact absurd hb h.1
    ·exact zaj.mpr (.inr hb')
  rw[za7]at ih;rw[za7,za2,za2]
  lia
section
variable{P:AF}{w:AJ}{K:A2}{mg:A5}{base:AO}
def Cd(K:A2):Sp:=λvs H Q _=>∃ (a:Addr) (ns:List Int),vs=[.ref a]/\SqL K H a (ns.map V.int)/\ns.length<=63/\∀ H',Q (.bl true) H'
theorem jD:az ["_law_script","_law_words","_law_text","_law_due_here","_law_strokes","_law_way","_law_found"] ["_law_script"] (aj sLaw):=fsk (by decide +kernel)
theorem Ga{f:AA}{fd:AG}(D:Df K mg "law" sLaw f fd)(B:Blt mg)
  (DT:Df K mg "_law_tree" w5 fT fdT) (bT:ar K fdT ["_law_cells"] []) (GT:ke P w K mg base CX0 4 fT fdT ["_law_cells"] (uO K))
  (DU:Df K mg "_law_due" Ax fU fdU) (bU:ar K fdU ["_law_words"] []) (GU:ke P w K mg base CX0 4 fU fdU ["_law_words"] BZ)
  (DR:Df K mg "read" vX fR fdR) (bR:ar K fdR ["text"] []) (GR:ke P w K mg base CX0 k fR fdR ["text"] uH)
  (DO:Df K mg "_law_told" w6 fO fdO) (bO:ar K fdO ["_law_strokes"] []) (GO:ke P w K mg base CX0 k fO fdO ["_law_strokes"] (ux 9))
  (DS:Df K mg "_law_same" w8 fS fdS) (bS:ar K fdS ["_law_found","_law_due_here"] []) (GS:ke P w K mg base CX0 2 fS fdS ["_law_found","_law_due_here"] Bj)
  (DW:Df K mg "shown" jn fW fdW) (bW:ar K fdW ["strokes"] []) (GW:ke P w K mg base CX0 k fW fdW ["strokes"] (gP 9))
  (DD:Df K mg "_law_deep" wa fD fdD) (bD:ar K fdD ["_law_words"] []) (GD:ke P w K mg base CX0 1 fD fdD ["_law_words"] C7)
  (DC:Df K mg "_law_cell_at" vY fC fdC) (bC:ar K fdC ["_law_script","_law_k"] []) (GC:ke P w K mg base CX0 1 fC fdC ["_law_script","_law_k"] (C6 K))
  (DN:Df K mg "_law_number" uf fN fdN) (bN:ar K fdN ["_law_cell","_law_k"] []) (GN:ke P w K mg base CX0 1 fN fdN ["_law_cell","_law_k"] pH)
  (DQ:Df K mg "_law_turned_picture" fu fQ fdQ) (bQ:ar K fdQ ["_law_pairs","_law_way"] []) (GQ:ke P w K mg base CX0 2 fQ fdQ ["_law_pairs","_law_way"] C8) (h4:4<=k) :
  ke P w K mg base CX0 (k+1) f fd ["_law_script"] (Cd K):=by
 refine D.F.ok jD (λvs H Q E h=>?_) (λcdv Ar outer s H vs Q E hr h=>?_)
 ·obtain⟨a,ns,rfl,_⟩:=h
  rfl
 ·obtain⟨a,ns,rfl,hS,hlen,z⟩:=h
  have hr1:ki 1 _:=hr.mono (by lia);have hr2:ki 2 _:=hr.mono (by lia);have hr4:ki 4 _:=hr.mono h4;refine⟨_,(aa (ay (i:=1) jD.nd rfl (Or.inl rfl) (aD aM (pec GT hr4 rfl DT.m DT.F.kp bT .nil aF (pac (my Co (pv 0) pT (pU ad)) a9)) ad (λ_ _=>rfl)))
   (aa (ay (i:=2) jD.nd rfl (Or.inl rfl) (cX yd5 F.slot_str_join F.type_str_join qb ag (pac (pv 1) a9)))
   (aa (ay (i:=3) jD.nd rfl (Or.inl rfl) (pec GU hr4 rfl DU.m DU.F.kp bU .nil aF (pac (pv 1) a9)))
   (aa (ay (i:=4) jD.nd rfl (Or.inl rfl) (pec GR hr rfl DR.m DR.F.kp bR .nil aF (pac (pv 2) a9)))
   (aa (aK (PW.pt (dZ (cP (bq (pec GS hr2 rfl DS.m DS.F.kp bS .nil aF (pac (pec GO hr rfl DO.m DO.F.kp bO .nil aF (pac (pv 4) a9)) (pac (pv 3) a9))))) (f6 (cP (bq (pec GS hr2 rfl DS.m DS.F.kp bS .nil aF (pac (pec GO hr rfl DO.m DO.F.kp bO .nil aF (pac (pec GR hr rfl DR.m DR.F.kp bR .nil aF (pac (pec GW hr rfl DW.m DW.F.kp bW .nil aF (pac (pv 4) a9)) a9)) a9)) (pac (pv 3) a9)))))))) (ae (cF)) ax)
   (aa (aK (PW.pt (dZ (bq (aE cb (by rfl) B.isi yax (pac (pv 3) (pac (cr (v:=.ty "str") (by rfl) B.str yc8 rfl) a9)))) (dZ (ap aX (pv 2) ag (au _)) (dZ (ap eP (aE dC (by rfl) B.len ybe (pac (pv 2) a9)) ad (au _)) (f6 (ap eP (pec GD hr1 rfl DD.m DD.F.kp bD .nil aF (pac (pv 1) a9)) ad (au _))))))) (ae (av jF)) ax)
   (aa (ay (i:=5) jD.nd rfl (Or.inl rfl) (aq aT (pec GN hr1 rfl DN.m DN.F.kp bN .nil aF (pac (pec GC hr1 rfl DC.m DC.F.kp bC .nil aF (pac (pv 0) (pac (ad) a9))) (pac (ad) a9))) ad))
   (aa (ay (i:=6) jD.nd rfl (Or.inl rfl) (pec GO hr rfl DO.m DO.F.kp bO .nil aF (pac (aZ (pac (aI (pac (ag) (pac (pv 5) (pac (pv 4) a9)))) a9)) a9)))
   (aa (aK (PW.pt (df (bq (aE cb (by rfl) B.isi yax (pac (pv 6) (pac (cr (v:=.ty "list") (by rfl) B.list boot_list rfl) a9)))) (cR (ap (zI hr2) (pv 6) (pec GQ hr2 rfl DQ.m DQ.F.kp bQ .nil aF (pac (pv 3) (pac (pv 5) a9))) (au _))))) (ae (cF)) ax)
   (aa (ay (i:=6) jD.nd rfl (Or.inl rfl) (pec GO hr rfl DO.m DO.F.kp bO .nil aF (pac (aq pY (aZ (pac (aI (pac (ag) (pac (pv 4) a9))) (pac (aI (pac (ag) (pac (ag) a9))) a9))) (pv 4)) a9)))
   (ae (av (Ej (aE cb (by rfl) B.isi yax (pac (pv 6) (pac (cr (v:=.ty "str") (by rfl) B.str yc8 rfl) a9))) (gn (cU (Fq hr2) (pv 6) (pv 3) (au _)))))))))))))))),?_⟩
  have cut:tK (ns.map V.int) none (some 60)=(ns.take 60).map V.int:=by
   have:=Ee (vs:=ns.map V.int) (n:=60);rw[<- List.map_take]at this;exact this
  have ml:(ns.take 60).length<=60:=by rw[zaw];lia
  revert ml;generalize hms:ns.take 60=ms at cut;intro ml;refine⟨_,rfl,_,rfl,a,_,rfl,hS,λp1 np1=>?_⟩;rw[cut];have T1:=af (o:=HO.lst (ms.map V.int)) np1;refine⟨p1,ms,rfl,SqL.of a8,ml,λu r1 l1 W xs1 H1 S1 er1 el1 eW sk1 vu wz=>?_⟩;have S01:=T1.trans S1;refine⟨r1,_,_,_,rfl,rfl,SqT.of er1,rfl,?_⟩;have lw:(wds u).length<=2000:=zap (qJ _) (by lia);have lt:(txt u).length<=2000:=zap sR (by omega);refine⟨rfl,_,rfl,aJ,W,wds u,rfl,rfl,SqL.of eW,?_,?_⟩
  ·have:=Ei (wds u)
   show _+(wds u).length*1<=_
   lia
  refine⟨_,rfl,W,u,rfl,eW,⟨8,vu⟩,by lia,iV λdv H2 S2 hd=>?_⟩;refine⟨_,rfl,u,rfl,vu,lt,lw,λL xs H3 S3 nL eL kL=>?_⟩;have kL:=kL.same wF;have g8:=iE vu;have hd3:=hd.later S3;refine⟨_,rfl,L,xs,u,rfl,eL,kL,⟨8,rfl,g8⟩,iV λtv H4 S4 ht=>?_⟩;refine⟨_,rfl,tv,dv,rfl,ht.alike (hd3.later S4),_,rfl,kr ?_⟩;have kn:=o8 kL;have wn:=iB u;have ln1:=qJ (wds (nms u));have ln2:(txt (nms u)).length<=wsz (wds (nms u)):=sR;refine⟨_,rfl,L,xs,nms u,rfl,S4 _ _ eL,kn.same S4,⟨8,rfl,ji vu⟩,og u,by lia,λH5 S5=>?_⟩;refine⟨nms u,rfl,ji vu,by lia,by lia,λL6 xs6 H6 S6 nL6 eL6 kL6=>?_⟩;have kL6:=o9 (kL6.same wF);refine⟨L6,xs6,u,rfl,eL6,kL6,⟨8,rfl,g8⟩,iV λtw H7 S7 ht7=>?_⟩;have S37:=S4.trans (S5.trans (S6.trans S7));refine⟨_,rfl,tw,dv,rfl,ht7.alike (hd3.later S37),_,rfl,kr ?_⟩;have hd7:=hd3.later S37;have eL7:=S37 _ _ eL;have kL7:=kL.same S37;have eW7:=(S2.trans (S3.trans S37)) _ _ eW;have S07:=S01.trans (S2.trans (S3.trans S37));rcases qT hd7 with ⟨x,rfl⟩ | ⟨S',l,qs,rfl,hrun,pq,nq,mq,rq⟩
  ·exact⟨_,rfl,_,.str,.str,rfl,.str _,_,rfl,kH (kH (z _))⟩
  obtain⟨us,el,dl⟩:=id pq;refine⟨_,rfl,.ref l,.lst,.str,rfl,.lst el,_,rfl,kr ?_⟩;have ql:qs.length<=400:=by
   have hp:=(gz u _ S' hrun).2 (zb6 _);exact zap (Cb nq λa ha=>(mq a).mp ha) hp
  refine⟨_,rfl,rfl,_,rfl,orB (kH (z _)) (λ_ _=>?_)⟩;refine⟨_,rfl,_,rfl,by show(txt u).length<=_;rw[yau];lia,_,_,rfl,rfl,_,rfl,orB (kH (z _)) (λ_ _=>?_)⟩;refine⟨_,rfl,W,wds u,rfl,eW7,_,_,rfl,rfl,_,rfl,orB (z _) (λh7 _=>?_)⟩;have h7:¬ ((wds u).foldl cg (0,0)).2>7:=yeg h7;have d7:dps u<=7:=by
   rcases((oj vu) (0,0)).2.2 with h | h
   ·lia
   ·have h:(0:Int)+(dps u:Int)<=_:=h
    lia
  have g7:gds u 7:=oh vu d7;refine⟨_,rfl,a,ns,0,rfl,S07.seq hS,by decide,λc=>?_⟩;refine⟨c,20,rfl,by decide,λn n0 n1=>?_⟩;obtain⟨k,hk⟩:∃ k:Nat,n % 8=(k:Int):=⟨_,(ybn (by grind)).symm⟩;have k8:k<8:=by grind
  refine' bz (λσ H8=>σ=[some (.ref a),some (.ref W),some (.str (txt u)),some (.ref l),some (.ref L),some (.int (k:Int)),none]/\H8=H7) (λfin=>_) _
  rotate_left
  ·exact⟨_,_,rfl,rfl,(by show(0:Int)<8;decide),fin _ _ ⟨by rw[<- hk];rfl,rfl⟩⟩
  rintro σ H8 ⟨rfl,rfl⟩;refine⟨_,rfl,_,rfl,szr rfl,λt1 m1=>⟨szr rfl,λp2 m2=>?_⟩⟩;have U1:=af (o:=HO.tup [V.str "turn",.int (k:Int),.ref L]) m1;have U2:=af (o:=HO.lst [V.ref t1]) m2;have U12:=U1.trans U2;have gt:gds [Sk.turn k u] 8:=by
   simp only[gds,Sk.gd];exact⟨⟨k8,7,rfl,g7⟩,True.intro⟩
  refine⟨p2,_,[Sk.turn k u],rfl,a8,.cons (.turn (U2 _ _ a8) (U12 _ _ eL7) (kL7.same U12)) .nil,⟨8,rfl,gt⟩,iV λfv H9 S9 hf=>?_⟩;have S79:=U12.trans S9;have pq9:=pq.same S79;obtain⟨us9,el9,dl9⟩:=id pq9;have eL9:=S79 _ _ eL7;have kL9:=kL7.same S79;refine' bz (λσ H10=>σ=[some (.ref a),some (.ref W),some (.str (txt u)),some (.ref l),some (.ref L),some (.int (k:Int)),some fv]/\kf H9 H10) (λfin=>_) _
  rotate_left
  ·rcases qT hf with ⟨x,rfl⟩ | ⟨S'',l2,ts,rfl,hrun2,pt,nt,mt,rt⟩
   ·exact⟨_,rfl,_,.str,.lst,rfl,.str _,_,rfl,kr (kr (fin _ _ ⟨rfl,kf.refl _⟩))⟩
   ·obtain⟨ut,et,dt⟩:=id pt
    refine⟨_,rfl,.ref l2,.lst,.lst,rfl,.lst et,_,rfl,kH ?_⟩;refine⟨_,rfl,_,rfl,_,rfl,l,qs,k,rfl,pq9,ql,k8,λl3 rs H10 S10 pr pm rr=>?_⟩;obtain⟨e1,e2⟩:=uT k8 g7 hrun hrun2;have eq:ts=rs:=yA k8 e2 nq mq nt (λb=>by rw[mt b,e1]) rt pm rr;subst eq;obtain⟨u3,e3,d3⟩:=pr;refine⟨l2,l3,ut,u3,_,_,rfl,rfl,SqL.of (S10 _ _ et),SqL.of e3,dt.same S10,d3,λd hd=>zap (jV _ d hd) (by decide),_,rfl,ah ?_ (fin _ _ ⟨rfl,S10⟩)⟩;rw[show Dt.lg (ts.map pD) (ts.map pD)=true from (Dt.lu _ _).mpr rfl];rfl
  rintro σ H10 ⟨rfl,S10⟩;have pq10:=pq9.same S10;have eL10:=S10 _ _ eL9;have kL10:=kL9.same S10;refine⟨_,rfl,szr rfl,λt1 m1=>⟨szr rfl,λt2 m2=>⟨szr rfl,λp3 m3=>?_⟩⟩⟩;have V1:=af (o:=HO.tup [V.str "back",.ref L]) m1;have V2:=af (o:=HO.tup [V.str "ink",.str "black"]) m2;have V3:=af (o:=HO.lst [V.ref t1,.ref t2]) m3;have V13:=V1.trans (V2.trans V3);have lx:xs.length<=2000:=by rw[kL.length];exact zap (eX u) lw
  refine⟨_,rfl,p3,L,_,_,rfl,rfl,a8,V13 _ _ eL10,by rw[yau];show 2+_<=_;lia,λp4 m4=>?_⟩;have V4:=af (o:=HO.lst ([V.ref t1,.ref t2]++xs)) m4;have V14:=V13.trans V4;have gb:gds ([Sk.back u,Sk.ink "black"]++u) 8:=Bb λs hs=>by
   rcases zaj.mp hs with hs | hs
   ·simp only[za0,zad,yaw]at hs
    rcases hs with rfl | rfl
    ·simp only[Sk.gd];exact⟨7,rfl,g7⟩
    ·simp only[Sk.gd]
   ·exact uo g8 s hs
  have kk:aY _ ([V.ref t1,.ref t2]++xs) ([Sk.back u,Sk.ink "black"]++u):=.cons (.back ((V2.trans (V3.trans V4)) _ _ a8) (V14 _ _ eL10) (kL10.same V14)) (.cons (.ink ((V3.trans V4) _ _ a8)) (kL10.same V14));refine⟨p4,_,_,rfl,a8,kk,⟨8,rfl,gb⟩,iV λgv H11 S11 hg=>?_⟩;have pq11:=pq10.same (V14.trans S11);obtain⟨us11,el11,dl11⟩:=id pq11;rcases qT hg with ⟨x,rfl⟩ | ⟨S'',l2,ts,rfl,hrun2,pt,nt,mt,rt⟩
  ·exact⟨_,rfl,_,.str,.str,rfl,.str _,_,rfl,kH (z _)⟩
  ·obtain⟨ut,et,dt⟩:=id pt
   refine⟨_,rfl,.ref l2,.lst,.str,rfl,.lst et,_,rfl,kr ?_⟩;have e1:=yx g8 hrun hrun2;have eq:ts=qs:=Ca nq mq rq nt (λb=>by rw[mt b,e1]) rt;subst eq;refine⟨_,rfl,_,rfl,l2,l,ut,us11,_,_,rfl,rfl,SqL.of et,SqL.of el11,dt,dl11,λd hd=>zap (jV _ d hd) (by decide),?_⟩;rw[show Dt.lg (ts.map pD) (ts.map pD)=true from (Dt.lu _ _).mpr rfl];exact z _
end
end K26
namespace K26
open PySem PySem.Spec PyProof.Rows L2 BF
section
variable{P:AF}{w:AJ}{K:A2}{mg:A5}{base:AO}{C fI fB fC fD c3 c4:AA}
theorem alls{fA:AA}{fdA:AG}(T:Cl K mg C fI fB fC fD)(B:Blt mg)
  (bB:ar K fdB ["self"] []) (GB:ke P w K mg base (CXE P w) 1 fB fdB ["self"] (iG C c3))
  (bC:ar K fdC ["self","x","y"] []) (GC:ke P w K mg base (CXE P w) 4 fC fdC ["self","x","y"] (ng C c4))
  (bD:ar K fdD ["self","x","y"] []) (GD:ke P w K mg base (CXE P w) 5 fD fdD ["self","x","y"] (qz C c3 c4))
  (DA:Df K mg "do_all" si fA fdA) (bA:ar K fdA ["pen","strokes"] []) (DS:Df K mg "do_stroke" iJ fS fdS) (bS:ar K fdS ["pen","stroke"] [])
  (DK:Df K mg "do_and_come_back" sh fK fdK) (bK:ar K fdK ["pen","strokes"] []) (DM:Df K mg "do_times" mV fM fdM) (bM:ar K fdM ["pen","rounds","strokes"] [])
  (DU:Df K mg "do_turned" iP fU fdU) (bU:ar K fdU ["pen","way","strokes"] [])
  (DH:Df K mg "behind" Aw fH fdH) (bH:ar K fdH ["first","second"] []) (GH:ke P w K mg base CX0 2 fH fdH ["first","second"] wq):∀ d:Nat,ke P w K mg base (CXE P w) (5+3*d) fA fdA ["pen","strokes"] (jC C c3 c4 d)
 | 0=>Dm
 | d+1=>by
  have ih:=alls T B bB GB bC GC bD GD DA bA DS bS DK bK DM bM DU bU DH bH GH d;have e1:1<=5+3*d:=by lia
  have e2:2<=5+3*d:=by lia
  have e5:5<=5+3*d+1:=by lia
  have e6:1<=5+3*d+1+1:=by lia
  have G1:=ya (k:=5+3*d+1) DS T bC GC bD GD DK bK (Dn DK T DA bA ih) DM bM (Bf DM T B bB GB DA bA ih e1) DU bU (y9 DU T DH bH GH DA bA ih e2) e5;exact FO (k:=5+3*d+1+1) DA T bB GB DS bS G1 e6
end
theorem kis(x:AL)(t:Tok):(aU P w).is (Sum.inr x) (.str x t)=true:=by simp[aU,lW,Value.isStrOf]
def wayA(l:List Addr)(x:Str):Addr:=(((cM.map (·.1)).zip l).lookup x).getD 0
theorem wy_mk{w:AJ}{K:A2}{mg:A5}{d:Nat}{k0:Tok}{o0:Aa}{s0:A1}
  (m:mg "WAYS"=some (.ref d)) (s:(d==sysModules)=false) (l:K.lookup d=some ⟨.type "dict",none,.dict #[⟨PyData.keyHash w.params "n",.str "n" k0,.ref q0⟩,⟨PyData.keyHash w.params "ne",.str "ne" k1,.ref q1⟩,⟨PyData.keyHash w.params "e",.str "e" k2,.ref q2⟩,⟨PyData.keyHash w.params "se",.str "se" k3,.ref q3⟩,⟨PyData.keyHash w.params "s",.str "s" k4,.ref q4⟩,⟨PyData.keyHash w.params "sw",.str "sw" k5,.ref q5⟩,⟨PyData.keyHash w.params "w",.str "w" k6,.ref q6⟩,⟨PyData.keyHash w.params "nw",.str "nw" k7,.ref q7⟩] ep,#[]⟩)
  (l0:K.lookup q0=some ⟨.type "tuple",o0,.seq #[.int (0) a0,.int (1) b0] n0,s0⟩) (l1:K.lookup q1=some ⟨.type "tuple",o1,.seq #[.int (1) a1,.int (1) b1] n1,s1⟩) (l2:K.lookup q2=some ⟨.type "tuple",o2,.seq #[.int (1) a2,.int (0) b2] n2,s2⟩) (l3:K.lookup q3=some ⟨.type "tuple",o3,.seq #[.int (1) a3,.int (-1) b3] n3,s3⟩) (l4:K.lookup q4=some ⟨.type "tuple",o4,.seq #[.int (0) a4,.int (-1) b4] n4,s4⟩) (l5:K.lookup q5=some ⟨.type "tuple",o5,.seq #[.int (-1) a5,.int (-1) b5] n5,s5⟩) (l6:K.lookup q6=some ⟨.type "tuple",o6,.seq #[.int (-1) a6,.int (0) b6] n6,s6⟩) (l7:K.lookup q7=some ⟨.type "tuple",o7,.seq #[.int (-1) a7,.int (1) b7] n7,s7⟩):Wy P w K mg:=by
 refine⟨d,wayA [q0,q1,q2,q3,q4,q5,q6,q7],m,⟨s,_,_,_,[(Sum.inr "n",.ref q0),(Sum.inr "ne",.ref q1),(Sum.inr "e",.ref q2),(Sum.inr "se",.ref q3),(Sum.inr "s",.ref q4),(Sum.inr "sw",.ref q5),(Sum.inr "w",.ref q6),(Sum.inr "nw",.ref q7)],l,⟨rfl,rfl,rfl⟩,rfl,?_,?_,?_,?_⟩,?_⟩
 ·intro e he
  simp only[List.mem_toArray,za0,zad,yaw]at he;rcases he with rfl | rfl | rfl | rfl | rfl | rfl | rfl | rfl
  ·exact⟨Sum.inr "n",kis _ _,rfl⟩
  ·exact⟨Sum.inr "ne",kis _ _,rfl⟩
  ·exact⟨Sum.inr "e",kis _ _,rfl⟩
  ·exact⟨Sum.inr "se",kis _ _,rfl⟩
  ·exact⟨Sum.inr "s",kis _ _,rfl⟩
  ·exact⟨Sum.inr "sw",kis _ _,rfl⟩
  ·exact⟨Sum.inr "w",kis _ _,rfl⟩
  ·exact⟨Sum.inr "nw",kis _ _,rfl⟩
 ·exact .cons (kis _ _) rfl (.cons (kis _ _) rfl (.cons (kis _ _) rfl (.cons (kis _ _) rfl (.cons (kis _ _) rfl (.cons (kis _ _) rfl (.cons (kis _ _) rfl (.cons (kis _ _) rfl (.nil))))))))
 ·show([Sum.inr "n",Sum.inr "ne",Sum.inr "e",Sum.inr "se",Sum.inr "s",Sum.inr "sw",Sum.inr "w",Sum.inr "nw"]:List Key).Nodup
  decide +kernel
 ·exact .cons ⟨rfl,rfl⟩ (.cons ⟨rfl,rfl⟩ (.cons ⟨rfl,rfl⟩ (.cons ⟨rfl,rfl⟩ (.cons ⟨rfl,rfl⟩ (.cons ⟨rfl,rfl⟩ (.cons ⟨rfl,rfl⟩ (.cons ⟨rfl,rfl⟩ (.nil))))))))
 ·intro x hx H
  simp only[cM,za0,zad,yaw]at hx;rcases hx with rfl | rfl | rfl | rfl | rfl | rfl | rfl | rfl
  ·exact .inr ⟨_,_,_,l0,rfl,rfl,szr rfl,.cons ⟨_,rfl⟩ (.cons ⟨_,rfl⟩ .nil)⟩
  ·exact .inr ⟨_,_,_,l1,rfl,rfl,szr rfl,.cons ⟨_,rfl⟩ (.cons ⟨_,rfl⟩ .nil)⟩
  ·exact .inr ⟨_,_,_,l2,rfl,rfl,szr rfl,.cons ⟨_,rfl⟩ (.cons ⟨_,rfl⟩ .nil)⟩
  ·exact .inr ⟨_,_,_,l3,rfl,rfl,szr rfl,.cons ⟨_,rfl⟩ (.cons ⟨_,rfl⟩ .nil)⟩
  ·exact .inr ⟨_,_,_,l4,rfl,rfl,szr rfl,.cons ⟨_,rfl⟩ (.cons ⟨_,rfl⟩ .nil)⟩
  ·exact .inr ⟨_,_,_,l5,rfl,rfl,szr rfl,.cons ⟨_,rfl⟩ (.cons ⟨_,rfl⟩ .nil)⟩
  ·exact .inr ⟨_,_,_,l6,rfl,rfl,szr rfl,.cons ⟨_,rfl⟩ (.cons ⟨_,rfl⟩ .nil)⟩
  ·exact .inr ⟨_,_,_,l7,rfl,rfl,szr rfl,.cons ⟨_,rfl⟩ (.cons ⟨_,rfl⟩ .nil)⟩
def Hn(K:A2)(x:Str)(st:Stmt):Prop:=∃ f fd,W.nsIn K mainGlobals x=some (some (.ref f))/\Fun K x x st f fd
def HA(K:A2):List (Str×Stmt)->Prop
 | []=>True
 | (x,st)::L=>Hn K x st/\HA K L
theorem hc{K:A2}{x:AL}{st:Stmt}{L:List (Str×Stmt)}{f:AA}{oc:AI}{od an:Aa}{osl:A1}{kV doc pm cdv ct:AI}(a:W.nsIn K mainGlobals x=some (some (.ref f)))(l:K.lookup f=some ⟨oc,od,.func (W.fnOf x x (fh st) (dB st) (aj st) .none kV doc pm an cdv ct),osl⟩)
  (c:W.codeIn K cdv x=true) (k:W.keepIn K (.ref f)=true) (h:HA K L):HA K ((x,st)::L):=⟨⟨_,_,a,yW l c k⟩,h⟩
theorem dn{K:A2}{mg:A5}{h:AO}(X:K.In h)(G:h.Ns mainGlobals mg){x:AL}{st:Stmt}(H:Hn K x st):∃ f fd,Df K mg x st f fd:=let ⟨f,fd,a,F⟩:=H;⟨f,fd,F,yam X G a⟩
def Hm(K:A2)(C:Addr)(n q:Str)(st:Stmt):Prop:=∃ f fd,W.findIn K (.ref C) n=some (some (.ref f))/\W.isFn K (.ref f)=true/\Fun K n q st f fd
theorem hm{K:A2}{C:AA}{x q:AL}{st:Stmt}{f:AA}{oc:AI}{od an:Aa}{osl:A1}{kV doc pm cdv ct:AI}(a:W.findIn K (.ref C) x=some (some (.ref f)))(i:W.isFn K (.ref f)=true)(l:K.lookup f=some ⟨oc,od,.func (W.fnOf x q (fh st) (dB st) (aj st) .none kV doc pm an cdv ct),osl⟩)
  (c:W.codeIn K cdv q=true) (k:W.keepIn K (.ref f)=true):Hm K C x q st:=⟨_,_,a,i,yW l c k⟩
abbrev Z6:=Value×Value×Value×Option Addr×Value×Value
section
variable{K:A2}{x q:AL}{st:Stmt}{f:AA}{fd:AG}(F:Fun K x q st f fd)
abbrev fz(x q:Str)(st:Stmt)(z:Z6):FuncData:=W.fnOf x q (fh st) (dB st) (aj st) .none z.1 z.2.1 z.2.2.1 z.2.2.2.1 z.2.2.2.2.1 z.2.2.2.2.2
include F
theorem b0(h:∀ (z:Z6),bindArgs (fz x q st z) ⟨[],[]⟩=pure []):ar K fd [] []:=F.binds λk d p a c t us hl=>by
 rcases us with _ | _<;>first | exact h (k,d,p,a,c,t) | cases hl
theorem b1(p0:AL)(h:∀ (z:Z6) (v0:AI),bindArgs (fz x q st z) ⟨[v0],[]⟩=pure [(p0,v0)]):ar K fd [p0] []:=F.binds λk d p a c t us hl=>by
 rcases us with _ | ⟨v0,_ | _⟩<;>first | exact h (k,d,p,a,c,t) v0 | cases hl
theorem b2(p0 p1:AL)(h:∀ (z:Z6) (v0 v1:AI),bindArgs (fz x q st z) ⟨[v0,v1],[]⟩=pure [(p0,v0),(p1,v1)]):ar K fd [p0,p1] []:=F.binds λk d p a c t us hl=>by
 rcases us with _ | ⟨v0,_ | ⟨v1,_ | _⟩⟩<;>first | exact h (k,d,p,a,c,t) v0 v1 | cases hl
theorem b3(p0 p1 p2:AL)(h:∀ (z:Z6) (v0 v1 v2:AI),bindArgs (fz x q st z) ⟨[v0,v1,v2],[]⟩=pure [(p0,v0),(p1,v1),(p2,v2)]):ar K fd [p0,p1,p2] []:=F.binds λk d p a c t us hl=>by
 rcases us with _ | ⟨v0,_ | ⟨v1,_ | ⟨v2,_ | _⟩⟩⟩<;>first | exact h (k,d,p,a,c,t) v0 v1 v2 | cases hl
theorem b4(p0 p1 p2 p3:AL)(h:∀ (z:Z6) (v0 v1 v2 v3:AI),bindArgs (fz x q st z) ⟨[v0,v1,v2,v3],[]⟩=pure [(p0,v0),(p1,v1),(p2,v2),(p3,v3)]):ar K fd [p0,p1,p2,p3] []:=F.binds λk d p a c t us hl=>by
 rcases us with _ | ⟨v0,_ | ⟨v1,_ | ⟨v2,_ | ⟨v3,_ | _⟩⟩⟩⟩<;>first | exact h (k,d,p,a,c,t) v0 v1 v2 v3 | cases hl
theorem b5(p0 p1 p2 p3 p4:AL)(h:∀ (z:Z6) (v0 v1 v2 v3 v4:AI),bindArgs (fz x q st z) ⟨[v0,v1,v2,v3,v4],[]⟩=pure [(p0,v0),(p1,v1),(p2,v2),(p3,v3),(p4,v4)]):ar K fd [p0,p1,p2,p3,p4] []:=F.binds λk d p a c t us hl=>by
 rcases us with _ | ⟨v0,_ | ⟨v1,_ | ⟨v2,_ | ⟨v3,_ | ⟨v4,_ | _⟩⟩⟩⟩⟩<;>first | exact h (k,d,p,a,c,t) v0 v1 v2 v3 v4 | cases hl
end
abbrev Gz(l:W.OpenLaw)(w:World)(K:A2)(mg:A5)(fa:Addr):Prop:=∃ fd:FuncData,(∀ (s:Shared) (v:Value),BindsTo s fd ⟨[v],[]⟩ [("_law_script",v)])/\∀ base:Heap,K.In base->base.Ns mainGlobals mg->ke l.prog w K mg base CX0 41 fa fd ["_law_script"] (Cd K)
theorem all_mk{l:W.OpenLaw}{w:AJ}{K:A2}{h:AO}{mg:A5}{fa:AA}(X:K.In h)(G:h.Ns mainGlobals mg)(hfa:mg "law"=some (.ref fa))
  {t_far t_most t_qua t_mstr t_mdra t_lon t_mlet t_sig t_fig t_dep t_rou t_las:Tok}
  (hs:HA K (("is_whole",qo)::("is_pair",vS)::("is_within",jQ)::("is_hole",vT)::("ordered",sOrd)::("is_colour",jS)::("picture",vU)::("is_mirroring",Av)::("turned_hole",vV)::("behind",Aw)::("shifted_hole",jR)::("do_and_come_back",sh)::("do_times",mV)::("do_turned",iP)::("do_stroke",iJ)::("do_all",si)::("drawn",qp)::("next_word",ib)::("expect",eZ)::("is_number_word",vW)::("number",dY)::("read_line",iM)::("read_by",sj)::("read_ink",mX)::("read_turn",iL)::("read_times",g9)::("read_inner",dN)::("read_stroke",eK)::("read_row",jo)::("read",vX)::("shown_line",iK)::("shown_inner",fJ)::("shown_stroke",eJ)::("shown",jn)::("_law_cell_at",vY)::("_law_number",uf)::("_law_ways",pf)::("_law_far",sFar)::("_law_colour",iO)::("_law_plain",mY)::("_law_head",vZ)::("_law_closed",jT)::("_law_tree",w5)::("_law_told",w6)::("_law_picture",qq)::("_law_same",w8)::("_law_turned",gc)::("_law_opened",iN)::("_law_ended",mZ)::("_law_gone",sm)::("_law_step",sq)::("_law_due",Ax)::("_law_turned_picture",fu)::("_law_deep",wa)::("law",sLaw)::[]))
  {Cc:AA} (aCc:W.nsIn K mainGlobals "Pen"=some (some (.ref Cc)))
  (hmI:Hm K Cc "__init__" "Pen.__init__" Ay)
  (hmB:Hm K Cc "begin_stroke" "Pen.begin_stroke" ug)
  (hmC:Hm K Cc "come" "Pen.come" Az)
  (hmD:Hm K Cc "draw" "Pen.draw" B0)
  (pg:W.plainGet K Cc Str.empty=true) (hd:W.hasDictIn K Cc=true) (po:W.plainOver K Cc=true) (sa:W.findIn K (.ref Cc) "__setattr__"=some (some (.builtin "object.__setattr__"))) (mk:W.makesIn K Cc=true) (kc:W.keepIn K (.ref Cc)=true) (nf0:W.findIn K (.ref Cc) "place"=some none) (nf1:W.findIn K (.ref Cc) "colour"=some none) (nf2:W.findIn K (.ref Cc) "turning"=some none) (nf3:W.findIn K (.ref Cc) "stroke_count"=some none) (nf4:W.findIn K (.ref Cc) "pairs"=some none)
  {c0 c1 c2 c3 c4 c5 c6 c7 c8:AA} (n0:W.nsIn K mainGlobals "ClothError"=some (some (.ref c0))) (n1:W.nsIn K mainGlobals "NoLine"=some (some (.ref c1))) (n2:W.nsIn K mainGlobals "TwoColours"=some (some (.ref c2))) (n3:W.nsIn K mainGlobals "TooMany"=some (some (.ref c3))) (n4:W.nsIn K mainGlobals "NoHole"=some (some (.ref c4))) (n5:W.nsIn K mainGlobals "NoDrawing"=some (some (.ref c5))) (n6:W.nsIn K mainGlobals "NoThread"=some (some (.ref c6))) (n7:W.nsIn K mainGlobals "NoPlan"=some (some (.ref c7))) (n8:W.nsIn K mainGlobals "NoChart"=some (some (.ref c8))) (T2:uw K c0 c1 c2 c3 c4 c5 c6 c7 c8 c2 2) (T3:uw K c0 c1 c2 c3 c4 c5 c6 c7 c8 c3 3) (T4:uw K c0 c1 c2 c3 c4 c5 c6 c7 c8 c4 4)
  {yd yq0 yq1 yq2 yq3 yq4 yq5 yq6 yq7 yep yn0 yn1 yn2 yn3 yn4 yn5 yn6 yn7:Nat} {yk0 ya0 yb0 yk1 ya1 yb1 yk2 ya2 yb2 yk3 ya3 yb3 yk4 ya4 yb4 yk5 ya5 yb5 yk6 ya6 yb6 yk7 ya7 yb7:Tok} {yo0 yo1 yo2 yo3 yo4 yo5 yo6 yo7:Aa} {ys0 ys1 ys2 ys3 ys4 ys5 ys6 ys7:A1}
  (ym:W.nsIn K mainGlobals "WAYS"=some (some (.ref yd))) (yz:(yd==sysModules)=false) (yl:K.lookup yd=some ⟨.type "dict",none,.dict #[⟨PyData.keyHash w.params "n",.str "n" yk0,.ref yq0⟩,⟨PyData.keyHash w.params "ne",.str "ne" yk1,.ref yq1⟩,⟨PyData.keyHash w.params "e",.str "e" yk2,.ref yq2⟩,⟨PyData.keyHash w.params "se",.str "se" yk3,.ref yq3⟩,⟨PyData.keyHash w.params "s",.str "s" yk4,.ref yq4⟩,⟨PyData.keyHash w.params "sw",.str "sw" yk5,.ref yq5⟩,⟨PyData.keyHash w.params "w",.str "w" yk6,.ref yq6⟩,⟨PyData.keyHash w.params "nw",.str "nw" yk7,.ref yq7⟩] yep,#[]⟩)
  (yl0:K.lookup yq0=some ⟨.type "tuple",yo0,.seq #[.int (0) ya0,.int (1) yb0] yn0,ys0⟩) (yl1:K.lookup yq1=some ⟨.type "tuple",yo1,.seq #[.int (1) ya1,.int (1) yb1] yn1,ys1⟩) (yl2:K.lookup yq2=some ⟨.type "tuple",yo2,.seq #[.int (1) ya2,.int (0) yb2] yn2,ys2⟩) (yl3:K.lookup yq3=some ⟨.type "tuple",yo3,.seq #[.int (1) ya3,.int (-1) yb3] yn3,ys3⟩) (yl4:K.lookup yq4=some ⟨.type "tuple",yo4,.seq #[.int (0) ya4,.int (-1) yb4] yn4,ys4⟩) (yl5:K.lookup yq5=some ⟨.type "tuple",yo5,.seq #[.int (-1) ya5,.int (-1) yb5] yn5,ys5⟩) (yl6:K.lookup yq6=some ⟨.type "tuple",yo6,.seq #[.int (-1) ya6,.int (0) yb6] yn6,ys6⟩) (yl7:K.lookup yq7=some ⟨.type "tuple",yo7,.seq #[.int (-1) ya7,.int (1) yb7] yn7,ys7⟩)
  (z_isi:W.nsIn K mainGlobals "isinstance"=some none)
  (z_int:W.nsIn K mainGlobals "int"=some none)
  (z_bool:W.nsIn K mainGlobals "bool"=some none)
  (z_tuple:W.nsIn K mainGlobals "tuple"=some none)
  (z_list:W.nsIn K mainGlobals "list"=some none)
  (z_str:W.nsIn K mainGlobals "str"=some none)
  (z_len:W.nsIn K mainGlobals "len"=some none)
  (z_range:W.nsIn K mainGlobals "range"=some none)
  (z_abs:W.nsIn K mainGlobals "abs"=some none)
  (z_min:W.nsIn K mainGlobals "min"=some none)
  (z_max:W.nsIn K mainGlobals "max"=some none)
  (z_sorted:W.nsIn K mainGlobals "sorted"=some none)
  (z_val:W.nsIn K mainGlobals "ValueError"=some none)
  (z_all:W.nsIn K mainGlobals "all"=some none)
  (z_rev:W.nsIn K mainGlobals "reversed"=some none)
  (g_far:W.nsIn K mainGlobals "FARTHEST"=some (some (.int 1000000000 t_far)))
  (g_most:W.nsIn K mainGlobals "MOST_LINES"=some (some (.int 120 t_most)))
  (g_qua:W.nsIn K mainGlobals "QUARTERS"=some (some (.int 4 t_qua)))
  (g_mstr:W.nsIn K mainGlobals "MOST_STROKES"=some (some (.int 2000 t_mstr)))
  (g_mdra:W.nsIn K mainGlobals "MOST_DRAWN"=some (some (.int 400 t_mdra)))
  (g_lon:W.nsIn K mainGlobals "LONGEST"=some (some (.int 9 t_lon)))
  (g_mlet:W.nsIn K mainGlobals "MOST_LETTERS"=some (some (.int 8 t_mlet)))
  (g_sig:W.nsIn K mainGlobals "MOST_SIGNS"=some (some (.int 2000 t_sig)))
  (g_fig:W.nsIn K mainGlobals "MOST_FIGURES"=some (some (.int 10 t_fig)))
  (g_dep:W.nsIn K mainGlobals "MOST_DEPTH"=some (some (.int 8 t_dep)))
  (g_rou:W.nsIn K mainGlobals "MOST_ROUNDS"=some (some (.int 60 t_rou)))
  (g_las:W.nsIn K mainGlobals "LAST_TURNING"=some (some (.int 7 t_las))) :
  Gz l w K mg fa:=by
 obtain⟨hW,hP,hI,hH,hO,hCo,hV,hM,hT,hBh,hS,hBk,hTi,hTn,hSt,hA,hDr,hNx,hEx,hNw,hNu,hRL,hRB,hRK,hRT,hRM,hRI,hRS,hRR,hRd,hSL,hSI,hSS,hSh,hC,hN,hWy,hF,hK,hPl,hHd,hCz,hTr,hTo,hLp,hSa,hLt,hOp,hEn,hGo,hSp,hDu,hTp,hDe,hZ,_⟩:=hs;obtain⟨fW,fdW,DW⟩:=dn X G hW;obtain⟨fP,fdP,DP⟩:=dn X G hP;obtain⟨fI,fdI,DI⟩:=dn X G hI;obtain⟨fH,fdH,DH⟩:=dn X G hH;obtain⟨fO,fdO,DO⟩:=dn X G hO;obtain⟨fCo,fdCo,DCo⟩:=dn X G hCo;obtain⟨fV,fdV,DV⟩:=dn X G hV;obtain⟨fM,fdM,DM⟩:=dn X G hM;obtain⟨fT,fdT,DT⟩:=dn X G hT;obtain⟨fBh,fdBh,DBh⟩:=dn X G hBh;obtain⟨fS,fdS,DS⟩:=dn X G hS;obtain⟨fBk,fdBk,DBk⟩:=dn X G hBk;obtain⟨fTi,fdTi,DTi⟩:=dn X G hTi;obtain⟨fTn,fdTn,DTn⟩:=dn X G hTn;obtain⟨fSt,fdSt,DSt⟩:=dn X G hSt;obtain⟨fA,fdA,DA⟩:=dn X G hA;obtain⟨fDr,fdDr,DDr⟩:=dn X G hDr;obtain⟨fNx,fdNx,DNx⟩:=dn X G hNx;obtain⟨fEx,fdEx,DEx⟩:=dn X G hEx;obtain⟨fNw,fdNw,DNw⟩:=dn X G hNw;obtain⟨fNu,fdNu,DNu⟩:=dn X G hNu;obtain⟨fRL,fdRL,DRL⟩:=dn X G hRL;obtain⟨fRB,fdRB,DRB⟩:=dn X G hRB;obtain⟨fRK,fdRK,DRK⟩:=dn X G hRK;obtain⟨fRT,fdRT,DRT⟩:=dn X G hRT;obtain⟨fRM,fdRM,DRM⟩:=dn X G hRM;obtain⟨fRI,fdRI,DRI⟩:=dn X G hRI;obtain⟨fRS,fdRS,DRS⟩:=dn X G hRS;obtain⟨fRR,fdRR,DRR⟩:=dn X G hRR;obtain⟨fRd,fdRd,DRd⟩:=dn X G hRd;obtain⟨fSL,fdSL,DSL⟩:=dn X G hSL;obtain⟨fSI,fdSI,DSI⟩:=dn X G hSI;obtain⟨fSS,fdSS,DSS⟩:=dn X G hSS;obtain⟨fSh,fdSh,DSh⟩:=dn X G hSh;obtain⟨fC,fdC,DC⟩:=dn X G hC;obtain⟨fN,fdN,DN⟩:=dn X G hN;obtain⟨fWy,fdWy,DWy⟩:=dn X G hWy;obtain⟨fF,fdF,DF⟩:=dn X G hF;obtain⟨fK,fdK,DK⟩:=dn X G hK;obtain⟨fPl,fdPl,DPl⟩:=dn X G hPl;obtain⟨fHd,fdHd,DHd⟩:=dn X G hHd;obtain⟨fCz,fdCz,DCz⟩:=dn X G hCz;obtain⟨fTr,fdTr,DTr⟩:=dn X G hTr;obtain⟨fTo,fdTo,DTo⟩:=dn X G hTo;obtain⟨fLp,fdLp,DLp⟩:=dn X G hLp;obtain⟨fSa,fdSa,DSa⟩:=dn X G hSa;obtain⟨fLt,fdLt,DLt⟩:=dn X G hLt;obtain⟨fOp,fdOp,DOp⟩:=dn X G hOp;obtain⟨fEn,fdEn,DEn⟩:=dn X G hEn;obtain⟨fGo,fdGo,DGo⟩:=dn X G hGo;obtain⟨fSp,fdSp,DSp⟩:=dn X G hSp;obtain⟨fDu,fdDu,DDu⟩:=dn X G hDu;obtain⟨fTp,fdTp,DTp⟩:=dn X G hTp;obtain⟨fDe,fdDe,DDe⟩:=dn X G hDe;obtain⟨fZ,fdZ,DZ⟩:=dn X G hZ;have e:=hfa.symm.trans DZ.m;cases e;have B:Blt mg:=⟨yal X G z_isi,yal X G z_int,yal X G z_bool,yal X G z_tuple,yal X G z_list,yal X G z_str,yal X G z_len,yal X G z_range,yal X G z_abs,yal X G z_min,yal X G z_max,yal X G z_sorted,yal X G z_val,yal X G z_all,yal X G z_rev,⟨t_far,yam X G g_far⟩,⟨t_most,yam X G g_most⟩,⟨t_qua,yam X G g_qua⟩,⟨t_mstr,yam X G g_mstr⟩,⟨t_mdra,yam X G g_mdra⟩,⟨t_lon,yam X G g_lon⟩,⟨t_mlet,yam X G g_mlet⟩,⟨t_sig,yam X G g_sig⟩,⟨t_fig,yam X G g_fig⟩,⟨t_dep,yam X G g_dep⟩,⟨t_rou,yam X G g_rou⟩,⟨t_las,yam X G g_las⟩⟩;have Yw:Wy l.prog w K mg:=wy_mk (yam X G ym) yz yl yl0 yl1 yl2 yl3 yl4 yl5 yl6 yl7;have N:Nam9 mg c0 c1 c2 c3 c4 c5 c6 c7 c8:=⟨yam X G n0,yam X G n1,yam X G n2,yam X G n3,yam X G n4,yam X G n5,yam X G n6,yam X G n7,yam X G n8⟩;have bW:=b1 DW.F "thing" λ_ _=>rfl
 have bP:=b1 DP.F "thing" λ_ _=>rfl
 have bI:=b1 DI.F "thing" λ_ _=>rfl
 have bH:=b1 DH.F "thing" λ_ _=>rfl
 have bO:=b2 DO.F "one" "other" λ_ _ _=>rfl
 have bCo:=b1 DCo.F "thing" λ_ _=>rfl
 have bV:=b1 DV.F "pairs" λ_ _=>rfl
 have bM:=b1 DM.F "way" λ_ _=>rfl
 have bT:=b2 DT.F "hole" "way" λ_ _ _=>rfl
 have bBh:=b2 DBh.F "first" "second" λ_ _ _=>rfl
 have bS:=b3 DS.F "hole" "east" "north" λ_ _ _ _=>rfl
 have bBk:=b2 DBk.F "pen" "strokes" λ_ _ _=>rfl
 have bTi:=b3 DTi.F "pen" "rounds" "strokes" λ_ _ _ _=>rfl
 have bTn:=b3 DTn.F "pen" "way" "strokes" λ_ _ _ _=>rfl
 have bSt:=b2 DSt.F "pen" "stroke" λ_ _ _=>rfl
 have bA:=b2 DA.F "pen" "strokes" λ_ _ _=>rfl
 have bDr:=b1 DDr.F "strokes" λ_ _=>rfl
 have bNx:=b1 DNx.F "words" λ_ _=>rfl
 have bEx:=b2 DEx.F "words" "wanted" λ_ _ _=>rfl
 have bNw:=b1 DNw.F "word" λ_ _=>rfl
 have bNu:=b3 DNu.F "word" "least" "most" λ_ _ _ _=>rfl
 have bRL:=b1 DRL.F "words" λ_ _=>rfl
 have bRB:=b1 DRB.F "words" λ_ _=>rfl
 have bRK:=b1 DRK.F "words" λ_ _=>rfl
 have bRT:=b2 DRT.F "words" "depth" λ_ _ _=>rfl
 have bRM:=b3 DRM.F "word" "words" "depth" λ_ _ _ _=>rfl
 have bRI:=b2 DRI.F "words" "depth" λ_ _ _=>rfl
 have bRS:=b2 DRS.F "words" "depth" λ_ _ _=>rfl
 have bRR:=b2 DRR.F "words" "depth" λ_ _ _=>rfl
 have bRd:=b1 DRd.F "text" λ_ _=>rfl
 have bSL:=b2 DSL.F "x" "y" λ_ _ _=>rfl
 have bSI:=b1 DSI.F "strokes" λ_ _=>rfl
 have bSS:=b1 DSS.F "stroke" λ_ _=>rfl
 have bSh:=b1 DSh.F "strokes" λ_ _=>rfl
 have bC:=b2 DC.F "_law_script" "_law_k" λ_ _ _=>rfl
 have bN:=b2 DN.F "_law_cell" "_law_k" λ_ _ _=>rfl
 have bWy:=b0 DWy.F λ_=>rfl
 have bF:=b3 DF.F "_law_cell" "_law_number_here" "_law_sort" λ_ _ _ _=>rfl
 have bK:=b2 DK.F "_law_cell" "_law_number_here" λ_ _ _=>rfl
 have bPl:=b2 DPl.F "_law_cell" "_law_number_here" λ_ _ _=>rfl
 have bHd:=b1 DHd.F "_law_number_here" λ_ _=>rfl
 have bCz:=b2 DCz.F "_law_stack" "_law_words" λ_ _ _=>rfl
 have bTr:=b1 DTr.F "_law_cells" λ_ _=>rfl
 have bTo:=b1 DTo.F "_law_strokes" λ_ _=>rfl
 have bLp:=b1 DLp.F "_law_pairs" λ_ _=>rfl
 have bSa:=b2 DSa.F "_law_found" "_law_due_here" λ_ _ _=>rfl
 have bLt:=b3 DLt.F "_law_x" "_law_y" "_law_way" λ_ _ _ _=>rfl
 have bOp:=b4 DOp.F "_law_words" "_law_at" "_law_open_ones" "_law_state" λ_ _ _ _ _=>rfl
 have bEn:=b3 DEn.F "_law_at" "_law_open_ones" "_law_state" λ_ _ _ _=>rfl
 have bGo:=b5 DGo.F "_law_x" "_law_y" "_law_draws" "_law_open_ones" "_law_state" λ_ _ _ _ _ _=>rfl
 have bSp:=b4 DSp.F "_law_words" "_law_at" "_law_open_ones" "_law_state" λ_ _ _ _ _=>rfl
 have bDu:=b1 DDu.F "_law_words" λ_ _=>rfl
 have bTp:=b2 DTp.F "_law_pairs" "_law_way" λ_ _ _=>rfl
 have bDe:=b1 DDe.F "_law_words" λ_ _=>rfl
 obtain⟨fmI,fdmI,amI,imI,FmI⟩:=hmI;have bmI:=b1 FmI "self" λ_ _=>rfl
 have kmI:=FmI.kp;obtain⟨fmB,fdmB,amB,imB,FmB⟩:=hmB;have bmB:=b1 FmB "self" λ_ _=>rfl
 have kmB:=FmB.kp;obtain⟨fmC,fdmC,amC,imC,FmC⟩:=hmC;have bmC:=b3 FmC "self" "x" "y" λ_ _ _ _=>rfl
 have kmC:=FmC.kp;obtain⟨fmD,fdmD,amD,imD,FmD⟩:=hmD;have bmD:=b3 FmD "self" "x" "y" λ_ _ _ _=>rfl
 have kmD:=FmD.kp;obtain⟨_,_,y1,y2,y3,y4,y5,y6,_,rfl,_,_⟩:=DZ.F.ex;refine⟨fz "law" "law" sLaw (y1,y2,y3,y4,y5,y6),λs v=>.of_eq rfl,λbase _ _=>?_⟩;obtain⟨tm,mm⟩:=B.most;have T:Cl K mg Cc fmI fmB fmC fmD:=⟨⟨pg,hd,po,sa⟩,nf0,nf1,nf2,nf3,nf4,⟨mk,amI,imI,kc⟩,⟨amB,imB,kmB⟩,⟨amC,imC,kmC⟩,⟨amD,imD,kmD⟩,yam X G aCc⟩;have GV:ke l.prog w K mg base (CXE l.prog w) 1 fV _ ["pairs"] (uh K c2 c3):=D8 DV N.m2 N.m3 T2.q T3.q mm B.len B.sorted;have GM:ke l.prog w K mg base CX0 1 fM _ ["way"] wg:=FF DM B.qua;have GT:ke l.prog w K mg base CX0 2 fT _ ["hole","way"] ui:=D9 DT DM bM GM B.qua B.range;have GBh:ke l.prog w K mg base CX0 2 fBh _ ["first","second"] wq:=FK DBh DM bM GM B.qua;have GH:ke l.prog w K mg base CX0 3 fH _ ["thing"] uj:=De DH DP bP (Dd DP B) DI bI (xY DI DW bW B);have GmI:ke l.prog w K mg base CX0 1 fmI _ ["self"] (uk Cc):=Dg FmI T;have GmB:ke l.prog w K mg base (CXE l.prog w) 1 fmB _ ["self"] (iG Cc c3):=B7 FmB T N.m3 T3.q B;have GmC:ke l.prog w K mg base (CXE l.prog w) 4 fmC _ ["self","x","y"] (ng Cc c4):=Di FmC T N.m4 T4.q DT bT GT DS bS (xX DS) DH bH GH;have GmD:ke l.prog w K mg base (CXE l.prog w) 5 fmD _ ["self","x","y"] (qz Cc c3 c4):=Dj FmD T N.m3 T3.q B bmC GmC DO bO (FG DO);have GA:ke l.prog w K mg base (CXE l.prog w) 32 fA _ ["pen","strokes"] (jC Cc c3 c4 9):=alls T B bmB GmB bmC GmC bmD GmD DA bA DSt bSt DBk bBk DTi bTi DTn bTn DBh bBh GBh 9;have GDr:ke l.prog w K mg base (CXE l.prog w) 33 fDr _ ["strokes"] (qC c2 c3 c4 9):=Bg DDr T bmI GmI DA bA GA DV bV GV (by decide);have GTo:ke l.prog w K mg base CX0 34 fTo _ ["_law_strokes"] (ux 9):=Dq DTo B N T2 T3 T4 DDr bDr GDr;have GNx:ke l.prog w K mg base CX0 1 fNx _ ["words"] eY:=Du DNx;have GNu:ke l.prog w K mg base CX0 2 fNu _ ["word","least","most"] dH:=ye DNu B DNw bNw (Ds DNw B);have GRR:ke l.prog w K mg base CX0 39 fRR _ ["words","depth"] (pA 9):=rows B Yw DRR bRR DRS bRS DRI bRI DRT bRT DRM bRM DEx bEx (yf DEx DNx bNx GNx) DNx bNx GNx DNu bNu GNu DRL bRL (yg DRL B DNx bNx GNx DNu bNu GNu) DRB bRB (Dv DRB B DNx bNx GNx DNu bNu GNu) DRK bRK (Bs DRK DNx bNx GNx DCo bCo (y7 DCo B)) 9;have GRd:ke l.prog w K mg base CX0 40 fRd _ ["text"] uH:=Dz DRd B DRR bRR GRR;have GSh:ke l.prog w K mg base CX0 28 fSh _ ["strokes"] (gP 9):=By B DSh bSh DSS bSS DSL bSL (yk DSL Yw) DSI bSI 9;have GWy:ke l.prog w K mg base CX0 2 fWy _ [] qL:=E4 DWy;have GN:ke l.prog w K mg base CX0 1 fN _ ["_law_cell","_law_k"] pH:=FY DN B;have GF:ke l.prog w K mg base CX0 2 fF _ ["_law_cell","_law_number_here","_law_sort"] BE:=FZ DF B DN bN GN;have GPl:ke l.prog w K mg base CX0 3 fPl _ ["_law_cell","_law_number_here"] qO:=BQ DPl DWy bWy GWy DF bF GF DK bK (E8 DK B DN bN GN);have GTr:ke l.prog w K mg base CX0 4 fTr _ ["_law_cells"] (uO K):=Eb DTr B DN bN GN DPl bPl GPl DHd bHd (E5 DHd B) DCz bCz (yq DCz);have GLt:ke l.prog w K mg base CX0 1 fLt _ ["_law_x","_law_y","_law_way"] gQ:=uP DLt B;have GSp:ke l.prog w K mg base CX0 3 fSp _ ["_law_words","_law_at","_law_open_ones","_law_state"] uR:=Ed DSp B DEn bEn (BX DEn) DGo bGo (Ec DGo B DLt bLt GLt) DOp bOp (yw DOp B) DWy bWy GWy;have GDu:ke l.prog w K mg base CX0 4 fDu _ ["_law_words"] BZ:=G5 DDu B DSp bSp GSp DLp bLp (Bi DLp B);exact Ga DZ B DTr bTr GTr DDu bDu GDu DRd bRd GRd DTo bTo (GTo.mono (by decide)) DSa bSa (Dr DSa B) DSh bSh (GSh.mono (by decide)) DDe bDe (Eg DDe B) DC bC (Ef DC B) DN bN GN DTp bTp (Eh DTp B DLt bLt GLt) (by decide)
theorem walk{l:W.OpenLaw}{q:AF}{loose:AH}{XP:(Str->Option Value)->Heap->Prop}{YP:World->Heap->Prop}{d:DefRec}{K:Params->W.Frag}(hn:l.most=some 63)(hdf:d.params.defaults=[])
  (hY:∀ (w:AJ) (h:AO),YP w h->(K w.params).In h)
  (F:∀ (w:AJ) (mg:A5) (fa:AA) (h:AO),(K w.params).In h->h.Ns mainGlobals mg->mg d.name=some (.ref fa) ->
   Gz l w (K w.params) mg fa) :
  W.WalkO q loose XP YP l.row.toRowW d [] (λf vs=>PySem.call f vs) :=
 L2.vf (n:=63) (k:=41) (x:="_law_script") (CX:=λ_=>CX0) (sp:=λw=>Cd (K w.params)) hn (by decide) hdf ⟨rfl,by decide,by decide⟩ hY F (λ_ _ a ns hl _ hS=>⟨a,ns,rfl,hS,hl,λ_=>rfl⟩) λ_ _ _ _ _ z=>z
end K26
open PySem PySem.W PyProof.Rows
set_option maxRecDepth 100000 in
set_option maxHeartbeats 0 in
theorem PySem.Challenge.cw_bothfaces_k26_whole_from_text_to_picture_holds : PySem.Challenge.rw_bothfaces_k26_whole_from_text_to_picture.Holds := by
 w_on;o_law;k_head;(case hw=>w_witness2)
 k_fill
 refine K26.walk (l:=PySem.Challenge.rw_bothfaces_k26_whole_from_text_to_picture) rfl rfl (λw h Y=>PySem.W.kIn_of Y) ?F
 case F =>
  intro w mg fa h KX G hmg;refine' K26.all_mk KX G hmg ?hs ?aCc ?hmI ?hmB ?hmC ?hmD ?pg ?hd ?po ?sa ?mk ?kc ?nf0 ?nf1 ?nf2 ?nf3 ?nf4 ?n0 ?n1 ?n2 ?n3 ?n4 ?n5 ?n6 ?n7 ?n8 ?T2 ?T3 ?T4 ?ym ?yz ?yl ?yl0 ?yl1 ?yl2 ?yl3 ?yl4 ?yl5 ?yl6 ?yl7 ?z_isi ?z_int ?z_bool ?z_tuple ?z_list ?z_str ?z_len ?z_range ?z_abs ?z_min ?z_max ?z_sorted ?z_val ?z_all ?z_rev ?g_far ?g_most ?g_qua ?g_mstr ?g_mdra ?g_lon ?g_mlet ?g_sig ?g_fig ?g_dep ?g_rou ?g_las
  (case hs=>(iterate 55 (refine' K26.hc ?a ?l ?c ?k ?_;(case a=>k_is);(case l=>k_is);(case c=>k_is);(case k=>k_is)));exact True.intro)
  (case aCc=>k_is)
  (case hmI=>(refine' K26.hm ?a ?i ?l ?c ?k;(case a=>k_is);(case i=>k_is);(case l=>k_is);(case c=>k_is);(case k=>k_is)))
  (case hmB=>(refine' K26.hm ?a ?i ?l ?c ?k;(case a=>k_is);(case i=>k_is);(case l=>k_is);(case c=>k_is);(case k=>k_is)))
  (case hmC=>(refine' K26.hm ?a ?i ?l ?c ?k;(case a=>k_is);(case i=>k_is);(case l=>k_is);(case c=>k_is);(case k=>k_is)))
  (case hmD=>(refine' K26.hm ?a ?i ?l ?c ?k;(case a=>k_is);(case i=>k_is);(case l=>k_is);(case c=>k_is);(case k=>k_is)))
  (case pg=>k_is)
  (case hd=>k_is)
  (case po=>k_is)
  (case sa=>k_is)
  (case mk=>k_is)
  (case kc=>k_is)
  (case nf0=>k_is)
  (case nf1=>k_is)
  (case nf2=>k_is)
  (case nf3=>k_is)
  (case nf4=>k_is)
  (case n0=>k_is)
  (case n1=>k_is)
  (case n2=>k_is)
  (case n3=>k_is)
  (case n4=>k_is)
  (case n5=>k_is)
  (case n6=>k_is)
  (case n7=>k_is)
  (case n8=>k_is)
  (case T2=>exact⟨⟨by k_is,by k_is,by k_is,by k_is,by k_is,by k_is,by k_is,by k_is⟩,by k_exc,by kts_exm,by kit_is,by kit_is,by kit_is,by kit_is,by kit_is,by kit_is,by kit_is,by kit_is,by kit_is⟩)
  (case T3=>exact⟨⟨by k_is,by k_is,by k_is,by k_is,by k_is,by k_is,by k_is,by k_is⟩,by k_exc,by kts_exm,by kit_is,by kit_is,by kit_is,by kit_is,by kit_is,by kit_is,by kit_is,by kit_is,by kit_is⟩)
  (case T4=>exact⟨⟨by k_is,by k_is,by k_is,by k_is,by k_is,by k_is,by k_is,by k_is⟩,by k_exc,by kts_exm,by kit_is,by kit_is,by kit_is,by kit_is,by kit_is,by kit_is,by kit_is,by kit_is,by kit_is⟩)
  (case ym=>k_is)
  (case yz=>rfl)
  (case yl=>k_is)
  (case yl0=>k_is)
  (case yl1=>k_is)
  (case yl2=>k_is)
  (case yl3=>k_is)
  (case yl4=>k_is)
  (case yl5=>k_is)
  (case yl6=>k_is)
  (case yl7=>k_is)
  (case z_isi=>k_is)
  (case z_int=>k_is)
  (case z_bool=>k_is)
  (case z_tuple=>k_is)
  (case z_list=>k_is)
  (case z_str=>k_is)
  (case z_len=>k_is)
  (case z_range=>k_is)
  (case z_abs=>k_is)
  (case z_min=>k_is)
  (case z_max=>k_is)
  (case z_sorted=>k_is)
  (case z_val=>k_is)
  (case z_all=>k_is)
  (case z_rev=>k_is)
  (case g_far=>k_is)
  (case g_most=>k_is)
  (case g_qua=>k_is)
  (case g_mstr=>k_is)
  (case g_mdra=>k_is)
  (case g_lon=>k_is)
  (case g_mlet=>k_is)
  (case g_sig=>k_is)
  (case g_fig=>k_is)
  (case g_dep=>k_is)
  (case g_rou=>k_is)
  (case g_las=>k_is)
