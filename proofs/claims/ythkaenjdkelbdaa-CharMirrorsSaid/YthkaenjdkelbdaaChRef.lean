/- What the reference's table of classes returns for every rune; no condition but that the argument is a rune's number. -/
import Derived.Test.YthkaenjdkelbdaaChChain
namespace Go.Proofs.Ythkaenjdkelbdaa
open Go.RowKit Go.Sort
set_option linter.unusedSimpArgs false
set_option linter.unusedVariables false

def refCases : List CaseD :=
  [⟨"ref.go:21", "ref.go:22", true, 0, none⟩,
   ⟨"ref.go:23", "ref.go:24", false, 8, some ⟨3, 0, 7, 9, 0⟩⟩,
   ⟨"ref.go:25", "ref.go:26", false, 9, some ⟨3, 0, 10, 11, 0⟩⟩,
   ⟨"ref.go:27", "ref.go:28", false, 10, some ⟨2, 1, 3, 10, 0⟩⟩,
   ⟨"ref.go:29", "ref.go:30", false, 11, some ⟨3, 1, 1, 11, 0⟩⟩,
   ⟨"ref.go:31", "ref.go:32", false, 12, some ⟨3, 1, 1, 12, 0⟩⟩,
   ⟨"ref.go:33", "ref.go:34", false, 13, some ⟨1, 1, 2, 10, 0⟩⟩,
   ⟨"ref.go:35", "ref.go:36", false, 31, some ⟨3, 0, 7, 9, 0⟩⟩,
   ⟨"ref.go:37", "ref.go:38", false, 32, some ⟨0, 2, 4, 12, 0⟩⟩,
   ⟨"ref.go:39", "ref.go:40", false, 33, some ⟨0, 0, 15, 13, 0⟩⟩,
   ⟨"ref.go:41", "ref.go:42", false, 34, some ⟨0, 0, 14, 13, 0⟩⟩,
   ⟨"ref.go:43", "ref.go:44", false, 37, some ⟨0, 0, 0, 5, 0⟩⟩,
   ⟨"ref.go:45", "ref.go:46", false, 38, some ⟨0, 0, 0, 13, 0⟩⟩,
   ⟨"ref.go:47", "ref.go:48", false, 39, some ⟨0, 7, 14, 13, 0⟩⟩,
   ⟨"ref.go:49", "ref.go:50", false, 40, some ⟨0, 0, 12, 13, 0⟩⟩,
   ⟨"ref.go:51", "ref.go:52", false, 41, some ⟨0, 0, 13, 13, 0⟩⟩,
   ⟨"ref.go:53", "ref.go:54", false, 42, some ⟨0, 0, 0, 13, 0⟩⟩,
   ⟨"ref.go:55", "ref.go:56", false, 43, some ⟨0, 0, 0, 4, 0⟩⟩,
   ⟨"ref.go:57", "ref.go:58", false, 44, some ⟨0, 6, 16, 7, 0⟩⟩,
   ⟨"ref.go:59", "ref.go:60", false, 45, some ⟨0, 0, 11, 4, 0⟩⟩,
   ⟨"ref.go:61", "ref.go:62", false, 46, some ⟨0, 7, 16, 7, 0⟩⟩,
   ⟨"ref.go:63", "ref.go:64", false, 47, some ⟨0, 0, 10, 7, 0⟩⟩,
   ⟨"ref.go:65", "ref.go:66", false, 57, some ⟨0, 4, 17, 3, 0⟩⟩,
   ⟨"ref.go:67", "ref.go:68", false, 58, some ⟨0, 5, 16, 7, 0⟩⟩,
   ⟨"ref.go:69", "ref.go:70", false, 59, some ⟨0, 6, 16, 13, 0⟩⟩,
   ⟨"ref.go:71", "ref.go:72", false, 62, some ⟨0, 0, 0, 13, 0⟩⟩,
   ⟨"ref.go:73", "ref.go:74", false, 63, some ⟨0, 0, 15, 13, 0⟩⟩,
   ⟨"ref.go:75", "ref.go:76", false, 64, some ⟨0, 0, 0, 13, 0⟩⟩,
   ⟨"ref.go:77", "ref.go:78", false, 90, some ⟨0, 3, 0, 0, 0⟩⟩,
   ⟨"ref.go:79", "ref.go:80", false, 91, some ⟨0, 0, 12, 13, 0⟩⟩,
   ⟨"ref.go:81", "ref.go:82", false, 92, some ⟨0, 0, 0, 13, 0⟩⟩,
   ⟨"ref.go:83", "ref.go:84", false, 93, some ⟨0, 0, 13, 13, 0⟩⟩,
   ⟨"ref.go:85", "ref.go:86", false, 94, some ⟨0, 0, 0, 13, 0⟩⟩,
   ⟨"ref.go:87", "ref.go:88", false, 95, some ⟨0, 8, 0, 13, 0⟩⟩,
   ⟨"ref.go:89", "ref.go:90", false, 96, some ⟨0, 0, 0, 13, 0⟩⟩,
   ⟨"ref.go:91", "ref.go:92", false, 122, some ⟨0, 3, 0, 0, 0⟩⟩,
   ⟨"ref.go:93", "ref.go:94", false, 123, some ⟨0, 0, 12, 13, 0⟩⟩,
   ⟨"ref.go:95", "ref.go:96", false, 124, some ⟨0, 0, 10, 13, 0⟩⟩,
   ⟨"ref.go:97", "ref.go:98", false, 125, some ⟨0, 0, 13, 13, 0⟩⟩,
   ⟨"ref.go:99", "ref.go:100", false, 126, some ⟨0, 0, 0, 13, 0⟩⟩,
   ⟨"ref.go:101", "ref.go:102", false, 132, some ⟨3, 0, 7, 9, 0⟩⟩,
   ⟨"ref.go:103", "ref.go:104", false, 133, some ⟨3, 1, 1, 10, 0⟩⟩,
   ⟨"ref.go:105", "ref.go:106", false, 159, some ⟨3, 0, 7, 9, 0⟩⟩,
   ⟨"ref.go:107", "ref.go:108", false, 160, some ⟨0, 0, 9, 7, 0⟩⟩,
   ⟨"ref.go:109", "ref.go:110", false, 161, some ⟨0, 0, 12, 13, 0⟩⟩,
   ⟨"ref.go:111", "ref.go:112", false, 165, some ⟨0, 0, 0, 5, 0⟩⟩,
   ⟨"ref.go:113", "ref.go:114", false, 169, some ⟨0, 0, 0, 13, 0⟩⟩,
   ⟨"ref.go:115", "ref.go:116", false, 170, some ⟨0, 3, 0, 0, 0⟩⟩,
   ⟨"ref.go:117", "ref.go:118", false, 171, some ⟨0, 0, 14, 13, 0⟩⟩,
   ⟨"ref.go:119", "ref.go:120", false, 172, some ⟨0, 0, 0, 13, 0⟩⟩,
   ⟨"ref.go:121", "ref.go:122", false, 173, some ⟨3, 10, 10, 9, 4⟩⟩,
   ⟨"ref.go:123", "ref.go:124", false, 180, some ⟨0, 0, 0, 13, 0⟩⟩,
   ⟨"ref.go:125", "ref.go:126", false, 181, some ⟨0, 3, 0, 0, 0⟩⟩,
   ⟨"ref.go:127", "ref.go:128", false, 182, some ⟨0, 0, 0, 13, 0⟩⟩,
   ⟨"ref.go:129", "ref.go:130", false, 183, some ⟨0, 5, 0, 13, 0⟩⟩,
   ⟨"ref.go:131", "ref.go:132", false, 185, some ⟨0, 0, 0, 13, 0⟩⟩,
   ⟨"ref.go:133", "ref.go:134", false, 186, some ⟨0, 3, 0, 0, 0⟩⟩,
   ⟨"ref.go:135", "ref.go:136", false, 187, some ⟨0, 0, 14, 13, 0⟩⟩,
   ⟨"ref.go:137", "ref.go:138", false, 191, some ⟨0, 0, 0, 13, 0⟩⟩,
   ⟨"ref.go:139", "ref.go:140", false, 767, some ⟨0, 3, 0, 0, 0⟩⟩,
   ⟨"ref.go:141", "ref.go:142", false, 879, some ⟨4, 10, 7, 8, 4⟩⟩,
   ⟨"ref.go:143", "ref.go:144", false, 1423, some ⟨0, 3, 0, 0, 0⟩⟩,
   ⟨"ref.go:145", "ref.go:146", false, 1469, some ⟨4, 10, 7, 8, 4⟩⟩,
   ⟨"ref.go:147", "ref.go:148", false, 1470, some ⟨0, 0, 10, 1, 0⟩⟩,
   ⟨"ref.go:149", "ref.go:150", false, 1479, some ⟨4, 10, 7, 8, 4⟩⟩,
   ⟨"ref.go:151", "ref.go:152", true, 1488, none⟩,
   ⟨"ref.go:153", "ref.go:154", false, 1514, some ⟨0, 3, 0, 1, 0⟩⟩,
   ⟨"ref.go:155", "ref.go:156", true, 1536, none⟩,
   ⟨"ref.go:157", "ref.go:158", false, 1541, some ⟨7, 0, 0, 6, 0⟩⟩,
   ⟨"ref.go:159", "ref.go:160", true, 1548, none⟩,
   ⟨"ref.go:161", "ref.go:162", false, 1548, some ⟨0, 6, 16, 7, 0⟩⟩,
   ⟨"ref.go:163", "ref.go:164", true, 1552, none⟩,
   ⟨"ref.go:165", "ref.go:166", false, 1562, some ⟨4, 10, 7, 8, 4⟩⟩,
   ⟨"ref.go:167", "ref.go:168", false, 1563, some ⟨0, 0, 15, 2, 0⟩⟩,
   ⟨"ref.go:169", "ref.go:170", false, 1564, some ⟨3, 10, 7, 2, 4⟩⟩,
   ⟨"ref.go:171", "ref.go:172", true, 1567, none⟩,
   ⟨"ref.go:173", "ref.go:174", false, 1567, some ⟨0, 0, 15, 2, 0⟩⟩,
   ⟨"ref.go:175", "ref.go:176", false, 1568, some ⟨0, 3, 0, 2, 2⟩⟩,
   ⟨"ref.go:177", "ref.go:178", false, 1569, some ⟨0, 3, 0, 2, 0⟩⟩,
   ⟨"ref.go:179", "ref.go:180", false, 1573, some ⟨0, 3, 0, 2, 1⟩⟩,
   ⟨"ref.go:181", "ref.go:182", false, 1574, some ⟨0, 3, 0, 2, 2⟩⟩,
   ⟨"ref.go:183", "ref.go:184", false, 1575, some ⟨0, 3, 0, 2, 1⟩⟩,
   ⟨"ref.go:185", "ref.go:186", false, 1576, some ⟨0, 3, 0, 2, 2⟩⟩,
   ⟨"ref.go:187", "ref.go:188", false, 1577, some ⟨0, 3, 0, 2, 1⟩⟩,
   ⟨"ref.go:189", "ref.go:190", false, 1582, some ⟨0, 3, 0, 2, 2⟩⟩,
   ⟨"ref.go:191", "ref.go:192", false, 1586, some ⟨0, 3, 0, 2, 1⟩⟩,
   ⟨"ref.go:193", "ref.go:194", false, 1599, some ⟨0, 3, 0, 2, 2⟩⟩,
   ⟨"ref.go:195", "ref.go:196", false, 1600, some ⟨0, 3, 0, 2, 3⟩⟩,
   ⟨"ref.go:197", "ref.go:198", false, 1607, some ⟨0, 3, 0, 2, 2⟩⟩,
   ⟨"ref.go:199", "ref.go:200", false, 1608, some ⟨0, 3, 0, 2, 1⟩⟩,
   ⟨"ref.go:201", "ref.go:202", false, 1610, some ⟨0, 3, 0, 2, 2⟩⟩,
   ⟨"ref.go:203", "ref.go:204", false, 1631, some ⟨4, 10, 7, 8, 4⟩⟩,
   ⟨"ref.go:205", "ref.go:206", false, 1641, some ⟨0, 4, 17, 6, 0⟩⟩,
   ⟨"ref.go:207", "ref.go:208", false, 1642, some ⟨0, 0, 0, 5, 0⟩⟩,
   ⟨"ref.go:209", "ref.go:210", false, 1644, some ⟨0, 6, 16, 6, 0⟩⟩,
   ⟨"ref.go:211", "ref.go:212", true, 1648, none⟩,
   ⟨"ref.go:213", "ref.go:214", false, 1648, some ⟨4, 10, 7, 8, 4⟩⟩,
   ⟨"ref.go:215", "ref.go:216", false, 1655, some ⟨0, 3, 0, 2, 1⟩⟩,
   ⟨"ref.go:217", "ref.go:218", false, 1671, some ⟨0, 3, 0, 2, 2⟩⟩,
   ⟨"ref.go:219", "ref.go:220", false, 1689, some ⟨0, 3, 0, 2, 1⟩⟩,
   ⟨"ref.go:221", "ref.go:222", false, 1727, some ⟨0, 3, 0, 2, 2⟩⟩,
   ⟨"ref.go:223", "ref.go:224", false, 1739, some ⟨0, 3, 0, 2, 1⟩⟩,
   ⟨"ref.go:225", "ref.go:226", false, 1747, some ⟨0, 3, 0, 2, 2⟩⟩,
   ⟨"ref.go:227", "ref.go:228", true, 1750, none⟩,
   ⟨"ref.go:229", "ref.go:230", false, 1756, some ⟨4, 10, 7, 8, 4⟩⟩,
   ⟨"ref.go:231", "ref.go:232", true, 1776, none⟩,
   ⟨"ref.go:233", "ref.go:234", false, 1785, some ⟨0, 4, 17, 3, 0⟩⟩,
   ⟨"ref.go:235", "ref.go:236", true, 2304, none⟩,
   ⟨"ref.go:237", "ref.go:238", false, 2306, some ⟨4, 10, 7, 8, 0⟩⟩,
   ⟨"ref.go:239", "ref.go:240", false, 2307, some ⟨8, 10, 7, 0, 0⟩⟩,
   ⟨"ref.go:241", "ref.go:242", false, 2361, some ⟨0, 3, 0, 0, 0⟩⟩,
   ⟨"ref.go:243", "ref.go:244", true, 2364, none⟩,
   ⟨"ref.go:245", "ref.go:246", false, 2364, some ⟨4, 10, 7, 8, 0⟩⟩,
   ⟨"ref.go:247", "ref.go:248", true, 2366, none⟩,
   ⟨"ref.go:249", "ref.go:250", false, 2368, some ⟨8, 10, 7, 0, 0⟩⟩,
   ⟨"ref.go:251", "ref.go:252", false, 2376, some ⟨4, 10, 7, 8, 0⟩⟩,
   ⟨"ref.go:253", "ref.go:254", false, 2380, some ⟨8, 10, 7, 0, 0⟩⟩,
   ⟨"ref.go:255", "ref.go:256", false, 2381, some ⟨4, 10, 7, 8, 0⟩⟩,
   ⟨"ref.go:257", "ref.go:258", true, 2406, none⟩,
   ⟨"ref.go:259", "ref.go:260", false, 2415, some ⟨0, 4, 17, 0, 0⟩⟩,
   ⟨"ref.go:261", "ref.go:262", true, 4352, none⟩,
   ⟨"ref.go:263", "ref.go:264", false, 4447, some ⟨9, 3, 18, 0, 0⟩⟩,
   ⟨"ref.go:265", "ref.go:266", false, 4519, some ⟨10, 3, 18, 0, 0⟩⟩,
   ⟨"ref.go:267", "ref.go:268", false, 4607, some ⟨11, 3, 18, 0, 0⟩⟩,
   ⟨"ref.go:269", "ref.go:270", true, 8192, none⟩,
   ⟨"ref.go:271", "ref.go:272", false, 8198, some ⟨0, 2, 10, 12, 0⟩⟩,
   ⟨"ref.go:273", "ref.go:274", false, 8199, some ⟨0, 0, 9, 12, 0⟩⟩,
   ⟨"ref.go:275", "ref.go:276", false, 8202, some ⟨0, 2, 10, 12, 0⟩⟩,
   ⟨"ref.go:277", "ref.go:278", false, 8203, some ⟨3, 0, 5, 9, 0⟩⟩,
   ⟨"ref.go:279", "ref.go:280", false, 8204, some ⟨4, 10, 7, 9, 0⟩⟩,
   ⟨"ref.go:281", "ref.go:282", false, 8205, some ⟨5, 11, 6, 9, 3⟩⟩,
   ⟨"ref.go:283", "ref.go:284", false, 8206, some ⟨3, 10, 7, 0, 4⟩⟩,
   ⟨"ref.go:285", "ref.go:286", false, 8207, some ⟨3, 10, 7, 1, 4⟩⟩,
   ⟨"ref.go:287", "ref.go:288", false, 8208, some ⟨0, 0, 10, 13, 0⟩⟩,
   ⟨"ref.go:289", "ref.go:290", false, 8209, some ⟨0, 0, 9, 13, 0⟩⟩,
   ⟨"ref.go:291", "ref.go:292", false, 8212, some ⟨0, 0, 10, 13, 0⟩⟩,
   ⟨"ref.go:293", "ref.go:294", false, 8215, some ⟨0, 0, 0, 13, 0⟩⟩,
   ⟨"ref.go:295", "ref.go:296", false, 8216, some ⟨0, 0, 14, 13, 0⟩⟩,
   ⟨"ref.go:297", "ref.go:298", false, 8217, some ⟨0, 7, 14, 13, 0⟩⟩,
   ⟨"ref.go:299", "ref.go:300", false, 8218, some ⟨0, 0, 12, 13, 0⟩⟩,
   ⟨"ref.go:301", "ref.go:302", true, 8220, none⟩,
   ⟨"ref.go:303", "ref.go:304", false, 8221, some ⟨0, 0, 14, 13, 0⟩⟩,
   ⟨"ref.go:305", "ref.go:306", true, 8232, none⟩,
   ⟨"ref.go:307", "ref.go:308", false, 8232, some ⟨3, 1, 1, 12, 0⟩⟩,
   ⟨"ref.go:309", "ref.go:310", false, 8233, some ⟨3, 1, 1, 10, 0⟩⟩,
   ⟨"ref.go:311", "ref.go:312", false, 8234, some ⟨3, 10, 7, 14, 4⟩⟩,
   ⟨"ref.go:313", "ref.go:314", false, 8235, some ⟨3, 10, 7, 16, 4⟩⟩,
   ⟨"ref.go:315", "ref.go:316", false, 8236, some ⟨3, 10, 7, 18, 4⟩⟩,
   ⟨"ref.go:317", "ref.go:318", false, 8237, some ⟨3, 10, 7, 15, 4⟩⟩,
   ⟨"ref.go:319", "ref.go:320", false, 8238, some ⟨3, 10, 7, 17, 4⟩⟩,
   ⟨"ref.go:321", "ref.go:322", true, 8240, none⟩,
   ⟨"ref.go:323", "ref.go:324", false, 8244, some ⟨0, 0, 0, 5, 0⟩⟩,
   ⟨"ref.go:325", "ref.go:326", true, 8255, none⟩,
   ⟨"ref.go:327", "ref.go:328", false, 8256, some ⟨0, 8, 0, 13, 0⟩⟩,
   ⟨"ref.go:329", "ref.go:330", true, 8288, none⟩,
   ⟨"ref.go:331", "ref.go:332", false, 8288, some ⟨3, 10, 8, 9, 4⟩⟩,
   ⟨"ref.go:333", "ref.go:334", true, 8294, none⟩,
   ⟨"ref.go:335", "ref.go:336", false, 8294, some ⟨3, 10, 7, 19, 0⟩⟩,
   ⟨"ref.go:337", "ref.go:338", false, 8295, some ⟨3, 10, 7, 20, 0⟩⟩,
   ⟨"ref.go:339", "ref.go:340", false, 8296, some ⟨3, 10, 7, 21, 0⟩⟩,
   ⟨"ref.go:341", "ref.go:342", false, 8297, some ⟨3, 10, 7, 22, 0⟩⟩,
   ⟨"ref.go:343", "ref.go:344", true, 8352, none⟩,
   ⟨"ref.go:345", "ref.go:346", false, 8399, some ⟨0, 0, 0, 5, 0⟩⟩,
   ⟨"ref.go:347", "ref.go:348", false, 8432, some ⟨4, 10, 7, 8, 4⟩⟩,
   ⟨"ref.go:349", "ref.go:350", true, 8592, none⟩,
   ⟨"ref.go:351", "ref.go:352", false, 8959, some ⟨0, 0, 0, 13, 0⟩⟩,
   ⟨"ref.go:353", "ref.go:354", true, 9728, none⟩,
   ⟨"ref.go:355", "ref.go:356", false, 10175, some ⟨14, 0, 18, 13, 0⟩⟩,
   ⟨"ref.go:357", "ref.go:358", true, 12288, none⟩,
   ⟨"ref.go:359", "ref.go:360", false, 12288, some ⟨0, 2, 10, 12, 0⟩⟩,
   ⟨"ref.go:361", "ref.go:362", false, 12290, some ⟨0, 0, 13, 13, 0⟩⟩,
   ⟨"ref.go:363", "ref.go:364", true, 12293, none⟩,
   ⟨"ref.go:365", "ref.go:366", false, 12295, some ⟨0, 0, 18, 0, 0⟩⟩,
   ⟨"ref.go:367", "ref.go:368", false, 12296, some ⟨0, 0, 12, 13, 0⟩⟩,
   ⟨"ref.go:369", "ref.go:370", false, 12297, some ⟨0, 0, 13, 13, 0⟩⟩,
   ⟨"ref.go:371", "ref.go:372", false, 12298, some ⟨0, 0, 12, 13, 0⟩⟩,
   ⟨"ref.go:373", "ref.go:374", false, 12299, some ⟨0, 0, 13, 13, 0⟩⟩,
   ⟨"ref.go:375", "ref.go:376", false, 12300, some ⟨0, 0, 12, 13, 0⟩⟩,
   ⟨"ref.go:377", "ref.go:378", false, 12301, some ⟨0, 0, 13, 13, 0⟩⟩,
   ⟨"ref.go:379", "ref.go:380", false, 12302, some ⟨0, 0, 12, 13, 0⟩⟩,
   ⟨"ref.go:381", "ref.go:382", false, 12303, some ⟨0, 0, 13, 13, 0⟩⟩,
   ⟨"ref.go:383", "ref.go:384", false, 12304, some ⟨0, 0, 12, 13, 0⟩⟩,
   ⟨"ref.go:385", "ref.go:386", false, 12305, some ⟨0, 0, 13, 13, 0⟩⟩,
   ⟨"ref.go:387", "ref.go:388", true, 12353, none⟩,
   ⟨"ref.go:389", "ref.go:390", false, 12438, some ⟨0, 0, 18, 0, 0⟩⟩,
   ⟨"ref.go:391", "ref.go:392", true, 12441, none⟩,
   ⟨"ref.go:393", "ref.go:394", false, 12442, some ⟨4, 10, 7, 8, 4⟩⟩,
   ⟨"ref.go:395", "ref.go:396", true, 12449, none⟩,
   ⟨"ref.go:397", "ref.go:398", false, 12538, some ⟨0, 9, 18, 0, 0⟩⟩,
   ⟨"ref.go:399", "ref.go:400", true, 12540, none⟩,
   ⟨"ref.go:401", "ref.go:402", false, 12540, some ⟨0, 9, 18, 0, 0⟩⟩,
   ⟨"ref.go:403", "ref.go:404", true, 13312, none⟩,
   ⟨"ref.go:405", "ref.go:406", false, 40959, some ⟨0, 0, 18, 0, 0⟩⟩,
   ⟨"ref.go:407", "ref.go:408", true, 64285, none⟩,
   ⟨"ref.go:409", "ref.go:410", false, 64335, some ⟨0, 3, 0, 1, 0⟩⟩,
   ⟨"ref.go:411", "ref.go:412", false, 65023, some ⟨0, 3, 0, 2, 0⟩⟩,
   ⟨"ref.go:413", "ref.go:414", false, 65039, some ⟨4, 10, 7, 8, 4⟩⟩,
   ⟨"ref.go:415", "ref.go:416", true, 65136, none⟩,
   ⟨"ref.go:417", "ref.go:418", false, 65276, some ⟨0, 3, 0, 2, 0⟩⟩,
   ⟨"ref.go:419", "ref.go:420", true, 65279, none⟩,
   ⟨"ref.go:421", "ref.go:422", false, 65279, some ⟨3, 10, 8, 9, 4⟩⟩,
   ⟨"ref.go:423", "ref.go:424", true, 127462, none⟩,
   ⟨"ref.go:425", "ref.go:426", false, 127487, some ⟨6, 12, 19, 0, 0⟩⟩,
   ⟨"ref.go:427", "ref.go:428", true, 127744, none⟩,
   ⟨"ref.go:429", "ref.go:430", false, 127994, some ⟨14, 0, 18, 13, 0⟩⟩,
   ⟨"ref.go:431", "ref.go:432", false, 127999, some ⟨4, 10, 7, 13, 4⟩⟩,
   ⟨"ref.go:433", "ref.go:434", false, 129791, some ⟨14, 0, 18, 13, 0⟩⟩,
   ⟨"ref.go:435", "ref.go:436", true, 131072, none⟩,
   ⟨"ref.go:437", "ref.go:438", false, 262141, some ⟨0, 0, 18, 0, 0⟩⟩,
   ⟨"ref.go:439", "ref.go:440", true, 917760, none⟩,
   ⟨"ref.go:441", "ref.go:442", false, 917999, some ⟨4, 10, 7, 8, 4⟩⟩]

def isSyl (r : Int) : Bool := decide (44032 ≤ r) && decide (r ≤ 55203)
/-- The classes of a rune. -/
def cls (r : Int) : Cl := if isSyl r then (if (r - 44032) % 28 = 0 then ⟨12, 3, 18, 0, 0⟩ else ⟨13, 3, 18, 0, 0⟩) else (lkC refCases r).getD Cl.zero

def seqL : Code → Code
  | .seq a _ => a
  | c => c
def seqR : Code → Code
  | .seq _ b => b
  | c => c
def thenOf : Code → Code
  | .cond _ a _ => a
  | c => c
noncomputable def refBody : Code := Try.f22.body.getD .skip
noncomputable def refR0 : Code := seqL refBody
noncomputable def refR1 : Code := seqL (seqL (seqR refBody))
noncomputable def refSyl : Code := thenOf (seqR (seqL (seqR refBody)))
noncomputable def refR2 : Code := seqL refSyl
noncomputable def refR3 : Code := seqL (seqL (seqR refSyl))
noncomputable def refR4 : Code := thenOf (seqR (seqL (seqR refSyl)))
noncomputable def refR5 : Code := seqL (seqR (seqR refSyl))
theorem refBody_is : Try.f22.body = some (.seq refR0 (.seq (.seq refR1 (.cond (.tmp 9) refSyl .skip)) (.seq (.block 0 (mkC refCases 17 6)) (.seq (.region 428 (rowOps 861 "ref.go:444" none).toArray false) .ret)))) := by kernel_rfl
theorem refSyl_is : refSyl = .seq refR2 (.seq (.seq refR3 (.cond (.tmp 14) refR4 .skip)) (.seq refR5 .ret)) := by kernel_rfl

theorem Fr.put' {n b : Nat} {r : Int} {t : Array Value} {d : List Deferred} (h : Fr n r b ⟨t, d⟩) (s : Nat) (hs : 2 < s) (v : Value) : Fr n r b ⟨t.setIfInBounds s v, d⟩ := h.put s hs v
/-- The frame of the call: the rune in slot 0. -/
def Fr0 (n : Nat) (r : Int) (a : Act) : Prop := a.tmps.size = n ∧ a.tmps[0]? = some (.int .i32 r) ∧ a.defers = []
theorem refR0_wp {Q : Exit → Act → World → Prop} {r : Int} {a : Act} {w : World} (hf : Fr0 862 r a)
    (h : ∀ a', Fr 862 r w.heap.size a' → Q .normal a' (w.alloc (.cells Cl.zero.vs.toArray 35))) : refR0.wp Try.prog Q a w := by
  obtain ⟨n1, n2, n3⟩ := hf
  have N3 := hide n3
  clear n3
  conv => arg 2; whnf
  apply wp_region_lit
  refine wpList_plain rfl (fun K hK => ?_)
  go_simp
  refine hK _ _ ?_
  simp only [wpList]
  refine h _ ⟨by simpa using n1, by simp [n2], by simp [n1], N3.out⟩
theorem refR1_wp {Q : Exit → Act → World → Prop} {r : Int} {b : Nat} {a : Act} {w : World} (hf : Fr 862 r b a) (hr : -2147483648 ≤ r ∧ r ≤ 2147483647)
    (h : ∀ a', Fr 862 r b a' → a'.eval (.tmp 9) = .bool (isSyl r) → Q .normal a' w) : refR1.wp Try.prog Q a w := by
  have n1 := hf.1
  have n2 := hf.2.1
  have n3 : a.tmps[0]'(by omega) = .int .i32 r := by rw [Array.getElem?_eq_getElem (by omega)] at n2; exact Option.some.inj n2
  by_cases h1 : 44032 ≤ r
  · have d1 : decide (44032 ≤ r) = true := by simpa using h1
    conv => arg 2; whnf
    apply wp_region_lit
    refine wpList_plain rfl (fun K hK => ?_)
    go_simp
    refine hK _ _ ?_
    clear hK K
    refine wpList_plain rfl (fun K hK => ?_)
    go_simp
    refine hK _ _ ?_
    clear hK K
    refine wpList_plain rfl (fun K hK => ?_)
    go_simp
    refine hK _ _ ?_
    clear hK K
    refine wpList_step (fun K hK => ?_)
    go_simp
    refine hK _ _ ?_
    clear hK K
    refine wpList_step (fun K hK => ?_)
    go_simp
    refine hK _ _ ?_
    clear hK K
    refine wpList_plain rfl (fun K hK => ?_)
    go_simp
    refine hK _ _ ?_
    clear hK K
    simp only [wpList]
    refine h _ ?_ ?_
    · repeat' (first | (with_reducible exact hf) | (with_reducible refine Fr.put' ?_ _ (by omega) _))
    · simp [Act.eval, n1, isSyl, d1]
  · have d1 : decide (44032 ≤ r) = false := by simpa using h1
    conv => arg 2; whnf
    apply wp_region_lit
    refine wpList_plain rfl (fun K hK => ?_)
    go_simp
    refine hK _ _ ?_
    clear hK K
    refine wpList_plain rfl (fun K hK => ?_)
    go_simp
    refine hK _ _ ?_
    clear hK K
    refine wpList_plain rfl (fun K hK => ?_)
    go_simp
    refine hK _ _ ?_
    clear hK K
    refine wpList_step (fun K hK => ?_)
    go_simp
    refine hK _ _ ?_
    clear hK K
    refine wpList_step (fun K hK => ?_)
    go_simp
    refine hK _ _ ?_
    clear hK K
    refine wpList_plain rfl (fun K hK => ?_)
    go_simp
    refine hK _ _ ?_
    clear hK K
    simp only [wpList]
    refine h _ ?_ ?_
    · repeat' (first | (with_reducible exact hf) | (with_reducible refine Fr.put' ?_ _ (by omega) _))
    · simp [Act.eval, n1, isSyl, d1]

theorem refLen : refCases.length = 211 := by kernel_rfl
theorem ref_result {r : Int} {b : Nat} {a : Act} {W : World} {c : Cl} (hf : Fr 862 r b a) (hW : Blk W b 35 c.vs) : (results Try.f22 a.tmps).run Try.prog W = .ok c.v W := by
  have c0 := hW.cell 0 rfl
  have c1 := hW.cell 1 rfl
  have c2 := hW.cell 2 rfl
  have c3 := hW.cell 3 rfl
  have c4 := hW.cell 4 rfl
  have n1 : 2 < a.tmps.size := by rw [hf.1]; omega
  have n2 : a.tmps[2]'n1 = .pointer (some ⟨b, 0, none⟩) := by have := hf.2.2.1; rw [Array.getElem?_eq_getElem n1] at this; exact Option.some.inj this
  simp [results, Try.results22, go_sem, n1, n2, c0, c1, c2, c3, c4]

theorem rfind_other (r : Int) (w : World) (hr : -2147483648 ≤ r ∧ r ≤ 2147483647) (hs : isSyl r = false) :
    Calls Try.prog 22 #[.int .i32 r] w fun e w' => e = .returned (cls r).v ∧ Grew w w' := by
  have hl := refLen
  refine calls_of_wp Try.func22 refBody_is ?_
  rw [Try.ntmps22]
  have hF : Fr0 862 r ⟨#[.int .i32 r] ++ Array.replicate (862 - (#[Value.int .i32 r] : Array Value).size) undef, []⟩ := ⟨by rw [Array.size_append, Array.size_replicate]; rfl, by rw [Array.getElem?_append_left (Nat.zero_lt_one)]; rfl, rfl⟩
  generalize (⟨#[.int .i32 r] ++ Array.replicate (862 - (#[Value.int .i32 r] : Array Value).size) undef, []⟩ : Act) = a at hF ⊢
  refine wp_seq (refR0_wp hF fun a hF => ?_)
  refine wp_seq (wp_seq (refR1_wp hF hr fun a hF he => ?_))
  refine wp_cond_split he (fun ht => by rw [hs] at ht; cases ht) (fun _ => wp_skip ?_)
  have hc : ∀ c, cls r = c ↔ (lkC refCases r).getD Cl.zero = c := by intro c; unfold cls; rw [hs]; rfl
  refine wp_seq (wp_block (chain_wp hr (Blk.new rfl) ((Grew.refl w).alloc _) (Nat.le_refl _) refCases 17 6 a (by omega) (by omega) hF ?_ ?_))
  · intro a' W' c h1 h2 h3 h4
    have : cls r = c := by rw [hc, h1]; rfl
    rw [this]
    exact bodyPost_ret (R := fun e w' => e = .returned c.v ∧ Grew w w') (ref_result h2 h3) h2.2.2.2 ⟨rfl, h4⟩
  · intro a' h1 h2
    have : cls r = Cl.zero := by rw [hc, h1]; rfl
    rw [this]
    refine wp_seq (row_wp _ _ _ none _ w _ (by omega) (by omega) h2 (Blk.new rfl) ((Grew.refl w).alloc _) (Nat.le_refl _) fun a W h2 h3 h4 => ?_)
    exact wp_ret (bodyPost_ret (R := fun e w' => e = .returned Cl.zero.v ∧ Grew w w') (ref_result h2 h3) h2.2.2.2 ⟨rfl, h4⟩)

theorem refR2_wp {Q : Exit → Act → World → Prop} {r : Int} {b : Nat} {a : Act} {W : World} (hf : Fr 862 r b a)
    (h : ∀ a', Fr 862 r b a' → a'.eval (.tmp 3) = .pointer (some ⟨W.heap.size, 0, none⟩) → Q .normal a' ((W.alloc (.cells (Cl.mk 13 3 18 0 0).vs.toArray 35)))) : refR2.wp Try.prog Q a W := by
  have n1 := hf.1
  conv => arg 2; whnf
  apply wp_region_lit
  refine wpList_plain rfl (fun K hK => ?_)
  go_simp
  refine hK _ _ ?_
  clear hK K
  refine wpList_plain rfl (fun K hK => ?_)
  go_simp
  refine hK _ _ ?_
  clear hK K
  refine wpList_plain rfl (fun K hK => ?_)
  go_simp
  refine hK _ _ ?_
  clear hK K
  simp only [wpList]
  refine h _ ?_ ?_
  · repeat' (first | (with_reducible exact hf) | (with_reducible refine Fr.put' ?_ _ (by omega) _))
  · simp [Act.eval, n1]
theorem refR3_wp {Q : Exit → Act → World → Prop} {r : Int} {b : Nat} {p : Value} {a : Act} {W : World} (hf : Fr 862 r b a) (h3 : a.eval (.tmp 3) = p) (g1 : 44032 ≤ r) (g2 : r ≤ 55203)
    (h : ∀ a', Fr 862 r b a' → a'.eval (.tmp 3) = p → a'.eval (.tmp 14) = .bool (decide ((r - 44032) % 28 = 0)) → Q .normal a' W) : refR3.wp Try.prog Q a W := by
  have n1 := hf.1
  have n2 := hf.2.1
  have n3 : a.tmps[0]'(by omega) = .int .i32 r := by rw [Array.getElem?_eq_getElem (by omega)] at n2; exact Option.some.inj n2
  have n4 : a.tmps[3]'(by omega) = p := by rw [← h3]; simp [Act.eval, n1]
  clear h3
  conv => arg 2; whnf
  apply wp_region_lit
  refine wpList_plain rfl (fun K hK => ?_)
  go_simp
  refine hK _ _ ?_
  clear hK K
  refine wpList_plain rfl (fun K hK => ?_)
  go_simp
  refine hK _ _ ?_
  clear hK K
  refine wpList_plain rfl (fun K hK => ?_)
  go_simp
  refine hK _ _ ?_
  clear hK K
  refine wpList_plain rfl (fun K hK => ?_)
  go_simp
  refine hK _ _ ?_
  clear hK K
  simp only [wpList]
  refine h _ ?_ ?_ ?_
  · repeat' (first | (with_reducible exact hf) | (with_reducible refine Fr.put' ?_ _ (by omega) _))
  · simp [Act.eval, n1, n4]
  · have hw : IntKind.i32.wrap (r - 44032) = r - 44032 := by rw [IntKind.wrap_i32]; omega
    have ht : (r - 44032).tmod 28 = (r - 44032) % 28 := Int.tmod_eq_emod_of_nonneg (by omega)
    simp only [Act.eval, Array.getD_eq_getD_getElem?, Array.getElem?_setIfInBounds, Array.size_setIfInBounds, n1, hw, ht]
    simp
    rfl
theorem refR4_wp {Q : Exit → Act → World → Prop} {r : Int} {b p : Nat} {x : Int} {a : Act} {W : World} (hf : Fr 862 r b a) (h3 : a.eval (.tmp 3) = .pointer (some ⟨p, 0, none⟩))
    (hW : Blk W p 35 (Cl.mk x 3 18 0 0).vs)
    (h : ∀ a', Fr 862 r b a' → a'.eval (.tmp 3) = .pointer (some ⟨p, 0, none⟩) → Q .normal a' (W.setCell ⟨p, 0, none⟩ (.int .i64 12))) : refR4.wp Try.prog Q a W := by
  have n1 := hf.1
  have n4 : a.tmps[3]'(by omega) = .pointer (some ⟨p, 0, none⟩) := by rw [← h3]; simp [Act.eval, n1]
  clear h3
  have c0 := hW.cell 0 rfl
  have f0 := hW.free 0
  conv => arg 2; whnf
  apply wp_region_lit
  refine wpList_plain rfl (fun K hK => ?_)
  go_simp
  refine hK _ _ ?_
  clear hK K
  refine wpList_plain rfl (fun K hK => ?_)
  go_simp
  refine hK _ _ ?_
  clear hK K
  simp only [wpList]
  refine h _ ?_ ?_
  · repeat' (first | (with_reducible exact hf) | (with_reducible refine Fr.put' ?_ _ (by omega) _))
  · simp [Act.eval, n1, n4]
theorem refR5_wp {Q : Exit → Act → World → Prop} {r : Int} {b p : Nat} {c : Cl} {a : Act} {w W : World} (hf : Fr 862 r b a) (h3 : a.eval (.tmp 3) = .pointer (some ⟨p, 0, none⟩))
    (hp : Blk W p 35 c.vs) (hW : Blk W b 35 Cl.zero.vs) (hg : Grew w W) (hb : w.heap.size ≤ b)
    (h : ∀ a' W', Fr 862 r b a' → Blk W' b 35 c.vs → Grew w W' → Q .normal a' W') : refR5.wp Try.prog Q a W := by
  have n1 := hf.1
  have n4 : a.tmps[3]'(by omega) = .pointer (some ⟨p, 0, none⟩) := by rw [← h3]; simp [Act.eval, n1]
  have n5 : a.tmps[2]'(by omega) = .pointer (some ⟨b, 0, none⟩) := by have := hf.2.2.1; rw [Array.getElem?_eq_getElem (by omega)] at this; exact Option.some.inj this
  clear h3
  have c0 := hW.cell 0 rfl
  have c1 := hW.cell 1 rfl
  have c2 := hW.cell 2 rfl
  have c3 := hW.cell 3 rfl
  have c4 := hW.cell 4 rfl
  have f0 := hW.free 0
  have f1 := hW.free 1
  have f2 := hW.free 2
  have f3 := hW.free 3
  have f4 := hW.free 4
  have d0 := hp.cell 0 rfl
  have d1 := hp.cell 1 rfl
  have d2 := hp.cell 2 rfl
  have d3 := hp.cell 3 rfl
  have d4 := hp.cell 4 rfl
  have H1 := h ⟨a.tmps.setIfInBounds 16 c.v, a.defers⟩ (((((W.setCell ⟨b, 0, none⟩ (.int .i64 c.b)).setCell ⟨b, 1, none⟩ (.int .i64 c.w)).setCell ⟨b, 2, none⟩ (.int .i64 c.l)).setCell ⟨b, 3, none⟩ (.int .i64 c.d)).setCell ⟨b, 4, none⟩ (.int .i64 c.j)) (hf.put 16 (by omega) _) (((((hW.set 0 _).set 1 _).set 2 _).set 3 _).set 4 _) (((((hg.setCell hb _).setCell hb _).setCell hb _).setCell hb _).setCell hb _)
  clear h hg hp hW hf
  conv => arg 2; whnf
  apply wp_region_lit
  refine wpList_plain rfl (fun K hK => ?_)
  go_simp
  refine hK _ _ ?_
  clear hK K
  refine wpList_plain rfl (fun K hK => ?_)
  go_simp
  refine hK _ _ ?_
  clear hK K
  simp only [wpList]
  exact H1

theorem rfind_syl (r : Int) (w : World) (hr : -2147483648 ≤ r ∧ r ≤ 2147483647) (hs : isSyl r = true) :
    Calls Try.prog 22 #[.int .i32 r] w fun e w' => e = .returned (cls r).v ∧ Grew w w' := by
  have g : 44032 ≤ r ∧ r ≤ 55203 := by simpa [isSyl] using hs
  refine calls_of_wp Try.func22 refBody_is ?_
  rw [Try.ntmps22]
  have hF : Fr0 862 r ⟨#[.int .i32 r] ++ Array.replicate (862 - (#[Value.int .i32 r] : Array Value).size) undef, []⟩ := ⟨by rw [Array.size_append, Array.size_replicate]; rfl, by rw [Array.getElem?_append_left (Nat.zero_lt_one)]; rfl, rfl⟩
  generalize (⟨#[.int .i32 r] ++ Array.replicate (862 - (#[Value.int .i32 r] : Array Value).size) undef, []⟩ : Act) = a at hF ⊢
  refine wp_seq (refR0_wp hF fun a hF => ?_)
  refine wp_seq (wp_seq (refR1_wp hF hr fun a hF he => ?_))
  refine wp_cond_split he (fun _ => ?_) (fun ht => by rw [hs] at ht; cases ht)
  have B0 : Blk (w.alloc (.cells Cl.zero.vs.toArray 35)) w.heap.size 35 Cl.zero.vs := Blk.new rfl
  have G0 : Grew w (w.alloc (.cells Cl.zero.vs.toArray 35)) := (Grew.refl w).alloc _
  have hz : w.heap.size < (w.alloc (.cells Cl.zero.vs.toArray 35)).heap.size := by simp
  generalize w.alloc (.cells Cl.zero.vs.toArray 35) = W at *
  rw [refSyl_is]
  refine wp_seq (refR2_wp hF fun a hF h3 => ?_)
  have B1 := B0.alloc (.cells (Cl.mk 13 3 18 0 0).vs.toArray 35)
  have G1 := G0.alloc (.cells (Cl.mk 13 3 18 0 0).vs.toArray 35)
  have C1 : Blk (W.alloc (.cells (Cl.mk 13 3 18 0 0).vs.toArray 35)) W.heap.size 35 (Cl.mk 13 3 18 0 0).vs := Blk.new rfl
  refine wp_seq (wp_seq (refR3_wp hF h3 g.1 g.2 fun a hF h3 he => ?_))
  refine wp_cond_split he (fun ht => ?_) (fun ht => wp_skip ?_)
  · have hc : cls r = Cl.mk 12 3 18 0 0 := by unfold cls; rw [hs, if_pos rfl, if_pos (of_decide_eq_true ht)]
    refine refR4_wp hF h3 C1 fun a hF h3 => ?_
    refine wp_seq (refR5_wp (c := Cl.mk 12 3 18 0 0) hF h3 (C1.set 0 _) (B1.other (by omega) _) (G1.setCell (G0.size) _) (Nat.le_refl _) fun a W hF hB hG => ?_)
    exact wp_ret (bodyPost_ret (R := fun e w' => e = .returned (cls r).v ∧ Grew w w') (ref_result (c := Cl.mk 12 3 18 0 0) hF hB) hF.2.2.2 ⟨by rw [hc], hG⟩)
  · have hc : cls r = Cl.mk 13 3 18 0 0 := by unfold cls; rw [hs, if_pos rfl, if_neg (of_decide_eq_false ht)]
    refine wp_seq (refR5_wp hF h3 C1 B1 G1 (Nat.le_refl _) fun a W hF hB hG => ?_)
    exact wp_ret (bodyPost_ret (R := fun e w' => e = .returned (cls r).v ∧ Grew w w') (ref_result hF hB) hF.2.2.2 ⟨by rw [hc], hG⟩)

theorem rfind_any (r : Int) (w : World) (hr : -2147483648 ≤ r ∧ r ≤ 2147483647) :
    Calls Try.prog 22 #[.int .i32 r] w fun e w' => e = .returned (cls r).v ∧ Grew w w' := by
  cases hs : isSyl r
  · exact rfind_other r w hr hs
  · exact rfind_syl r w hr hs
end Go.Proofs.Ythkaenjdkelbdaa
