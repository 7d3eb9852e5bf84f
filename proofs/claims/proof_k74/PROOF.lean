import PyProof.Rows.All
import Wide.All
import OpenK.AllK
import PySem.Challenge.RW_roundfall_k74_a_desk
set_option Elab.async false
set_option linter.all false
set_option maxRecDepth 100000
local macro_rules|`(tactic|nofun)=>`(tactic|decide +kernel)
namespace L2
open PySem PySem.Spec PyProof.Rows
def inClass (s:Stmt)(j:Nat):Stmt:=match s with
 | .ClassDef _ _ _ body _ _ _ _ _ _ _=>body.getD j (.Pass ⟨0,0,0,0⟩)
 | _=>.Pass ⟨0,0,0,0⟩
def defArgs (s:Stmt):Arguments:=match s with
 | .FunctionDef _ a _ _ _ _ _ _ _ _=>a
 | _=>{ posonlyargs:=[],args:=[],vararg:=none,kwonlyargs:=[],kw_defaults:=[],kwarg:=none,defaults:=[] }
def defBody (s:Stmt):List Stmt:=match s with
 | .FunctionDef _ _ b _ _ _ _ _ _ _=>b
 | _=>[]
def defScope (s:Stmt):Scope:=match s with
 | .FunctionDef _ _ _ _ _ _ sc _ _ _=>sc
 | _=>{ kind:=.function,names:=[],isGenerator:=false,isCoroutine:=false }
end L2
namespace Law
open PySem PySem.Spec PyProof.Rows
def top (i:Nat):Stmt:=PySem.Challenge.pw_roundfall_k74_a_desk.main.body.getD i (.Pass ⟨0,0,0,0⟩)
end Law
namespace Law
noncomputable section
open PySem PySem.W PySem.Spec PyProof.Rows L2
def F9 (s:Stmt):Str:=match s with
 | .FunctionDef x _ _ _ _ _ _ _ _ _=>x
 | .ClassDef x _ _ _ _ _ _ _ _ _ _=>x
 | _=>""
def G7 (s:Stmt)(q:Str)(t l a u:Nat):Obj:=⟨.type "code",none,.fields #[.str (F9 s) t,.str q (t+1),.str "/claim/cut.py" (t+2),.int l 0,.int (defArgs s).args.length 0,.int 0 0,.int 0 0,.int 3 0,.ref a,.bool true,.int 181 0,.ref (a+1),.none,bif u.beq 3 then .none else .ref (a+2),bif u.beq 3 then .none else .ref (a+3),.ref (bif u.beq 3 then a+2 else a+4),.int (t+u:Nat) 0,.int l 0,.str "/claim/cut.py" (t+u+1)],#[]⟩
def L4 (s:Stmt)(q:Str)(m:Value)(c:Addr):Obj:=⟨.type "function",none,.func (fnOf (F9 s) q (defArgs s) (defBody s) (defScope s) .none .none .none m none (.ref c) .none),#[]⟩
def M0:List (Nat×Nat×Nat×Nat×Nat):=[(1,189,2,15,4),(2,196,4,22,6),(3,205,9,29,5),(4,213,11,36,6),(5,222,16,43,3),(18,352,37,133,4),(19,359,39,140,3),(20,365,43,145,6),(21,374,45,152,3),(22,380,53,157,3),(23,386,58,162,4),(24,393,62,169,4),(25,400,64,176,6),(29,436,77,202,7),(30,446,80,209,3),(31,452,82,214,8),(32,463,89,221,5),(34,473,94,228,3),(35,479,97,233,3),(36,485,100,238,3),(37,491,105,243,4),(38,498,107,250,5),(40,515,117,264,7),(41,525,124,271,6),(42,534,129,278,4),(55,617,175,338,3),(56,623,177,343,6),(57,632,179,350,3),(58,638,184,355,3),(59,644,186,360,5),(93,889,316,522,3),(94,895,321,527,3),(95,901,324,532,3),(96,907,326,537,6),(97,916,334,544,4),(98,923,338,551,3),(99,929,342,556,3),(106,999,359,573,3),(107,1005,361,578,4),(109,1019,369,592,3),(111,1032,378,604,5),(112,1040,388,611,5),(113,1048,393,618,8),(127,1141,429,691,6),(128,1150,433,698,3),(133,1180,449,723,6),(136,1239,485,765,5),(137,1247,489,772,6),(138,1256,492,779,4),(139,1263,494,786,4),(140,1270,498,793,7),(141,1280,503,800,10),(142,1293,511,807,3),(143,1299,514,812,3),(144,1305,522,817,3),(145,1311,530,822,9),(146,1323,537,829,9),(147,1335,542,836,3),(148,1341,548,841,3),(149,1347,553,846,3),(150,1353,564,851,3),(151,1359,578,856,3),(152,1365,582,861,13),(153,1381,598,868,11)]
def M8 (j:Nat):Nat×Nat×Nat×Nat×Nat:=M0.getD j (0,0,0,0,0)
def Q0 (i:Nat):Value:=bif i.blt 6 then .str "roundfall.masks" 187 else bif i.blt 33 then .str "roundfall.runs" 344 else bif i.blt 43 then .str "roundfall.views" 471 else bif i.blt 60 then .str "roundfall.waste" 615 else bif i.blt 100 then .str "roundfall.texts" 883 else bif i.blt 114 then .str "roundfall.rows" 935 else bif i.blt 134 then .str "roundfall.desk" 1121 else .str "law_roundfall_k74_a_desk" 1237
def K0 (j:Nat):Obj:=match M8 j with
 | (i,t,l,a,u)=>G7 (top i) (F9 (top i)) t l a u
def G8 (a u:Nat):Nat:=bif u.beq 3 then a+3 else a+5
def K2 (j:Nat):Obj:=match M8 j with
 | (i,_,_,a,u)=>L4 (top i) (F9 (top i)) (Q0 i) (G8 a u)
def K3 (P:Params)(x:Str)(t:Nat)(v:Value):DictEntry:=⟨PyData.keyHash P x,.str x t,v⟩
def G2 (l:List (Str×Nat×Value)):List (Str×Nat×Value):=l
def K7 (a n:Nat):List (Str×Nat×Value):=((M0.drop a).take n).map λ(i,t,_,a,u)=>(F9 (top i),t+u+2,.ref (G8 a u+1))
def K5 (l:List (Nat×Nat×Nat)):List (Str×Nat×Value):=l.map λ(i,t,a)=>(F9 (top i),t,.ref a)
def M9:List (Str×Nat×Value):=G2 [("__name__",165,.str "law_roundfall_k74_a_desk" 1237),("__doc__",166,.none),("__package__",167,.none),("__loader__",168,.builtin "__main__.__loader__#opaque"),("__spec__",169,.none),("__annotations__",170,.ref 6),("__builtins__",171,.ref 4),("__file__",173,.str "/claim/cut.py" 172),("__cached__",174,.none)]++K7 0 5++K5 [(7,247,57),(8,263,70),(9,279,82),(10,295,94),(11,311,106),(12,327,118),(13,343,130)]++G2 [("LEAST_HANDS",347,.int 2 346),("MOST_HANDS",349,.int 5 348),("LAST_ROUND",351,.int 5 350)]++K7 5 8++K5 [(26,414,187),(27,425,194),(28,435,201)]++K7 13 9++K5 [(39,514,263)]++K7 22 3++K5 [(43,546,289),(44,552,294),(45,558,299),(46,566,306),(47,577,313),(49,585,318),(51,597,325),(52,608,332),(53,614,337)]++K7 25 5++K5 [(60,660,373),(62,668,378),(63,674,383),(64,684,390),(65,695,397),(66,705,404),(67,711,409),(68,725,416),(69,731,421),(70,743,428),(72,758,435),(73,766,442),(74,778,449),(76,790,456),(77,800,463),(78,809,470),(79,815,475),(124,826,683)]++G2 [("number_by_breaking",827,.ref 482)]++K5 [(83,833,487),(84,839,492),(85,845,497),(86,851,502),(87,864,509),(88,870,514),(89,882,521)]++G2 [("FIGURES",886,.str "0123456789" 885),("MOST_FIGURES",888,.int 60 887)]++K7 30 7++G2 [("LETTERS",938,.str "abcdefghijklmnopqrstuvwxyz" 937),("MOST_LETTERS",940,.int 8 939),("RULES",945,.ref 561),("MOST",955,.ref 562),("FORMS",998,.ref 563)]++K7 37 2++K5 [(108,1018,591)]++K7 39 1++K5 [(110,1031,603)]++K7 40 3++K5 [(115,1066,629),(116,1074,636),(117,1080,641),(118,1088,648),(119,1096,655),(120,1104,662),(121,1112,669),(122,1120,676)]++G2 [("number_by_desk",1132,.ref 683)]++K5 [(126,1140,690)]++K7 43 2++K5 [(129,1161,707),(130,1167,712),(131,1173,717),(132,1179,722)]++K7 45 1++K5 [(134,1236,760)]++K7 46 18
def N2 (P:Params):Obj:=⟨.type "dict",none,.dict (List.toArray (M9.map λ(x,t,v)=>K3 P x t v)) 146,#[]⟩
def K9 (x:Array Value):Obj:=⟨.type "tuple",none,.seq x 0,#[]⟩
def P7 (P:Params):Obj:=⟨.type "dict",none,.dict (List.toArray [K3 P "hand" 946 (.int 4 947),K3 P "bound" 948 (.int 3 949),K3 P "rounds" 950 (.int 4 951)]) 3,#[]⟩
def N6 (P:Params):Obj:=⟨.type "dict",none,.dict (List.toArray [K3 P "run" 956 (.ref 564),K3 P "show" 959 (.ref 565),K3 P "waste" 961 (.ref 566),K3 P "close" 963 (.ref 567),K3 P "know" 966 (.ref 568),K3 P "choose" 970 (.ref 569),K3 P "alike" 975 (.ref 570),K3 P "chain" 979 (.ref 571),K3 P "break" 984 (.ref 572)]) 9,#[]⟩
def N8 (P:Params):Obj:=K9 #[.str "name" 957,.str "text" 958]
def R4 (P:Params):Obj:=K9 #[.str "name" 960]
def N9 (P:Params):Obj:=K9 #[.str "name" 962]
def R0 (P:Params):Obj:=K9 #[.str "name" 964,.str "bound" 965]
def R3 (P:Params):Obj:=K9 #[.str "name" 967,.str "hand" 968,.str "rounds" 969]
def Q4 (P:Params):Obj:=K9 #[.str "name" 971,.str "rule" 972,.str "bound" 973,.str "rounds" 974]
def P0 (P:Params):Obj:=K9 #[.str "name" 976,.str "other" 977,.str "rounds" 978]
def N4 (P:Params):Obj:=K9 #[.str "name" 980,.str "bound" 981,.str "rounds" 982,.str "number" 983]
def P5 (P:Params):Obj:=K9 #[.str "name" 985,.str "rule" 986,.str "bound" 987,.str "rounds" 988]
def Q5 (P:Params):Obj:=⟨.type "type",none,.cls { name:="Desk",bases:=[.type "object"],mro:=[.ref 760,.type "object"],ns:=759,qualname:="Desk" },#[none,none,some (.str "Desk" 1189),some (.str "Desk" 1197),some (.builtin "object.__new__"),some (.bool true)]⟩
def Q9 (P:Params):Obj:=⟨.type "dict",none,.dict (List.toArray [K3 P "__module__" 1196 (.str "roundfall.desk" 1121),K3 P "__firstlineno__" 1200 (.int 463 1199),K3 P "__init__" 1207 (.ref 743),K3 P "say" 1219 (.ref 750),K3 P "run_by" 1227 (.ref 757),K3 P "__static_attributes__" 1229 (.ref 758),K3 P "__dict__" 1231 (.ref 761),K3 P "__weakref__" 1233 (.ref 762),K3 P "__doc__" 1234 (.none)]) 4,#[]⟩
def N5 (P:Params):Obj:=L4 (inClass (top 134) 0) "Desk.__init__" (.str "roundfall.desk" 1121) 742
def P1 (P:Params):Obj:=G7 (inClass (top 134) 0) "Desk.__init__" 1201 465 737 4
def Q3 (P:Params):Obj:=L4 (inClass (top 134) 1) "Desk.say" (.str "roundfall.desk" 1121) 749
def R1 (P:Params):Obj:=G7 (inClass (top 134) 1) "Desk.say" 1208 468 744 9
def P8 (P:Params):Obj:=L4 (inClass (top 134) 2) "Desk.run_by" (.str "roundfall.desk" 1121) 756
def P3 (P:Params):Obj:=G7 (inClass (top 134) 2) "Desk.run_by" 1220 480 751 5
def G4:Params->Frag:=fun P=>(nat_lit 20,K0 0)::(nat_lit 21,K2 0)::(nat_lit 27,K0 1)::(nat_lit 28,K2 1)::(nat_lit 34,K0 2)::(nat_lit 35,K2 2)::(nat_lit 41,K0 3)::(nat_lit 42,K2 3)::(nat_lit 46,K0 4)::(nat_lit 47,K2 4)::(nat_lit 138,K0 5)::(nat_lit 139,K2 5)::(nat_lit 143,K0 6)::(nat_lit 144,K2 6)::(nat_lit 150,K0 7)::(nat_lit 151,K2 7)::(nat_lit 155,K0 8)::(nat_lit 156,K2 8)::(nat_lit 160,K0 9)::(nat_lit 161,K2 9)::(nat_lit 167,K0 10)::(nat_lit 168,K2 10)::(nat_lit 174,K0 11)::(nat_lit 175,K2 11)::(nat_lit 181,K0 12)::(nat_lit 182,K2 12)::(nat_lit 207,K0 13)::(nat_lit 208,K2 13)::(nat_lit 212,K0 14)::(nat_lit 213,K2 14)::(nat_lit 219,K0 15)::(nat_lit 220,K2 15)::(nat_lit 226,K0 16)::(nat_lit 227,K2 16)::(nat_lit 231,K0 17)::(nat_lit 232,K2 17)::(nat_lit 236,K0 18)::(nat_lit 237,K2 18)::(nat_lit 241,K0 19)::(nat_lit 242,K2 19)::(nat_lit 248,K0 20)::(nat_lit 249,K2 20)::(nat_lit 255,K0 21)::(nat_lit 256,K2 21)::(nat_lit 269,K0 22)::(nat_lit 270,K2 22)::(nat_lit 276,K0 23)::(nat_lit 277,K2 23)::(nat_lit 283,K0 24)::(nat_lit 284,K2 24)::(nat_lit 341,K0 25)::(nat_lit 342,K2 25)::(nat_lit 348,K0 26)::(nat_lit 349,K2 26)::(nat_lit 353,K0 27)::(nat_lit 354,K2 27)::(nat_lit 358,K0 28)::(nat_lit 359,K2 28)::(nat_lit 365,K0 29)::(nat_lit 366,K2 29)::(nat_lit 525,K0 30)::(nat_lit 526,K2 30)::(nat_lit 530,K0 31)::(nat_lit 531,K2 31)::(nat_lit 535,K0 32)::(nat_lit 536,K2 32)::(nat_lit 542,K0 33)::(nat_lit 543,K2 33)::(nat_lit 549,K0 34)::(nat_lit 550,K2 34)::(nat_lit 554,K0 35)::(nat_lit 555,K2 35)::(nat_lit 559,K0 36)::(nat_lit 560,K2 36)::(nat_lit 576,K0 37)::(nat_lit 577,K2 37)::(nat_lit 583,K0 38)::(nat_lit 584,K2 38)::(nat_lit 595,K0 39)::(nat_lit 596,K2 39)::(nat_lit 609,K0 40)::(nat_lit 610,K2 40)::(nat_lit 616,K0 41)::(nat_lit 617,K2 41)::(nat_lit 623,K0 42)::(nat_lit 624,K2 42)::(nat_lit 696,K0 43)::(nat_lit 697,K2 43)::(nat_lit 701,K0 44)::(nat_lit 702,K2 44)::(nat_lit 728,K0 45)::(nat_lit 729,K2 45)::(nat_lit 770,K0 46)::(nat_lit 771,K2 46)::(nat_lit 777,K0 47)::(nat_lit 778,K2 47)::(nat_lit 784,K0 48)::(nat_lit 785,K2 48)::(nat_lit 791,K0 49)::(nat_lit 792,K2 49)::(nat_lit 798,K0 50)::(nat_lit 799,K2 50)::(nat_lit 805,K0 51)::(nat_lit 806,K2 51)::(nat_lit 810,K0 52)::(nat_lit 811,K2 52)::(nat_lit 815,K0 53)::(nat_lit 816,K2 53)::(nat_lit 820,K0 54)::(nat_lit 821,K2 54)::(nat_lit 827,K0 55)::(nat_lit 828,K2 55)::(nat_lit 834,K0 56)::(nat_lit 835,K2 56)::(nat_lit 839,K0 57)::(nat_lit 840,K2 57)::(nat_lit 844,K0 58)::(nat_lit 845,K2 58)::(nat_lit 849,K0 59)::(nat_lit 850,K2 59)::(nat_lit 854,K0 60)::(nat_lit 855,K2 60)::(nat_lit 859,K0 61)::(nat_lit 860,K2 61)::(nat_lit 866,K0 62)::(nat_lit 867,K2 62)::(nat_lit 873,K0 63)::(nat_lit 874,K2 63)::(nat_lit 3,N2 P)::(nat_lit 562,P7 P)::(nat_lit 563,N6 P)::(nat_lit 564,N8 P)::(nat_lit 565,R4 P)::(nat_lit 566,N9 P)::(nat_lit 567,R0 P)::(nat_lit 568,R3 P)::(nat_lit 569,Q4 P)::(nat_lit 570,P0 P)::(nat_lit 571,N4 P)::(nat_lit 572,P5 P)::(nat_lit 742,P1 P)::(nat_lit 743,N5 P)::(nat_lit 749,R1 P)::(nat_lit 750,Q3 P)::(nat_lit 756,P3 P)::(nat_lit 757,P8 P)::(nat_lit 759,Q9 P)::(nat_lit 760,Q5 P)::[]
def G3:List Addr:=(M0.flatMap λ(_,_,_,a,u)=>[G8 a u,G8 a u+1])++[3,562,563,564,565,566,567,568,569,570,571,572,742,743,749,750,756,757,759,760]
end
end Law
namespace HdT
open PySem PySem.W PySem.Spec PyProof.Rows
def F8 (st:SharedT->Thread->Option (SharedT×Thread))(ok:Thread->Bool):Nat->SharedT->Thread->Option SharedT
 | 0,_,_=>none
 | n+1,s,t=>match through t with
  | true=>some s
  | false=>match ok t with
   | false=>none
   | true=>match st s t with
    | some (s',t')=>F8 st ok n s' t'
    | none=>none
def G6 (st:SharedT->Thread->Option (SharedT×Thread))(ok:Thread->Bool):Nat->SharedT->Thread->Option (SharedT×Thread)
 | 0,s,t=>some (s,t)
 | n+1,s,t=>match through t with
  | true=>none
  | false=>match ok t with
   | false=>none
   | true=>match st s t with
    | some (s',t')=>G6 st ok n s' t'
    | none=>none
theorem L8 {st:SharedT->Thread->Option (SharedT×Thread)}{ok:Thread->Bool}{b:Nat}{r:SharedT}:∀ {a:Nat} {s s':SharedT} {t t':Thread},G6 st ok a s t=some (s',t')->F8 st ok b s' t'=some r->F8 st ok (a+b) s t=some r
 | 0,s,s',t,t',h,k=>by cases h;rw[Nat.zero_add];exact k
 | a+1,s,s',t,t',h,k=>by
  rw[show a+1+b=a+b+1 by omega];unfold G6 at h;unfold F8;cases h1:through t with
  | true=>rw[h1] at h;cases h
  | false =>
   rw[h1] at h;cases h2:ok t with
   | false=>rw[h2] at h;cases h
   | true =>
    rw[h2] at h;cases h3:st s t with
    | none=>rw[h3] at h;cases h
    | some x=>obtain⟨s₂,t₂⟩:=x;rw[h3] at h;exact L8 h k
theorem M4 {tb:String->Option Builtin}{p:Program}{w:World}{n₀:Nat}{ann:Option Value}:∀ {n:Nat} {s s':SharedT} {t:Thread},F8 (stepT (denote tb) p w) (stepOk n₀ ann) n s t=some s'->topRun tb p w n₀ ann n s.abs t=some s'.abs
 | 0,_,_,_,h=>by cases h
 | n+1,s,s',t,h=>by
  unfold F8 at h;unfold topRun;cases h1:through t with
  | true=>rw[h1] at h;cases h;rfl
  | false =>
   rw[h1] at h;cases h2:stepOk n₀ ann t with
   | false=>rw[h2] at h;cases h
   | true =>
    rw[h2] at h;cases h3:stepT (denote tb) p w s t with
    | none=>rw[h3] at h;cases h
    | some x=>obtain⟨s₂,t₂⟩:=x;rw[h3] at h;dsimp only;rw[stepT_spec h3];exact M4 h
def G5:BT->Nat->List Obj->BT
 | t,_,[]=>t
 | t,n,o::r=>G5 (t.ins n o) (n+1) r
noncomputable abbrev K4 (P:Params):List Obj:=(boot_heap P).objs.toList
noncomputable def L7 (P:Params)(os:OsState):SharedT:=⟨G5 .nil 0 (K4 P),(K4 P).length,(boot_heap P).life,Array.mk [],boot_drawn,boot_toks,os⟩
noncomputable abbrev L9 (P:Params):Option Value:=(boot_heap P).nsMap mainGlobals "__annotations__"

noncomputable abbrev K6 (p:Program)(w w':World)(os:OsState)(a m:Nat):Option (SharedT×Thread):=(G6 (stepT (denote treeTable) p w) (stepOk (K4 w.params).length (L9 w.params)) a (L7 w.params os) (topStub p)).bind fun x=>G6 (stepT (denote treeTable) p w') (stepOk (K4 w.params).length (L9 w.params)) m x.1 x.2
noncomputable abbrev G0 (p:Program)(w w':World)(os:OsState)(a m b:Nat):Option SharedT:=(K6 p w w' os a m).bind fun x=>F8 (stepT (denote treeTable) p w) (stepOk (K4 w.params).length (L9 w.params)) b x.1 x.2
theorem N7 {p:Program}{row:String}{a m:Nat}(h:∀ (w:World) (os:OsState),K6 p w (w.withFollow row false) os a m=K6 p w (w.withFollow row true) os a m)(w:World)(os:OsState):K6 p w w os a m=K6 p w (w.withFollow row false) os a m:=by
 have h:=h w os;have e:=World.withFollow_self w row;cases hb:w.params.followText row<;>rw[hb] at e
 ·rw[e]
 ·rw[e] at h;exact h.symm
theorem P4 {p q:Program}{ls:List Str}{Xt:Shared->Bool}{α:Type}{Yf:Shared->α}{Ya:World->α}{row:String}{a m b:Nat}(hR:∀ (w:World) (os:OsState),K6 p w (w.withFollow row false) os a m=K6 p w (w.withFollow row true) os a m)
  (hb:∀ w:World,(fencedOpening treeTable p w (a+(m+b))).map (fun s=>(s.heap,s.gens,s.drawn,s.toks))=some (boot_heap w.params,Array.mk [],boot_drawn,boot_toks))
  (hl:∀ P:Params,(G5 .nil 0 (K4 P)).list (K4 P).length=K4 P) (hn:∀ P:Params,(boot_heap P).isNs mainGlobals=true)
  (h0:∀ w os,(G0 p w (w.withFollow row false) os a m b).map (fun s=>staticsOk (importedModules p.main.body) (boot_heap w.params) s.abs.heap&&namesBound p s.abs.heap&&gensDone s.abs&&laidKept (boot_heap w.params) s.abs.heap)=some true)
  (h1:∀ w os,(G0 p w (w.withFollow row false) os a m b).map (fun s=>(openSeen q ls (importedModules p.main.body) Xt true s.abs,Yf s.abs))=some (openGood q ls,Ya w)):LeftO p q ls Xt Yf Ya (a+(m+b)):=fun w=>by
 obtain⟨s0,e0,e1⟩:=Option.map_eq_some_iff.mp (hb w);obtain⟨g1,e1⟩:=Prod.mk.inj e1;obtain⟨g2,e1⟩:=Prod.mk.inj e1;obtain⟨g3,g4⟩:=Prod.mk.inj e1;obtain⟨H,gs,dr,tk,os⟩:=s0;dsimp only at g1 g2 g3 g4;subst g1 g2 g3 g4;obtain⟨sT,r1,r2⟩:=Option.map_eq_some_iff.mp (h0 w os);have r3:=h1 w os;rw[r1] at r3;obtain⟨x,x1,x2⟩:=Option.bind_eq_some_iff.mp r1;rw[<- N7 hR] at x1;obtain⟨y,y1,y2⟩:=Option.bind_eq_some_iff.mp x1;have run:=M4 (L8 (s':=y.1) (t':=y.2) y1 (L8 (s':=x.1) (t':=x.2) y2 x2));have ab:(L7 w.params os).abs=⟨boot_heap w.params,Array.mk [],boot_drawn,boot_toks,os⟩:=by
  show Shared.mk ⟨((G5 .nil 0 (K4 w.params)).list (K4 w.params).length).toArray,(boot_heap w.params).life⟩ _ _ _ _=_;rw[hl];unfold L7 K4;generalize boot_heap w.params=B;obtain⟨⟨l⟩,life⟩:=B;rfl
 rw[ab] at run;unfold openEnds;rw[e0];show(topFrom treeTable p w (a+(m+b)) _).map _=_;unfold topFrom;dsimp only;rw[hn,show((#[]:Array GenState).size==0)=true from rfl];show((topRun treeTable p w (boot_heap w.params).objs.size _ (a+(m+b)) _ (topStub p)).bind _).map _=_;rw[show(boot_heap w.params).objs.size=(K4 w.params).length from rfl,run];dsimp only[Option.bind_some];rw[r2];exact r3
end HdT
namespace Law
open PySem PySem.W PySem.Spec PyProof.Rows HdT
theorem L0 (P:Params):G3=(G4 P).map (·.1):=by kernel_rfl
abbrev K8:Program:=PySem.Challenge.pw_roundfall_k74_a_desk
def G9:Program:=view K8 [153]
def M3:List Str:=(M9.drop 9).dropLast.map (·.1)
abbrev M7 (s:Shared):Bool:=xlAt G9 [] s&&recOk [] s
abbrev M5 (s:Shared):=openSeen G9 M3 (importedModules K8.main.body) M7 true s
theorem P9:∀ w:World,(fencedOpening treeTable K8 w (3870+(215+1600))).map (fun s=>(s.heap,s.gens,s.drawn,s.toks))=some (boot_heap w.params,Array.mk [],boot_drawn,boot_toks):=boot_open (by rfl) (by decide) (fun s=>by rfl)
theorem Q6:∀ P:Params,(G5 .nil 0 (K4 P)).list (K4 P).length=K4 P:=fun P=>by kernel_rfl
theorem P6:∀ P:Params,(boot_heap P).isNs mainGlobals=true:=fun P=>by kernel_rfl
set_option maxHeartbeats 0 in
theorem Q7:∀ (w:World) (os:OsState),K6 K8 w (w.withFollow "special-get-raises" false) os 3870 215=K6 K8 w (w.withFollow "special-get-raises" true) os 3870 215:=by
 intro w os;unfold K6;rw[Fast.te10156331382660048174,Fast.te11892475500146522536,Fast.te14364793385576792824,Fast.te6613529449190102663]
 kernel_rfl
set_option maxHeartbeats 0 in
theorem M6:∀ (w:World) (os:OsState),(G0 K8 w (w.withFollow "special-get-raises" false) os 3870 215 1600).map (fun s=>(staticsOk (importedModules K8.main.body) (boot_heap w.params) s.abs.heap&&namesBound K8 s.abs.heap&&gensDone s.abs&&laidKept (boot_heap w.params) s.abs.heap,M5 s.abs))=some (true,openGood G9 M3):=by
 intro w os;unfold G0 K6 M5;rw[Fast.te10156331382660048174,Fast.te11892475500146522536,Fast.te14364793385576792824,Fast.te6613529449190102663,Fast.te4187177175401517315]
 kernel_rfl
set_option maxHeartbeats 0 in
theorem N3:∀ (w:World) (os:OsState),(G0 K8 w (w.withFollow "special-get-raises" false) os 3870 215 1600).map (fun s=>Hook.obs (PySem.W.kHook Law.G4 Law.G3 Law.L0) s.abs)=some (Hook.val (PySem.W.kHook Law.G4 Law.G3 Law.L0) w):=by
 intro w os;unfold G0 K6;rw[Fast.te10156331382660048174,Fast.te11892475500146522536,Fast.te14364793385576792824,Fast.te6613529449190102663]
 kernel_rfl
theorem N1 {α β γ:Type}{o:Option γ}{f:γ->α×β}{a:α}{b:β}(h:o.map f=some (a,b)):o.map (fun s=>(f s).1)=some a/\o.map (fun s=>(f s).2)=some b:=by
 cases o with
 | none=>cases h
 | some s =>
  have e:f s=(a,b):=Option.some.inj h;exact⟨by show some (f s).1=_;rw[e],by show some (f s).2=_;rw[e]⟩
theorem Q8 {α β γ:Type}{o:Option γ}{f:γ->α}{g:γ->β}{a:α}{b:β}(h1:o.map f=some a)(h2:o.map g=some b):o.map (fun s=>(f s,g s))=some (a,b):=by
 cases o with
 | none=>cases h1
 | some s=>exact congrArg some (Prod.ext (Option.some.inj h1) (Option.some.inj h2))
theorem R6:LeftO K8 G9 M3 M7 (Hook.obs (PySem.W.kHook Law.G4 Law.G3 Law.L0)) (Hook.val (PySem.W.kHook Law.G4 Law.G3 Law.L0)) (3870+(215+1600)):=P4 (m:=215) Q7 P9 Q6 P6 (fun w os=>(N1 (M6 w os)).1) (fun w os=>Q8 (N1 (M6 w os)).2 (N3 w os))
set_option maxHeartbeats 0 in
theorem R5:PySem.Challenge.rw_roundfall_k74_a_desk.wellSaid=true:=by
 rw[Fast.te9446332074065402090]
 kernel_rfl
end Law
open Option renaming some->Ga,none->Gb
variable {p c:Prop}
def Gc[Decidable p](h:p):decide p=true:=decide_eq_true h
def Gd[Decidable p](h:¬p):decide p=false:=decide_eq_false h
def Ge{h:Decidable c}(k:c){α}{t e:α}:ite c t e=t:=if_pos k
def Gf{h:Decidable c}(k:¬c){α}{t e:α}:ite c t e=e:=if_neg k
open PySem renaming wpAny_bind->fk,wpAny_pure->fq
open PySem renaming Value->Gg,Shared->Gh,FuncData->Gj,Addr->Gk
open PySem.Str renaming ofString->ja,join->uQ,empty->vH,length->JT
open PySem.W renaming Frag->jb,nsIn->j4,mg_none_of->j9,fnOf->kZ,emptyDict->k9,findIn->ub,keepIn->uc,instObj->ux,mg_of->uG,kas_sort->uI,codeIn->vB,plainGet->qj,kHook->qo,kas_ask->qz,plainGet_of->qB,lookIn->qL,hasDictIn->qS,isFn->Ji,cellsFrom_some->Jj,KasT->Jm,takerIn->Jt,methodCall_KW->JA,callWith_K->JS,plainOver->JX,kitx_dict->J2,handedIn->Vb,makesIn->Vl,OpenLaw->Vm,WalkO->Vx
open List renaming length_map->jc,length_append->je,mem_cons_self->jf,getElem?_eq_getElem->jg,getD_eq_getElem?_getD->ji,mem_cons_of_mem->jk,mem_singleton->jn,mem_cons->jo,range->jq,mem_map->jr,getElem?_eq_some_iff->ju,size_toArray->jv,getElem?_map->jz,replicate->jB,length_cons->jC,mem_append_right->jD,map_map->jE,mem_range->jF,getElem?_set_self->jG,getElem?_set_ne->jJ,mem_append->jM,map_cons->jO,all_eq_true->jR,length_singleton->jU,length_range->jV,mem_filter->jY,getElem?_append_right->jZ,append_assoc->j3,mem_of_getElem?->j5,length_replicate->j6,not_mem_nil->j8,getElem?_replicate->ka,append_nil->kf,getElem?_append_left->ki,map_append->kr,length_filter_le->ky,lookup_cons->kE,getElem?_eq_none->kI,contains_iff_mem->kK,map_congr_left->kL,nodup_cons->kO,getElem_mem->k0,take_of_length_le->uh,find?_cons_of_pos->uj,replicate_succ->uk,cons_append->ul,cons_ne_nil->uo,length_nil->uy,find?_cons_of_neg->uD,lookup->uE,length->uF,getElem?_eq_none_iff->uL,drop_eq_getElem_cons->uN,mem_append_left->uO,flatten_cons->uP,filterMap_cons_some->uT,filterMap_cons_none->uU,filterMap_cons->uV,length_drop->uZ,filter_cons_of_pos->u5,nodup_nil->u7,any_eq_true->u8,getElem?_cons_succ->va,range'->vd,drop_eq_nil_of_le->vh,filter_eq_nil_iff->vn,range_eq_range'->vG,length_take->vI,range'_succ->vK,mem_of_find?_eq_some->vO,getElem?_range->vP,length_reverse->vQ,any_cons->vT,eq_of_mem_replicate->vW,nil_append->vX,filter_map->vY,find?_eq_none->v4,filter_cons_of_neg->v8,length_eq_zero_iff->v9,map_nil->qc,drop_zero->qe,filter_congr->qf,append_eq_nil_iff->qg,getElem?_toArray->qi,length_set->qu,find?_cons->qw,forIn_cons->qy,getElem_of_mem->qC,toArray->qF,mem_filterMap->qK,nodup_iff_pairwise_ne->qN,filter_append->qO,findIdx?_eq_none_iff->qR,nodup_append->qV,filter_cons->Jh,length_pos_of_mem->Jp,of_mem_zip->Ju,foldl_cons->Jv,take_left'->Jx,drop_left'->Jy,find?_some->Jz,getElem?_reverse->JE,length_pos_iff->JK,mem_map_of_mem->JM,filter_sublist->JN,reverse_cons->J1,all_map->J6,pairwise_map->J8,getElem_inj->Va,mem_flatMap->Ve,getElem_map->Vf,range_succ->Vo,foldl->Vp
open PySem.PyData renaming int->jd,str->jp,bool->jS,canLayAll0->kq,eqv->ku,depthAll->kD,strOk->kM,tuple->uC,list->uR,none->vb,eqvAll->vq,canLay0->vE,keyHash->JI,depth->J3
open Option renaming bind_some->jh,map_eq_some_iff->vj,bind_eq_some_iff->qa,map_some->qA,isSome_iff_exists->qY,getD_none->Vc
open PySem.Heap renaming get?_push_of_some->jj,lt_size->jy,get?_push_size->jA,get?_update_self->kc,get?_update_other->kS,SameBut->uu,size_push->vA
open Bool renaming and_eq_true->jl,false_ne_true->jH,eq_iff_iff->jQ,false_eq_true->kU,not_eq_true'->kX,or_eq_true->vo,or_false->vp,not_eq_true->vJ,true_and->qm,and_true->Ja,and_eq_false_iff->JG,and_false->JH,and_eq_true_iff->JJ,not_true->JP,false_or->JQ
open PySem renaming Spec->jm,mem_of_lookup->uz,Within->JW,Fin->Vd,call->Vq,boot_len->Vr,getD_mem->Vs,mem_getD->Vt
open Nat renaming le_refl->jw,lt_of_lt_of_le->jx,le_trans->jI,ne_of_lt->jL,lt_irrefl->kb,zero_le->kh,le_of_ble_eq_true->kW,ne_of_gt->uA,eq_zero_or_pos->uK,lt_succ_self->uY,le_of_lt->vf,zero_add->vg,lt_succ_of_lt->vy,toDigits->vM,lt_trans->qd,le_succ->qp,sub_zero->qH,le_succ_of_le->qU,add_assoc->qZ,succ_le_succ->Jb,lt_of_succ_lt_succ->Js,not_lt_zero->Jw,add_le_add_left->JL,lt_of_le_of_lt->JU,succ->J0,succ_pos->J4,sub_self->J9,succ_lt_succ->Vg,log2_lt->Vk
open Option.some renaming inj->jK
open Int renaming toNat_natCast->jN,emod_lt_of_pos->kg,eq_ofNat_of_zero_le->kA,emod_nonneg->kP,le_refl->qq,toNat_of_nonneg->qE,zero_add->Jn,le_trans->Jo,negSucc->Vj,toNat->Vz
open Array renaming length_toList->jP,getElem?_toList->kJ,getElem?_eq_getElem->kQ,toList_append->k8,getElem?_eq_none->uB,toList_push->vx,mem_toList_iff->vz,size_map->vF,toList_map->qk,toArray_toList->qr,toList_inj->Je,toList_filterMap->Jq,forIn_toList->JV
open PySem.Builtin.Str renaming occurrences->jT,strSliceIndices->kY,strKind->k7,partsBetween->uv,strSub->v6,tooLong->qD
open PySem.Obj renaming mapSeq->jW,data_mapFields->uJ,mapFields->vt,isFreed_of_fields->qh,cls_mapFields->qT,putSet->Vu
open PySem.Value renaming none->jX,ref->kF,type->ue,int->uW,bool->ve,str->qI
open Or renaming inr->j7,inl->kC
open PySem.Heap.SameBut renaming update->kj
open PySem.Builtin.List renaming listExtendWith->km,listLengthHint->kG,listSameRef->ud,listItems->vi,listTooLong->vS,listUpdate->Jf
open PySem.NameKind renaming free->ko,cell->vU
open PySem.Builtin.Tuple renaming tupleHashOf->k4,tupleExact->uS,tupleItemsOf->vC
open PySem.Builtin.Int renaming intBits->k5
open PySem.StrLaws renaming glued_eq_join->ua,occBody->vZ,subAt_one->qW,sumLen_le->qX,found_one->J5,joinTotal->J7,subAt_eq->Vi
open PySem.Txt renaming join->ug,split->um,startswith->uw
open PySem.F renaming slot_str_split->ui,entry_str_split->u9,plainAttrs_str->vm,args_tuple_add_2->vR,args_str_split_2->vV,entry_tuple_add->v7,slot_tuple_add->qb,slot_dict_getitem->qP,args_list_add_2->Jc,plainAttrs_list->Jd,slot_list_index->Jg,entry_list_add->Jl,type_str_split->Jr,slot_list_add->JC,slot_set_iter->JF
open Ne renaming symm->ur
open List.cons renaming inj->uH
open PySem.Builtin.Slice renaming slicePlaces->uM,sliceAdjust->vN,sliceApplied->qM
open PySem.Builtin renaming bitAnd->uX,bitOr->JO
open Char renaming toNat->ql
open PySem.Around renaming under_plainId->qt,under->JY
open PySem.Builtin.Dict_items renaming ownsTuple->qx
open Nat.succ renaming inj->qG
open PySem.Calls renaming Name_function_global->qJ,call_function_entry->qQ,callWith_builtin->Jk,spliced_cons->JR,spliced_nil->JZ
open PySem.Builtin.Dict renaming showsAll->JB
open PySem.W.Looks renaming of_pure->JD
open Classical renaming skolem->Vh
open PySem.Builtin.Frozenset renaming updateFrom->Vn,newClass->Vv,sizeOf->Vy
open PySem.PyData.int renaming inj->Vw
noncomputable section
namespace L2
open PySem PySem.Spec PyProof.Rows
abbrev gI:=Sum Int Str
def wA:gI->Gg->Bool
 | .inl k,v=>Value.isInt k v
 | .inr x,v=>Value.isStrOf x v
def VT (w:World):gI->Int
 | .inl k=>hashInt k
 | .inr x=>hashStr w x
def iI:∀ {k:gI} {v:Gg},wA k v=true->(∃ i t,k=Sum.inl i/\v=uW i t)\/(∃ x t,k=Sum.inr x/\v=qI x t)
 | .inl i,v,h=>by
  obtain⟨t,e⟩:=Value.isInt_shape (k:=i) (v:=v) h;exact .inl ⟨i,t,rfl,e⟩
 | .inr x,v,h=>by
  obtain⟨t,e⟩:=Value.isStrOf_shape (x:=x) (v:=v) h;exact .inr ⟨x,t,rfl,e⟩
def Dv (i:Int)(t:Tok):wA (.inl i) (.int i t)=true:=by simp[wA,Value.isInt]
def zg (x:Str)(t:Tok):wA (.inr x) (.str x t)=true:=by simp[wA,Value.isStrOf]
def IM (a b:Int):decide ((Sum.inl a:gI)=Sum.inl b)=(a==b):=by
 by_cases e:a=b
 .subst e;simp
 .have h:¬(Sum.inl a:gI)=Sum.inl b:=λq=>e (Sum.inl.inj q);rw[Gd h];exact(beq_eq_false_iff_ne.mpr e).symm
def Ev (a b:Str):decide ((Sum.inr a:gI)=Sum.inr b)=decide (a=b):=by
 by_cases e:a=b
 .subst e;simp
 .have h:¬(Sum.inr a:gI)=Sum.inr b:=λq=>e (Sum.inr.inj q);rw[Gd h,Gd e]
def NP (a:Int)(b:Str):decide ((Sum.inl a:gI)=Sum.inr b)=false:=Gd (λq=>nomatch q)
def OK (a:Str)(b:Int):decide ((Sum.inr a:gI)=Sum.inl b)=false:=Gd (λq=>nomatch q)
def iW (prog:Program)(w:World):PySem.KeyKind prog w gI where
 is:=wA
 hash:=VT w
 inj:=λv a b ha hb=>by
  rcases iI ha with ⟨i,t,rfl,rfl⟩|⟨x,t,rfl,rfl⟩
  .rcases iI hb with ⟨j,u,rfl,e⟩|⟨y,u,rfl,e⟩
   .injection e with e1 _;rw[e1]
   .exact nomatch e
  .rcases iI hb with ⟨j,u,rfl,e⟩|⟨y,u,rfl,e⟩
   .exact nomatch e
   .injection e with e1 _;rw[e1]
 byValue:=λk v h=>by
  rcases iI h with ⟨i,t,rfl,rfl⟩|⟨x,t,rfl,rfl⟩<;>rfl
 pyHash:=λhv h=>by
  rcases iI hv with ⟨i,t,rfl,rfl⟩|⟨x,t,rfl,rfl⟩
  .exact wpAny_pyHash_int h
  .exact wpAny_pyHash_str h
 eqBool:=λhu hv h=>by
  rcases iI hu with ⟨i,t,rfl,rfl⟩|⟨x,t,rfl,rfl⟩
  .rcases iI hv with ⟨j,u,rfl,rfl⟩|⟨y,u,rfl,rfl⟩
   .rw[IM] at h;exact wpAny_eqBool_int h
   .rw[NP] at h;exact SeqAt.EqAt.int_str i t y u _ _ _ _ h
  .rcases iI hv with ⟨j,u,rfl,rfl⟩|⟨y,u,rfl,rfl⟩
   .rw[OK] at h;exact SeqAt.EqAt.str_int x t j u _ _ _ _ h
   .rw[Ev] at h;exact wpAny_eqBool_str h
 «strs»:=λk x t v h=>by
  rcases iI h with ⟨i,u,rfl,e⟩|⟨y,u,rfl,e⟩
  .exact nomatch e
  .injection e with e1 _
   subst e1;cases v<;>rfl
def AX (prog:Program)(w:World)(i:Int)(t:Tok):(iW prog w).is (.inl i) (.int i t)=true:=Dv i t
def AU (prog:Program)(w:World)(x:Str)(t:Tok):(iW prog w).is (.inr x) (.str x t)=true:=zg x t
inductive V where
 | non|bl (b:Bool)|int (i:Int)|str (x:Str)|ref (a:Gk)|ty (n:String)
 deriving DecidableEq
def gq:V->Gg->Prop
 | .non,u=>u=jX
 | .bl b,u=>u=ve b
 | .int i,u=>∃ t,u=uW i t
 | .str x,u=>∃ t,u=qI x t
 | .ref a,u=>u=kF a
 | .ty n,u=>u=ue n
abbrev fV:List V->List Gg->Prop:=Paired gq
def fV.length {xs:List V}{us:List Gg}(r:fV xs us):xs.length=us.length:=Paired.length r
def fV.get:∀ {xs:List V} {us:List Gg} {i:Nat} {x:V},fV xs us->xs[i]?=Ga x->∃ u,us[i]?=Ga u/\gq x u
 | _,_,_,_,.nil,e=>by simp at e
 | _,_,0,_,.cons r _,e=>by simp at e;subst e;exact⟨_,rfl,r⟩
 | _,_,i+1,x,.cons _ t,e=>by
  obtain⟨u,h1,h2⟩:=fV.get (i:=i) (x:=x) t (by simpa using e);exact⟨u,by simpa using h1,h2⟩
def fV.set {x:V}{u:Gg}(r:gq x u):∀ {xs:List V} {us:List Gg} (i:Nat),fV xs us->fV (xs.set i x) (us.set i u)
 | _,_,_,.nil=>.nil
 | _,_,0,.cons _ t=>.cons r t
 | _,_,i+1,.cons q t=>.cons q (fV.set r i t)
def fV.append:∀ {xs ys:List V} {us ws:List Gg},fV xs us->fV ys ws->fV (xs++ys) (us++ws)
 | _,_,_,_,.nil,s=>s
 | _,_,_,_,.cons r t,s=>.cons r (fV.append t s)
def fV.take:∀ {xs:List V} {us:List Gg} (n:Nat),fV xs us->fV (xs.take n) (us.take n)
 | _,_,0,_=>.nil
 | _,_,_+1,.nil=>.nil
 | _,_,n+1,.cons r t=>.cons r (fV.take n t)
def fV.drop:∀ {xs:List V} {us:List Gg} (n:Nat),fV xs us->fV (xs.drop n) (us.drop n)
 | _,_,0,r=>r
 | _,_,_+1,.nil=>.nil
 | _,_,n+1,.cons _ t=>fV.drop n t
def fV.none_of:∀ {xs:List V} {us:List Gg} {i:Nat},fV xs us->xs[i]?=Gb->us[i]?=Gb:=λ{xs us i} r e=>by
 have h1:=r.length;have h2:xs.length<=i:=uL.mp e;exact uL.mpr (by omega)
def oa:Option V->Option Gg->Prop
 | some v,Ga u=>gq v u
 | none,Gb=>True
 | _,_=>False
def KV {κ:Type}:List (κ×V)->List (κ×Gg)->Prop:=Paired λ(p:κ×V) (q:κ×Gg)=>p.1=q.1/\gq p.2 q.2
def kV:gI->V
 | .inl i=>.int i
 | .inr x=>.str x
inductive HO where
 | lst (xs:List V)
 | tup (xs:List V)
 | dK (kvs:List (gI×V))
 | ins (C dx:Gk) (fs:List (Str×V))
 | own (x:Gk)
 | frz (o:Obj) (u:HO)
 | ext (φ:Heap->Prop)
abbrev Hp:=Gk->Option HO
def fH (H:Hp)(a:Gk)(o:HO):Hp:=λb=>if b=a then Ga o else H b
variable {a b e x it dx C f:Gk}{o o':HO}{H H' H1:Hp}{P prog:Program}{h h' h1 base:Heap}{w:World}{ex fs ch fp:List Gk}{s s':Gh}{ω:List (Gk×Obj)}{σ:List (Option V)}{d':Drawn}{t' i k n:Nat}{N ps:List Str}{A:Around}{E:Gg->Gh->Prop}{M:Model}{Q:Unit->Gh->Prop}{u:Gg}{v y:V}{α:Type}{pos pos':Pos}{rest es:List Expr}{c tg value:Expr}{K:jb}{xs ys:List V}{st:Stmt}{body:List Stmt}{mA mg:Str->Option Gg}{name m qual:Str}{kw:List (Str×Gg)}{us:List Gg}{outer:List Env}{scope:Scope}
def fI:fH H a o a=Ga o:=by unfold fH;rw[Ge rfl]
def fJ(h:b≠a):fH H a o b=H b:=by unfold fH;rw[Gf h]
def iz(h:H a=Ga o)(h':H b=Gb):a≠b:=by
 intro e;subst e;rw[h] at h';cases h'
section
variable (P:Program)(w:World)
def iy (H:Hp)(h:Heap)(a:Gk):HO->Prop
 | .lst xs=>xs.length<=sizeLine/\∃ (its:List Gg) (n:Nat),fV xs its/\h.get? a=Ga { cls:=.type "list",data:=.seq its.toArray n }
 | .tup xs=>xs.length<=sizeLine/\∃ its:List Gg,fV xs its/\IsTup h a its.toArray
 | .dK kvs=>kvs.length<=sizeLine/\(a==sysModules)=false/\∃ vs,KV kvs vs/\h.DictOf (iW P w) a vs
 | .ins C dx fs=>H dx=Ga (.own a)/\fs.length<=1000/\dx≠a/\h.get? a=Ga (ux C dx) /\
   ∃ mA,h.Ns1 dx mA/\(∀ f,oa (fs.lookup f) (mA f))/\JW mA (fs.map (·.1))
 | .own _=>∃ o,h.get? a=Ga o
 | .frz o u=>h.get? a=Ga o/\iy H h a u
 | .ext φ=>φ h/\(∃ o,h.get? a=Ga o)/\∀ h1 h2:Heap,φ h1->(∀ o,h1.get? a=Ga o->h2.get? a=Ga o)->φ h2
def lJ (H:Hp)(h:Heap):Prop:=∀ a o,H a=Ga o->iy P w H h a o
end
def iy.lt (x:iy P w H h a o):a<h.objs.size:=by
 cases o with
 | lst xs=>obtain⟨_,_,_,_,e⟩:=x;exact jy e
 | tup xs=>obtain⟨_,_,_,p⟩:=x;exact p.lt
 | dK kvs=>obtain⟨_,_,_,_,o,_,_,e,_⟩:=x;exact jy e
 | ins C dx fs=>obtain⟨_,_,_,e,_⟩:=x;exact jy e
 | own y=>obtain⟨_,e⟩:=x;exact jy e
 | frz ob u=>obtain⟨e,_⟩:=x;exact jy e
 | ext φ=>obtain⟨_,⟨_,e⟩,_⟩:=x;exact jy e
def iy.stay (x:iy P w H h a o)(k:∀ b u,(b=a\/H b=Ga (.own a))->h.get? b=Ga u->h'.get? b=Ga u)
  (ho:∀ b,H b=Ga (.own a)->H' b=Ga (.own a)) (ht:∀ b xs,H b=Ga (.tup xs)->H' b=Ga (.tup xs)):iy P w H' h' a o:=by
 induction o with
 | lst xs=>obtain⟨z,its,n,r,e⟩:=x;exact⟨z,its,n,r,k _ _ (.inl rfl) e⟩
 | tup xs=>obtain⟨z,its,r,ob,e,c⟩:=x;exact⟨z,its,r,ob,k _ _ (.inl rfl) e,c⟩
 | dK kvs=>obtain⟨z,y,vs,r,ob,es,ep,e,c⟩:=x;exact⟨z,y,vs,r,ob,es,ep,k _ _ (.inl rfl) e,c⟩
 | ins C dx fs =>
  obtain⟨d,z,ne,e,mA,⟨od,es,ep,e2,c⟩,r⟩:=x;exact⟨ho _ d,z,ne,k _ _ (.inl rfl) e,mA,⟨od,es,ep,k _ _ (.inr d) e2,c⟩,r⟩
 | own y=>obtain⟨ob,e⟩:=x;exact⟨ob,k _ _ (.inl rfl) e⟩
 | frz ob u ih=>obtain⟨e,q⟩:=x;exact⟨k _ _ (.inl rfl) e,ih q⟩
 | ext φ=>obtain⟨p,⟨o,e⟩,st⟩:=x;exact⟨st _ _ p λo q=>k _ _ (.inl rfl) q,⟨o,k _ _ (.inl rfl) e⟩,st⟩
def lJ.lt (x:lJ P w H h)(e:H a=Ga o):a<h.objs.size:=(x a o e).lt
def lJ.fresh (x:lJ P w H h)(e:h.objs.size<=a):H a=Gb:=by
 cases q:H a with
 | none=>rfl
 | some u=>exact absurd (jx (x.lt q) e) (kb _)
def lJ.kept (x:lJ P w H h)(k:∀ b u,h.get? b=Ga u->h'.get? b=Ga u):lJ P w H h':=λa o e =>
 (x a o e).stay (λb u _ q=>k b u q) (λ_ q=>q) λ_ _ q=>q
def lJ.laid (x:lJ P w H h)(k:∀ b u,h.get? b=Ga u->h'.get? b=Ga u)(hp:h.objs.size<=a)(new:iy P w (fH H a o) h' a o):lJ P w (fH H a o) h':=λb u e=>by
 have hn:=x.fresh hp;by_cases hb:b=a
 .subst hb;rw[fI] at e;cases e;exact new
 .rw[fJ hb] at e;exact(x b u e).stay (λc v _ q=>k c v q) (λc q=>by rwa[fJ (iz q hn)]) λc xs q=>by rwa[fJ (iz q hn)]
def Rd (H:Hp)(a:Gk)(u:HO):Prop:=H a=Ga u\/∃ o,H a=Ga (.frz o u)
def Rd.ok{u:HO}(r:Rd H a u)(x:lJ P w H h):iy P w H h a u:=by
 rcases r with r|⟨o,r⟩
 .exact x a u r
 .obtain⟨_,q⟩:=x a _ r;exact q
def EH:Option HO->Prop
 | some (.lst _)=>True
 | some (.dK _)=>True
 | some (.ins _ _ _)=>True
 | some (.ext _)=>True
 | _=>False
def lJ.write (ok:lJ P w H h)(mu:EH (H x))(he:e=x\/H e=Ga (.own x))(k:∀ b u,b≠e->h.get? b=Ga u->h'.get? b=Ga u)(heo:∃ u,h'.get? e=Ga u)
  (new:iy P w (fH H x o') h' x o'):lJ P w (fH H x o') h':=λb u q=>by
 have nown:∀ c y,H c=Ga (.own y)->c≠x:=λc y r z=>by subst z;rw[r] at mu;exact mu
 have ntup:∀ c xs,H c=Ga (.tup xs)->c≠x:=λc xs r z=>by subst z;rw[r] at mu;exact mu
 by_cases hb:b=x
 .subst hb;rw[fI] at q;cases q;exact new
 .rw[fJ hb] at q;by_cases hbe:b=e
  .have q':H b=Ga (.own x):=by
    rcases he with z|z
    .exact absurd (hbe.trans z) hb
    .rwa[hbe]
   rw[q] at q';cases q';obtain⟨v,hv⟩:=heo;exact⟨v,by rwa[hbe]⟩
  .refine(ok b u q).stay (λc v hc r=>k c v ?_ r) (λc r=>by rwa[fJ (nown c b r)]) λc xs r=>by rwa[fJ (ntup c xs r)]
   rcases hc with rfl|hc
   .exact hbe
   .rintro rfl;rcases he with z|z
    .exact nown c b hc z
    .rw[hc] at z;cases z;exact hb rfl
structure Un (fs ex:List Gk)(H H':Hp)(h h':Heap):Prop where
 keep:∀ b o,h.get? b=Ga o->H b=Gb->b∉fs->b∉ex->h'.get? b=Ga o
 slot:∀ b o,h.get? b=Ga o->H b=Gb->b∈fs->b∉ex->∃ sl,h'.get? b=Ga { o with slots:=sl }
 free:∀ b o,h.get? b=Ga o->H b=Gb->b∉ex->H' b=Gb
 there:∀ b o,h.get? b=Ga o->b∉ex->∃ o',h'.get? b=Ga o'
 tups:∀ b xs,H b=Ga (.tup xs)->H' b=Ga (.tup xs)
 frzs:∀ b o u,H b=Ga (.frz o u)->H' b=Ga (.frz o u)
def Un.any (u:Un fs ex H H1 h h1){ob:Obj}(q:h.get? b=Ga ob)(n:H b=Gb)(hx:b∉ex):∃ sl,h1.get? b=Ga { ob with slots:=sl }:=by
 by_cases hb:b∈fs
 .exact u.slot b ob q n hb hx
 .exact⟨ob.slots,u.keep b ob q n hb hx⟩
def Un.kept (k:∀ b u,h.get? b=Ga u->h'.get? b=Ga u):Un fs ex H H h h' :=
 ⟨λb ob q _ _ _=>k b ob q,λb ob q _ _ _=>⟨ob.slots,k b ob q⟩,λ_ _ _ n _=>n,λb ob q _=>⟨ob,k b ob q⟩,λ_ _ q=>q,λ_ _ _ q=>q⟩
def Un.refl:Un fs ex H H h h:=Un.kept λ_ _ q=>q
def Un.laid (k:∀ b u,h.get? b=Ga u->h'.get? b=Ga u)(hp:h.objs.size<=a)(hn:H a=Gb):Un fs ex H (fH H a o) h h' where
 keep:=λb u q _ _ _=>k b u q
 slot:=λb u q _ _ _=>⟨u.slots,k b u q⟩
 free:=λb u q n _=>by rwa[fJ (jL (jx (jy q) hp))]
 there:=λb u q _=>⟨u,k b u q⟩
 tups:=λb xs q=>by rwa[fJ (iz q hn)]
 frzs:=λb u xs q=>by rwa[fJ (iz q hn)]
def Un.write (mu:EH (H x))(he:e=x\/H e=Ga (.own x))(k:∀ b u,b≠e->h.get? b=Ga u->h'.get? b=Ga u)(heo:∃ u,h'.get? e=Ga u):Un fs ex H (fH H x o) h h':=by
 have hx:∀ b,H b=Gb->b≠x:=λb n z=>by subst z;rw[n] at mu;exact mu
 have hb:∀ b,H b=Gb->b≠e:=λb n z=>by
  subst z;rcases he with r|r
  .exact hx b n r
  .rw[n] at r;cases r
 have hm:∀ b u,H b=Ga u->¬EH (Ga u)->b≠x:=λb u q nm z=>by subst z;rw[q] at mu;exact nm mu
 refine⟨λb u q n _ _=>k b u (hb b n) q,λb u q n _ _=>⟨u.slots,k b u (hb b n) q⟩,λb u q n _=>by rwa[fJ (hx b n)],λb u q _=>?_,
  λb xs q=>by rwa[fJ (hm b _ q λz=>z)],λb u xs q=>by rwa[fJ (hm b _ q λz=>z)]⟩
 by_cases hbe:b=e
 .subst hbe;exact heo
 .exact⟨u,k b u hbe q⟩
def FE (h:Heap)(H:Hp):List Gk:=(jq h.objs.size).filter λa=>(H a).isSome
def sy (h:Heap)(H:Hp):Heap:=PySem.W.hideAll h (FE h H)
def Dt (h:Heap)(H:Hp):(sy h H).objs.size=h.objs.size:=PySem.W.hideAll_size _ _
variable {o:Obj}{x:Str}{e:Expr}{fs:List (Str×V)}
def Fe(e:h.get? b=Ga o)(n:H b=Gb):(sy h H).get? b=Ga o :=
 PySem.W.hideAll_get _ e λhm=>by
  have q:(H b).isSome=true:=(jY.mp hm).2;rw[n] at q;simp at q
def HU(e:(sy h H).get? b=Ga o):h.get? b=Ga o/\H b=Gb:=by
 have e':h.get? b=Ga o:=PySem.W.of_hideAll (FE h H) e;refine⟨e',?_⟩;cases q:H b with
 | none=>rfl
 | some x =>
  have hm:b∈FE h H:=jY.mpr ⟨jF.mpr (jy e'),by simp[q]⟩;have z:(sy h H).get? b=Gb:=PySem.W.hideAll_none (FE h H) hm;rw[z] at e;cases e
structure Mod (K:jb)(mg:Str->Option Gg)(base:Heap):Prop where
 kin:K.In base
 glob:base.Ns mainGlobals mg
 blt:∃ mb,base.Ns builtinsNs mb/\∀ x:Str,x≠"__name__"->mb x=bootBuiltins x
 nolimit:base.NoLimit
structure Cx where
 prog:Program
 w:World
 K:jb
 mg:Str->Option Gg
 base:Heap
 A:Around
 N:List Str
 s₀:Gh
 H₀:Hp
 env:Env
 outer:List Env
 stack:List Env
 ex:List Gk
 fn:Str->Bool
 calm:Bool
 pn:List (Gk×Obj)
 xe:Gg->Gh->Prop
def rT (l:List Env):List Gk:=l.filterMap (·.frame)
abbrev Cx.fs9 (X:Cx):List Gk:=rT X.outer
def oz (sc:Scope)(x:Str):Prop:=sc.names.lookup x=Ga .local\/sc.names.lookup x=Ga .cell\/sc.names.lookup x=Ga .free
def tP (sc:Scope)(x:Str):Prop:=sc.names.lookup x=Ga .local\/sc.names.lookup x=Ga .cell
def Wa (ψ:Env)(h:Heap)(m:Str->Option Gg)(x:Str)(u:Gg):Prop :=
 (ψ.kindOf x=Ga .local/\m x=Ga u)\/((ψ.kindOf x=Ga .cell\/ψ.kindOf x=Ga .free)/\∃ c,ψ.cells.lookup x=Ga c/\h.IsCell c (Ga u))
structure Cx.Ok (X:Cx):Prop where
 mod:Mod X.K X.mg X.base
 kind:X.env.scope.kind=.function
 glob:X.env.globals=mainGlobals
 blt:X.env.builtins=builtinsNs
 above:X.s₀.heap.objs.size<=X.env.locals
 inj:∀ x y c,X.env.cells.lookup x=Ga c->X.env.cells.lookup y=Ga c->x=y
 has:∀ x,(X.env.kindOf x=Ga .cell\/X.env.kindOf x=Ga .free)->∃ c,X.env.cells.lookup x=Ga c
 cab:∀ x c,X.fn x=true->X.env.cells.lookup x=Ga c->X.s₀.heap.objs.size<=c
 hd:X.calm=true->X.A.handled=Gb
 frames:X.A.frames=Ga X.stack
 stk:X.stack=X.outer\/(X.stack=X.env::X.outer/\X.env.frame=Ga X.env.locals)
 exf:∀ b∈X.ex,b≠X.env.locals/\∀ x c,X.env.cells.lookup x=Ga c->c≠b
 bs:∀ b o,X.base.get? b=Ga o->X.s₀.heap.get? b=Ga o/\X.H₀ b=Gb
 bsz:X.base.objs.size<=X.s₀.heap.objs.size
 noex:∀ b o,X.base.get? b=Ga o->b∉X.ex
 exfs:∀ b∈X.ex,b∉X.fs9
 funs:X.s₀.heap.FunFrames X.base X.outer
 frf:∀ b∈X.fs9,X.H₀ b=Gb
structure fB (X:Cx)(ω:List (Gk×Obj))(σ:List (Option V))(H:Hp)(s:Gh):Prop where
 ok:X.Ok
 os:s.os=X.s₀.os
 bare:AllBare s.gens
 base:Un X.fs9 X.ex X.H₀ H X.s₀.heap s.heap
 loc:∃ m,s.heap.Ns X.env.locals m/\∀ (i:Nat) (x:Str) (v:V),X.N[i]?=Ga x->σ[i]?=Ga (Ga v)->oz X.env.scope x->∃ u,gq v u/\Wa X.env s.heap m x u
 cell:∀ x c,X.env.cells.lookup x=Ga c->∃ v,s.heap.IsCell c v
 free:H X.env.locals=Gb
 freeC:∀ x c,X.env.cells.lookup x=Ga c->H c=Gb
 pin:∀ p∈X.pn++ω,s.heap.get? p.1=Ga p.2/\H p.1=Gb/\p.1≠X.env.locals/\p.1∉X.fs9/\∀ v,p.2.data≠.cell v
 hok:lJ X.prog X.w H s.heap
 len:σ.length=X.N.length
variable {X:Cx}
def Cx.Ok.nofr (ok:X.Ok)(e:X.base.get? b=Ga o):b∉X.fs9:=λhb=>by
 have:=(ok.funs.mem hb).1;rw[e] at this;cases this
def fB.bs (I:fB X ω σ H s):∀ b o,X.base.get? b=Ga o->s.heap.get? b=Ga o/\H b=Gb:=λb o e =>
 ⟨I.base.keep b o (I.ok.bs b o e).1 (I.ok.bs b o e).2 (I.ok.nofr e) (I.ok.noex b o e),I.base.free b o (I.ok.bs b o e).1 (I.ok.bs b o e).2 (I.ok.noex b o e)⟩
def fB.bk (I:fB X ω σ H s):∀ b o,X.base.get? b=Ga o->s.heap.get? b=Ga o:=λb o e=>(I.bs b o e).1
def fB.mod (I:fB X ω σ H s):Mod X.K X.mg X.base:=I.ok.mod
def fB.kIn (I:fB X ω σ H s):X.K.In s.heap:=I.ok.mod.kin.keeps I.bk
def fB.lt (I:fB X ω σ H s):X.env.locals<s.heap.objs.size:=let ⟨_,hn,_⟩:=I.loc;hn.lt
def fB.sz (I:fB X ω σ H s):X.s₀.heap.objs.size<=s.heap.objs.size:=jI I.ok.above (vf I.lt)
def fB.nofs (I:fB X ω σ H s)(h:s.heap.objs.size<=a):a∉X.fs9:=λhb=>by
 obtain⟨_,o,ho,_⟩:=I.ok.funs.mem hb;exact absurd (jx (jy ho) (jI I.sz h)) (kb _)
def fB.cne (I:fB X ω σ H s):∀ x c,X.env.cells.lookup x=Ga c->c≠X.env.locals:=λx c e z=>by
 obtain⟨v,o,ho,hd⟩:=I.cell x c e;obtain⟨m,⟨o',es,ep,ho',hd',_⟩,_⟩:=I.loc;rw[z,ho'] at ho;cases ho;rw[hd'] at hd;cases hd
def fB.funs (I:fB X ω σ H s):s.heap.FunFrames X.base X.outer:=by
 have all:∀ (l:List Env),(∀ b∈rT l,b∈X.fs9)->X.s₀.heap.FunFrames X.base l->s.heap.FunFrames X.base l:=by
  intro l;induction l with
  | nil=>intro _ _;trivial
  | cons ψ r ih =>
   intro hs hl;obtain⟨hk,⟨L,o,hf,hn,ho,hd⟩,hr⟩:=hl;have hL:L∈X.fs9:=hs L (by unfold rT;rw[uV,hf];exact jf);obtain⟨sl,e⟩:=I.base.slot L o ho (I.ok.frf L hL) hL λz=>I.ok.exfs L z hL;exact⟨hk,⟨L,_,hf,hn,e,hd⟩,ih (λb hb=>hs b (by unfold rT;rw[uV,hf];exact jk _ hb)) hr⟩
 exact all X.outer (λ_ hb=>hb) I.ok.funs
def fB.stack (I:fB X ω σ H s):s.heap.FunFrames X.base X.stack:=by
 rcases I.ok.stk with e|⟨e,hf⟩
 .rw[e];exact I.funs
 .rw[e];obtain⟨m,hn,_⟩:=I.loc;refine .cons (by rw[I.ok.kind];decide) hf hn ?_ I.funs;exact Heap.get?_none_of_le (jI I.ok.bsz I.ok.above)
def fB.stkSub (I:fB X ω σ H s):∀ b∈rT X.stack,b∈X.env.locals::X.fs9:=λb hb=>by
 rcases I.ok.stk with e|⟨e,hf⟩
 .rw[e] at hb;exact jk _ hb
 .rw[e] at hb;unfold rT at hb;rw[uV,hf] at hb;exact hb
def fB.stkFree (I:fB X ω σ H s):∀ b∈rT X.stack,H b=Gb:=λb hb=>by
 rcases jo.mp (I.stkSub b hb) with e|hb
 .rw[e];exact I.free
 .obtain⟨_,o,ho,_⟩:=I.ok.funs.mem hb;exact I.base.free b o ho (I.ok.frf b hb) λz=>I.ok.exfs b z hb
def fB.step {g':Array GenState}(I:fB X ω σ H s)
  (hch:∀ b∈ch,(b∈X.ex\/X.s₀.heap.objs.size<=b)/\b≠X.env.locals/\(∀ x c,X.env.cells.lookup x=Ga c->c≠b)/\∀ p∈X.pn++ω,p.1≠b)
  (keep:∀ b o,b≠X.env.locals->b∉X.fs9->b∉ch->s.heap.get? b=Ga o->H b=Gb->h'.get? b=Ga o)
  (slot:∀ b o,b≠X.env.locals->b∈X.fs9->b∉ch->s.heap.get? b=Ga o->H b=Gb->∃ sl,h'.get? b=Ga { o with slots:=sl }) (free:∀ b o,b∉ch->s.heap.get? b=Ga o->H b=Gb->H' b=Gb)
  (there:∀ b o,b∉ch->s.heap.get? b=Ga o->∃ o',h'.get? b=Ga o')
  (tups:∀ b xs,H b=Ga (.tup xs)->H' b=Ga (.tup xs)) (frzs:∀ b o u,H b=Ga (.frz o u)->H' b=Ga (.frz o u))
  (ns:∀ m,s.heap.Ns X.env.locals m->h'.Ns X.env.locals m) (hok:lJ X.prog X.w H' h') (hg:AllBare g') :
  fB X ω σ H' { s with heap:=h',gens:=g',drawn:=d',toks:=t' }:=by
 have neL:∀ b o,X.s₀.heap.get? b=Ga o->b≠X.env.locals:=λb o e=>jL (jx (jy e) I.ok.above);have neC:∀ b o,X.s₀.heap.get? b=Ga o->b∉X.ex->b∉ch:=λb o e hx hb=>by
  rcases(hch b hb).1 with z|z
  .exact hx z
  .exact absurd (jx (jy e) z) (kb _)
 have cellK:∀ x c,X.env.cells.lookup x=Ga c->∀ v,s.heap.IsCell c v->h'.IsCell c v:=λx c e v ⟨o,ho,hd⟩=>by
  have nch:c∉ch:=λz=>(hch c z).2.2.1 x c e rfl;by_cases hc:c∈X.fs9
  .obtain⟨sl,q⟩:=slot c o (I.cne x c e) hc nch ho (I.freeC x c e);exact⟨_,q,hd⟩
  .exact⟨o,keep c o (I.cne x c e) hc nch ho (I.freeC x c e),hd⟩
 refine⟨I.ok,I.os,hg,⟨λb o e n hb hx=>?_,λb o e n hb hx=>?_,λb o e n hx=>?_,λb o e hx=>?_,λb xs e=>tups b xs (I.base.tups b xs e),λb o xs e=>frzs b o xs (I.base.frzs b o xs e)⟩,?_,λx c e=>?_,?_,λx c e=>?_,λp hp=>?_,hok,I.len⟩
 .exact keep b o (neL b o e) hb (neC b o e hx) (I.base.keep b o e n hb hx) (I.base.free b o e n hx)
 .obtain⟨sl,e1⟩:=I.base.slot b o e n hb hx;obtain⟨sl',e2⟩:=slot b _ (neL b o e) hb (neC b o e hx) e1 (I.base.free b o e n hx);exact⟨sl',e2⟩
 .obtain⟨o',e1⟩:=I.base.there b o e hx;exact free b o' (neC b o e hx) e1 (I.base.free b o e n hx)
 .obtain⟨o',e1⟩:=I.base.there b o e hx;exact there b o' (neC b o e hx) e1
 .obtain⟨m,hn,hl⟩:=I.loc;refine⟨m,ns m hn,λi x v e1 e2 e3=>?_⟩;obtain⟨u,r,l⟩:=hl i x v e1 e2 e3;refine⟨u,r,?_⟩;rcases l with l|⟨k,c,e,z⟩
  .exact .inl l
  .exact .inr ⟨k,c,e,cellK x c e _ z⟩
 .obtain⟨v,z⟩:=I.cell x c e;exact⟨v,cellK x c e v z⟩
 .obtain⟨m,⟨o,_,_,ho,_⟩,_⟩:=I.loc;exact free _ o (λz=>(hch _ z).2.1 rfl) ho I.free
 .obtain⟨v,o,ho,hd⟩:=I.cell x c e;exact free c o (λz=>(hch c z).2.2.1 x c e rfl) ho (I.freeC x c e)
 .obtain⟨e,n,ne,nf,d⟩:=I.pin p hp;have nch:p.1∉ch:=λz=>(hch p.1 z).2.2.2 p hp rfl;exact⟨keep p.1 p.2 ne nf nch e n,free p.1 p.2 nch e n,ne,nf,d⟩
def fB.un(I:fB X ω σ H s)(u:Un X.fs9 [] H H' s.heap h')(hok:lJ X.prog X.w H' h'):fB X ω σ H' { s with heap:=h',toks:=t' }:=by
 obtain⟨m,⟨o,es,ep,ho,r⟩,_⟩:=id I.loc;obtain⟨sl,hL⟩:=u.any ho I.free (by simp);exact I.step (g':=s.gens) (d':=s.drawn) (ch:=[]) (λ_ z=>nomatch z) (λb o _ hb _ e n=>u.keep b o e n hb (by simp)) (λb o _ hb _ e n=>u.slot b o e n hb (by simp)) (λb o _ e n=>u.free b o e n (by simp)) (λb o _ e=>u.there b o e (by simp)) u.tups u.frzs (λm' hm=>by
  obtain⟨o',es',ep',ho',r'⟩:=hm;rw[ho] at ho';cases ho';exact⟨_,es',ep',hL,r'⟩) hok I.bare
def fB.call {g':Array GenState}(I:fB X ω σ H s)(u:Un (rT X.stack) ch H H' s.heap h')(hok:lJ X.prog X.w H' h')(hg:AllBare g')
  (hch:∀ b∈ch,(b∈X.ex\/X.s₀.heap.objs.size<=b)/\b≠X.env.locals/\(∀ x c,X.env.cells.lookup x=Ga c->c≠b)/\∀ p∈X.pn++ω,p.1≠b) :
  fB X ω σ H' { s with heap:=h',gens:=g',drawn:=d',toks:=t' }:=by
 obtain⟨m,⟨o,es,ep,ho,r⟩,_⟩:=id I.loc;obtain⟨sl,hL⟩:=u.any ho I.free λz=>(hch _ z).2.1 rfl;exact I.step (ch:=ch) hch (λb o hL hb hc e n=>u.keep b o e n (λz=>(jo.mp (I.stkSub b z)).elim hL hb) hc) (λb o _ _ hc e n=>u.any e n hc) (λb o hc e n=>u.free b o e n hc) (λb o hc e=>u.there b o e hc) u.tups u.frzs (λm' hm=>by
  obtain⟨o',es',ep',ho',r'⟩:=hm;rw[ho] at ho';cases ho';exact⟨_,es',ep',hL,r'⟩) hok hg
def fB.turned(I:fB X ω σ H s)(k:∀ b o,b≠it->s.heap.get? b=Ga o->h'.get? b=Ga o)(hn:H it=Gb)(hL:it≠X.env.locals)
  (h1:it∈X.ex\/X.s₀.heap.objs.size<=it) (h2:∀ x c,X.env.cells.lookup x=Ga c->c≠it) (h3:∀ p∈X.pn++ω,p.1≠it):fB X ω σ H { s with heap:=h',toks:=t' }:=by
 have nit:∀ b u,H b=Ga u->b≠it:=λb u e z=>by rw[z,hn] at e;cases e
 refine I.step (g':=s.gens) (d':=s.drawn) (ch:=[it]) (λb hb=>?_) (λb o _ _ hc e _=>k b o (λz=>hc (by simp[z])) e) (λb o _ _ hc e _=>⟨o.slots,k b o (λz=>hc (by simp[z])) e⟩) (λ_ _ _ _ n=>n)
  (λb o hc e=>⟨o,k b o (λz=>hc (by simp[z])) e⟩) (λ_ _ e=>e) (λ_ _ _ e=>e) (λm hm=>?_) (λb u e=>?_) I.bare
 .have e:b=it:=by simpa using hb
  subst e;exact⟨h1,hL,h2,h3⟩
 .obtain⟨o,es,ep,ho,r⟩:=hm;exact⟨o,es,ep,k _ o (ur hL) ho,r⟩
 .refine(I.hok b u e).stay (λc v hc q=>k c v ?_ q) (λ_ q=>q) λ_ _ q=>q;rcases hc with z|z
  .rw[z];exact nit b u e
  .exact nit c _ z
def fB.tok (I:fB X ω σ H s)(t:Nat):fB X ω σ H { s with toks:=t }:=I.un (h':=s.heap) (t':=t) Un.refl I.hok
def fB.kept {t':Nat}(I:fB X ω σ H s)(k:∀ b u,s.heap.get? b=Ga u->h'.get? b=Ga u):fB X ω σ H { s with heap:=h',toks:=t' }:=I.un (Un.kept k) (I.hok.kept k)
def fB.laid {a:Gk}{o:HO}{t':Nat}(I:fB X ω σ H s)(k:∀ b u,s.heap.get? b=Ga u->h'.get? b=Ga u)(hp:s.heap.objs.size<=a)(new:iy X.prog X.w (fH H a o) h' a o) :
  fB X ω σ (fH H a o) { s with heap:=h',toks:=t' }:=I.un (Un.laid k hp (I.hok.fresh hp)) (I.hok.laid k hp new)
def fB.write {x e:Gk}{o:HO}{t':Nat}(I:fB X ω σ H s)(mu:EH (H x))(he:e=x\/H e=Ga (.own x))(k:∀ b u,b≠e->s.heap.get? b=Ga u->h'.get? b=Ga u)(heo:∃ u,h'.get? e=Ga u)
  (new:iy X.prog X.w (fH H x o) h' x o):fB X ω σ (fH H x o) { s with heap:=h',toks:=t' }:=I.un (Un.write mu he k heo) (I.hok.write mu he k heo new)
def fB.pins_of {pins':List (Gk×Obj)}(I:fB X ω σ H s)(h:∀ p∈pins',s.heap.get? p.1=Ga p.2/\H p.1=Gb/\p.1≠X.env.locals/\p.1∉X.fs9/\∀ v,p.2.data≠.cell v):fB X pins' σ H s :=
 ⟨I.ok,I.os,I.bare,I.base,I.loc,I.cell,I.free,I.freeC,λp hp=>(jM.mp hp).elim (λz=>I.pin p (uO _ z)) (h p),I.hok,I.len⟩
def AO(hN:N.Nodup){j:Nat}(a:N[i]?=Ga x)(b:N[j]?=Ga x):i=j:=by
 obtain⟨h1,e1⟩:=ju.mp a;obtain⟨h2,e2⟩:=ju.mp b;exact(Va hN).mp (e1.trans e2.symm)
def za(I:fB X ω σ H s)(hN:X.N.Nodup)(hi:X.N[i]?=Ga x)(hx:tP X.env.scope x)(r:gq v u)
  (h:∀ s',fB X ω (σ.set i (Ga v)) H s'->(∃ a,uu a s.heap s'.heap/\(a=X.env.locals\/X.env.cells.lookup x=Ga a))->Q () s') (hf:X.fn x=true\/X.env.scope.names.lookup x=Ga .local:=by first|exact .inl rfl|exact .inr rfl|assumption):wpAny M A (storeName X.env x u) Q E s:=by
 obtain⟨m,hn,hl⟩:=id I.loc;have hcls:(X.env.scope.kind==.class||(X.env.scope.kind==.module&&X.env.locals !=X.env.globals))=false:=by rw[I.ok.kind];rfl
 have hiσ:i<σ.length:=by rw[I.len];exact(ju.mp hi).1
 have cne:=I.cne;have tracked:∀ {a:Gk} {h':Heap},(∃ o,s.heap.get? a=Ga o/\H a=Gb)->uu a s.heap h'->lJ X.prog X.w H h':=λ{a h'} ha hs b ob e=>by
  obtain⟨_,_,hfree⟩:=ha;refine(I.hok b ob e).stay (λc w' hc q=>(hs.2 c ?_).trans q) (λ_ q=>q) λ_ _ q=>q;rintro rfl;rcases hc with rfl|hc
  .rw[hfree] at e;cases e
  .rw[hfree] at hc;cases hc
 rcases hx with hk|hk
 .refine wpAny_storeName_local hk hn (λh' hn' hs=>?_) hcls;obtain⟨oL,_,_,hoL,_⟩:=id hn;refine h _ ⟨I.ok,I.os,I.bare,⟨λb o e n hb hx=>?_,λb o e n hb hx=>?_,I.base.free,λb o e hx=>?_,I.base.tups,I.base.frzs⟩,⟨_,hn',λj y v' e1 e2 e3=>?_⟩,λy c e=>?_,I.free,I.freeC,λp hp=>?_,tracked ⟨oL,hoL,I.free⟩ hs,by simpa using I.len⟩ ⟨_,hs,.inl rfl⟩
  .exact(hs.2 b (jL (jx (jy e) I.ok.above))).trans (I.base.keep b o e n hb hx)
  .obtain⟨sl,e1⟩:=I.base.slot b o e n hb hx;exact⟨sl,(hs.2 b (jL (jx (jy e) I.ok.above))).trans e1⟩
  .obtain⟨o',e1⟩:=I.base.there b o e hx;exact⟨o',(hs.2 b (jL (jx (jy e) I.ok.above))).trans e1⟩
  .by_cases hj:j=i
   .subst hj;rw[hi] at e1;cases e1;rw[jG hiσ] at e2;cases e2;exact⟨u,r,.inl ⟨hk,by simp⟩⟩
   .rw[jJ (ur hj)] at e2;obtain⟨u',r',q⟩:=hl j y v' e1 e2 e3;refine⟨u',r',?_⟩;rcases q with ⟨k,e⟩|⟨k,c,e,z⟩
    .refine .inl ⟨k,?_⟩;have:y≠x:=λe=>hj (AO hN e1 (e▸hi));simp[this,e]
    .exact .inr ⟨k,c,e,z.sameBut hs (cne y c e)⟩
  .obtain⟨w',z⟩:=I.cell y c e;exact⟨w',z.sameBut hs (cne y c e)⟩
  .obtain⟨e,n,ne,nf,d⟩:=I.pin p hp;exact⟨(hs.2 p.1 ne).trans e,n,ne,nf,d⟩
 .have hfn:X.fn x=true:=by
   rcases hf with z|z
   .exact z
   .rw[z] at hk;cases hk
  obtain⟨c,hc⟩:=I.ok.has x (.inl hk);obtain⟨w',z⟩:=I.cell x c hc;refine wpAny_storeName_cell I.ok.kind hk hc z (λh' hc' hs=>?_);obtain⟨oc,hoc,hocd⟩:=id z;refine h { s with heap:=h' } ⟨I.ok,I.os,I.bare,⟨λb o e n hb hx=>?_,λb o e n hb hx=>?_,I.base.free,λb o e hx=>?_,I.base.tups,I.base.frzs⟩,⟨m,hn.sameBut hs (ur (cne x c hc)),λj y v' e1 e2 e3=>?_⟩,λy c' e=>?_,I.free,I.freeC,λp hp=>?_,tracked ⟨oc,hoc,I.freeC x c hc⟩ hs,by simpa using I.len⟩ ⟨c,hs,.inr hc⟩
  .exact(hs.2 b (jL (jx (jy e) (I.ok.cab x c hfn hc)))).trans (I.base.keep b o e n hb hx)
  .obtain⟨sl,e1⟩:=I.base.slot b o e n hb hx;exact⟨sl,(hs.2 b (jL (jx (jy e) (I.ok.cab x c hfn hc)))).trans e1⟩
  .obtain⟨o',e1⟩:=I.base.there b o e hx;exact⟨o',(hs.2 b (jL (jx (jy e) (I.ok.cab x c hfn hc)))).trans e1⟩
  .by_cases hj:j=i
   .subst hj;rw[hi] at e1;cases e1;rw[jG hiσ] at e2;cases e2;exact⟨u,r,.inr ⟨.inl hk,c,hc,hc'⟩⟩
   .rw[jJ (ur hj)] at e2;obtain⟨u',r',q⟩:=hl j y v' e1 e2 e3;refine⟨u',r',?_⟩;rcases q with q|⟨k,c',e,z'⟩
    .exact .inl q
    .refine .inr ⟨k,c',e,z'.sameBut hs ?_⟩;rintro rfl;exact hj (AO hN e1 (I.ok.inj _ _ _ e hc▸hi))
  .by_cases hcc:c'=c
   .subst hcc;exact⟨_,hc'⟩
   .obtain⟨w2,z2⟩:=I.cell y c' e;exact⟨w2,z2.sameBut hs hcc⟩
  .obtain⟨e,n,ne,nf,d⟩:=I.pin p hp;refine⟨(hs.2 p.1 ?_).trans e,n,ne,nf,d⟩;intro q;rw[q,hoc] at e;have q':oc=p.2:=jK e;exact d w' (by rw[<- q'];exact hocd)
def AE(I:fB X ω σ H s)(hN:X.N.Nodup)(hi:X.N[i]?=Ga x)(hx:tP X.env.scope x)(r:gq v u)
  (h:∀ s',fB X ω (σ.set i (Ga v)) H s'->Q () s') (hf:X.fn x=true\/X.env.scope.names.lookup x=Ga .local:=by first|exact .inl rfl|exact .inr rfl|assumption):wpAny M A (storeName X.env x u) Q E s :=
 za I hN hi hx r (λs' I' _=>h s' I') hf
def fB.call'(I:fB X ω σ H s)(ho:s'.os=s.os)(u:Un (rT X.stack) ch H H' s.heap s'.heap)(hok:lJ X.prog X.w H' s'.heap)(hg:AllBare s'.gens)
  (hch:∀ b∈ch,(b∈X.ex\/X.s₀.heap.objs.size<=b)/\b≠X.env.locals/\(∀ x c,X.env.cells.lookup x=Ga c->c≠b)/\∀ p∈X.pn++ω,p.1≠b):fB X ω σ H' s':=by
 obtain⟨h',g',d',t',o'⟩:=s';have e:o'=s.os:=ho;subst e;exact I.call (g':=g') (t':=t') (d':=d') u hok hg hch
abbrev XK:=Gg->Option Gk->Hp->Prop
abbrev St:=List (Option V)
abbrev VK:=V->Hp->Prop
abbrev TE:=St->Hp->VK->Prop
abbrev TT:=St->Hp->(Bool->Hp->Prop)->Prop
abbrev TA:=St->Hp->(List V->Hp->Prop)->Prop
structure rO where
 nx:St->Hp->Prop
 rt:VK
 bk:St->Hp->Prop:=λ_ _=>False
 ct:St->Hp->Prop:=λ_ _=>False
abbrev TS:=rO->St->Hp->Prop
def EP (X:Cx)(ω:List (Gk×Obj))(σ:St)(Q:VK)(u:Gg)(s':Gh):Prop:=∃ v H',fB X ω σ H' s'/\gq v u/\Q v H'
def TP (X:Cx)(ω:List (Gk×Obj))(σ:St)(Q:Bool->Hp->Prop)(b:Bool)(s':Gh):Prop:=∃ H',fB X ω σ H' s'/\Q b H'
def AP (X:Cx)(ω:List (Gk×Obj))(σ:St)(Q:List V->Hp->Prop)(us:List Gg)(s':Gh):Prop:=∃ vs H',fB X ω σ H' s'/\fV vs us/\Q vs H'
def SP (X:Cx)(ω:List (Gk×Obj))(D:rO)(f:Flow)(s':Gh):Prop :=
 match f with
 | .next=>∃ σ' H',fB X ω σ' H' s'/\D.nx σ' H'
 | .brk=>∃ σ' H',fB X ω σ' H' s'/\D.bk σ' H'
 | .cont=>∃ σ' H',fB X ω σ' H' s'/\D.ct σ' H'
 | .ret u=>∃ v σ' H',fB X ω σ' H' s'/\gq v u/\D.rt v H'
def PE (X:Cx)(e:Expr)(t:TE):Prop :=
 ∀ (ω:List (Gk×Obj)) (s:Gh) (σ:St) (H:Hp) (Q:VK),fB X ω σ H s->t σ H Q->wpAny (model X.prog X.w) X.A (eval e X.env) (EP X ω σ Q) X.xe s
def PT (X:Cx)(e:Expr)(t:TT):Prop :=
 ∀ (ω:List (Gk×Obj)) (s:Gh) (σ:St) (H:Hp) (Q:Bool->Hp->Prop),fB X ω σ H s->t σ H Q->wpAny (model X.prog X.w) X.A (isTrue e X.env (eval e X.env)) (TP X ω σ Q) X.xe s
def PW (X:Cx)(e:Expr)(t:TT):Prop :=
 ∀ (whole:Sem Gg) (ω:List (Gk×Obj)) (s:Gh) (σ:St) (H:Hp) (Q:Bool->Hp->Prop),fB X ω σ H s->t σ H Q->wpAny (model X.prog X.w) X.A (isTrue e X.env whole) (TP X ω σ Q) X.xe s
def PW.pt{t:TT}(h:PW X e t):PT X e t:=h _
def PA (X:Cx)(es:List Expr)(t:TA):Prop :=
 ∀ (pos:Pos) (ω:List (Gk×Obj)) (s:Gh) (σ:St) (H:Hp) (Q:List V->Hp->Prop),fB X ω σ H s->t σ H Q->wpAny (model X.prog X.w) X.A (spliced (backTo pos (starEach es X.env))) (AP X ω σ Q) X.xe s
def PS (X:Cx)(st:Stmt)(t:TS):Prop :=
 ∀ (ω:List (Gk×Obj)) (s:Gh) (σ:St) (H:Hp) (D:rO),fB X ω σ H s->t D σ H->wpAny (model X.prog X.w) X.A (exec st X.env) (SP X ω D) X.xe s
def nV (X:Cx)(st:List Stmt)(t:TS):Prop :=
 ∀ (ω:List (Gk×Obj)) (s:Gh) (σ:St) (H:Hp) (D:rO),fB X ω σ H s->t D σ H->wpAny (model X.prog X.w) X.A (execs st X.env) (SP X ω D) X.xe s
def gn{t:Sem α}{Q Q':α->Gh->Prop}(h:wpAny M A t Q E s)(hQ:∀ a s,Q a s->Q' a s):wpAny M A t Q' E s:=wpAny_mono h hQ λ_ _ x=>x
variable {b a:Expr}{σ:St}{ta tb t te tv:TE}{Q:Gg->Gh->Prop}{tA tB':TT}
def fG(ha:PE X a ta)(hb:PE X b tb){R:V->V->Hp->Prop}(I:fB X ω σ H s)(h:ta σ H λx H1=>tb σ H1 λy H2=>R x y H2)
 {Q:α->Gh->Prop} {f:Gg->Gg->Sem α}
  (hf:∀ v u s2 x y H2,fB X ω σ H2 s2->gq x v->gq y u->R x y H2->wpAny (model X.prog X.w) X.A (f v u) Q X.xe s2) :
  wpAny (model X.prog X.w) X.A (eval a X.env) (λv s₁=>wpAny (model X.prog X.w) X.A (eval b X.env) (λu s₂=>wpAny (model X.prog X.w) X.A (f v u) Q X.xe s₂) X.xe s₁) X.xe s:=by
 refine gn (ha ω s σ H _ I h) λv s1 ⟨x,H1,I1,r1,q1⟩=>?_;refine gn (hb ω s1 σ H1 _ I1 q1) λu s2 ⟨y,H2,I2,r2,q2⟩=>?_;exact hf v u s2 x y H2 I2 r1 r2 q2
def Wn (i:Nat):TE:=λσ H Q=>∃ v,σ[i]?=Ga (Ga v)/\Q v H
def tC (v:V):TE:=λ_ H Q=>Q v H
def lE(hN:X.N[i]?=Ga x)(hv:oz X.env.scope x)(hd:(x==("__debug__":Str))=false:=by decide)(hcd:(x==("__classdict__":Str))=false:=by decide):PE X (.Name x pos) (Wn i):=by
 intro ω s σ H Q I h;obtain⟨v,e,h⟩:=h;obtain⟨m,hn,hl⟩:=I.loc;obtain⟨u,r,l⟩:=hl i x v hN e hv;have fin:EP X ω σ Q u s:=⟨v,H,I,r,h⟩;rcases l with ⟨hk,hm⟩|⟨hk,c,hc,hcell⟩
 .exact wpAny_Name (wpAny_loadName_local I.ok.kind hk hn hm fin) hd
 .rcases hk with hk|hk
  .exact wpAny_Name (wpAny_loadName_cell I.ok.kind hk hc hcell fin) hd
  .exact wpAny_Name (wpAny_loadName_free I.ok.kind hk hc hcell fin hcd) hd
def Kn {i j pos}:PE X (.Constant (.int i) j pos) (tC (.int i)):=λ_ _ _ H _ I h=>wpAny_Constant_int ⟨.int i,H,I.tok _,⟨_,rfl⟩,h⟩
def Hj {b j pos}:PE X (.Constant (.bool b) j pos) (tC (.bl b)):=λ_ _ _ H _ I h=>Constant_bool ⟨.bl b,H,I,rfl,h⟩
def LS {j pos}:PE X (.Constant .none j pos) (tC .non):=λ_ _ _ H _ I h=>Constant_none ⟨.non,H,I,rfl,h⟩
def Ka {x j pos}:PE X (.Constant (.str x) j pos) (tC (.str x)):=λ_ _ _ H _ I h=>Calls.Constant_str ⟨.str x,H,I.tok _,⟨_,rfl⟩,h⟩
def Gl (X:Cx)(x:Str):Prop:=X.env.kindOf x=Ga .globalImplicit
def sf(I:fB X ω σ H s)(hg:Gl X x)(hm:X.mg x=Ga u)(h:Q u s)
  (hd:(x==("__debug__":Str))=false:=by decide):wpAny (model X.prog X.w) X.A (eval (.Name x pos) X.env) Q E s :=
 qJ I.ok.kind hg (Calls.loadGlobal_global (by rw[I.ok.glob];exact I.mod.glob.keeps I.bk) hm h) hd
def oU(I:fB X ω σ H s)(hg:Gl X x)(hm:X.mg x=Gb)(hv:bootBuiltins x=Ga u)(h:Q u s)
  (hn:x≠"__name__":=by decide) (hd:(x==("__debug__":Str))=false:=by decide):wpAny (model X.prog X.w) X.A (eval (.Name x pos) X.env) Q E s:=by
 obtain⟨mb,h1,h2⟩:=I.mod.blt;exact qJ I.ok.kind hg (Calls.loadGlobal_builtin (by rw[I.ok.glob];exact I.mod.glob.keeps I.bk) hm (by rw[I.ok.blt];exact h1.keeps I.bk) ((h2 x hn).trans hv) h) hd
def HP(hg:Gl X x)(hm:X.mg x=Ga u)(r:gq v u)(hd:(x==("__debug__":Str))=false:=by decide):PE X (.Name x pos) (tC v) :=
 λ_ _ _ H _ I h=>sf I hg hm ⟨v,H,I,r,h⟩ hd
def PC (X:Cx)(op:CmpOp)(a b:Expr)(t:TE):Prop :=
 ∀ (ω:List (Gk×Obj)) (s:Gh) (σ:St) (H:Hp) (Q:VK),fB X ω σ H s->t σ H Q ->
  wpAny (model X.prog X.w) X.A (eval a X.env) (λv s₁=>wpAny (model X.prog X.w) X.A (eval b X.env) (λu s₂=>wpAny (model X.prog X.w) X.A (compareOp op v u) (EP X ω σ Q) X.xe s₂) X.xe s₁) X.xe s
def tB (t:TE):TT:=λσ H Q=>t σ H λx H1=>∃ c,x=.bl c/\Q c H1
def Ez {op:CmpOp}(h:PC X op a b t)(h1:behindInMarks op b=false:=by first|exact nobehind _ (by decide) (by decide)|rfl):PT X (.Compare a [op] [b] pos) (tB t):=by
 intro ω s σ H Q I hw;refine wpAny_isTrue_Compare1 (gn (h ω s σ H _ I hw) λv s1 h1=>gn h1 λu s2 h2=>gn h2 λc s3 ⟨x,H1,I1,r1,q1⟩=>?_) h1;obtain⟨d,rfl,q⟩:=q1;cases r1;exact wpAny_truthy_bool ⟨H1,I1,q⟩
def Ox(h:PE X e t)(he:∀ whole,isTrue e X.env whole=(do let v <- whole;standAt e.pos;holding [v] (truthy v)):=by intro _;rfl):PT X e (tB t):=by
 intro ω s σ H Q I hw;refine isTrue_plain (gn (h ω s σ H _ I hw) λv s1 ⟨x,H1,I1,r1,q1⟩=>?_) (he _);obtain⟨d,rfl,q⟩:=q1;cases r1;exact wpAny_truthy_bool ⟨H1,I1,q⟩
def VO (t u:TT):TT:=λσ H Q=>t σ H λc H1=>if c=true then u σ H1 Q else Q false H1
def tOr (t u:TT):TT:=λσ H Q=>t σ H λc H1=>if c=true then Q true H1 else u σ H1 Q
def VY (t:TT):TT:=λσ H Q=>t σ H λc H1=>Q (!c) H1
def HG (ha:PT X a tA):PW X (.BoolOp .And [a] pos) tA:=by
 intro wh ω s σ H Q I h;refine isTrue_and (gn (ha ω s σ H Q I h) λc s1 e=>?_);cases c with
 | true=>exact isTrue_and_nil e
 | false=>exact e
def DQ (ha:PT X a tA):PW X (.BoolOp .Or [a] pos) tA:=by
 intro wh ω s σ H Q I h;refine isTrue_or (gn (ha ω s σ H Q I h) λc s1 e=>?_);cases c with
 | false=>exact isTrue_or_nil e
 | true=>exact e
def Ki (ha:PT X a tA)(hb:PW X (.BoolOp .And (b::rest) pos) tB'):PW X (.BoolOp .And (a::b::rest) pos) (VO tA tB'):=by
 intro wh ω s σ H Q I h;refine isTrue_and (gn (ha ω s σ H _ I h) λc s1 ⟨H1,I1,q1⟩=>?_);cases c with
 | true=>exact hb wh ω s1 σ H1 Q I1 q1
 | false=>exact⟨H1,I1,q1⟩
def GL (ha:PT X a tA)(hb:PW X (.BoolOp .Or (b::rest) pos) tB'):PW X (.BoolOp .Or (a::b::rest) pos) (tOr tA tB'):=by
 intro wh ω s σ H Q I h;refine isTrue_or (gn (ha ω s σ H _ I h) λc s1 ⟨H1,I1,q1⟩=>?_);cases c with
 | true=>exact⟨H1,I1,q1⟩
 | false=>exact hb wh ω s1 σ H1 Q I1 q1
def DZ (ha:PT X a tA):PT X (.UnaryOp .Not a pos) (VY tA):=by
 intro ω s σ H Q I h;exact isTrue_not (ha ω s σ H (λc H1=>Q (!c) H1) I h)
def OP (ta tb:TE):TE:=λσ H Q=>ta σ H λx H1=>∃ c,x=.bl c/\if c=true then tb σ H1 Q else Q (.bl false) H1
def Wg (ta tb:TE):TE:=λσ H Q=>ta σ H λx H1=>∃ c,x=.bl c/\if c=true then Q (.bl true) H1 else tb σ H1 Q
def Pj (ta:TE):TE:=λσ H Q=>ta σ H λx H1=>∃ c,x=.bl c/\Q (.bl (!c)) H1
def IU {op}(h:PE X a t):PE X (.BoolOp op [a] pos) t:=λω s σ H Q I hw=>BoolOp_one (h ω s σ H Q I hw)
def MK (ha:PE X a ta)(hb:PE X (.BoolOp .And (b::rest) pos) tb):PE X (.BoolOp .And (a::b::rest) pos) (OP ta tb):=by
 intro ω s σ H Q I h;refine BoolOp_and (gn (ha ω s σ H _ I h) λv s1 ⟨x,H1,I1,r1,q1⟩=>?_);obtain⟨c,rfl,q1⟩:=q1;cases r1;refine wpAny_truthy_bool ?_;cases c with
 | true=>exact hb ω s1 σ H1 Q I1 q1
 | false=>exact⟨.bl false,H1,I1,rfl,q1⟩
def OQ (ha:PE X a ta)(hb:PE X (.BoolOp .Or (b::rest) pos) tb):PE X (.BoolOp .Or (a::b::rest) pos) (Wg ta tb):=by
 intro ω s σ H Q I h;refine BoolOp_or (gn (ha ω s σ H _ I h) λv s1 ⟨x,H1,I1,r1,q1⟩=>?_);obtain⟨c,rfl,q1⟩:=q1;cases r1;refine wpAny_truthy_bool ?_;cases c with
 | false=>exact hb ω s1 σ H1 Q I1 q1
 | true=>exact⟨.bl true,H1,I1,rfl,q1⟩
def Mt (ha:PE X a ta):PE X (.UnaryOp .Not a pos) (Pj ta):=by
 intro ω s σ H Q I h;refine UnaryOp_ (gn (ha ω s σ H _ I h) λv s1 ⟨x,H1,I1,r1,q1⟩=>?_);obtain⟨c,rfl,q1⟩:=q1;cases r1;exact not_of (wpAny_truthy_bool ⟨.bl (!c),H1,I1,rfl,q1⟩)
def YM (t:TT)(ta tb:TE):TE:=λσ H Q=>t σ H λc H1=>if c=true then ta σ H1 Q else tb σ H1 Q
def EZ(hc:PT X c tA)(ha:PE X a ta)(hb:PE X b tb):PE X (.IfExp c a b pos) (YM tA ta tb):=by
 intro ω s σ H Q I h;refine wpAny_IfExp (gn (hc ω s σ H _ I h) λd s1 ⟨H1,I1,q1⟩=>?_);cases d with
 | true=>exact ha ω s1 σ H1 Q I1 q1
 | false=>exact hb ω s1 σ H1 Q I1 q1
def hZ (K:jb)(H:Hp)(a:Gk)(xs:List V):Prop :=
 Rd H a (.lst xs) \/
  ∃ (o:Obj) (its:Array Gg) (n:Nat),K.lookup a=Ga o/\o.cls=.type "list"/\o.dict=Gb/\o.data=.seq its n/\its.size<=sizeLine/\fV xs its.toList
def la (K:jb)(H:Hp)(a:Gk)(xs:List V):Prop :=
 Rd H a (.tup xs) \/
  ∃ (o:Obj) (its:Array Gg) (n:Nat),K.lookup a=Ga o/\o.cls=.type "tuple"/\o.data=.seq its n/\its.size<=sizeLine/\fV xs its.toList
def VX:Gg->Option V
 | .none=>Ga .non
 | .bool b=>Ga (.bl b)
 | .int i _=>Ga (.int i)
 | .str x _=>Ga (.str x)
 | .ref a=>Ga (.ref a)
 | .type n=>Ga (.ty n)
 | _=>Gb
def gq.abs {x:V}(r:gq x u):VX u=Ga x:=by
 cases x with
 | non=>cases r;rfl
 | bl _=>cases r;rfl
 | int _=>obtain⟨t,rfl⟩:=r;rfl
 | str _=>obtain⟨t,rfl⟩:=r;rfl
 | ref _=>cases r;rfl
 | ty _=>cases r;rfl
def gq.inj {x:V}(r:gq x u)(q:gq y u):x=y:=jK (r.abs.symm.trans q.abs)
def fV.inj:∀ {xs ys:List V} {us:List Gg},fV xs us->fV ys us->xs=ys
 | _,_,_,.nil,.nil=>rfl
 | _,_,_,.cons r t,.cons r' t'=>by rw[r.inj r',fV.inj t t']
variable {a:Gk}{t u tb:TS}{rest:List Stmt}{v:Gg}
def hZ.of(h:H a=Ga (.lst xs)):hZ K H a xs:=.inl (.inl h)
def la.of(h:H a=Ga (.tup xs)):la K H a xs:=.inl (.inl h)
def fB.list (I:fB X ω σ H s)(h:hZ X.K H a xs):∃ its:List Gg,fV xs its/\PlainL s.heap a its.toArray/\xs.length<=sizeLine:=by
 rcases h with h|⟨o,its,n,hk,hc,hd,hs,hz,r⟩
 .obtain⟨z,its,n,r,e⟩:=h.ok I.hok;exact⟨its,r,⟨_,n,e,rfl,rfl,rfl⟩,z⟩
 .refine⟨its.toList,r,⟨o,n,I.kIn a o hk,hc,hd,by simpa using hs⟩,?_⟩;have e:=r.length;simp only[jP] at e;omega
def fB.tuple (I:fB X ω σ H s)(h:la X.K H a xs):∃ its:List Gg,fV xs its/\IsTup s.heap a its.toArray/\xs.length<=sizeLine:=by
 rcases h with h|⟨o,its,n,hk,hc,hs,hz,r⟩
 .obtain⟨z,its,r,p⟩:=h.ok I.hok;exact⟨its,r,p,z⟩
 .refine⟨its.toList,r,⟨o,I.kIn a o hk,hc,n,by simpa using hs⟩,?_⟩;have e:=r.length;simp only[jP] at e;omega
def fB.list_inj (I:fB X ω σ H s)(h:hZ X.K H a xs)(h':hZ X.K H a ys):xs=ys:=by
 obtain⟨its,r,⟨o,n,e,_,_,d⟩,_⟩:=I.list h;obtain⟨its',r',⟨o',n',e',_,_,d'⟩,_⟩:=I.list h';rw[e] at e';cases e';rw[d] at d'
 injection d' with d1 _
 have:its=its':=by simpa using congrArg Array.toList d1
 subst this;exact r.inj r'
def fB.tuple_inj (I:fB X ω σ H s)(h:la X.K H a xs)(h':la X.K H a ys):xs=ys:=by
 obtain⟨its,r,⟨o,e,_,n,d⟩,_⟩:=I.tuple h;obtain⟨its',r',⟨o',e',_,n',d'⟩,_⟩:=I.tuple h';rw[e] at e';cases e';rw[d] at d'
 injection d' with d1 _
 have:its=its':=by simpa using congrArg Array.toList d1
 subst this;exact r.inj r'
abbrev Cx.wish (X:Cx)(E:Gg->Gh->Prop):Cx:={ X with xe:=E }
abbrev Cx.nox (X:Cx):Cx:=X.wish λ_ _=>False
def Cx.Ok.wish {X:Cx}(ok:X.Ok)(E:Gg->Gh->Prop):(X.wish E).Ok :=
 ⟨ok.mod,ok.kind,ok.glob,ok.blt,ok.above,ok.inj,ok.has,ok.cab,ok.hd,ok.frames,ok.stk,ok.exf,ok.bs,ok.bsz,ok.noex,ok.exfs,ok.funs,ok.frf⟩
def Cx.Ok.unwish(ok:(X.wish E).Ok):X.Ok :=
 ⟨ok.mod,ok.kind,ok.glob,ok.blt,ok.above,ok.inj,ok.has,ok.cab,ok.hd,ok.frames,ok.stk,ok.exf,ok.bs,ok.bsz,ok.noex,ok.exfs,ok.funs,ok.frf⟩
def fB.wish (I:fB X ω σ H s)(E:Gg->Gh->Prop):fB (X.wish E) ω σ H s:=⟨I.ok.wish E,I.os,I.bare,I.base,I.loc,I.cell,I.free,I.freeC,I.pin,I.hok,I.len⟩
def fB.unwish (I:fB (X.wish E) ω σ H s):fB X ω σ H s:=⟨I.ok.unwish,I.os,I.bare,I.base,I.loc,I.cell,I.free,I.freeC,I.pin,I.hok,I.len⟩
def SP.unwish {D:rO}{f:Flow}{s':Gh}(h:SP (X.wish E) ω D f s'):SP X ω D f s':=by
 cases f with
 | next=>obtain⟨σ',H',I,q⟩:=h;exact⟨σ',H',I.unwish,q⟩
 | brk=>obtain⟨σ',H',I,q⟩:=h;exact⟨σ',H',I.unwish,q⟩
 | cont=>obtain⟨σ',H',I,q⟩:=h;exact⟨σ',H',I.unwish,q⟩
 | ret u=>obtain⟨v,σ',H',I,r,q⟩:=h;exact⟨v,σ',H',I.unwish,r,q⟩
def nV.nox {st:List Stmt}(h:nV X.nox st t):nV X st t:=λω s σ H D I hw =>
 wpAny_mono (h ω s σ H D (I.wish _) hw) (λ_ _ q=>q.unwish) λ_ _ z=>False.elim z
def Pr:TS:=λD σ H=>D.nx σ H
def Wm (t u:TS):TS:=λD σ H=>t { D with nx:=u D } σ H
def HW:nV X [] Pr:=λ_ _ σ H _ I h=>wpAny_execs_nil ⟨σ,H,I,h⟩
def xh (h1:PS X st t)(h2:nV X rest u):nV X (st::rest) (Wm t u):=by
 intro ω s σ H D I h;refine wpAny_execs_cons (gn (h1 ω s σ H { D with nx:=u D } I h) λf s1 q=>?_);cases f with
 | next =>
  obtain⟨σ',H',I',q⟩:=q;exact h2 ω s1 σ' H' D I' q
 | ret v=>exact q
 | brk=>exact q
 | cont=>exact q
def yu (h1:PS X st t):nV X [st] t:=by
 intro ω s σ H D I h;refine wpAny_execs_cons (gn (h1 ω s σ H D I h) λf s1 q=>?_);cases f with
 | next=>exact wpAny_execs_nil q
 | ret v=>exact q
 | brk=>exact q
 | cont=>exact q
def fB.quiet(I:fB X ω σ H s):interactive X.env=false:=by simp[interactive,I.ok.kind]
def Pd (te:TE):TS:=λD σ H=>te σ H λ_ H1=>D.nx σ H1
def HM (he:PE X e te)(hs:swapsWith e Gb pos.line X.env=pure false:=by rfl):PS X (.Expr e pos) (Pd te):=by
 intro ω s σ H D I h;exact wpAny_Expr_any (gn (he ω s σ H _ I h) λv s1 ⟨x,H1,I1,r1,q1⟩=>⟨σ,H1,I1,q1⟩) I.quiet hs
def Ww (te:TE):TS:=λD σ H=>te σ H D.rt
def xy (he:PE X e te):PS X (.Return (Ga e) pos) (Ww te):=by
 intro ω s σ H D I h;exact wpAny_Return_some (gn (he ω s σ H _ I h) λv s1 ⟨x,H1,I1,r1,q1⟩=>⟨x,σ,H1,I1,r1,q1⟩)
def VL (c:TT)(t u:TS):TS:=λD σ H=>c σ H λb H1=>if b=true then t D σ H1 else u D σ H1
def Cy{a b:List Stmt}{tc:TT}(hc:PT X c tc)(ha:nV X a t)(hb:nV X b u):PS X (.If c a b pos) (VL tc t u):=by
 intro ω s σ H D I h;refine wpAny_If (gn (hc ω s σ H _ I h) λd s1 ⟨H1,I1,q1⟩=>?_);cases d with
 | true=>exact ha ω s1 σ H1 D I1 q1
 | false=>exact hb ω s1 σ H1 D I1 q1
abbrev TG:=V->St->Hp->(St->Hp->Prop)->Prop
abbrev yb:=List V->St->Hp->(St->Hp->Prop)->Prop
def PG (X:Cx)(target:Expr)(t:TG):Prop :=
 ∀ (ω:List (Gk×Obj)) (s:Gh) (σ:St) (H:Hp) (v:V) (u:Gg) (Q:St->Hp->Prop),fB X ω σ H s->gq v u->t v σ H Q ->
  wpAny (model X.prog X.w) X.A (assign target X.env u) (λ_ s'=>∃ σ' H',fB X ω σ' H' s'/\Q σ' H') X.xe s
def Aa (X:Cx)(ts:List Expr)(t:yb):Prop :=
 ∀ (ω:List (Gk×Obj)) (s:Gh) (σ:St) (H:Hp) (vs:List V) (us:List Gg) (Q:St->Hp->Prop),fB X ω σ H s->fV vs us->t vs σ H Q ->
  wpAny (model X.prog X.w) X.A (assignInOrder ((assignEach ts X.env).map (·.2)) us) (λ_ s'=>∃ σ' H',fB X ω σ' H' s'/\Q σ' H') X.xe s
abbrev CA:=V->V->V->Hp->(Hp->Prop)->Prop
def Fd (X:Cx)(t:CA):Prop :=
 ∀ (ω:List (Gk×Obj)) (s:Gh) (σ:St) (H:Hp) (o i v:V) (ov iv u:Gg) (Q:Hp->Prop),fB X ω σ H s->gq o ov->gq i iv->gq v u->t o i v H Q ->
  wpAny (model X.prog X.w) X.A (setItem ov iv u) (λ_ s'=>∃ H',fB X ω σ H' s'/\Q H') X.xe s
def HB (i:Nat):TG:=λv σ H Q=>Q (σ.set i (Ga v)) H
def HN(hN:X.N.Nodup)(hi:X.N[i]?=Ga x)(hx:tP X.env.scope x)(hf:X.fn x=true\/X.env.scope.names.lookup x=Ga .local:=by first|exact .inl rfl|exact .inr rfl|assumption):PG X (.Name x pos) (HB i):=by
 intro ω s σ H v u Q I r h;exact wpAny_assign_Name (AE I hN hi hx r (λs' I'=>⟨_,H,I',h⟩) hf)
def Wq:yb:=λvs σ H Q=>vs=[]/\Q σ H
def Pf (t:TG)(u:yb):yb:=λvs σ H Q=>∃ v r,vs=v::r/\t v σ H λσ' H'=>u r σ' H' Q
def HF:Aa X [] Wq:=by
 intro ω s σ H vs us Q I r h;obtain⟨e,h⟩:=h;subst e;cases r;exact assignInOrder_nil ⟨σ,H,I,h⟩
def Fp{t:TG}{u:yb}(h1:PG X e t)(h2:Aa X es u)
  (hs:(assignEach (e::es) X.env).map (·.2)=assign e X.env::(assignEach es X.env).map (·.2):=by rfl):Aa X (e::es) (Pf t u):=by
 intro ω s σ H vs us Q I r h;obtain⟨v,vr,e1,h⟩:=h;subst e1;cases r with
 | cons r rr =>
  rw[hs];refine assignInOrder_cons (gn (h1 ω s σ H _ _ _ I r h) λ_ s1 ⟨σ1,H1,I1,q1⟩=>?_);exact h2 ω s1 σ1 H1 _ _ Q I1 rr q1
def VV (K:jb)(n:Nat)(t:yb):TG:=λv σ H Q=>∃ a xs,v=.ref a/\la K H a xs/\xs.length=n/\t xs σ H Q
def Kx{t:yb}(hc:X.calm=true)(h:Aa X es t)
  (hn:(assignEach es X.env).length=n:=by rfl) (hst:(assignEach es X.env).findIdx? (·.1)=Gb:=by rfl):PG X (.Tuple es k pos) (VV X.K n t):=by
 intro ω s σ H v u Q I r hw;obtain⟨a,xs,e1,hq,hl,hw⟩:=hw;subst e1;cases r;obtain⟨its,rv,ht,hz⟩:=I.tuple hq;refine assign_Tuple_tuple (I.ok.hd hc) ht (by simp[hn,<- hl,rv.length]) hst λh' hx=>?_;have I1:fB X ω σ H { s with heap:=h' }:=I.kept (t':=s.toks) λb o e=>hx b o (jL (jy e)) e;exact h ω _ σ H xs _ Q I1 (by simpa using rv) hw
def VH (to ti:TE)(t:CA):TG:=λv σ H Q=>to σ H λo H1=>ti σ H1 λi H2=>t o i v H2 λH3=>Q σ H3
def Er {o i:Expr}{to ti:TE}{t:CA}(ho:PE X o to)(hi:PE X i ti)(hs:Fd X t)
  (ha:∀ v,assign (.Subscript o i pos) X.env v=(do
   let ov <- holding [v] (eval o X.env)
   let iv <- holding [v,ov] (eval i X.env)
   standAt pos
   holding [v,ov,iv] (setItem ov iv v)
   release [v,ov,iv] []):=by intro _;rfl):PG X (.Subscript o i pos) (VH to ti t):=by
 intro ω s σ H v u Q I r h;rw[ha];refine fk (wpAny_holding (gn (ho ω s σ H _ I h) λov s1 ⟨x,H1,I1,r1,q1⟩=>?_));refine fk (wpAny_holding (gn (hi ω s1 σ H1 _ I1 q1) λiv s2 ⟨y,H2,I2,r2,q2⟩=>?_));refine fk (wpAny_standAt (fk (wpAny_holding (gn (hs ω s2 σ H2 x y v ov iv u _ I2 r1 r2 r q2) λ_ s3 ⟨H3,I3,q3⟩=>?_))));exact wpAny_release ⟨σ,H3,I3,q3⟩
def LM (te:TE)(g:TG):TS:=λD σ H=>te σ H λx H1=>g x σ H1 D.nx
variable {g:TG}{u:Gg}{t:TA}
def zL(he:PE X e te)(hg:PG X tg g)(hs:swapsWithSole [tg] e pos.line X.env=pure false:=by rfl)(hw:swappedStores [tg] e X.env=pure Gb:=by rfl)
  (h1:(assignEach [tg] X.env).map (·.2)=[assign tg X.env]:=by rfl):PS X (.Assign [tg] e pos) (LM te g):=by
 intro ω s σ H D I h;refine wpAny_Assign_stores (gn (he ω s σ H _ I h) λv s1 ⟨x,H1,I1,r1,q1⟩=>?_) hs hw;rw[h1];exact gn (hg ω s1 σ H1 x v _ I1 r1 q1) λ_ s2 q=>q
def sZ(hN:X.N.Nodup)(hi:X.N[i]?=Ga x)(hx:tP X.env.scope x)(he:PE X e te)(hs:swapsWith e (Ga (.Name x pos')) pos.line X.env=pure false:=by rfl)(hf:X.fn x=true\/X.env.scope.names.lookup x=Ga .local:=by first|exact .inl rfl|exact .inr rfl|assumption) :
  PS X (.Assign [.Name x pos'] e pos) (LM te (HB i)):=by
 intro ω s σ H D I h;refine wpAny_Assign_Name (gn (he ω s σ H _ I h) λv s1 ⟨y,H1,I1,r1,q1⟩=>?_) hs;exact AE I1 hN hi hx r1 (λs2 I2=>⟨_,H1,I2,q1⟩) hf
def IA (c:TT)(tb:TS):TS:=λD σ H=>∃ W:Nat->St->Hp->Prop,(∃ m,W m σ H)/\∀ m σ H,W m σ H ->
 c σ H λb H1=>if b=true then ∃ N:St->Hp->Prop,(∀ σ' H',N σ' H'->∃ m',m'<m/\W m' σ' H')/\tb { D with nx:=N,ct:=N,bk:=D.nx } σ H1 else D.nx σ H1
def Fv{tc:TT}(hp:PassesOwn (model X.prog X.w) X.A X.env X.xe)(hc:PT X c tc)(hb:nV X body tb):PS X (.While c body [] pos) (IA tc tb):=by
 intro ω s σ H D I h;obtain⟨W,⟨m0,w0⟩,turn⟩:=h;refine wpAny_While (codeAny_whileLoop (λn s'=>∃ σ' H',fB X ω σ' H' s'/\W n σ' H') ?_ m0 ⟨σ,H,I,w0⟩);rintro n s1 ⟨σ1,H1,I1,w1⟩;refine wpAny_passesOwn hp (gn (hc ω s1 σ1 H1 _ I1 (turn n σ1 H1 w1)) λb s2 ⟨H2,I2,q2⟩=>?_);cases b with
 | true =>
  obtain⟨N,hN,q2⟩:=q2;rw[Ge rfl];refine wpAny_passesOwn hp (gn (hb ω s2 σ1 H2 _ I2 q2) λf s3 q3=>?_);cases f with
  | next =>
   obtain⟨σ3,H3,I3,n3⟩:=q3;obtain⟨m',hm,w3⟩:=hN σ3 H3 n3;exact⟨m',hm,σ3,H3,I3,w3⟩
  | cont =>
   obtain⟨σ3,H3,I3,n3⟩:=q3;obtain⟨m',hm,w3⟩:=hN σ3 H3 n3;exact⟨m',hm,σ3,H3,I3,w3⟩
  | brk=>exact q3
  | ret v=>exact q3
 | false =>
  rw[Gf jH];exact wpAny_execs_nil ⟨σ1,H2,I2,q2⟩
structure It where
 go:Nat->Hp->Prop
 yld:Nat->Hp->V->Hp->Prop
 stop:Nat->Hp->Prop
def pV (X:Cx)(ω:List (Gk×Obj))(H:Hp)(b:Gk):Prop :=
 H b=Gb/\b≠X.env.locals/\b∉X.fs9/\(b∈X.ex\/X.s₀.heap.objs.size<=b)/\(∀ x c,X.env.cells.lookup x=Ga c->c≠b)/\∀ p∈X.pn++ω,p.1≠b
def fB.fpOk{b:Gk}(I:fB X ω σ H s)(hb:s.heap.objs.size<=b)(hn:H' b=Gb):pV X ω H' b:=by
 refine⟨hn,uA (jx I.lt hb),I.nofs hb,.inr (jI I.sz hb),λx c e z=>?_,λp hp z=>?_⟩
 .obtain⟨v,q⟩:=I.cell x c e;exact absurd (jx q.lt (by rwa[z])) (kb _)
 .exact absurd (jx (jy (I.pin p hp).1) (by rwa[z])) (kb _)
structure tz (P:Program)(w:World)(K:jb)(tg:Expr)(J:It)(fp:List Gk)(it:Gk)(tn:Nat->Heap->Prop):Prop where
 mem:it∈fp
 obj:∀ i h,tn i h->∀ b∈fp,∃ o,h.get? b=Ga o/\∀ v,o.data≠.cell v
 keep:∀ i h h',tn i h->(∀ b∈fp,∀ o,h.get? b=Ga o->h'.get? b=Ga o)->tn i h'
 item:∀ (X:Cx),X.prog=P->X.w=w->X.K=K->X.calm=true->∀ (i:Nat) (ω:List (Gk×Obj)) (s:Gh) (σ:St) (H:Hp) (E:Gg->Gh->Prop),fB X ω σ H s->(∀ b∈fp,pV X ω H b)->tn i s.heap->J.go i H ->
  wpAny (model P w) X.A (pyNext (.ref it)) (λr s1=>∃ u,r=Ga u /\
   wpAny (model P w) X.A (letOwnedTupleGo tg (.ref it) u) (λ_ s2=>∃ x H',fB X ω σ H' s2/\gq x u/\J.yld i H x H'/\tn (i+1) s2.heap/\∀ b∈fp,H' b=Gb) E s1) E s
 done:∀ (X:Cx),X.prog=P->X.w=w->X.K=K->X.calm=true->∀ (i:Nat) (ω:List (Gk×Obj)) (s:Gh) (σ:St) (H:Hp) (E:Gg->Gh->Prop),fB X ω σ H s->(∀ b∈fp,pV X ω H b)->tn i s.heap->J.stop i H ->
  wpAny (model P w) X.A (pyNext (.ref it)) (λr s1=>r=Gb/\fB X ω σ H s1) E s
 self:∀ (A:Around) (i:Nat) (s:Gh) (Q:Gg->Gh->Prop) (E:Gg->Gh->Prop),tn i s.heap->Q (.ref it) s->wpAny (model P w) A (pyIter (.ref it)) Q E s
abbrev TI:=St->Hp->(It->Hp->Prop)->Prop
def Sn (X:Cx)(ω:List (Gk×Obj))(σ:St)(tg:Expr)(R:It->Hp->Prop)(itv:Gg)(s2:Gh):Prop :=
 ∃ (it:Gk) (fp:List Gk) (tn:Nat->Heap->Prop) (J:It) (H':Hp),itv=.ref it/\fB X ω σ H' s2/\tz X.prog X.w X.K tg J fp it tn/\tn 0 s2.heap/\(∀ b∈fp,pV X ω H' b)/\R J H'
def PI (X:Cx)(tg iter:Expr)(wi:TI):Prop :=
 ∀ (ω:List (Gk×Obj)) (s:Gh) (σ:St) (H:Hp) (R:It->Hp->Prop),fB X ω σ H s->wi σ H R ->
  wpAny (model X.prog X.w) X.A (eval iter X.env) (λv s1=>wpAny (model X.prog X.w) X.A (pyIter v) (Sn X ω σ tg R) X.xe s1) X.xe s
def xE{n:String}{vs:Array Gg}{Q:Unit->Gh->Prop}(ho:s.heap.get? it=Ga o)(hc:o.cls=.type n)(hd:o.data=.fields vs)
  (hn:["enumerate","zip","dict_itemiterator","dict_reverseitemiterator","odict_iterator","itertools.zip_longest","itertools.pairwise"].contains n=false) (hQ:Q () s):wpAny M A (letOwnedTupleGo tg (.ref it) u) Q E s:=by
 unfold letOwnedTupleGo;cases tg<;>first
  | exact fq hQ
  | (cases u<;>first
    | exact fq hQ
    | (refine fk (wpAny_load ho ?_)
       rw[hc,hd];show wpAny M A (if (["enumerate","zip","dict_itemiterator","dict_reverseitemiterator","odict_iterator","itertools.zip_longest","itertools.pairwise"].contains n&&vs[0]?==Ga (rawInt _))=true then _ else _) Q E s;rw[Gf (by intro h;rw[hn,Bool.false_and] at h;cases h)];exact fq hQ))
def LQ (K:jb)(a:Gk):It :=
 ⟨λi H=>∃ xs x,hZ K H a xs/\xs[i]?=Ga x,λi H x H'=>H'=H/\∀ xs,hZ K H a xs->xs[i]?=Ga x,λi H=>∃ xs,hZ K H a xs/\xs.length<=i⟩
def IX (K:jb)(a:Gk):It :=
 ⟨λi H=>∃ xs x,la K H a xs/\xs[i]?=Ga x,λi H x H'=>H'=H/\∀ xs,la K H a xs->xs[i]?=Ga x,λi H=>∃ xs,la K H a xs/\xs.length<=i⟩
def Dp (lo:Int)(n:Nat):It:=⟨λi _=>i<n,λi H x H'=>H'=H/\x=.int (lo+i),λi _=>n<=i⟩
def EA(a it:Gk):tz P w K tg (LQ K a) [it] it (λi h=>h.IsListIter it a i) where
 mem:=by simp
 obj:=λi h st b hb=>by
  have e:b=it:=by simpa using hb
  subst e;obtain⟨o,e,c,d⟩:=st;exact⟨o,e,λv z=>by rw[d] at z;cases z⟩
 keep:=λi h h' st k=>st.at λo e=>k it (by simp) o e
 item:=by
  intro X hP hw hK hc i ω s σ H E I hf st hg;subst hP hw hK;obtain⟨xs,x,hq,hx⟩:=hg;obtain⟨its,rv,p,hz⟩:=I.list hq;obtain⟨u,hu,ru⟩:=rv.get hx;obtain⟨f0,f1,f2,f3,f4,f5⟩:=hf it (by simp);refine wpAny_pyNext_list_item st p.isList (x:=u) (by simpa using hu) λh' st' sb=>?_;have I1:fB X ω σ H { s with heap:=h' }:=I.turned (t':=s.toks) (λb o hb e=>(sb.2 b hb).trans e) f0 f1 f3 f4 f5;obtain⟨o,e,c,d⟩:=id st';exact⟨u,rfl,xE (s:={ s with heap:=h' }) e c d (by decide) ⟨x,H,I1,ru,⟨rfl,λys hy=>by rwa[I.list_inj hy hq]⟩,st',λb hb=>(hf b hb).1⟩⟩
 done:=by
  intro X hP hw hK hc i ω s σ H E I hf st hg;subst hP hw hK;obtain⟨xs,hq,hx⟩:=hg;obtain⟨its,rv,p,hz⟩:=I.list hq;obtain⟨f0,f1,f2,f3,f4,f5⟩:=hf it (by simp);have hl:=rv.length;exact wpAny_pyNext_list_end (I.ok.hd hc) st p.isList (by simp;omega) λh' eb=>⟨rfl,I.turned (t':=s.toks) (λb o hb e=>eb b o hb e) f0 f1 f3 f4 f5⟩
 self:=λ_ _ _ _ _ st h=>wpAny_pyIter_listiter st h
def Cn(a it:Gk):tz P w K tg (IX K a) [it] it (λi h=>h.IsTupleIter it a i) where
 mem:=by simp
 obj:=λi h st b hb=>by
  have e:b=it:=by simpa using hb
  subst e;obtain⟨o,e,c,d⟩:=st;exact⟨o,e,λv z=>by rw[d] at z;cases z⟩
 keep:=λi h h' st k=>st.at λo e=>k it (by simp) o e
 item:=by
  intro X hP hw hK hc i ω s σ H E I hf st hg;subst hP hw hK;obtain⟨xs,x,hq,hx⟩:=hg;obtain⟨its,rv,p,hz⟩:=I.tuple hq;obtain⟨u,hu,ru⟩:=rv.get hx;obtain⟨f0,f1,f2,f3,f4,f5⟩:=hf it (by simp);refine wpAny_pyNext_tuple_item st (show s.heap.IsTuple a its.toArray from p) (x:=u) (by simpa using hu) λh' st' sb=>?_;have I1:fB X ω σ H { s with heap:=h' }:=I.turned (t':=s.toks) (λb o hb e=>(sb.2 b hb).trans e) f0 f1 f3 f4 f5;obtain⟨o,e,c,d⟩:=id st';exact⟨u,rfl,xE (s:={ s with heap:=h' }) e c d (by decide) ⟨x,H,I1,ru,⟨rfl,λys hy=>by rwa[I.tuple_inj hy hq]⟩,st',λb hb=>(hf b hb).1⟩⟩
 done:=by
  intro X hP hw hK hc i ω s σ H E I hf st hg;subst hP hw hK;obtain⟨xs,hq,hx⟩:=hg;obtain⟨its,rv,p,hz⟩:=I.tuple hq;obtain⟨f0,f1,f2,f3,f4,f5⟩:=hf it (by simp);have hl:=rv.length;exact wpAny_pyNext_tuple_end (I.ok.hd hc) st (show s.heap.IsTuple a its.toArray from p) (by simp;omega) λh' eb=>⟨rfl,I.turned (t':=s.toks) (λb o hb e=>eb b o hb e) f0 f1 f3 f4 f5⟩
 self:=λ_ _ _ _ _ st h=>wpAny_pyIter_tupleiter st h
def CK(it:Gk)(lo:Int)(n:Nat):tz P w K tg (Dp lo n) [it] it (λi h=>IsRangeIter h it (lo+(i:Nat)*1) ((n:Int)-(i:Nat)) 1) where
 mem:=by simp
 obj:=λi h st b hb=>by
  have e:b=it:=by simpa using hb
  subst e;exact⟨_,st,λv z=>by
   have z':Data.fields _=Data.cell v:=z;cases z'⟩
 keep:=λi h h' st k=>k it (by simp) _ st
 item:=by
  intro X hP hw hK hc i ω s σ H E I hf st hg;subst hP hw hK;obtain⟨f0,f1,f2,f3,f4,f5⟩:=hf it (by simp);have W:=Walks.range (prog:=X.prog) (w:=X.w) (I.ok.hd hc) it lo 1 n;refine W.item i s _ _ hg st λv h' tk hv st' kk=>?_;obtain⟨t,rfl⟩:=hv;have I1:fB X ω σ H { s with heap:=h',toks:=tk }:=I.turned (λb o hb e=>kk b o (by simpa using hb) e) f0 f1 f3 f4 f5;refine⟨_,rfl,xE (s:={ s with heap:=h',toks:=tk }) (n:="range_iterator") st' rfl rfl (by decide) ⟨.int (lo+i),H,I1,⟨t,?_⟩,⟨rfl,rfl⟩,st',λb hb=>(hf b hb).1⟩⟩;rw[Int.mul_one]
 done:=by
  intro X hP hw hK hc i ω s σ H E I hf st hg;subst hP hw hK;obtain⟨f0,f1,f2,f3,f4,f5⟩:=hf it (by simp);exact wpAny_pyNext_range_end (I.ok.hd hc) st (by have:n<=i:=hg;omega) λh' eb=>⟨rfl,I.turned (t':=s.toks) (λb o hb e=>eb b o hb e) f0 f1 f3 f4 f5⟩
 self:=λ_ _ _ _ _ st h=>wpAny_pyIter_rangeiter st h
def zM{R:It->Hp->Prop}{lo hi:Int}{t u v:Tok}{tk:Nat}(I:fB X ω σ H s)(h1:-(2^62)<=lo)(h2:lo<2^62)(h3:-(2^62)<=hi)(h4:hi<2^62)
  (q:R (Dp lo (hi-lo).toNat) H):wpAny (model X.prog X.w) X.A (pyIter (.ref s.heap.objs.size)) (Sn X ω σ tg R) E { s with heap:=s.heap.push { cls:=.type "range",data:=.fields #[.int lo t,.int hi u,.int 1 v] },toks:=tk }:=by
 refine wpAny_pyIter_range (IsRange.new ..) (small_one h1 h2 h3 h4) ?_;have I1:fB X ω σ H { s with heap:=s.heap.push { cls:=.type "range",data:=.fields #[.int lo t,.int hi u,.int 1 v] },toks:=tk }:=I.kept λb o e=>jj _ e;refine⟨(s.heap.push { cls:=.type "range",data:=.fields #[.int lo t,.int hi u,.int 1 v] }).objs.size,[(s.heap.push { cls:=.type "range",data:=.fields #[.int lo t,.int hi u,.int 1 v] }).objs.size],_,_,H,rfl,
  I1.kept (t':=tk) λb o e=>jj _ e,CK _ lo (hi-lo).toNat,?_,λb hb=>?_,q⟩
 .have e1:lo+((0:Nat):Int)*1=lo:=by simp
  have e2:(((hi-lo).toNat:Nat):Int)-((0:Nat):Int)=Builtin.Range.rangeSize lo hi 1:=by rw[rangeSize_one];split<;>omega
  show IsRangeIter _ _ (lo+((0:Nat):Int)*1) ((((hi-lo).toNat:Nat):Int)-((0:Nat):Int)) 1;rw[e1,e2];exact jA _ rfl
 .have e:b=(s.heap.push { cls:=.type "range",data:=.fields #[.int lo t,.int hi u,.int 1 v] }).objs.size:=by simpa using hb
  subst e;exact I1.fpOk (jw _) (I1.hok.fresh (jw _))
def Ph (ta:TA):TI:=λσ H R=>ta σ H λvs H1=>∃ j:Int,vs=[.int j]/\-(2^62)<=j/\j<2^62/\R (Dp 0 j.toNat) H1
def Pa (ta:TA):TI:=λσ H R=>ta σ H λvs H1=>∃ i j:Int,vs=[.int i,.int j]/\(-(2^62)<=i/\i<2^62/\-(2^62)<=j/\j<2^62)/\R (Dp i (j-i).toNat) H1
def EV {a:Expr}{ta:TA}{p:Pos}(hg:Gl X "range")(hm:X.mg "range"=Gb)(ha:PA X [a] ta)(hs:starEach [a] X.env=[(false,eval a X.env)]:=by rfl):PI X tg (.Call (.Name "range" p) [a] [] pos) (Ph ta):=by
 intro ω s σ H R I h;refine Call_ (oU I hg hm boot_range (PyProof.Rows.callWith_type1 (gn (ha pos ω s σ H _ I h) λus s1 ⟨vs,H1,I1,r1,q1⟩=>?_) hs rfl));obtain⟨j,e,q1,q2,q⟩:=q1;subst e;cases r1 with
 | cons r rr =>
  cases rr;obtain⟨t,rfl⟩:=r;exact call_range_1 (zM I1 (by omega) (by omega) q1 q2 (by simpa using q))
def Dl {a:Expr}{ta:TA}{p:Pos}(hg:Gl X "range")(hm:X.mg "range"=Gb)(ha:PA X [a,b] ta)(hs:starEach [a,b] X.env=[(false,eval a X.env),(false,eval b X.env)]:=by rfl)(hs2:starEach [b] X.env=[(false,eval b X.env)]:=by rfl) :
  PI X tg (.Call (.Name "range" p) [a,b] [] pos) (Pa ta):=by
 intro ω s σ H R I h;refine Call_ (oU I hg hm boot_range (PyProof.Rows.callWith_type1 (gn (ha pos ω s σ H _ I h) λus s1 ⟨vs,H1,I1,r1,q1⟩=>?_) (by rw[hs,hs2]) (by rw[hs2];rfl)));obtain⟨i,j,e,⟨q1,q2,q3,q4⟩,q⟩:=q1;subst e;cases r1 with
 | cons r rr =>
  cases rr with
  | cons r' rr =>
   cases rr;obtain⟨t,rfl⟩:=r;obtain⟨t',rfl⟩:=r';exact call_range_2 (zM I1 q1 q2 q3 q4 q)
def We (wi:TI)(g:TG)(tb:TS):TS:=λD σ H=>wi σ H λJ H1=>∃ W:Nat->Nat->St->Hp->Prop,(∃ m,W 0 m σ H1)/\∀ i m σ H,W i m σ H ->
 (J.stop i H/\D.nx σ H)\/(J.go i H/\∃ N:St->Hp->Prop,(∀ σ' H',N σ' H'->∃ m',m'<m/\W (i+1) m' σ' H')/\∀ x H',J.yld i H x H'->g x σ H' λσ2 H2=>tb { D with nx:=N,ct:=N,bk:=D.nx } σ2 H2)
def rZ (fp:List Gk)(h:Heap):List (Gk×Obj):=fp.filterMap λb=>(h.get? b).map λo=>(b,o)
def pG{b:Gk}(hb:b∈fp)(e:h.get? b=Ga o):(b,o)∈rZ fp h:=qK.mpr ⟨b,hb,by rw[e];rfl⟩
def DE{p:Gk×Obj}(hp:p∈rZ fp h):p.1∈fp/\h.get? p.1=Ga p.2:=by
 obtain⟨b,hb,e⟩:=qK.mp hp;cases q:h.get? b with
 | none=>rw[q] at e;cases e
 | some o =>
  rw[q] at e;have e':(b,o)=p:=jK e;subst e';exact⟨hb,q⟩
def fB.pinned(I:fB X ω σ H s)(hf:∀ b∈fp,pV X ω H b)(ho:∀ b∈fp,∃ o,s.heap.get? b=Ga o/\∀ v,o.data≠.cell v):fB X (ω++rZ fp s.heap) σ H s :=
 I.pins_of λp hp=>(jM.mp hp).elim (λz=>I.pin p (jD _ z)) λz=>by
  obtain⟨hb,e⟩:=DE z;obtain⟨f0,f1,f2,_⟩:=hf p.1 hb;obtain⟨o,e',d⟩:=ho p.1 hb;rw[e] at e';cases e';exact⟨e,f0,f1,f2,d⟩
def fB.unpinned {pl:List (Gk×Obj)}(I:fB X (ω++pl) σ H s):fB X ω σ H s:=I.pins_of λp hp=>I.pin p (jD _ (uO _ hp))
def AG {iter:Expr}{wi:TI}(hp:PassesOwn (model X.prog X.w) X.A X.env X.xe)(hc:X.calm=true)(hi:PI X tg iter wi)(hg:PG X tg g)(hb:nV X body tb)
  (hs:∀ x,foldedSetIterable iter X.env x=pure x:=by intro _;rfl):PS X (.For tg iter body [] pos) (We wi g tb):=by
 intro ω s σ H D I h;refine wpAny_For (gn (hi ω s σ H _ I h) λv s1 h1=>gn h1 λitv s2 h2=>?_) hs;obtain⟨it,fp,tn,J,H2,e,I2,T,st2,f2,W,⟨m0,w0⟩,turn⟩:=h2;subst e;have stat:∀ {H':Hp},(∀ b∈fp,H' b=Gb)->∀ b∈fp,pV X ω H' b:=λhn b hb=>⟨hn b hb,(f2 b hb).2⟩;refine codeAny_forLoop_any (λn s'=>∃ i σ' H',fB X ω σ' H' s'/\tn i s'.heap/\(∀ b∈fp,H' b=Gb)/\W i n σ' H') ?_ m0 ⟨0,σ,H2,I2,st2,λb hb=>(f2 b hb).1,w0⟩;rintro n s3 ⟨i,σ3,H3,I3,st3,fr3,w3⟩;rcases turn i n σ3 H3 w3 with ⟨stop,qn⟩|⟨go,N,hN,step⟩
 .refine wpAny_passesOwn hp (gn (T.done X rfl rfl rfl hc i ω s3 σ3 H3 X.xe I3 (stat fr3) st3 stop) λr s4 ⟨hr,I4⟩=>?_);subst hr;exact wpAny_execs_nil ⟨σ3,H3,I4,qn⟩
 .refine wpAny_passesOwn hp (gn (T.item X rfl rfl rfl hc i ω s3 σ3 H3 X.xe I3 (stat fr3) st3 go) λr s4 ⟨u,hr,h4⟩=>?_);subst hr;refine wpAny_passesOwn hp (gn h4 λ_ s5 ⟨x,H5,I5,r5,y5,st5,fr5⟩=>?_);have I5':=I5.pinned (stat fr5) (T.obj _ _ st5);refine wpAny_passesOwn hp (gn (hg _ s5 σ3 H5 x u _ I5' r5 (step x H5 y5)) λ_ s6 ⟨σ6,H6,I6,q6⟩=>?_);refine wpAny_passesOwn hp (gn (hb _ s6 σ6 H6 _ I6 q6) λf s7 q7=>?_);have again:∀ {σ7:St} {H7:Hp},fB X (ω++rZ fp s5.heap) σ7 H7 s7->N σ7 H7->∃ m,m<n/\∃ i σ' H',fB X ω σ' H' s7/\tn i s7.heap/\(∀ b∈fp,H' b=Gb)/\W i m σ' H':=λ{σ7 H7} I7 n7=>by
   obtain⟨m',hm,w7⟩:=hN σ7 H7 n7;refine⟨m',hm,i+1,σ7,H7,I7.unpinned,T.keep _ _ _ st5 λb hb o e=>(I7.pin (b,o) (jD _ (jD _ (pG hb e)))).1,λb hb=>?_,w7⟩;obtain⟨o,e,d⟩:=T.obj _ _ st5 b hb;exact(I7.pin (b,o) (jD _ (jD _ (pG hb e)))).2.1
  cases f with
  | next=>obtain⟨σ7,H7,I7,n7⟩:=q7;exact again I7 n7
  | cont=>obtain⟨σ7,H7,I7,n7⟩:=q7;exact again I7 n7
  | brk=>obtain⟨σ7,H7,I7,q7⟩:=q7;exact⟨σ7,H7,I7.unpinned,q7⟩
  | ret v=>obtain⟨x7,σ7,H7,I7,r7,q7⟩:=q7;exact⟨x7,σ7,H7,I7.unpinned,r7,q7⟩
abbrev R2:=V->V->Hp->VK->Prop
def ir (X:Cx)(f:Gg->Gg->Sem Gg)(r:R2):Prop :=
 ∀ (ω:List (Gk×Obj)) (s:Gh) (σ:St) (H:Hp) (x y:V) (v u:Gg) (Q:VK),fB X ω σ H s->gq x v->gq y u->r x y H Q ->
  wpAny (model X.prog X.w) X.A (f v u) (EP X ω σ Q) X.xe s
def NZ (X:Cx)(f:Gg->Sem Gg)(r:V->Hp->VK->Prop):Prop :=
 ∀ (ω:List (Gk×Obj)) (s:Gh) (σ:St) (H:Hp) (x:V) (v:Gg) (Q:VK),fB X ω σ H s->gq x v->r x H Q ->
  wpAny (model X.prog X.w) X.A (f v) (EP X ω σ Q) X.xe s
def iH (X:Cx)(f:Gg)(r:List V->Hp->VK->Prop):Prop :=
 ∀ (ω:List (Gk×Obj)) (s:Gh) (σ:St) (H:Hp) (xs:List V) (us:List Gg) (Q:VK),fB X ω σ H s->fV xs us->r xs H Q ->
  wpAny (model X.prog X.w) X.A (call f us) (EP X ω σ Q) X.xe s
def VE (X:Cx)(r:V->Hp->(Bool->Hp->Prop)->Prop):Prop :=
 ∀ (ω:List (Gk×Obj)) (s:Gh) (σ:St) (H:Hp) (x:V) (v:Gg) (Q:Bool->Hp->Prop),fB X ω σ H s->gq x v->r x H Q ->
  wpAny (model X.prog X.w) X.A (truthy v) (TP X ω σ Q) X.xe s
def DM (r:R2)(ta tb:TE):TE:=λσ H Q=>ta σ H λx H1=>tb σ H1 λy H2=>r x y H2 Q
def Xp (r:V->Hp->VK->Prop)(ta:TE):TE:=λσ H Q=>ta σ H λx H1=>r x H1 Q
def rI (C:Int->Int->Prop)(g:Int->Int->V):R2:=λx y H Q=>∃ i j,x=.int i/\y=.int j/\C i j/\Q (g i j) H
def tR (g:Int->Int->V):R2:=λx y H Q=>∃ i j,x=.int i/\y=.int j/\Q (g i j) H
def rU (g:Int->V):V->Hp->VK->Prop:=λx H Q=>∃ i,x=.int i/\Q (g i) H
section
variable {X:Cx}{a b c:Expr}{ta tb tc:TE}{pos:Pos}
variable {f:Gg->Gg->Sem Gg}{g:Int->Int->Int}
def Fh (ha:PE X a ta)(hb:PE X b tb){R:V->V->Hp->Prop}(I:fB X ω σ H s)
  (h:ta σ H λx H1=>tb σ H1 λy H2=>R x y H2)
  (hf:∀ v u s2 x y H2,fB X ω σ H2 s2->gq x v->gq y u->R x y H2->wpAny (model X.prog X.w) X.A (f v u) Q X.xe s2) :
  wpAny (model X.prog X.w) X.A (eval a X.env) (λv s₁=>wpAny (model X.prog X.w) X.A (eval b X.env) (λu s₂=>wpAny (model X.prog X.w) X.A (f v u) Q X.xe s₂) X.xe s₁) X.xe s:=by
 refine gn (ha ω s σ H _ I h) λv s1 ⟨x,H1,I1,r1,q1⟩=>?_;refine gn (hb ω s1 σ H1 _ I1 q1) λu s2 ⟨y,H2,I2,r2,q2⟩=>?_;exact hf v u s2 x y H2 I2 r1 r2 q2
def zo {op:Operator}{r:R2}(ho:ir X (binaryOp op) r)(ha:PE X a ta)(hb:PE X b tb):PE X (.BinOp a op b pos) (DM r ta tb):=by
 intro ω s σ H Q I h;exact wpAny_BinOp (Fh ha hb I h λv u s2 x y H2 I2 rx ry q=>ho ω s2 σ H2 x y v u Q I2 rx ry q)
def Ps {op:UnaryOp}{r:V->Hp->VK->Prop}(ho:NZ X (unaryOp op) r)(ha:PE X a ta):PE X (.UnaryOp op a pos) (Xp r ta):=by
 intro ω s σ H Q I h;exact UnaryOp_ (gn (ha ω s σ H _ I h) λv s1 ⟨x,H1,I1,r1,q1⟩=>ho ω s1 σ H1 x v Q I1 r1 q1)
def Gw{C:Int->Int->Prop}
  (rule:∀ (i j:Int) (t u:Tok) (s:Gh) (Q:Gg->Gh->Prop) (E:Gg->Gh->Prop),C i j->Q (.int (g i j) s.toks) { s with toks:=s.toks+1 }->wpAny (model X.prog X.w) X.A (f (.int i t) (.int j u)) Q E s) :
  ir X f (rI C λi j=>.int (g i j)):=by
 intro ω s σ H x y v u Q I rx ry h;obtain⟨i,j,rfl,rfl,hc,q⟩:=h;obtain⟨t,rfl⟩:=rx;obtain⟨t',rfl⟩:=ry;exact rule i j t t' s _ _ hc ⟨.int (g i j),H,I.tok _,⟨_,rfl⟩,q⟩
def CB
  (rule:∀ (i j:Int) (t u:Tok) (s:Gh) (Q:Gg->Gh->Prop) (E:Gg->Gh->Prop),Q (.int (g i j) s.toks) { s with toks:=s.toks+1 }->wpAny (model X.prog X.w) X.A (f (.int i t) (.int j u)) Q E s) :
  ir X f (tR λi j=>.int (g i j)):=by
 intro ω s σ H x y v u Q I rx ry h;obtain⟨i,j,rfl,rfl,q⟩:=h;obtain⟨t,rfl⟩:=rx;obtain⟨t',rfl⟩:=ry;exact rule i j t t' s _ _ ⟨.int (g i j),H,I.tok _,⟨_,rfl⟩,q⟩
def Dg{g:Int->Int->Bool}
  (rule:∀ (i j:Int) (t u:Tok) (s:Gh) (Q:Gg->Gh->Prop) (E:Gg->Gh->Prop),Q (.bool (g i j)) s->wpAny (model X.prog X.w) X.A (f (.int i t) (.int j u)) Q E s) :
  ir X f (tR λi j=>.bl (g i j)):=by
 intro ω s σ H x y v u Q I rx ry h;obtain⟨i,j,rfl,rfl,q⟩:=h;obtain⟨t,rfl⟩:=rx;obtain⟨t',rfl⟩:=ry;exact rule i j t t' s _ _ ⟨.bl (g i j),H,I,rfl,q⟩
def OA (i j:Int):Prop:=0<j/\j<1073741824
def LG (i j:Int):Prop:=0<=j/\j<=1000000/\i.natAbs<2^64
def CC (i j:Int):Prop:=(-(2^64)<i/\i<2^64)\/(-(2^64)<j/\j<2^64)
def CC.ok {i j:Int}(h:CC i j):IntMulOk i j:=by
 rcases h with ⟨h1,h2⟩|⟨h1,h2⟩
 .exact .of_left (intBits_le_64 h1 h2)
 .exact .of_right (intBits_le_64 h1 h2)
def NW:ir X (binaryOp .Add) (tR λi j=>.int (i+j)):=CB λ_ _ _ _ _ _ _ q=>add_int q
def Kl:ir X (binaryOp .Sub) (tR λi j=>.int (i-j)):=CB λ_ _ _ _ _ _ _ q=>sub_int q
def NS:ir X (binaryOp .Mult) (rI CC λi j=>.int (i*j)):=Gw λ_ _ _ _ _ _ _ hc q=>mul_int q hc.ok
def HL:ir X (binaryOp .FloorDiv) (rI OA λi j=>.int (i/j)):=Gw λi j _ _ _ _ _ hc q=>by
 have h1:(0:Int)<j:=hc.1;have h2:j<1073741824:=hc.2;exact floordiv_int (by omega) (by rwa[Int.fdiv_eq_ediv_of_nonneg i (by omega)]) (.inl (PyProof.noPylong_small (by omega)))
def MP:ir X (binaryOp .Mod) (rI (λ_ j=>0<j) λi j=>.int (i%j)):=Gw λi j _ _ _ _ _ hc q=>by
 have h1:(0:Int)<j:=hc;exact mod_int' (by omega) (by rwa[Int.fmod_eq_emod_of_nonneg i (by omega)])
def Iv:ir X (binaryOp .Pow) (rI LG λi j=>.int (i^j.toNat)):=Gw λ_ _ _ _ _ _ _ hc q=>pow_int_small hc.1 hc.2.1 hc.2.2 q
def KD:ir X (binaryOp .BitAnd) (tR λi j=>.int (uX i j)):=CB λ_ _ _ _ _ _ _ q=>and_int q
def Pq:ir X (binaryOp .BitOr) (tR λi j=>.int (JO i j)):=CB λ_ _ _ _ _ _ _ q=>or_int q
def XA {f:Gg->Sem Gg}{g:Int->Int}
  (rule:∀ (i:Int) (t:Tok) (s:Gh) (Q:Gg->Gh->Prop) (E:Gg->Gh->Prop),Q (.int (g i) s.toks) { s with toks:=s.toks+1 }->wpAny (model X.prog X.w) X.A (f (.int i t)) Q E s) :
  NZ X f (rU λi=>.int (g i)):=by
 intro ω s σ H x v Q I rx h;obtain⟨i,rfl,q⟩:=h;obtain⟨t,rfl⟩:=rx;exact rule i t s _ _ ⟨.int (g i),H,I.tok _,⟨_,rfl⟩,q⟩
def MF:NZ X (unaryOp .USub) (rU λi=>.int (-i)):=XA λ_ _ _ _ _ q=>neg_int q
end
section
variable {X:Cx}{a b c:Expr}{ta tb tc:TE}{pos:Pos}
def Lr{Q:VK}{k k':Bool}(I:fB X ω σ H s)(q:Q (.bl k) H)(e:k=k'):EP X ω σ Q (.bool k') s:=by
 subst e;exact⟨.bl k,H,I,rfl,q⟩
def wq:ir X (compareOp .Lt) (tR λi j=>.bl (decide (i<j))):=Dg λ_ _ _ _ _ _ _ q=>lt_int q
def mE:ir X (compareOp .LtE) (tR λi j=>.bl (decide (i<=j))):=Dg λ_ _ _ _ _ _ _ q=>le_int q
def Gn:ir X (compareOp .Gt) (tR λi j=>.bl (decide (j<i))):=Dg λ_ _ _ _ _ _ _ q=>gt_int q
def OY:ir X (compareOp .GtE) (tR λi j=>.bl (decide (j<=i))):=Dg λ_ _ _ _ _ _ _ q=>ge_int q
def Dk:ir X (compareOp .In) (λx y H Q=>∃ i j,x=.str i/\y=.str j/\Q (.bl (!(jT j i 0 j.length 1).isEmpty)) H):=by
 intro ω s σ H x y v u Q I rx ry h;obtain⟨i,j,rfl,rfl,q⟩:=h;obtain⟨t,rfl⟩:=rx;obtain⟨t',rfl⟩:=ry;exact in_str (Lr I q rfl)
variable {op op':CmpOp}{r r':R2}{x:V}
def Al (b:Expr)(h:op≠.In:=by decide)(h2:op≠.NotIn:=by decide):behindInMarks op b=false:=by
 have e1:(op==CmpOp.In)=false:=by cases op<;>first|rfl|exact absurd rfl h
 have e2:(op==CmpOp.NotIn)=false:=by cases op<;>first|rfl|exact absurd rfl h2
 cases b<;>simp[behindInMarks,e1,e2]
def HH(ho:ir X (compareOp op) r)(ha:PE X a ta)(hb:PE X b tb)(hm:behindInMarks op b=false):PE X (.Compare a [op] [b] pos) (DM r ta tb):=by
 intro ω s σ H Q I h;exact wpAny_Compare1 (Fh ha hb I h λv u s2 x y H2 I2 rx ry q=>ho ω s2 σ H2 x y v u Q I2 rx ry q) hm
def GZ (t:TE):TT:=λσ H Q=>t σ H λx H'=>∃ k,x=.bl k/\Q k H'
def Bs(ho:ir X (compareOp op) r)(ha:PE X a ta)(hb:PE X b tb)(hm:behindInMarks op b=false):PT X (.Compare a [op] [b] pos) (GZ (DM r ta tb)):=by
 intro ω s σ H Q I h;refine wpAny_isTrue_Compare1 (gn (ha ω s σ H _ I h) λv s1 ⟨x,H1,I1,r1,q1⟩=>gn (hb ω s1 σ H1 _ I1 q1) λu s2 ⟨y,H2,I2,r2,q2⟩ =>
  gn (ho ω s2 σ H2 x y v u _ I2 r1 r2 q2) λc s3 ⟨z,H3,I3,r3,k,e,q3⟩=>?_) hm
 subst e;cases r3;exact wpAny_truthy_bool ⟨H3,I3,q3⟩
def EK (r r':R2)(ta tb tc:TE):TE:=λσ H Q=>ta σ H λx H1=>tb σ H1 λy H2=>r x y H2 λz H3=>∃ k,z=.bl k /\
 (if k=true then tc σ H3 λw' H4=>r' y w' H4 Q else Q (.bl false) H3)
def Fj(ho:ir X (compareOp op) r)(ho':ir X (compareOp op') r')(ha:PE X a ta)(hb:PE X b tb)(hc:PE X c tc)
  (hm:lastMarks [op,op'] [b,c]=false:=by with_unfolding_all rfl):PE X (.Compare a [op,op'] [b,c] pos) (EK r r' ta tb tc):=by
 intro ω s σ H Q I h;refine Compare_chain (gn (ha ω s σ H _ I h) λv s1 ⟨x,H1,I1,r1,q1⟩=>chain_link (gn (hb ω s1 σ H1 _ I1 q1) λu s2 ⟨y,H2,I2,r2,q2⟩ =>
  gn (ho ω s2 σ H2 x y v u _ I2 r1 r2 q2) λd s3 ⟨z,H3,I3,r3,k,e,q3⟩=>?_)) hm
 subst e;cases r3;refine wpAny_truthy_bool ?_;cases k with
 | false=>exact ite_ff ⟨.bl false,H3,I3,rfl,q3⟩
 | true=>exact ite_tt (chain_last (gn (hc ω s3 σ H3 _ I3 q3) λw' s4 ⟨z',H4,I4,r4,q4⟩=>ho' ω s4 σ H4 y z' u w' Q I4 r2 r4 q4))
def Fg(ho:ir X (compareOp op) r)(ho':ir X (compareOp op') r')(ha:PE X a ta)(hb:PE X b tb)(hc:PE X c tc)
  (hm:lastMarks [op,op'] [b,c]=false:=by with_unfolding_all rfl):PT X (.Compare a [op,op'] [b,c] pos) (GZ (EK r r' ta tb tc)):=by
 intro ω s σ H Q I h;refine isTrue_chain (gn (ha ω s σ H _ I h) λv s1 ⟨x,H1,I1,r1,q1⟩=>test_link (gn (hb ω s1 σ H1 _ I1 q1) λu s2 ⟨y,H2,I2,r2,q2⟩ =>
  gn (ho ω s2 σ H2 x y v u _ I2 r1 r2 q2) λd s3 ⟨z,H3,I3,r3,k,e,q3⟩=>?_)) hm
 subst e;cases r3;refine wpAny_truthy_bool ?_;cases k with
 | false =>
  obtain⟨k',e',q'⟩:=q3;cases e';exact ite_ff ⟨H3,I3,q'⟩
 | true =>
  refine ite_tt (test_last (gn (hc ω s3 σ H3 _ I3 q3) λw' s4 ⟨z',H4,I4,r4,q4⟩=>gn (ho' ω s4 σ H4 y z' u w' _ I4 r2 r4 q4) λd' s5 ⟨z2,H5,I5,r5,k2,e2,q5⟩=>?_));subst e2;cases r5;exact wpAny_truthy_bool ⟨H5,I5,q5⟩
def EX (K:jb)(x:V)(H:Hp)(k:Bool):Prop :=
 match x with
 | .non=>k=false
 | .bl b=>k=b
 | .int i=>k=(i !=0)
 | .str y=>y.length<=sizeLine/\k=((y.length:Int) !=0)
 | .ref p=>(∃ xs,hZ K H p xs/\k=!xs.isEmpty)\/(∃ xs,la K H p xs/\k=!xs.isEmpty)\/∃ kvs,H p=Ga (.dK kvs)/\k=!kvs.isEmpty
 | _=>False
def CN {κ:Type}{kvs:List (κ×V)}{vs:List (κ×Gg)}(r:KV kvs vs):(!vs.isEmpty)=!kvs.isEmpty:=by
 cases r<;>rfl
def xr{its:List Gg}(r:fV xs its):(!its.toArray.isEmpty)=!xs.isEmpty:=by
 cases r<;>simp
def pK:(sizeLine:Nat)<2^63:=by rw[sizeLine_eq];decide
def OJ:VE X (λx H Q=>∃ k,EX X.K x H k/\Q k H):=by
 intro ω s σ H x v Q I rx h;obtain⟨k,e,q⟩:=h;have hl:=pK;have hs:sizeLine=16777216:=sizeLine_eq;cases x with
 | non =>
  cases rx;have e':k=false:=e;subst e';exact truthy_none ⟨H,I,q⟩
 | bl b =>
  cases rx;have e':k=b:=e;subst e';exact wpAny_truthy_bool ⟨H,I,q⟩
 | int i =>
  obtain⟨t,rfl⟩:=rx;have e':k=(i !=0):=e;subst e';exact PySem.P.truthy_int ⟨H,I,q⟩
 | str y =>
  obtain⟨t,rfl⟩:=rx;obtain⟨hy,e'⟩:y.length<=sizeLine/\k=((y.length:Int) !=0):=e;subst e';exact PySem.P.truthy_str (by omega) ⟨H,I.tok _,q⟩
 | ref p =>
  cases rx;have e':(∃ xs,hZ X.K H p xs/\k=!xs.isEmpty)\/(∃ xs,la X.K H p xs/\k=!xs.isEmpty)\/∃ kvs,H p=Ga (.dK kvs)/\k=!kvs.isEmpty:=e;rcases e' with ⟨xs,hx,e'⟩|⟨xs,hx,e'⟩|⟨kvs,hx,e'⟩
  .subst e';obtain⟨its,r,pl,hz⟩:=I.list hx;have hlen:=r.length;exact wpAny_truthy_list pl.isList (by simp only[jv];omega) ⟨H,I.tok _,by rwa[xr r]⟩
  .subst e';obtain⟨its,r,pl,hz⟩:=I.tuple hx;have hlen:=r.length;exact truthy_tuple pl (by simp only[jv];omega) ⟨H,I.tok _,by rwa[xr r]⟩
  .subst e';obtain⟨hz,hS,vs,r,m⟩:kvs.length<=sizeLine/\(p==sysModules)=false/\∃ vs,KV kvs vs/\s.heap.DictOf (iW X.prog X.w) p vs:=I.hok p _ hx;have hlen:kvs.length=vs.length:=Paired.length r;exact wpAny_truthy_dict hS m (by omega) ⟨H,I.tok _,by rwa[CN r]⟩
 | _=>exact(show False from e).elim
def Fy (ha:PE X a ta)(he:∀ whole,isTrue a X.env whole=(do let v <- whole;standAt a.pos;holding [v] (truthy v))) :
  PT X a (λσ H Q=>ta σ H λx H'=>∃ k,EX X.K x H' k/\Q k H'):=by
 intro ω s σ H Q I h;exact isTrue_plain (gn (ha ω s σ H _ I h) λv s1 ⟨x,H1,I1,r1,q1⟩=>OJ ω s1 σ H1 x v Q I1 r1 q1) (he _)
def CM:ir X (binaryOp .Add) (λx y H Q=>∃ i j,x=.str i/\y=.str j/\i.length+j.length<=sizeLine/\Q (.str (i++j)) H):=by
 intro ω s σ H x y v u Q I rx ry h;obtain⟨i,j,rfl,rfl,hz,q⟩:=h;obtain⟨t,rfl⟩:=rx;obtain⟨t',rfl⟩:=ry;exact add_str (λt' tk=>⟨.str (i++j),H,I.tok _,⟨_,rfl⟩,q⟩) hz
def mf(r:fV [x] us):∃ u,us=[u]/\gq x u:=by
 cases r with
 | cons r1 r2=>cases r2;exact⟨_,rfl,r1⟩
def FK(r:fV [x,y] us):∃ u w',us=[u,w']/\gq x u/\gq y w':=by
 cases r with
 | cons r1 r2 =>
  cases r2 with
  | cons r3 r4=>cases r4;exact⟨_,_,rfl,r1,r3⟩
def Ep (hc:X.calm=true):iH X (.builtin "max") (λxs H Q=>∃ i j,xs=[.int i,.int j]/\Q (.int (if j>i then j else i)) H):=by
 intro ω s σ H xs us Q I r h;obtain⟨i,j,rfl,q⟩:=h;obtain⟨u,w',rfl,⟨t,rfl⟩,⟨t',rfl⟩⟩:=FK r;refine max_two_ints (I.ok.hd hc) λh' tk k=>⟨_,H,I.kept k,?_,q⟩;by_cases hj:j>i
 .rw[Ge hj,Ge hj];exact⟨_,rfl⟩
 .rw[Gf hj,Gf hj];exact⟨_,rfl⟩
def yZ:iH X (.type "int") (λxs H Q=>(∃ i,xs=[.int i]/\Q (.int i) H)\/∃ k,xs=[.bl k]/\Q (.int (if k then 1 else 0)) H):=by
 intro ω s σ H xs us Q I r h;rcases h with ⟨i,rfl,q⟩|⟨k,rfl,q⟩
 .obtain⟨u,rfl,t,rfl⟩:=mf r;exact call_int_int ⟨.int i,H,I,⟨_,rfl⟩,q⟩
 .obtain⟨u,rfl,r1⟩:=mf r;cases r1;exact call_int_bool ⟨.int (if k then 1 else 0),H,I.tok _,⟨_,rfl⟩,q⟩
def AC:iH X (.type "str") (λxs H Q=>∃ i,xs=[.int i]/\i.natAbs.log2<1920/\Q (.str (toString i)) H):=by
 intro ω s σ H xs us Q I r h;obtain⟨i,rfl,hz,q⟩:=h;obtain⟨u,rfl,t,rfl⟩:=mf r;exact PySem.P.str_of_int hz ⟨.str _,H,I.tok _,⟨_,rfl⟩,q⟩
end
structure wZ (h:Heap)(x dx C:Gk)(mA:Str->Option Gg):Prop where
 obj:h.get? x=Ga (ux C dx)
 ns:h.Ns1 dx mA
 ne:dx≠x
def EO(n:h.Ns1 dx mA):∃ od,h.get? dx=Ga od/\∀ name,qL name od=Ga (mA name):=by
 obtain⟨o,es,ep,ho,hd,hk,_,hm⟩:=n;refine⟨o,ho,λname=>?_⟩;have e:=hm name;unfold nsFind findBy at e;rw[<- Array.find?_toList] at e;unfold qL;rw[hd];dsimp only;split
 .rename_i y q;rw[q] at e;exact congrArg Ga e
 .rename_i q;rw[q] at e;have a:es.toList.any (·.refKey)=false:=by
   rw[List.any_eq_false];intro y hy;obtain⟨z,t,hkey⟩:=hk y (vz.mp hy);simp[DictEntry.refKey,hkey]
  have a':¬es.toList.any (·.refKey)=true:=by rw[a];exact jH
  rw[Gf a'];exact congrArg Ga e
variable {x:Gk}{o:Option Gg}
def wZ.look(I:wZ h x dx C mA):∃ od,PySem.W.InstAt h x (ux C dx) C (Ga od)/\∀ name,qL name od=Ga (mA name) :=
 let ⟨od,ho,hl⟩:=EO I.ns
 ⟨od,⟨I.obj,rfl,rfl,ho⟩,hl⟩
def HY {expr:Bool}(X:K.In s.heap)(I:wZ s.heap x dx C mA)(hg:qj K C name=true)(hh:qS K C=true)
  (ha:ub K (.ref C) name=Ga Gb) (hv:mA name=Ga v) (hv':Vb v=true) (h:Q v { s with toks:=s.toks+1 }) :
  wpAny (model prog w) A (getAttr (.ref x) name expr) Q E s:=by
 obtain⟨od,J,hl⟩:=I.look;exact PySem.W.get_value X J (qB hg).1 (PySem.W.findObj_own hh ha rfl (by rw[hl,hv])) hv' h
def FD {pl:Sem Bool}{Q:Gg×List Gg->Gh->Prop}(X:K.In s.heap)(I:wZ s.heap x dx C mA)(hg:qj K C name=true)
  (hf:ub K (.ref C) name=Ga (Ga (.ref f))) (ht:Ji K (.ref f)=true) (hv:mA name=Gb) (h:Q (.ref f,[.ref x]) s) :
  wpAny (model prog w) A (getMethod (.ref x) name pl) Q E s:=by
 obtain⟨od,J,hl⟩:=I.look;exact PySem.W.method_fn X J (qB hg).1 (qB hg).2 hf (beq_iff_eq.mp ht) (by show(qL name od).map (·.isSome)=Ga false;rw[hl,hv];rfl) h
def HZ {ns:List Str}{Q:Unit->Gh->Prop}(X:K.In s.heap)(I:wZ s.heap x dx C mA)
  (hs:ub K (.ref C) "__setattr__"=Ga (Ga (.builtin "object.__setattr__"))) (hp:JX K C=true) (ht:Jt K C name=Ga Gb) (hh:qS K C=true)
  (hw:JW mA ns) (hsz:ns.length<=sizeLine)
  (h:∀ h',wZ h' x dx C (λy=>if y=name then Ga v else mA y)->uu dx s.heap h'->Q () { s with heap:=h',toks:=s.toks+2 }) :
  wpAny (model prog w) A (setAttr (.ref x) name v) Q E s:=by
 obtain⟨od,J,hl⟩:=I.look;refine PySem.W.set_plain X J hs (PySem.W.osa_open (s:={ s with toks:=s.toks+1 }) (r:=Gb) X J hp ht λb=>?_);obtain⟨cd,hc,hd'⟩:=PySem.W.any_some hh;have hx:s.heap.get? x=Ga ⟨.ref C,Ga dx,.plain,#[]⟩:=I.obj;refine fk (fq (fk (fk (wpAny_loadPart hx (fk (PySem.W.Looks.here (s:={ s with toks:=s.toks+1 }) (PySem.W.looks_clsIn X hc) ?_))))));rw[hd'];refine fq (a:=Ga dx) (fk (fq (fk ?_)));refine wpAny_nsSet1 (s:={ s with toks:=s.toks+1 }) I.ns λh' hn2 hs2=>?_;obtain⟨oD,esD,epD,hoD,hdD,hcD⟩:=hn2.count (PySem.Within.cons name v hw);refine fk (wpAny_lookBehind hoD (by rw[hdD];exact pastItsLine_dict (jI hcD (by rw[jC];omega))) ?_);exact fq (h _ ⟨(hs2.2 _ (ur I.ne)).trans I.obj,hn2,I.ne⟩ hs2)
def Fz {R:Result->Gh->Prop}{vs:List Gg}(X:K.In s.heap)(hm:Vl K C=true)
  (hi:ub K (.ref C) "__init__"=Ga (Ga (.ref f))) (hf:PySem.W.typeIn K (.ref f)=Ga (.type "function"))
  (h:codeAny (model prog w) (A.under (.builtin "type.__call__" ⟨.ref C::vs,kw⟩)) (.call (.ref f) ⟨.ref (s.heap.objs.size+1)::vs,kw⟩) (PySem.W.InitBack (s.heap.objs.size+1) R)
   { s with heap:=(s.heap.push k9).push (ux C s.heap.objs.size) }) :
  codeAny (model prog w) A (.call (.ref C) ⟨vs,kw⟩) R s:=by
 obtain⟨hh,g,d,t,os⟩:=s;exact PySem.W.make_core (PySem.W.makes_of X hm) (PySem.W.looks_findIn X hi) (λself=>PySem.W.bind_fn X self hf) (.inl rfl) h
def mY (f:Str)(v:V):List (Str×V)->List (Str×V)
 | []=>[(f,v)]
 | (g,x)::r=>if g=f then(g,v)::r else(g,x)::mY f v r
def wX (f g:Str)(v:V):∀ fs:List (Str×V),(mY f v fs).lookup g=if g=f then Ga v else fs.lookup g
 | []=>by
  show uE g [(f,v)]=_;by_cases h:g=f
  .have hb:(g==f)=true:=beq_iff_eq.mpr h;simp only[uE,hb,Ge h]
  .have hb:(g==f)=false:=beq_eq_false_iff_ne.mpr h;simp only[uE,hb,Gf h]
 | (k,x)::r=>by
  have ih:=wX f g v r;rw[show mY f v ((k,x)::r)=(if k=f then(k,v)::r else(k,x)::mY f v r) from rfl];by_cases hk:k=f
  .rw[Ge hk];by_cases h:g=k
   .have hb:(g==k)=true:=beq_iff_eq.mpr h;simp only[uE,hb,Ge (h.trans hk)]
   .have hb:(g==k)=false:=beq_eq_false_iff_ne.mpr h;simp only[uE,hb,Gf (λe:g=f=>h (e.trans hk.symm))]
  .rw[Gf hk];by_cases h:g=k
   .have hb:(g==k)=true:=beq_iff_eq.mpr h;simp only[uE,hb,Gf (λe:g=f=>hk (h.symm.trans e))]
   .have hb:(g==k)=false:=beq_eq_false_iff_ne.mpr h;simp only[uE,hb];exact ih
def tZ (f:Str)(v:V):∀ fs:List (Str×V),f∈(mY f v fs).map (·.1)/\∀ g,g∈fs.map (·.1)->g∈(mY f v fs).map (·.1)
 | []=>⟨by simp[mY],λg h=>by simp at h⟩
 | (k,x)::r=>by
  obtain⟨i1,i2⟩:=tZ f v r;rw[show mY f v ((k,x)::r)=(if k=f then(k,v)::r else(k,x)::mY f v r) from rfl];by_cases hk:k=f
  .rw[Ge hk];subst hk;exact⟨by simp,λg h=>by simpa using h⟩
  .rw[Gf hk];refine⟨?_,λg h=>?_⟩
   .rw[jO];exact jk _ i1
   .rw[jO] at h ⊢;rcases jo.mp h with e|e
    .exact jo.mpr (.inl e)
    .exact jk _ (i2 g e)
def wC (f:Str)(v:V):∀ fs:List (Str×V),(mY f v fs).length<=fs.length+1
 | []=>by simp[mY]
 | (k,x)::r=>by
  have ih:=wC f v r;rw[show mY f v ((k,x)::r)=(if k=f then(k,v)::r else(k,x)::mY f v r) from rfl];by_cases hk:k=f
  .rw[Ge hk,jC,jC];omega
  .rw[Gf hk,jC,jC];omega
variable {v:V}{f:Str}
def oa.some_of(r:oa (Ga v) o):∃ u,o=Ga u/\gq v u:=by
 cases o with
 | none=>exact(show False from r).elim
 | some u=>exact⟨u,rfl,r⟩
def oa.none_of(r:oa Gb o):o=Gb:=by
 cases o with
 | none=>rfl
 | some u=>exact(show False from r).elim
def DC(r:gq v u):Vb u=true:=by
 cases v with
 | non=>cases(show u=jX from r);rfl
 | bl b=>cases(show u=ve b from r);rfl
 | int i=>obtain⟨t,e⟩:=(show ∃ t,u=uW i t from r);cases e;rfl
 | str x=>obtain⟨t,e⟩:=(show ∃ t,u=qI x t from r);cases e;rfl
 | ref a=>cases(show u=kF a from r);rfl
 | ty n=>cases(show u=ue n from r);rfl
def yh (hok:lJ P w H h)(e:H a=Ga (.ins C dx fs)):∃ mA,wZ h a dx C mA/\(∀ f,oa (fs.lookup f) (mA f))/\JW mA (fs.map (·.1))/\fs.length<=1000/\H dx=Ga (.own a):=by
 obtain⟨d,z,ne,ob,mA,n,r,q⟩:=(show iy P w H h a (.ins C dx fs) from hok a _ e);exact⟨mA,⟨ob,n,ne⟩,r,q,z,d⟩
structure sM (K:jb)(C:Gk):Prop where
 pg:qj K C vH=true
 hd:qS K C=true
 po:JX K C=true
 sa:ub K (.ref C) "__setattr__"=Ga (Ga (.builtin "object.__setattr__"))
def sM.get(c:sM K C)(f:Str):qj K C f=true:=c.pg
def pU (K:jb)(C:Gk)(f:Str):Prop:=ub K (.ref C) f=Ga Gb
def pU.taker(n:pU K C f):Jt K C f=Ga Gb:=by
 unfold Jt;rw[show ub K (.ref C) f=Ga Gb from n];rfl
structure yj (K:jb)(C:Gk)(m:Str)(f:Gk):Prop where
 at_:ub K (.ref C) m=Ga (Ga (.ref f))
 fn:Ji K (.ref f)=true
 kp:uc K (.ref f)=true
def Cz {b:Bool}(I:fB X ω σ H s)(e:H a=Ga (.ins C dx fs))(c:sM X.K C)(n:pU X.K C f)(l:fs.lookup f=Ga v)
  (h:∀ u s',fB X ω σ H s'->gq v u->Q u s'):wpAny (model X.prog X.w) A (getAttr (.ref a) f b) Q E s:=by
 obtain⟨mA,O,r,_,_,_⟩:=yh I.hok e;obtain⟨u,hu,ru⟩:=oa.some_of (v:=v) (o:=mA f) (by rw[<- l];exact r f);exact HY I.kIn O (c.get f) c.hd n hu (DC ru) (h u _ (I.tok _) ru)
def ya{g:Gk}{pl:Sem Bool}{Q:Gg×List Gg->Gh->Prop}(I:fB X ω σ H s)(e:H a=Ga (.ins C dx fs))(c:sM X.K C)(k:yj X.K C m g)(l:fs.lookup m=Gb)
  (h:Q (.ref g,[.ref a]) s):wpAny (model X.prog X.w) A (getMethod (.ref a) m pl) Q E s:=by
 obtain⟨mA,O,r,_,_,_⟩:=yh I.hok e;have hn:mA m=Gb:=oa.none_of (by rw[<- l];exact r m);exact FD I.kIn O (c.get m) k.at_ k.fn hn h
def CF{Q:Unit->Gh->Prop}(I:fB X ω σ H s)(e:H a=Ga (.ins C dx fs))(c:sM X.K C)(n:pU X.K C f)(hl:fs.length<1000)(ry:gq y u)
  (h:∀ s',fB X ω σ (fH H a (.ins C dx (mY f y fs))) s'->Q () s'):wpAny (model X.prog X.w) A (setAttr (.ref a) f u) Q E s:=by
 obtain⟨mA,O,r,wi,_,ho⟩:=yh I.hok e;have hz:(fs.map (·.1)).length<=sizeLine:=by rw[jc,sizeLine_eq];omega
 refine HZ I.kIn O c.sa c.po n.taker c.hd wi hz λh' O' sb=>h _ ?_;have hd:∃ o,h'.get? dx=Ga o:=let ⟨o,_,_,e',_⟩:=O'.ns;⟨o,e'⟩
 refine I.write (x:=a) (e:=dx) (by rw[e];exact True.intro) (.inr ho) (λb q hb z=>(sb.2 b hb).trans z) hd ?_;refine⟨by rwa[fJ O.ne],?_,O.ne,O'.obj,_,O'.ns,λg=>?_,λg hg=>?_⟩
 .have:=wC f y fs;omega
 .show oa ((mY f y fs).lookup g) (if g=f then Ga u else mA g);rw[wX];by_cases q:g=f
  .rwa[Ge q,Ge q]
  .rw[Gf q,Gf q];exact r g
 .by_cases q:g=f
  .rw[q];exact(tZ f y fs).1
  .refine(tZ f y fs).2 g (wi g λz=>hg ?_);show(if g=f then Ga u else mA g)=Gb;rwa[Gf q]
def fB.made (I:fB X ω σ H s):fB X ω σ (fH (fH H s.heap.objs.size (.own (s.heap.objs.size+1))) (s.heap.objs.size+1) (.ins C s.heap.objs.size []))
  { s with heap:=(s.heap.push k9).push (ux C s.heap.objs.size) }:=by
 have e1:(s.heap.push k9).get? s.heap.objs.size=Ga k9:=jA s.heap rfl;have e2:((s.heap.push k9).push (ux C s.heap.objs.size)).get? (s.heap.objs.size+1)=Ga (ux C s.heap.objs.size):=by
  have:=jA (s.heap.push k9) (o:=ux C s.heap.objs.size) rfl
  rwa [vA] at this
 have e3:(s.heap.push k9).Ns s.heap.objs.size (λ_=>Gb):=⟨k9,#[],_,e1,rfl,(λe he=>absurd he (by simp)),λ_=>rfl⟩;have I1:=I.laid (a:=s.heap.objs.size) (o:=.own (s.heap.objs.size+1)) (h':=s.heap.push k9) (t':=s.toks) (λb u q=>jj _ q) (jw _) ⟨_,e1⟩;refine I1.laid (a:=s.heap.objs.size+1) (o:=.ins C s.heap.objs.size []) (t':=s.toks) (λb u q=>jj _ q) (Nat.le_of_eq (vA _ _)) ?_;have ne:s.heap.objs.size≠s.heap.objs.size+1:=jL (uY _);refine⟨by rw[fJ ne,fI],kh _,ne,e2,λ_=>Gb,(Heap.Ns1.of_empty e3).at λo q=>jj _ q,λ_=>True.intro,λy hy=>absurd rfl hy⟩
def HJ{ψ:Env}(hb:attributeBase e f ψ (eval e ψ)=eval e ψ)
  (h:wpAny (model prog w) A (eval e ψ) (λo s₁=>wpAny (model prog w) A (getAttr o f true) Q E s₁) E s):wpAny (model prog w) A (eval (.Attribute e f pos) ψ) Q E s :=
 Attribute_any_ h (by rw[arm_eval_Attribute,hb])
def VS (K:jb)(ta:TE)(f:Str):TE:=λσ H Q=>ta σ H λx H1=>∃ a C dx fs v,x=.ref a/\H1 a=Ga (.ins C dx fs)/\sM K C/\pU K C f/\fs.lookup f=Ga v/\Q v H1
def Wp (K:jb)(ta tv:TE)(f:Str):TS:=λD σ H=>tv σ H λy H1=>ta σ H1 λx H2=>∃ a C dx fs,x=.ref a/\H2 a=Ga (.ins C dx fs)/\sM K C/\pU K C f/\fs.length<1000 /\
 D.nx σ (fH H2 a (.ins C dx (mY f y fs)))
def zW (he:PE X e ta)(hb:attributeBase e f X.env (eval e X.env)=eval e X.env):PE X (.Attribute e f pos) (VS X.K ta f):=by
 intro ω s σ H Q I h;refine HJ hb (gn (he ω s σ H _ I h) λu s1 ⟨x,H1,I1,rx,a,C,dx,fs,v,ex,ea,c,n,l,q⟩=>?_);subst ex;obtain rfl:u=kF a:=rx;exact Cz I1 ea c n l λu' s2 I2 ru=>⟨v,H1,I2,ru,q⟩
variable {o:Expr}
def Lm (ha:PE X o ta)(hv:PE X value tv)(hs:swapsWith value (Ga (.Attribute o f pos')) pos.line X.env=pure false):PS X (.Assign [.Attribute o f pos'] value pos) (Wp X.K ta tv f):=by
 intro ω s σ H D I h;refine plainObj_wpAny_Assign_Attribute (gn (hv ω s σ H _ I h) λu s1 ⟨y,H1,I1,ry,q⟩=>gn (ha ω s1 σ H1 _ I1 q) λov s2 ⟨x,H2,I2,rx,a,C,dx,fs,ex,ea,c,n,l,q2⟩=>?_) hs;subst ex;obtain rfl:ov=kF a:=rx;exact CF I2 ea c n l ry λs3 I3=>⟨σ,_,I3,q2⟩
def OO {pl:Sem Bool}{apos:Pos}{args:List Expr}(he:PE X e te)(I:fB X ω σ H s)
  (h:te σ H λx H1=>∃ a C dx fs g,x=.ref a/\H1 a=Ga (.ins C dx fs)/\sM X.K C/\yj X.K C m g/\fs.lookup m=Gb /\
   ∀ s1,fB X ω σ H1 s1->wpAny (model X.prog X.w) X.A (callWith pos (.ref g) [.ref a] (backTo pos (starEach args X.env)) (backToKw pos (keywordEach [] X.env))) Q X.xe s1)
  (ht:eval (.Call (.Attribute e m apos) args [] pos) X.env=(do
   let ov <- eval e X.env
   standAt apos.atName
   let (f,first) <- holding [ov] (getMethod ov m pl)
   callWith pos f first (backTo pos (starEach args X.env)) (backToKw pos (keywordEach [] X.env)))) :
  wpAny (model X.prog X.w) X.A (eval (.Call (.Attribute e m apos) args [] pos) X.env) Q X.xe s:=by
 refine JA (pl:=pl) (gn (he ω s σ H _ I h) λu s1 ⟨x,H1,I1,rx,a,C,dx,fs,g,ex,ea,c,k,l,q⟩=>?_) ht;subst ex;obtain rfl:u=kF a:=rx;exact ya I1 ea c k l (q s1 I1)
structure ic (k:Nat)(A:Around):Prop where
 hd:A.handled=Gb
 dp:A.depth+3*k+5<recursionLimit
 un:A.units+16*k+200<cLine
def ic.mono {j:Nat}(r:ic k A)(h:j<=k):ic j A:=⟨r.hd,by have:=r.dp;omega,by have:=r.un;omega⟩
def ic.deeper {k:Nat}{A:Around}(r:ic (k+1) A)(ψ:Env):ic k (A.deeper ψ) :=
 ⟨r.hd,by have:=r.dp;show A.depth+1+3*k+5<_;omega,by have:=r.un;show A.units+3+16*k+200<_;omega⟩
def CG:(A.under (.builtin "type.__call__" ⟨.ref C::us,kw⟩)).depth=A.depth+1:=by
 first|rfl|simp[JY,Code.weight,Code.isCreation,Code.isGuard,Code.isCaller,Code.frames,Code.isFrame,guardIds]
def CY:(A.under (.builtin "type.__call__" ⟨.ref C::us,kw⟩)).units=A.units+1:=by
 first|rfl|simp[JY,Code.cUnits,Code.frames,Code.isFrame]
def ic.make(r:ic (k+1) A)(C:Gk)(us:List Gg)(kw:List (Str×Gg)):ic k (A.under (.builtin "type.__call__" ⟨.ref C::us,kw⟩)) :=
 ⟨r.hd,by have:=r.dp;rw[CG];omega,by have:=r.un;rw[CY];omega⟩
def ic.depth {k:Nat}{A:Around}(r:ic k A):A.depth<recursionLimit:=by have:=r.dp;omega
def KM:TA:=λ_ H Q=>Q [] H
def Pg (ta:TE)(tr:TA):TA:=λσ H Q=>ta σ H λx H1=>tr σ H1 λxs H2=>Q (x::xs) H2
def lH:PA X [] KM:=λ_ _ _ _ H Q I h=>JZ ⟨[],H,I,.nil,h⟩
def io (ha:PE X e te)(hr:PA X es t)(hs:starEach (e::es) X.env=(false,eval e X.env)::starEach es X.env:=by rfl):PA X (e::es) (Pg te t):=by
 intro pos ω s σ H Q I h;rw[hs];show wpAny _ _ (spliced ((false,eval e X.env)::backTo pos (starEach es X.env))) _ _ s;refine JR (gn (ha ω s σ H _ I h) λu s1 ⟨x,H1,I1,r1,q1⟩=>?_);exact gn (hr pos ω s1 σ H1 _ I1 q1) λus s2 ⟨xs,H2,I2,r2,q2⟩=>⟨x::xs,H2,I2,.cons r1 r2,q2⟩
def VZ (t:TA):TE:=λσ H Q=>t σ H λxs H1=>xs.length<=sizeLine/\∀ p,H1 p=Gb->Q (.ref p) (fH H1 p (.tup xs))
def Wy (t:TA):TE:=λσ H Q=>t σ H λxs H1=>xs.length<=sizeLine/\∀ p,H1 p=Gb->Q (.ref p) (fH H1 p (.lst xs))
def Mi {x1}(h:PA X es t):PE X (.Tuple es x1 pos) (VZ t):=by
 intro ω s σ H Q I hq;refine wpAny_Tuple_spliced (gn (h pos ω s σ H _ I hq) λus s1 ⟨xs,H1,I1,r,z,q⟩=>⟨by rwa[<- r.length],?_⟩);have hf:H1 s1.heap.objs.size=Gb:=I1.hok.fresh (jw _);refine⟨.ref s1.heap.objs.size,fH H1 s1.heap.objs.size (.tup xs),I1.laid (t':=s1.toks) (λb u e=>jj _ e) (jw _) ?_,rfl,q _ hf⟩;exact⟨z,us,r,⟨_,jA _ rfl,rfl,_,rfl⟩⟩
def Lu (h:PA X es t):PE X (.List es pos) (Wy t):=by
 intro ω s σ H Q I hq;refine wpAny_List_spliced (gn (h pos ω s σ H _ I hq) λus s1 ⟨xs,H1,I1,r,z,q⟩=>⟨by rwa[<- r.length],?_⟩);have hf:H1 s1.heap.objs.size=Gb:=I1.hok.fresh (jw _);refine⟨.ref s1.heap.objs.size,fH H1 s1.heap.objs.size (.lst xs),I1.laid (t':=s1.toks) (λb u e=>jj _ e) (jw _) ?_,rfl,q _ hf⟩;exact⟨z,us,0,r,jA _ rfl⟩
abbrev Sp:=List V->Hp->VK->XK->Prop
abbrev sv:=List Env->Hp->Gh->XK->Gg->Gh->Prop
structure xo (P:Program)(w:World)(K:jb)(mg:Str->Option Gg)(base:Heap)(A:Around)(outer:List Env)(s:Gh)(H:Hp):Prop where
 frames:A.frames=Ga outer
 mod:Mod K mg base
 bs:∀ b o,base.get? b=Ga o->s.heap.get? b=Ga o/\H b=Gb
 bsz:base.objs.size<=s.heap.objs.size
 funs:s.heap.FunFrames base outer
 frf:∀ b∈rT outer,H b=Gb
 hok:lJ P w H s.heap
 bare:AllBare s.gens
def CE (outer:List Env)(P:Program)(w:World)(H:Hp)(s:Gh)(Q:VK)(u:Gg)(s':Gh):Prop :=
 ∃ v H',s'.os=s.os/\AllBare s'.gens/\Un (rT outer) [] H H' s.heap s'.heap/\lJ P w H' s'.heap/\gq v u/\Q v H'
def CR (CX:sv)(outer:List Env)(P:Program)(w:World)(H:Hp)(s:Gh)(Q:VK)(E:XK)(r:Result)(s':Gh):Prop :=
 match r with
 | .ok (.ret u)=>CE outer P w H s Q u s'
 | .ok _=>False
 | .error e=>CX outer H s E e s'
structure fM (P:Program)(w:World)(K:jb)(mg:Str->Option Gg)(base:Heap)(CX:sv)(k:Nat)(f:Gk)(fd:Gj)(ps:List Str)(sp:Sp):Prop where
 len:∀ vs H Q E,sp vs H Q E->vs.length=ps.length
 run:∀ (A:Around) (outer:List Env) (s:Gh) (H:Hp) (args:Args) (us:List Gg) (vs:List V) (Q:VK) (E:XK),ic k A->xo P w K mg base A outer s H->BindsTo s fd args (ps.zip us)->fV vs us->sp vs H Q E ->
  codeAny (model P w) A (.call (.ref f) args) (CR CX outer P w H s Q E) s
variable {f:Gk}{sp:Sp}{CX:sv}
def fM.imp{fd:Gj}{sp':Sp}(F:fM P w K mg base CX k f fd ps sp)
  (h:∀ vs H Q E,sp' vs H Q E->sp vs H Q E):fM P w K mg base CX k f fd ps sp' :=
 ⟨λvs H Q E q=>F.len vs H Q E (h _ _ _ _ q),λA outer s H args us vs Q E hr he hb hv hs=>F.run A outer s H args us vs Q E hr he hb hv (h _ _ _ _ hs)⟩
def xo.make(e:xo P w K mg base A outer s H)(C:Gk)(us:List Gg)(kw:List (Str×Gg)) :
  xo P w K mg base (A.under (.builtin "type.__call__" ⟨.ref C::us,kw⟩)) outer s H:=⟨by first|exact e.frames|(simpa [JY,Code.envs,Code.isFrame,pushEnvs] using e.frames),e.mod,e.bs,e.bsz,e.funs,e.frf,e.hok,e.bare⟩
def fB.env0 (I:fB X ω σ H s):xo X.prog X.w X.K X.mg X.base X.A X.stack s H :=
 ⟨I.ok.frames,I.ok.mod,I.bs,jI I.ok.bsz I.sz,I.stack,I.stkFree,I.hok,I.bare⟩
def fB.after {Q:VK}(I:fB X ω σ H s)(h:CE X.stack X.prog X.w H s Q u s'):EP X ω σ Q u s':=by
 obtain⟨v,H',os,bare,un,hok,r,q⟩:=h;obtain⟨hh,g,d,t,os'⟩:=s';obtain rfl:os'=s.os:=os;exact⟨v,H',I.call (h':=hh) (g':=g) (d':=d) (t':=t) (ch:=[]) un hok bare (λb z=>absurd z (by simp)),r,q⟩
def Pi (sp:Sp)(dvs:List V)(E:XK)(t:TA):TE:=λσ H Q=>t σ H λvs H1=>sp (vs++dvs) H1 Q E
def OU (C:Gk)(m:Str)(sp:Sp)(dvs:List V)(E:XK)(ta:TE)(t:TA):TE:=λσ H Q=>ta σ H λx H1=>∃ a dx fs,x=.ref a/\H1 a=Ga (.ins C dx fs)/\fs.lookup m=Gb /\
 t σ H1 λvs H2=>sp (x::(vs++dvs)) H2 Q E
def Pe (C:Gk)(sp:Sp)(dvs:List V)(E:XK)(t:TA):TE:=λσ H Q=>t σ H λvs H1=>∀ x dx,H1 x=Gb->H1 dx=Gb->dx≠x ->
 sp (.ref x::(vs++dvs)) (fH (fH H1 dx (.own x)) x (.ins C dx [])) (λv H2=>v=.non/\Q (.ref x) H2) E
def ma (K:jb)(fd:Gj)(ps:List Str)(ds:List Gg):Prop :=
 ∀ (s:Gh) (us:List Gg),K.In s.heap->(us++ds).length=ps.length->BindsTo s fd ⟨us,[]⟩ (ps.zip (us++ds))
def ma.all{fd:Gj}(h:∀ us:List Gg,us.length=ps.length->bindArgs fd ⟨us,[]⟩=pure (ps.zip us)):ma K fd ps []:=λs us _ hl=>by
 rw[kf] at hl ⊢;exact .of_eq (h us hl)
def sj (CX:sv)(X:Cx)(E:XK):Prop:=∀ (ω:List (Gk×Obj)) (σ:St) (H:Hp) (s:Gh) (e:Gg) (s':Gh),fB X ω σ H s->CX X.stack H s E e s'->X.xe e s'
section
variable {X:Cx}{CX:sv}{k:Nat}{f C:Gk}{fd:Gj}{ps:List Str}{sp:Sp}{dvs:List V}{ds:List Gg}{E:XK}{x m:Str}{p pos apos:Pos}{e o:Expr}{es:List Expr}{ta:TE}{t:TA}
variable {Q:VK}{vs:List V}
def ER(F:fM X.prog X.w X.K X.mg X.base CX k f fd ps sp)(hr:ic k X.A)(hb:ma X.K fd ps ds)(hd:fV dvs ds)(hx:sj CX X E)
  (I:fB X ω σ H s) (r:fV vs us) (h:sp (vs++dvs) H Q E):wpAny (model X.prog X.w) X.A (call (.ref f) us) (EP X ω σ Q) X.xe s:=by
 have r2:fV (vs++dvs) (us++ds):=r.append hd;have hl:(us++ds).length=ps.length:=by rw[<- r2.length];exact F.len _ _ _ _ h
 refine wpAny_call (codeAny_mono (F.run X.A X.stack s H ⟨us,[]⟩ (us++ds) (vs++dvs) Q E hr I.env0 (hb s us I.kIn hl) r2 h) λr s' hq=>?_);cases r with
 | error e=>exact hx ω σ H s e s' I hq
 | ok fl =>
  cases fl with
  | ret u=>exact I.after hq
  | next=>exact False.elim hq
  | brk=>exact False.elim hq
  | cont=>exact False.elim hq
def yC (F:fM X.prog X.w X.K X.mg X.base CX k f fd ps sp)(hr:ic k X.A)(hg:Gl X x)(hm:X.mg x=Ga (.ref f))(hk:uc X.K (.ref f)=true)(hb:ma X.K fd ps ds)(hd:fV dvs ds)(hx:sj CX X E)
  (ha:PA X (e::es) t) (hdb:(x==("__debug__":Str))=false:=by decide) (he:starEach (e::es) X.env=(false,eval e X.env)::starEach es X.env:=by rfl) (hpl:(backTo pos (starEach es X.env)).any (·.1)=false:=by rfl) :
  PE X (.Call (.Name x p) (e::es) [] pos) (Pi sp dvs E t):=by
 intro ω s σ H Q I h;refine wpAny_Call_Name_kw (sf I hg hm ?_ hdb);refine JS (h₀:=X.base) I.ok.mod.kin hk (gn (ha pos ω s σ H _ I h) λus s1 ⟨vs,H1,I1,r,q⟩=>⟨I1.kIn,?_⟩) he hpl;exact ER F hr hb hd hx I1 r q
def Bn {pl:Sem Bool}(he:PE X o ta)(c:sM X.K C)(hm:yj X.K C m f)(F:fM X.prog X.w X.K X.mg X.base CX k f fd ps sp)(hr:ic k X.A)(hb:ma X.K fd ps ds)(hd:fV dvs ds)(hx:sj CX X E)(ha:PA X (e::es) t)
  (hst:starEach (e::es) X.env=(false,eval e X.env)::starEach es X.env:=by rfl) (hpl:(backTo pos (starEach es X.env)).any (·.1)=false:=by rfl)
  (ht:eval (.Call (.Attribute o m apos) (e::es) [] pos) X.env=(do
   let ov <- eval o X.env
   standAt apos.atName
   let (f,first) <- holding [ov] (getMethod ov m pl)
   callWith pos f first (backTo pos (starEach (e::es) X.env)) (backToKw pos (keywordEach [] X.env))):=by rfl) :
  PE X (.Call (.Attribute o m apos) (e::es) [] pos) (OU C m sp dvs E ta t):=by
 intro ω s σ H Q I h;refine JA (pl:=pl) (gn (he ω s σ H _ I h) λu s1 ⟨x,H1,I1,rx,a,dx,fs,ex,ea,l,q⟩=>?_) ht;subst ex;obtain rfl:u=kF a:=rx;refine ya I1 ea c hm l ?_;refine JS (first:=[.ref a]) (h₀:=X.base) I.ok.mod.kin hm.kp (gn (ha pos ω s1 σ H1 _ I1 q) λus s2 ⟨vs,H2,I2,r,q2⟩=>⟨I2.kIn,?_⟩) hst hpl;exact ER (us:=.ref a::us) (vs:=.ref a::vs) F hr hb hd hx I2 (.cons rfl r) q2
structure Mk (K:jb)(C f:Gk):Prop where
 makes:Vl K C=true
 init:ub K (.ref C) "__init__"=Ga (Ga (.ref f))
 fn:Ji K (.ref f)=true
 kp:uc K (.ref C)=true
def FC(M:Mk X.K C f)(F:fM X.prog X.w X.K X.mg X.base CX k f fd ps sp)(hr:ic (k+1) X.A)(hb:ma X.K fd ps ds)(hd:fV dvs ds)
  (hx:sj CX X E) (I:fB X ω σ H s) (r:fV vs us)
  (h:∀ x dx,H x=Gb->H dx=Gb->dx≠x->sp (.ref x::(vs++dvs)) (fH (fH H dx (.own x)) x (.ins C dx [])) (λv H2=>v=.non/\Q (.ref x) H2) E) :
  wpAny (model X.prog X.w) X.A (call (.ref C) us) (EP X ω σ Q) X.xe s:=by
 have hq:=h (s.heap.objs.size+1) s.heap.objs.size (I.hok.fresh (qp _)) (I.hok.fresh (jw _)) (jL (uY _));have I2:=fB.made (C:=C) I;have r2:fV (V.ref (s.heap.objs.size+1)::(vs++dvs)) (kF (s.heap.objs.size+1)::(us++ds)):=.cons rfl (r.append hd);have hl:(kF (s.heap.objs.size+1)::us++ds).length=ps.length:=by
  have e:=r2.length;rw[F.len _ _ _ _ hq] at e;exact e.symm
 refine wpAny_call (Fz (f:=f) I.kIn M.makes M.init (beq_iff_eq.mp M.fn) (codeAny_mono (F.run _ X.stack _ _ ⟨kF (s.heap.objs.size+1)::us,[]⟩ (kF (s.heap.objs.size+1)::(us++ds)) _ _ E (hr.make C us [])
  (I2.env0.make C us []) (hb _ (kF (s.heap.objs.size+1)::us) I2.kIn hl) r2 hq) λr s' hq'=>?_))
 cases r with
 | error e=>exact hx ω σ _ _ e s' I2 hq'
 | ok fl =>
  cases fl with
  | ret u =>
   obtain⟨v,H',I3,rv,ev,q3⟩:=I2.after hq';subst ev;exact⟨rv,⟨V.ref (s.heap.objs.size+1),H',I3,rfl,q3⟩⟩
  | next=>exact False.elim hq'
  | brk=>exact False.elim hq'
  | cont=>exact False.elim hq'
def EY (M:Mk X.K C f)(F:fM X.prog X.w X.K X.mg X.base CX k f fd ps sp)(hr:ic (k+1) X.A)(hg:Gl X x)(hm:X.mg x=Ga (.ref C))(hb:ma X.K fd ps ds)(hd:fV dvs ds)(hx:sj CX X E)
  (hdb:(x==("__debug__":Str))=false:=by decide):PE X (.Call (.Name x p) [] [] pos) (Pe C sp dvs E KM):=by
 intro ω s σ H Q I h;refine wpAny_Call_Name_kw (sf I hg hm ?_ hdb);exact PySem.W.callWith_K0 I.kIn M.kp (FC (us:=[]) M F hr hb hd hx I .nil h)
end
structure fF (N P:List Str)(sc:Scope):Prop where
 kind:sc.kind=.function
 co:sc.isCoroutine=false
 gen:sc.isGenerator=false
 nd:N.Nodup
 pre:N.take P.length=P
 par:∀ x∈P,sc.names.lookup x=Ga .local\/sc.names.lookup x=Ga .cell
 nofree:∀ y∈sc.names,y.2≠.free
def yY {kindOf:Str->Option NameKind}{x:Str}:∀ {binds:List (Str×Gg)} {m:Str->Option Gg},(∀ v,(x,v)∉binds)->bindL kindOf binds m x=m x
 | [],_,_=>rfl
 | (n,v)::r,m,h=>by
  unfold bindL;rw[yY λw hw=>h w (jk _ hw)];split
  .have:x≠n:=by rintro rfl;exact h v jf
   simp[this]
  .rfl
def zj {kindOf:Str->Option NameKind}{x:Str}:∀ {binds:List (Str×Gg)} {m:Str->Option Gg},(∀ v,(x,v)∉binds)->bindC kindOf binds m x=m x
 | [],_,_=>rfl
 | (n,v)::r,m,h=>by
  unfold bindC;rw[zj λw hw=>h w (jk _ hw)];split
  .rfl
  .have:x≠n:=by rintro rfl;exact h v jf
   simp[this]
def yO {kindOf:Str->Option NameKind}{x:Str}{v:Gg}:∀ {P:List Str} {vs:List Gg} {i:Nat} {m:Str->Option Gg},P.Nodup->P[i]?=Ga x->vs[i]?=Ga v->kindOf x=Ga .local ->
  bindL kindOf (P.zip vs) m x=Ga v
 | [],_,_,_,_,h,_,_=>by simp at h
 | _::_,[],_,_,_,_,h,_=>by simp at h
 | p::P,w::vs,0,m,nd,h1,h2,hk=>by
  simp at h1 h2;subst h1;subst h2;show bindL kindOf ((p,w)::P.zip vs) m p=_;unfold bindL;rw[yY λv hv=>(kO.mp nd).1 (Ju hv).1,Ge hk];simp
 | p::P,w::vs,i+1,m,nd,h1,h2,hk=>by
  show bindL kindOf ((p,w)::P.zip vs) m x=_;unfold bindL;exact yO (i:=i) (kO.mp nd).2 (by simpa using h1) (by simpa using h2) hk
def yX {kindOf:Str->Option NameKind}{x:Str}{v:Gg}:∀ {P:List Str} {vs:List Gg} {i:Nat} {m:Str->Option Gg},P.Nodup->P[i]?=Ga x->vs[i]?=Ga v->kindOf x≠Ga .local ->
  bindC kindOf (P.zip vs) m x=Ga v
 | [],_,_,_,_,h,_,_=>by simp at h
 | _::_,[],_,_,_,_,h,_=>by simp at h
 | p::P,w::vs,0,m,nd,h1,h2,hk=>by
  simp at h1 h2;subst h1;subst h2;show bindC kindOf ((p,w)::P.zip vs) m p=_;unfold bindC;rw[zj λv hv=>(kO.mp nd).1 (Ju hv).1,Gf hk];simp
 | p::P,w::vs,i+1,m,nd,h1,h2,hk=>by
  show bindC kindOf ((p,w)::P.zip vs) m x=_;unfold bindC;exact yX (i:=i) (kO.mp nd).2 (by simpa using h1) (by simpa using h2) hk
def start (N:List Str)(vs:List V):St:=vs.map Ga++jB (N.length-vs.length) Gb
def nU (CX:sv)(P:Program)(w:World)(K:jb)(mg:Str->Option Gg)(base:Heap)(N:List Str)(qual:Str)(scope:Scope)(f:Gk)(cd:Gg)(A:Around)(outer:List Env)(s:Gh)(H:Hp)(E:XK):Cx where
 prog:=P
 w:=w
 K:=K
 mg:=mg
 base:=base
 A:=A.deeper (envOfC qual scope s.heap.objs.size f cd)
 N:=N
 s₀:=s
 H₀:=H
 env:=envOfC qual scope s.heap.objs.size f cd
 outer:=outer
 stack:=envOfC qual scope s.heap.objs.size f cd::outer
 ex:=[]
 calm:=true
 fn:=λ_=>true
 pn:=[]
 xe:=λe s'=>wpAny (model P w) (A.deeper (envOfC qual scope s.heap.objs.size f cd)) (leaving (envOfC qual scope s.heap.objs.size f cd) e) (λ_ s''=>CX outer H s E e s'') (λe' s''=>CX outer H s E e' s'') s'
def AM {sc:Scope}{x:Str}(h:sc.names.lookup x=Ga .cell):∃ c,(cellsFrom n sc.names []).lookup x=Ga c:=by
 have q:=Jj sc.names n [] (.inl h);exact qY.mp q
def Et{cd:Gg}{s1:Gh}{E:XK}{vs:List V}
  (S:fF N ps scope) (hd:A.handled=Gb) (e0:xo P w K mg base A outer s H) (hl:vs.length=ps.length) (r:fV vs us)
  (x:InCallC s s.heap.objs.size (bindL (envOfC qual scope s.heap.objs.size f cd).kindOf (ps.zip us) λ_=>Gb) (cellsFrom (s.heap.objs.size+1) scope.names []) (bindC (envOfC qual scope s.heap.objs.size f cd).kindOf (ps.zip us) λ_=>Gb) s1) :
  fB (nU CX P w K mg base N qual scope f cd A outer s H E) [] (start N vs) H s1:=by
 have hpl:ps.length<=N.length:=by have:=congrArg uF S.pre;rw[vI] at this;omega
 obtain⟨h1,tk,rfl,hk⟩:=x.done;have noA:∀ b:Gk,b∉(nU CX P w K mg base N qual scope f cd A outer s H E).ex:=λb z=>absurd (show b∈([]:List Gk) from z) (by simp);refine⟨⟨e0.mod,S.kind,rfl,rfl,jw _,λy z c h1 h2=>?_,λy hy=>?_,λy c _ h=>?_,λ_=>hd,Around.frames_deeper e0.frames,.inr ⟨rfl,rfl⟩,λb z=>absurd z (noA b),e0.bs,e0.bsz,λb _ _=>noA b,λb z=>absurd z (noA b),e0.funs,e0.frf⟩,
  rfl,e0.bare,Un.kept hk,⟨_,x.toInCall.ns,λi y v h1 h2 h3=>?_⟩,λy c h=>⟨_,x.cell y c h⟩,e0.hok.fresh (jw _),λy c h=>?_,λp hp=>absurd (show p∈([]:List (Gk×Obj)) from hp) (by simp),e0.hok.kept hk,?_⟩
 .exact name_of_addr x.apart (uz h1) (uz h2)
 .have hy:scope.names.lookup y=Ga .cell\/scope.names.lookup y=Ga .free:=hy;rcases hy with hy|hy
  .exact AM hy
  .exact absurd rfl (S.nofree _ (uz hy))
 .exact vf (x.above y c (uz h))
 .have hi:i<vs.length:=by
   unfold start at h2;by_cases hi:i<vs.length
   .exact hi
   .rw[jZ (by simpa using hi)] at h2;rw[ka] at h2;split at h2<;>cases h2
  have ha:vs[i]?=Ga v:=by
   unfold start at h2;rw[ki (by simpa using hi),jz] at h2;cases e:vs[i]? with
   | none=>rw[e] at h2;cases h2
   | some a=>rw[e] at h2;cases h2;rfl
  obtain⟨u,hu,rv⟩:=r.get ha;have hp:ps[i]?=Ga y:=by
   rwa[<- S.pre,List.getElem?_take_of_lt (by omega)]
  have ndP:ps.Nodup:=by rw[<- S.pre];exact S.nd.sublist (List.take_sublist _ _)
  refine⟨u,rv,?_⟩;rcases S.par y (j5 hp) with k|k
  .exact .inl ⟨k,yO ndP hp hu k⟩
  .obtain⟨c,e⟩:=AM (n:=s.heap.objs.size+1) k;refine .inr ⟨.inl k,c,e,?_⟩;have q:=x.cell y c e;rw[yX ndP hp hu (by show scope.names.lookup y≠_;rw[k];decide)] at q;exact q
 .exact e0.hok.fresh (vf (x.above y c (uz h)))
 .unfold start;show _=N.length;rw[je,jc,j6];omega
def OZ{params:Arguments}{dV kV doc pm cdv ct oc:Gg}{an od:Option Gk}
  {osl:Array (Option Gg)} (lk:K.lookup f=Ga ⟨oc,od,.func (kZ name qual params body scope dV kV doc pm an cdv ct),osl⟩) (hcd:vB K cdv qual=true) (S:fF N ps scope)
  (len:∀ vs H Q E,sp vs H Q E->vs.length=ps.length)
  (hbody:∀ (A:Around) (outer:List Env) (s:Gh) (H:Hp) (vs:List V) (Q:VK) (E:XK),ic k (A.deeper (envOfC qual scope s.heap.objs.size f cdv))->sp vs H Q E ->
   ∃ t,nV (nU CX P w K mg base N qual scope f cdv A outer s H E) body t/\t { nx:=λ_ H'=>Q .non H',rt:=Q } (start N vs) H) :
  fM P w K mg base CX (k+1) f (kZ name qual params body scope dV kV doc pm an cdv ct) ps sp:=by
 refine⟨len,λA outer s H args us vs Q E hr e0 hb r hsp=>?_⟩;have hl:=len _ _ _ _ hsp;have KX:K.In s.heap:=e0.mod.kin.keeps λb o e=>(e0.bs b o e).1;have lim:s.heap.NoLimit:=e0.mod.nolimit.keeps λb o e=>(e0.bs b o e).1;have hkind:∀ y∈ps.zip us,scope.names.lookup y.1=Ga .local\/(scope.names.lookup y.1=Ga .cell/\((cellsFrom (s.heap.objs.size+1) scope.names []).lookup y.1).isSome=true):=λ⟨n,v⟩ hy=>by
  rcases S.par n (Ju hy).1 with q|q
  .exact .inl q
  .exact .inr ⟨q,Jj _ _ _ (.inl q)⟩
 refine codeAny_call_function hr.depth (KX _ _ lk) rfl S.co S.gen rfl (PySem.W.codeRec_of KX hcd) (hb _ _ _ _ ?_);refine wpAny_newFunctionEnv_cells S.kind hkind λψ he s1 x=>?_;subst he;refine⟨lim.keeps x.toInCall.keep,codeAny_func ?_⟩;obtain⟨t,ht,hq⟩:=hbody A outer s H vs Q E (hr.deeper _) hsp;have I:fB (nU CX P w K mg base N qual scope f cdv A outer s H E) [] (start N vs) H s1:=Et S hr.hd e0 hl r x;refine wpAny_mono (ht [] s1 (start N vs) H _ I hq) (λfl s' hs=>?_) λe s' hs=>hs;have fin:∀ {σ':St} {H':Hp} {v:V} {u:Gg},fB (nU CX P w K mg base N qual scope f cdv A outer s H E) [] σ' H' s'->gq v u->Q v H'->CE outer P w H s Q u s' :=
  λ{σ' H' v u} J rv q=>⟨v,H',J.os,J.bare,J.base,J.hok,rv,q⟩
 cases fl with
 | ret u =>
  obtain⟨v,σ',H',J,rv,q⟩:=hs;exact fin J rv q
 | next =>
  obtain⟨σ',H',J,q⟩:=hs;exact fin (v:=V.non) (u:=jX) J rfl q
 | brk =>
  obtain⟨_,_,_,q⟩:=hs;exact False.elim q
 | cont =>
  obtain⟨_,_,_,q⟩:=hs;exact False.elim q
section
variable {X:Cx}{x:Str}{p pos:Pos}{e:Expr}{es:List Expr}{t:TA}{id T:String}{r:List V->Hp->VK->Prop}
def RX (r:List V->Hp->VK->Prop)(t:TA):TE:=λσ H Q=>t σ H λvs H1=>r vs H1 Q
def xi (hc:iH X (.builtin id) r)(hg:Gl X x)(hm:X.mg x=Gb)(hv:bootBuiltins x=Ga (.builtin id))(ha:PA X (e::es) t)(hn:x≠"__name__":=by decide)(hdb:(x==("__debug__":Str))=false:=by decide)
  (he:starEach (e::es) X.env=(false,eval e X.env)::starEach es X.env:=by rfl) (hpl:(backTo pos (starEach es X.env)).any (·.1)=false:=by rfl):PE X (.Call (.Name x p) (e::es) [] pos) (RX r t):=by
 intro ω s σ H Q I h;refine wpAny_Call_Name_kw (oU I hg hm hv ?_ hn hdb);exact PyProof.Rows.callWith_builtin1 (gn (ha pos ω s σ H _ I h) λus s1 ⟨vs,H1,I1,r1,q1⟩=>hc ω s1 σ H1 vs us Q I1 r1 q1) he hpl
def Es (hc:iH X (.type T) r)(hg:Gl X x)(hm:X.mg x=Gb)(hv:bootBuiltins x=Ga (.type T))(ha:PA X (e::es) t)(hn:x≠"__name__":=by decide)(hdb:(x==("__debug__":Str))=false:=by decide)
  (he:starEach (e::es) X.env=(false,eval e X.env)::starEach es X.env:=by rfl) (hpl:(backTo pos (starEach es X.env)).any (·.1)=false:=by rfl):PE X (.Call (.Name x p) (e::es) [] pos) (RX r t):=by
 intro ω s σ H Q I h;refine wpAny_Call_Name_kw (oU I hg hm hv ?_ hn hdb);exact PyProof.Rows.callWith_type1 (gn (ha pos ω s σ H _ I h) λus s1 ⟨vs,H1,I1,r1,q1⟩=>hc ω s1 σ H1 vs us Q I1 r1 q1) he hpl
end
end L2
namespace HT
open PySem PyProof.Rows
variable {A:Around}{E Q:Gg->Gh->Prop}{prog:Program}{s:Gh}{w:World}{hi lo:Option Int}{sl:Gk}{vl vu:Gg}
def cat_tup {t b:Gk}{vs ws:List Gg}(ht:IsTup s.heap t vs.toArray)(hb:IsTup s.heap b ws.toArray)(hv:vs≠[])
  (h1:ws=[]->Q (.ref t) s) (h2:ws≠[]->Q (.ref s.heap.objs.size) { s with heap:=s.heap.push { cls:=.type "tuple",data:=.seq (vs++ws).toArray } })
  (hsz:vs.length+ws.length<=sizeLine):wpAny (model prog w) A (binaryOp .Add (.ref t) (.ref b)) Q E s:=by
 obtain⟨⟨cls,dd,data,sl⟩,ho,hc,n,hd⟩:=id ht;obtain⟨⟨cls2,dd2,data2,sl2⟩,ho2,hc2,n2,hd2⟩:=id hb;simp only at hc hd hc2 hd2;subst hc hd hc2 hd2;have e:vs.toArray++ws.toArray=(vs++ws).toArray:=by simp
 by_cases hw:ws=[]
 .exact concat_meets ⟨_,ho,rfl⟩ ⟨_,ho2,rfl⟩ noFill_tuple_add seq_tuple_add qb v7 (vR _ _)
   (tuple_addW1 t b vs.toArray ws.toArray n n2 dd dd2 sl sl2 (by simpa using hv) (by simp[hw])) ⟨ho,ho2,h1 hw⟩
 .refine concat_meets ⟨_,ho,rfl⟩ ⟨_,ho2,rfl⟩ noFill_tuple_add seq_tuple_add qb v7 (vR _ _)
   (tuple_addW2 t b vs.toArray ws.toArray n n2 dd dd2 sl sl2 (by simpa using hv) (by simpa using hw) (by rwa[jv,jv])) ⟨ho,ho2,?_⟩
  rw[e];exact h2 hw
def sIx (n d:Nat):Option Int->Nat
 | none=>d
 | some v=>if v<0 then(v+(n:Int)).toNat else min v.toNat n
def sIx_none (n d:Nat):sIx n d Gb=d:=rfl
def sIx_nat (n d k:Nat):sIx n d (Ga (k:Int))=min k n:=by
 show(if (k:Int)<0 then((k:Int)+(n:Int)).toNat else min (k:Int).toNat n)=min k n;rw[Gf (by omega),jN]
def Oq (n d:Nat)(hd:d<=n)(o:Option Int):sIx n d o<=n:=by
 cases o with
 | none=>exact hd
 | some v =>
  show(if v<0 then(v+(n:Int)).toNat else min v.toNat n)<=n;by_cases hv:v<0
  .rw[Ge hv];omega
  .rw[Gf hv];exact Nat.min_le_right _ _
def BE (v:Int)(n d:Nat):(if v<0 then max (v+(n:Int)) 0 else min v (n:Int))=((sIx n d (Ga v):Nat):Int):=by
 show(if v<0 then max (v+(n:Int)) 0 else min v (n:Int))=(((if v<0 then(v+(n:Int)).toNat else min v.toNat n):Nat):Int);by_cases hv:v<0
 .simp only[Ge hv];omega
 .simp only[Gf hv];omega
def Cq (lo hi:Option Int)(n:Nat):vN lo hi 1 (n:Int)=(((sIx n 0 lo:Nat):Int),((sIx n n hi:Nat):Int)):=by
 have h1:¬((1:Int)<0):=by omega
 unfold vN;simp only[h1,if_false];refine Prod.ext ?_ ?_
 .cases lo with
  | none=>rfl
  | some v=>exact BE v n 0
 .cases hi with
  | none=>rfl
  | some v=>exact BE v n n
def CI (i j:Nat):uM (i:Int) (j:Int) 1=j-i:=by
 unfold uM;have h1:(1:Int)>0:=by omega
 simp only[h1,if_true,Int.ediv_one];split<;>omega
def xJ {v:Gg}{o:Option Int}{Q:Option Int->Gh->Prop}(p:IsPart v o)(h:Q o s):wpAny (model prog w) A (Builtin.Slice.slicePartIndex v) Q E s:=by
 cases p with
 | none=>exact slicePart_none h
 | int i t=>exact slicePart_int h
def rg{n:Nat}{Q:Int×Int×Nat->Gh->Prop}(hs:s.heap.IsSliceOf sl vl vu .none)(pl:IsPart vl lo)(pu:IsPart vu hi)
  (h:Q (((sIx n 0 lo:Nat):Int),1,sIx n n hi-sIx n 0 lo) s):wpAny (model prog w) A (qM (.ref sl) (pure (n:Int))) Q E s:=by
 obtain⟨os,hos,hcs,hds⟩:=id hs;unfold qM Builtin.Slice.sliceFields;refine fk (fk (wpAny_field hos hds (x:=vl) rfl (fk (wpAny_field hos hds (x:=vu) rfl (fk (wpAny_field hos hds (x:=.none) rfl (fq ?_)))))));refine fk (slicePart_none ?_);show wpAny _ _ (if ((1:Int)==0)=true then _ else _) _ _ s;rw[Gf (by decide)];refine fk (xJ pl (fk (xJ pu (fk (fq ?_)))));show wpAny _ _ (match vN lo hi 1 (n:Int) with|(lo,hi)=>pure (lo,(1:Int),uM lo hi 1)) _ _ s;rw[Cq lo hi n];show wpAny _ _ (pure (((sIx n 0 lo:Nat):Int),(1:Int),uM ((sIx n 0 lo:Nat):Int) ((sIx n n hi:Nat):Int) 1)) _ _ s;rw[CI];exact fq h
def Fw (xs:Array Gg)(i k:Nat):((jq k).filterMap λ(m:Nat)=>xs[((i:Int)+(m:Int)*1).toNat]?).toArray=((xs.toList.drop i).take k).toArray:=by
 have e:(λ(m:Nat)=>xs[((i:Int)+(m:Int)*1).toNat]?)=λm=>xs[i+m]?:=by
  funext m
  have:((i:Int)+(m:Int)*1).toNat=i+m:=by omega
  rw[this]
 rw[e];have:=pick_run xs i k;rw[List.filterMap_map] at this;have e2:((λx=>xs[x]?)∘λx=>i+x)=λm=>xs[i+m]?:=rfl;rw[e2] at this;rw[this]
def getItem_tuple_cut {t:Gk}{items:Array Gg}(ht:IsTup s.heap t items)(hs:s.heap.IsSliceOf sl vl vu .none)(pl:IsPart vl lo)(pu:IsPart vu hi)
  (hw:¬(sIx items.size 0 lo=0/\sIx items.size items.size hi=items.size))
  (h:Q (.ref s.heap.objs.size) { s with heap:=s.heap.push { cls:=.type "tuple",data:=.seq ((items.toList.drop (sIx items.size 0 lo)).take (sIx items.size items.size hi-sIx items.size 0 lo)).toArray } })
  (hsz:items.size<=sizeLine):wpAny (model prog w) A (getItem (.ref t) (.ref sl)) Q E s:=by
 have htake:sizeOk (.seq ((items.toList.drop (sIx items.size 0 lo)).take (sIx items.size items.size hi-sIx items.size 0 lo)).toArray):=by
  show((items.toList.drop (sIx items.size 0 lo)).take (sIx items.size items.size hi-sIx items.size 0 lo)).toArray.size<=sizeLine;rw[jv,vI,uZ,jP];omega
 have hj:sIx items.size items.size hi<=items.size:=Oq _ _ (jw _) hi;obtain⟨os,hos,hcs,hds⟩:=id hs;have hTs:s.TypeIs (.ref sl) "slice":=⟨os,hos,hcs⟩;unfold getItem
 try with_reducible refine wpAny_holding ?_
 first|refine fk (fq ?_)|skip
 refine fk (wpAny_sequenceKey ht.typeIs (by decide) ?_);refine fk (wpAny_callSpecial?_slot (name:=ja "__getitem__") ht.typeIs PyProof.Rows.slot_tuple_getitem
  (wpAny_call_entry PyProof.Rows.slot_tuple_getitem ht.typeIs entry_tuple_getitem ?_ (args_tuple_getitem _ _)))
 show wpAny _ _ (vC (.ref t) >>= _) _ _ s;refine fk (tupleItemsOf_ ht ?_);refine fk (wpAny_typeOf hTs ?_);rw[Ge (by decide)];refine fk (rg hs pl pu ?_);have hno:¬((((sIx items.size 0 lo:Nat):Int)==0&&(1:Int)==1&&(sIx items.size items.size hi-sIx items.size 0 lo)==items.size)=true):=by
  intro q;rw[jl,jl] at q;have q1:((sIx items.size 0 lo:Nat):Int)=0:=eq_of_beq q.1.1;have q2:sIx items.size items.size hi-sIx items.size 0 lo=items.size:=eq_of_beq q.2;exact hw ⟨by omega,by omega⟩
 show wpAny _ _ (if (((sIx items.size 0 lo:Nat):Int)==0&&(1:Int)==1&&(sIx items.size items.size hi-sIx items.size 0 lo)==items.size)=true then _ else _) _ _ s;rw[Gf hno,Fw]
 first
  | exact fk (m:=uS _) (wpAny_newObj_type (fq ⟨_,rfl,fq h⟩) htake)
  | exact fk (m:=uS _) (wpAny_newObj_type (fk (fq (fq ⟨_,rfl,fq h⟩))) htake)
  | exact fk (fk (m:=uS _) (wpAny_newObj_type (fq (fq ⟨_,rfl,fq h⟩)) htake))
  | exact fk (fk (m:=uS _) (wpAny_newObj_type (fq ⟨_,rfl,fq h⟩) htake))
end HT
namespace L2
open PySem PySem.Spec PyProof.Rows
abbrev TO:=St->Hp->(Option Int->Hp->Prop)->Prop
def PO (X:Cx)(e:Option Expr)(t:TO):Prop :=
 ∀ (ω:List (Gk×Obj)) (s:Gh) (σ:St) (H:Hp) (Q:Option Int->Hp->Prop),fB X ω σ H s->t σ H Q ->
  wpAny (model X.prog X.w) X.A (evalPart e X.env) (λu s'=>∃ o H',fB X ω σ H' s'/\IsPart u o/\Q o H') X.xe s
def Ib:TO:=λ_ H Q=>Q Gb H
def OX (t:TE):TO:=λσ H Q=>t σ H λx H1=>∃ i,x=.int i/\Q (Ga i) H1
def xt {ns:List Int}:∀ {us:List Gg},fV (ns.map V.int) us->IntsAre us ns:=by
 induction ns with
 | nil=>intro us r;rw[qc] at r;cases r;exact .nil
 | cons n ns ih =>
  intro us r;rw[jO] at r;cases r with
  | cons r1 r2 =>
   obtain⟨t,e⟩:=r1;subst e;exact .cons n t (ih r2)
variable {X:Cx}{e:Expr}{te:TE}{hi lo:Option Expr}{r:V->Option Int->Option Int->Hp->VK->Prop}{p2 pos:Pos}{th tl:TO}{xs ys:List V}{α:Type}{i:Int}{j n t':Nat}{H:Hp}{its:List Gg}{l:Gk}{s:Gh}{σ:St}{ω:List (Gk×Obj)}
def HS:PO X Gb Ib:=by
 intro ω s σ H Q I h;rw[evalPart_none];exact fq ⟨Gb,H,I,.none,h⟩
def HR (h:PE X e te):PO X (Ga e) (OX te):=by
 intro ω s σ H Q I hw;rw[evalPart_some];refine gn (h ω s σ H _ I hw) λu s1 ⟨x,H1,I1,r1,q1⟩=>?_;obtain⟨i,rfl,q⟩:=q1;obtain⟨t,rfl⟩:=r1;exact⟨Ga i,H1,I1,.int i t,q⟩
def xT (X:Cx)(r:V->Option Int->Option Int->Hp->VK->Prop):Prop :=
 ∀ (ω:List (Gk×Obj)) (s:Gh) (σ:St) (H:Hp) (x:V) (v vl vu:Gg) (lo hi:Option Int) (sl:Gk) (Q:VK),fB X ω σ H s->gq x v->s.heap.IsSliceOf sl vl vu .none->IsPart vl lo->IsPart vu hi->r x lo hi H Q ->
  ∃ T id,typeLookup (.type T) "__getitem__"=pure (Ga (.builtin id))/\s.TypeIs v T/\wpAny (model X.prog X.w) X.A (getItem v (.ref sl)) (EP X ω σ Q) X.xe s
def xT.or {r':V->Option Int->Option Int->Hp->VK->Prop}(h:xT X r)(h':xT X r'):xT X (λx lo hi H Q=>r x lo hi H Q\/r' x lo hi H Q):=by
 intro ω s σ H x v vl vu lo hi sl Q I rx hs pl pu q;rcases q with q|q
 .exact h ω s σ H x v vl vu lo hi sl Q I rx hs pl pu q
 .exact h' ω s σ H x v vl vu lo hi sl Q I rx hs pl pu q
def Xg (r:V->Option Int->Option Int->Hp->VK->Prop)(te:TE)(tl th:TO):TE:=λσ H Q=>te σ H λx H1=>tl σ H1 λl H2=>th σ H2 λu H3=>r x l u H3 Q
def zw(hr:xT X r)(he:PE X e te)(hl:PO X lo tl)(hu:PO X hi th):PE X (.Subscript e (.Slice lo hi Gb p2) pos) (Xg r te tl th):=by
 intro ω s σ H Q I h;refine Subscript_ (gn (he ω s σ H _ I h) λv s1 ⟨x,H1,I1,r1,q1⟩=>?_);refine wpAny_Slice (gn (hl ω s1 σ H1 _ I1 q1) λvl s2 ⟨l,H2,I2,pl,q2⟩=>gn (hu ω s2 σ H2 _ I2 q2) λvu s3 ⟨u,H3,I3,pu,q3⟩=>?_);rw[evalPart_none];refine fq ?_;have I4:fB X ω σ H3 { s3 with heap:=s3.heap.push { cls:=.type "slice",data:=.fields #[vl,vu,.none] } }:=I3.kept (t':=s3.toks) λb ob q=>jj _ q;obtain⟨T,id,hT,ht,hg⟩:=hr ω { s3 with heap:=s3.heap.push { cls:=.type "slice",data:=.fields #[vl,vu,.none] } } σ H3 x v vl vu l u s3.heap.objs.size Q I4 r1 (Heap.IsSliceOf.new ..) pl pu q3;show wpAny (model X.prog X.w) X.A (subscriptTail e (.Slice lo hi Gb p2) v (.ref s3.heap.objs.size)) (EP X ω σ Q) X.xe { s3 with heap:=s3.heap.push { cls:=.type "slice",data:=.fields #[vl,vu,.none] } };exact tail_any (ops:=[.ref s3.heap.objs.size,v]) ht hT hg (by with_unfolding_all rfl)
def pe (xs:List V)(lo hi:Option Int):List V:=(xs.drop (HT.sIx xs.length 0 lo)).take (HT.sIx xs.length xs.length hi-HT.sIx xs.length 0 lo)
def wU (xs:List V)(lo hi:Option Int):(pe xs lo hi).length<=xs.length:=by
 unfold pe;rw[vI,uZ];omega
def WJ (K:jb):V->Option Int->Option Int->Hp->VK->Prop:=λx lo hi H Q=>∃ a xs,x=.ref a/\la K H a xs /\
 ¬(HT.sIx xs.length 0 lo=0/\HT.sIx xs.length xs.length hi=xs.length)/\∀ p,H p=Gb->Q (.ref p) (fH H p (.tup (pe xs lo hi)))
def EJ:xT X (WJ X.K):=by
 intro ω s σ H x v vl vu lo hi sl Q I rx hs pl pu h;obtain⟨a,xs,rfl,hx,hw,q⟩:=h;cases rx;obtain⟨its,r,ht,hz⟩:=I.tuple hx;have hlen:its.toArray.size=xs.length:=by rw[jv];exact r.length.symm
 refine⟨"tuple",_,PyProof.Rows.slot_tuple_getitem.lookup,ht.typeIs,?_⟩;refine HT.getItem_tuple_cut ht hs pl pu (by rwa[hlen]) ?_ (by rwa[hlen]);rw[hlen];refine⟨.ref s.heap.objs.size,_,I.laid (t':=s.toks) (o:=.tup (pe xs lo hi)) (λb ob q=>jj _ q) (jw _) ?_,rfl,q _ (I.hok.fresh (jw _))⟩;exact⟨jI (wU xs lo hi) hz,_,(r.drop (HT.sIx xs.length 0 lo)).take (HT.sIx xs.length xs.length hi-HT.sIx xs.length 0 lo),IsTup.new _ _⟩
def Pp (K:jb):R2:=λx y H Q=>∃ a b xs ys,x=.ref a/\y=.ref b/\la K H a xs/\la K H b ys/\xs≠[]/\xs.length+ys.length<=sizeLine /\
 (ys=[]->Q (.ref a) H)/\(ys≠[]->∀ p,H p=Gb->Q (.ref p) (fH H p (.tup (xs++ys))))
def fV.nil_iff{us:List Gg}(r:fV xs us):us=[]↔xs=[]:=by
 cases r with
 | nil=>simp
 | cons _ _=>simp
def HV:ir X (binaryOp .Add) (Pp X.K):=by
 intro ω s σ H x y v u Q I rx ry h;obtain⟨a,b,xs,ys,rfl,rfl,ha,hb,hx,hz,q1,q2⟩:=h;cases rx;cases ry;obtain⟨its,r1,p1,_⟩:=I.tuple ha;obtain⟨its2,r2,p2,_⟩:=I.tuple hb;refine HT.cat_tup p1 p2 (λz=>hx (r1.nil_iff.mp z)) (λz=>⟨.ref a,H,I,rfl,q1 (r2.nil_iff.mp z)⟩) (λz=>?_) (by rwa[<- r1.length,<- r2.length]);refine⟨.ref s.heap.objs.size,_,I.laid (t':=s.toks) (o:=.tup (xs++ys)) (λb ob q=>jj _ q) (jw _) ?_,rfl,q2 (λw=>z (r2.nil_iff.mpr w)) _ (I.hok.fresh (jw _))⟩;exact⟨by rwa[je],_,r1.append r2,IsTup.new _ _⟩
def ixN (n:Nat)(i:Int):Option Nat:=if 0<=i then(if i<n then Ga i.toNat else Gb) else if -(n:Int)<=i then Ga (i+n).toNat else Gb
def atI(xs:List α)(i:Int):Option α:=(ixN xs.length i).bind λj=>xs[j]?
def Bu(h:ixN n i=Ga j):seqIndex? i n=Ga j/\j<n/\-(n:Int)<=i/\i<n:=by
 unfold ixN at h;by_cases h0:0<=i
 .rw[Ge h0] at h;by_cases h1:i<n
  .rw[Ge h1] at h;have e:i.toNat=j:=jK h;exact⟨by rw[seqIndex_of h0 h1,e],by omega,by omega,h1⟩
  .rw[Gf h1] at h;cases h
 .rw[Gf h0] at h;by_cases h1:-(n:Int)<=i
  .rw[Ge h1] at h;have e:(i+n).toNat=j:=jK h;exact⟨by rw[seqIndex_neg (by omega) h1,e],by omega,h1,by omega⟩
  .rw[Gf h1] at h;cases h
def yp{xs:List α}{v:α}(h:atI xs i=Ga v):∃ j,seqIndex? i xs.length=Ga j/\xs[j]?=Ga v/\j<xs.length/\-(xs.length:Int)<=i/\i<xs.length:=by
 unfold atI at h;cases e:ixN xs.length i with
 | none=>rw[e] at h;cases h
 | some j =>
  rw[e] at h;obtain⟨h1,h2,h3,h4⟩:=Bu e;exact⟨j,h1,h,h2,h3,h4⟩
def sr{xs:List α}{v:α}(h:xs[j]?=Ga v):atI xs (j:Int)=Ga v:=by
 have hj:j<xs.length:=(ju.mp h).1;have e:ixN xs.length (j:Int)=Ga j:=by
  unfold ixN;rw[Ge (by omega),Ge (by omega)];simp
 unfold atI;rwa[e]
def wz (b:Expr):Prop:=∀ o i,subscripted b false o i=operate [o,i] (getItem o i)
def xV (X:Cx)(r:R2):Prop :=
 ∀ (value slice:Expr) (ω:List (Gk×Obj)) (s:Gh) (σ:St) (H:Hp) (x y:V) (v u:Gg) (Q:VK),fB X ω σ H s->gq x v->gq y u->r x y H Q ->
  subscripted slice false v u=operate [v,u] (getItem v u)->wpAny (model X.prog X.w) X.A (subscriptTail value slice v u) (EP X ω σ Q) X.xe s
def yN (X:Cx)(id:String)(r:V->List V->Hp->VK->Prop):Prop :=
 ∀ (ω:List (Gk×Obj)) (s:Gh) (σ:St) (H:Hp) (x:V) (xs:List V) (v:Gg) (us:List Gg) (Q:VK),fB X ω σ H s->gq x v->fV xs us->r x xs H Q ->
  wpAny (model X.prog X.w) X.A (call (.builtin id) (v::us)) (EP X ω σ Q) X.xe s
section
variable {X:Cx}{a b:Expr}{ta tb:TE}{pos:Pos}
def xV.or {r r':R2}(h:xV X r)(h':xV X r'):xV X (λx y H Q=>r x y H Q\/r' x y H Q):=by
 intro value slice ω s σ H x y v u Q I rx ry q hs;rcases q with q|q
 .exact h value slice ω s σ H x y v u Q I rx ry q hs
 .exact h' value slice ω s σ H x y v u Q I rx ry q hs
def De {r:R2}(hr:xV X r)(ha:PE X a ta)(hb:PE X b tb)(hs:wz b):PE X (.Subscript a b pos) (DM r ta tb):=by
 intro ω s σ H Q I h;exact Subscript_ (Fh ha hb I h λv u s2 x y H2 I2 rx ry q=>hr a b ω s2 σ H2 x y v u Q I2 rx ry q (hs _ _))
def NB (K:jb):R2:=λx y H Q=>∃ p xs i v,x=.ref p/\y=.int i/\hZ K H p xs/\atI xs i=Ga v/\Q v H
def On (K:jb):R2:=λx y H Q=>∃ p xs i v,x=.ref p/\y=.int i/\la K H p xs/\atI xs i=Ga v/\Q v H
def IY:R2:=λx y H Q=>∃ z i c,x=.str z/\y=.int i/\z.length<=sizeLine/\atI z.cps.toList i=Ga c/\Q (.str ⟨#[c]⟩) H
def Cm:xV X (NB X.K):=by
 intro value slice ω s σ H x y v u Q I rx ry h hs;obtain⟨p,xs,i,z,rfl,rfl,hq,he,q⟩:=h;cases rx;obtain⟨t,rfl⟩:=ry;obtain⟨its,r,pl,hz⟩:=I.list hq;obtain⟨j,h1,h2,h3,h4,h5⟩:=yp he;obtain⟨w,ew,rw'⟩:=r.get h2;have hl:=r.length;have hn:=pK;have fin:EP X ω σ Q w s:=⟨z,H,I,rw',q⟩;by_cases h0:0<=i
 .have hj:i.toNat=j:=by
   rw[seqIndex_of h0 h5] at h1;exact jK h1
  exact item_listR pl.isList h0 (by omega) (by rw[hj];simpa using ew) fin hs
 .have hj:(i+(its.toArray.size:Int)).toNat=j:=by
   rw[seqIndex_neg (by omega) h4] at h1;rw[jv,<- hl];exact jK h1
  exact subscriptTail_builtinR (x:=w) pl.isList.typeIs slot_list_getitem.lookup
   (wpAny_getItem_list_neg (Q:=λr s'=>r=w/\EP X ω σ Q r s') pl.isList (by omega) (by rw[jv]<;>omega) (by omega) (by rw[hj];simpa using ew) ⟨rfl,fin⟩) hs
def KA:xV X (On X.K):=by
 intro value slice ω s σ H x y v u Q I rx ry h hs;obtain⟨p,xs,i,z,rfl,rfl,hq,he,q⟩:=h;cases rx;obtain⟨t,rfl⟩:=ry;obtain⟨its,r,pl,hz⟩:=I.tuple hq;obtain⟨j,h1,h2,h3,h4,h5⟩:=yp he;obtain⟨w,ew,rw'⟩:=r.get h2;have hl:=r.length;have hn:=pK;have fin:EP X ω σ Q w s:=⟨z,H,I,rw',q⟩;exact subscriptTail_builtinR (x:=w) pl.typeIs slot_tuple_getitem.lookup
  (getItem_tuple (j:=j) (Q:=λr s'=>r=w/\EP X ω σ Q r s') pl (by omega) (by omega) (by rwa[jv,<- hl]) (by simpa using ew) ⟨rfl,fin⟩) hs
def OG:xV X IY:=by
 intro value slice ω s σ H x y v u Q I rx ry h hs;obtain⟨z,i,c,rfl,rfl,hz,he,q⟩:=h;obtain⟨t,rfl⟩:=rx;obtain⟨t',rfl⟩:=ry;obtain⟨j,h1,h2,h3,h4,h5⟩:=yp he;have hl:z.cps.toList.length=z.length:=by simp[JT]
 rw[hl] at h1 h4 h5;have hn:=pK;exact tail_any (typeIs_str s z t) slot_str_getitem.lookup (getItem_str (c:=c) (by
  have e1:decide (i < -(2^63:Int))=false:=Gd (by omega);have e2:decide (i≥2^63)=false:=Gd (by omega);rw[e1,e2,vp]) (by rw[h1];simpa using h2) ⟨.str ⟨#[c]⟩,H,I.tok _,⟨_,rfl⟩,q⟩) hs
def QN (K:jb):R2:=λx y H Q=>NB K x y H Q\/On K x y H Q\/IY x y H Q
def EG:xV X (QN X.K):=Cm.or (KA.or OG)
def CT (its:List Gg)(n j:Nat)(u:Gg):jW (·.setIfInBounds j u) { cls:=.type "list",data:=.seq its.toArray n }={ cls:=.type "list",data:=.seq (its.set j u).toArray n }:=by
 simp[jW]
variable {p:Gk}
def fB.lst(I:fB X ω σ H s)(h:H p=Ga (.lst xs)) :
  ∃ (its:List Gg) (n:Nat),fV xs its/\s.heap.get? p=Ga { cls:=.type "list",data:=.seq its.toArray n }/\xs.length<=sizeLine:=by
 obtain⟨z,its,n,r,e⟩:=I.hok p _ h;exact⟨its,n,r,e,z⟩
def fB.lstUpd{its':List Gg}{n':Nat}{f:Obj->Obj}(I:fB X ω σ H s)(h:H p=Ga (.lst xs))
  (ho:s.heap.get? p=Ga { cls:=.type "list",data:=.seq its.toArray n }) (hf:f { cls:=.type "list",data:=.seq its.toArray n }={ cls:=.type "list",data:=.seq its'.toArray n' }) (r:fV ys its') (hz:ys.length<=sizeLine) (t:Nat) :
  fB X ω σ (fH H p (.lst ys)) { s with heap:=s.heap.update p f,toks:=t }:=by
 have e:(s.heap.update p f).get? p=Ga { cls:=.type "list",data:=.seq its'.toArray n' }:=by
  rw[kc f ho (by rw[hf]<;>rfl),hf]
 refine I.write (x:=p) (e:=p) (by rw[h];trivial) (.inl rfl) (λb u hb q=>(kS _ _ (ur hb)).trans q) ⟨_,e⟩ ?_;exact⟨hz,its',n',r,e⟩
def Pv:V->V->V->Hp->(Hp->Prop)->Prop:=λo i v H Q=>∃ p xs k j,o=.ref p/\i=.int k/\H p=Ga (.lst xs)/\ixN xs.length k=Ga j/\Q (fH H p (.lst (xs.set j v)))
def Ft:Fd X Pv:=by
 intro ω s σ H o i v ov iv u Q I ro ri rv h;obtain⟨p,xs,k,j,rfl,rfl,hp,hj,q⟩:=h;cases ro;obtain⟨t,rfl⟩:=ri;obtain⟨its,n,r,ho,hz⟩:=I.lst hp;obtain⟨h1,h2,h3,h4⟩:=Bu hj;have hl:=r.length;have hn:=pK;have I':fB X ω σ (fH H p (.lst (xs.set j v))) { s with heap:=s.heap.update p (jW (·.setIfInBounds j u)) } :=
  I.lstUpd hp ho (CT its n j u) (r.set rv j) (by rwa[qu]) s.toks
 by_cases h0:0<=k
 .have hk:k.toNat=j:=by
   rw[seqIndex_of h0 h4] at h1;exact jK h1
  exact PySem.W.ki_setAt ho h0 (by omega) (by rwa[jv,<- hl]) (by rw[hk];exact⟨_,I',q⟩)
 .have hk:(k+(its.toArray.size:Int)).toNat=j:=by
   rw[seqIndex_neg (by omega) h3] at h1;rw[jv,<- hl];exact jK h1
  exact PySem.W.ki_setBack ho (by omega) (by rwa[jv,<- hl]) (by omega) (by rw[hk];exact⟨_,I',q⟩)
def zH (lo hi:Option Int)(n:Nat):(sliceBounds lo hi Gb n).1=((HT.sIx n 0 lo:Nat):Int)/\(sliceBounds lo hi Gb n).2.1=((HT.sIx n n hi:Nat):Int)/\(sliceBounds lo hi Gb n).2.2=1:=by
 refine⟨?_,?_,rfl⟩
 .cases lo with
  | none=>simp[sliceBounds,HT.sIx]
  | some i =>
   simp only[sliceBounds,HT.sIx,Vc,show(1:Int)>0 by decide,if_true];by_cases h:i<0
   .simp only[h,if_true]<;>omega
   .simp only[h,if_false]<;>omega
 .cases hi with
  | none=>simp[sliceBounds,HT.sIx]
  | some i =>
   simp only[sliceBounds,HT.sIx,Vc,show(1:Int)>0 by decide,if_true];by_cases h:i<0
   .simp only[h,if_true]<;>omega
   .simp only[h,if_false]<;>omega
def zn (its:List Gg)(lo hi:Option Int):slicePick its.toArray lo hi Gb=((its.drop (HT.sIx its.length 0 lo)).take (HT.sIx its.length its.length hi-HT.sIx its.length 0 lo)).toArray:=by
 obtain⟨h1,h2,h3⟩:=zH lo hi its.toArray.size;unfold slicePick;rw[h1,h2,h3];simp only[sliceRange_one,pick_run,jv]<;>rfl
def VR (K:jb):V->Option Int->Option Int->Hp->VK->Prop:=λx lo hi H Q=>∃ a xs,x=.ref a/\hZ K H a xs/\∀ p,H p=Gb->Q (.ref p) (fH H p (.lst (pe xs lo hi)))
def Cj:xT X (VR X.K):=by
 intro ω s σ H x v vl vu lo hi sl Q I rx hs pl pu h;obtain⟨a,xs,rfl,hx,q⟩:=h;cases rx;obtain⟨its,r,ht,hz⟩:=I.list hx;have hlen:=r.length;refine⟨"list",_,slot_list_getitem.lookup,ht.isList.typeIs,?_⟩;refine wpAny_getItem_list_slice ht.isList hs pl pu .none (by simp) ?_ (by rw[jv]<;>omega);rw[zn,<- hlen];refine⟨.ref s.heap.objs.size,_,I.laid (t':=s.toks) (o:=.lst (pe xs lo hi)) (λb ob q=>jj _ q) (jw _) ?_,rfl,q _ (I.hok.fresh (jw _))⟩;exact⟨jI (wU xs lo hi) hz,_,0,(r.drop (HT.sIx xs.length 0 lo)).take (HT.sIx xs.length xs.length hi-HT.sIx xs.length 0 lo),jA _ rfl⟩
def zY:ir X (compareOp .NotIn) (λx y H Q=>∃ i j,x=.str i/\y=.str j/\Q (.bl (!(!(jT j i 0 j.length 1).isEmpty))) H):=by
 intro ω s σ H x y v u Q I rx ry h;obtain⟨i,j,rfl,rfl,q⟩:=h;obtain⟨t,rfl⟩:=rx;obtain⟨t',rfl⟩:=ry;exact notIn_str ⟨.bl _,H,I,rfl,q⟩
def vk:iH X (.builtin "len") (λxs H Q=>∃ p ys,xs=[.ref p]/\(hZ X.K H p ys\/la X.K H p ys)/\Q (.int ys.length) H):=by
 intro ω s σ H xs us Q I r h;obtain⟨p,ys,rfl,hq,q⟩:=h;obtain⟨u,rfl,rx⟩:=mf r;cases rx;have hn:=pK;rcases hq with hq|hq
 .obtain⟨its,r',pl,hz⟩:=I.list hq;have hlen:=r'.length;exact Calls.call_len_list pl.isList (by simp only[jv]<;>omega) ⟨.int ys.length,H,I.tok _,⟨s.toks+1,by rw[jv,hlen]⟩,q⟩
 .obtain⟨its,r',pl,hz⟩:=I.tuple hq;have hlen:=r'.length;exact len_tuple pl (by simp only[jv]<;>omega) ⟨.int ys.length,H,I.tok _,⟨s.toks+1,by rw[jv,hlen]⟩,q⟩
def Ao:iH X (.builtin "len") (λxs H Q=>∃ z,xs=[.str z]/\z.length<=sizeLine/\Q (.int z.length) H):=by
 intro ω s σ H xs us Q I r h;obtain⟨z,rfl,hz,q⟩:=h;obtain⟨u,rfl,t,rfl⟩:=mf r;have hn:=pK;exact len_str (by omega) ⟨.int z.length,H,I.tok _,⟨_,rfl⟩,q⟩
def zX:iH X (.type "list") (λxs H Q=>∃ p ys,xs=[.ref p]/\(hZ X.K H p ys\/la X.K H p ys)/\∀ l,H l=Gb->Q (.ref l) (fH H l (.lst ys))):=by
 intro ω s σ H xs us Q I r h;obtain⟨p,ys,rfl,hq,q⟩:=h;obtain⟨u,rfl,rx⟩:=mf r;cases rx;have fin:∀ (its:List Gg),fV ys its->ys.length<=sizeLine->∀ (h':Heap) (c':Nat),(∀ b o',s.heap.get? b=Ga o'->h'.get? b=Ga o') ->
   h'.get? s.heap.objs.size=Ga { cls:=.type "list",dict:=Gb,data:=.seq its.toArray c',slots:=#[] }->EP X ω σ Q (.ref s.heap.objs.size) { s with heap:=h' }:=λits r' hz h' c' kp e =>
  ⟨.ref s.heap.objs.size,_,I.laid (t':=s.toks) kp (jw _) (show iy X.prog X.w _ h' _ (.lst ys) from⟨hz,its,c',r',e⟩),rfl,q _ (I.hok.fresh (jw _))⟩
 rcases hq with hq|hq
 .obtain⟨its,r',pl,hz⟩:=I.list hq;have hlen:=r'.length;obtain⟨o,ho,hc,n,hd⟩:=pl.isList;exact call_list_seq p (.inl rfl) ho hc hd (λh' c' kp e=>fin its r' hz h' c' kp e) (by simp only[jv]<;>omega)
 .obtain⟨its,r',pl,hz⟩:=I.tuple hq;have hlen:=r'.length;obtain⟨o,ho,hc,n,hd⟩:=pl;exact call_list_seq p (.inr rfl) ho hc hd (λh' c' kp e=>fin its r' hz h' c' kp e) (by simp only[jv]<;>omega)
def zm:iH X (.type "tuple") (λxs H Q=>∃ p ys,xs=[.ref p]/\((hZ X.K H p ys/\∀ l,H l=Gb->Q (.ref l) (fH H l (.tup ys)))\/(la X.K H p ys/\Q (.ref p) H))):=by
 intro ω s σ H xs us Q I r h;obtain⟨p,ys,rfl,h⟩:=h;obtain⟨u,rfl,rx⟩:=mf r;cases rx;rcases h with ⟨hq,q⟩|⟨hq,q⟩
 .obtain⟨its,r',pl,hz⟩:=I.list hq;have hlen:=r'.length;refine call_tuple_list pl.isList (λh' kp=>?_) (by simp only[jv]<;>omega);have I1:fB X ω σ H { s with heap:=h' }:=I.kept (t':=s.toks) kp;have I2:fB X ω σ (fH H h'.objs.size (.tup ys)) { s with heap:=h'.push { cls:=.type "tuple",data:=.seq its.toArray } } :=
   I1.laid (t':=s.toks) (λb o e=>jj _ e) (jw _) (show iy X.prog X.w _ _ _ (.tup ys) from⟨hz,its,r',IsTup.new _ _⟩)
  exact⟨.ref h'.objs.size,_,I2,rfl,q _ (I1.hok.fresh (jw _))⟩
 .obtain⟨its,r',pl,hz⟩:=I.tuple hq;exact call_tuple_same pl ⟨.ref p,H,I,rfl,q⟩
def Lz (K:jb)(T:String)(x:V)(H:Hp):Prop:=match x with
 | .str _=>T="str"
 | .int _=>T="int"
 | .ref p=>(T="list"/\∃ xs,hZ K H p xs)\/(T="tuple"/\∃ o,K.lookup p=Ga o/\o.cls=.type "tuple"/\o.dict=Gb) \/
   (T="dict"/\∃ kvs,H p=Ga (.dK kvs))
 | _=>False
def DN{T:String}{x:V}{v:Gg}(I:fB X ω σ H s)(r:gq x v)(ty:Lz X.K T x H) :
  s.TypeIs v T/\∀ a,v=.ref a->∃ ob,s.heap.get? a=Ga ob/\ob.dict=Gb:=by
 cases x with
 | str z =>
  obtain⟨t,rfl⟩:=r;cases(show T="str" from ty);exact⟨typeIs_str s z t,λ_ e=>nomatch e⟩
 | int i =>
  obtain⟨t,rfl⟩:=r;cases(show T="int" from ty);exact⟨typeIs_int s i t,λ_ e=>nomatch e⟩
 | ref p =>
  cases r;rcases ty with ⟨rfl,xs,hq⟩|⟨rfl,o,hk,hc,hd⟩|⟨rfl,kvs,hk⟩
  .obtain⟨its,_,pl,_⟩:=I.list hq;refine⟨pl.isList.typeIs,λa e=>?_⟩;cases e;obtain⟨o,n,e,c,hd,_⟩:=pl;exact⟨o,e,hd⟩
  .refine⟨⟨o,I.kIn p o hk,hc⟩,λa e=>?_⟩;cases e;exact⟨o,I.kIn _ o hk,hd⟩
  .obtain⟨_,_,_,_,o,_,_,e,ex,_⟩:=I.hok p _ hk;refine⟨⟨o,e,ex.1⟩,λa e2=>?_⟩;cases e2;exact⟨o,e,ex.2.1⟩
 | _=>exact False.elim ty
def WA (K:jb)(T:String)(r:V->List V->Hp->VK->Prop)(to:TE):TE:=λσ H Q=>to σ H λx H1=>Lz K T x H1/\r x [] H1 Q
def tBM (K:jb)(T:String)(r:V->List V->Hp->VK->Prop)(to:TE)(t:TA):TE:=λσ H Q=>to σ H λx H1=>Lz K T x H1/\t σ H1 λxs H2=>r x xs H2 Q
variable {o e:Expr}{es:List Expr}{to:TE}{t:TA}{name:Str}{apos cpos:Pos}{T id:String}{r:V->List V->Hp->VK->Prop}
def Nx (pa:PlainAttrs T)(slot:Slot T name id)(hty:typeOf (.builtin id)=pure (.type "method_descriptor"))(hm:yN X id r)(ho:PE X o to)
  (hbase:attributeBase o name X.env (eval o X.env)=eval o X.env:=by rfl) (hline:(apos.endLine==cpos.line)=true:=by rfl):PE X (.Call (.Attribute o name apos) [] [] cpos) (WA X.K T r to):=by
 intro ω s σ H Q I h;refine wpAny_Call_method0_late hbase hline (gn (ho ω s σ H _ I h) λv s1 ⟨x,H1,I1,r1,ty,q1⟩=>?_);obtain⟨h1,h2⟩:=DN I1 r1 ty;exact⟨T,id,pa,slot,hty,h1,h2,Jk rfl (PySem.evalArgs_none (hm ω s1 σ H1 x [] v [] Q I1 r1 .nil q1))⟩
def wv (pa:PlainAttrs T)(slot:Slot T name id)(hty:typeOf (.builtin id)=pure (.type "method_descriptor"))(hm:yN X id r)(ho:PE X o to)(ha:PA X (e::es) t)
  (hbase:attributeBase o name X.env (eval o X.env)=eval o X.env:=by rfl)
  (hfew:((backTo cpos (starEach (e::es) X.env)).all (λx=>!x.1)&&(backToKw cpos (keywordEach [] X.env)).all (λx=>x.1.isSome)
   && decide ((e::es).length+([]:List Keyword).length+(if ([]:List Keyword).isEmpty then 0 else 1)<30))=true:=by rfl)
  (hline:(apos.endLine==cpos.line)=true:=by rfl) (hs:starEach (e::es) X.env=(false,eval e X.env)::starEach es X.env:=by rfl) (hplain:(backTo cpos (starEach es X.env)).any (·.1)=false:=by rfl) :
  PE X (.Call (.Attribute o name apos) (e::es) [] cpos) (tBM X.K T r to t):=by
 intro ω s σ H Q I h;refine wpAny_Call_method_late hbase hfew hline rfl (gn (ho ω s σ H _ I h) λv s1 ⟨x,H1,I1,r1,ty,q1⟩=>?_);obtain⟨h1,h2⟩:=DN I1 r1 ty;refine⟨T,id,pa,slot,hty,h1,h2,?_⟩;have hA:=ha cpos ω s1 σ H1 _ I1 q1;rw[hs] at hA ⊢;refine Jk (by show(false||(backTo cpos (starEach es X.env)).any (·.1))=false;rw[hplain]<;>rfl) (Calls.evalArgs_plain ?_);exact gn hA λus s2 ⟨vs,H2,I2,r2,q2⟩=>hm ω s2 σ H2 x vs v us Q I2 r1 r2 q2
end
def YL (X:Cx)(id:String)(r:V->List V->Hp->VK->Prop):Prop :=
 ∀ (ω:List (Gk×Obj)) (s:Gh) (σ:St) (H:Hp) (x:V) (xs:List V) (v:Gg) (us:List Gg) (Q:VK),fB X ω σ H s->gq x v->fV xs us->r x xs H Q ->
  wpAny (model X.prog X.w) X.A (call (.builtin id) (v::us)) (EP X ω σ Q) X.xe s
def fV.one:∀ {x:V} {us:List Gg},fV [x] us->∃ u,us=[u]/\gq x u
 | _,_,.cons r .nil=>⟨_,rfl,r⟩
def fV.rep {xs:List V}{us:List Gg}(h:fV xs us):∀ k:Nat,fV (jB k xs).flatten (jB k us).flatten
 | 0=>.nil
 | k+1=>by
  rw[uk,uk,uP,uP];exact fV.append h (fV.rep h k)
def yJ (its:List Gg):∀ (k:Nat) (acc:List Gg),
  Vp (λx1 x2=>x1++x2) acc.toArray (jB k its.toArray)=(acc++(jB k its).flatten).toArray
 | 0,acc=>by simp
 | k+1,acc=>by
  have e:acc.toArray++its.toArray=(acc++its).toArray:=by simp
  have e2:(acc++its)++(jB k its).flatten=acc++(jB (k+1) its).flatten:=by
   rw[uk,uP,j3]
  rw[<- e2,<- yJ its k (acc++its),<- e,uk,Jv]
def fB.lset {its':List Gg}{f:Array Gg->Array Gg}(I:fB X ω σ H s)(hH:H l=Ga (.lst xs))
  (e:s.heap.get? l=Ga { cls:=.type "list",data:=.seq its.toArray n }) (hf:f its.toArray=its'.toArray) (hv:fV ys its') (hz:ys.length<=sizeLine) :
  fB X ω σ (fH H l (.lst ys)) { s with heap:=s.heap.update l (jW f),toks:=t' }:=by
 have q:=PySem.IsL.update e f;rw[hf] at q;refine I.write (x:=l) (e:=l) (by rw[hH];exact trivial) (.inl rfl) (λb' u hb hu=>(kS s.heap (jW f) (ur hb)).trans hu) ⟨_,q⟩ ?_;exact⟨hz,its',_,hv,q⟩
def fB.lnew(I:fB X ω σ H s)(hv:fV ys its)(hz:ys.length<=sizeLine) :
  fB X ω σ (fH H s.heap.objs.size (.lst ys)) { s with heap:=s.heap.push { cls:=.type "list",data:=.seq its.toArray },toks:=t' } :=
 I.laid (λ_ _ q=>jj _ q) (jw _) ⟨hz,its,0,hv,jA _ rfl⟩
def fB.fresh (I:fB X ω σ H s):H s.heap.objs.size=Gb:=I.hok.fresh (jw _)
def fB.lstM (I:fB X ω σ H s)(hH:H l=Ga (.lst xs)):xs.length<=sizeLine/\∃ (its:List Gg) (n:Nat),fV xs its/\xs.length=its.length/\s.heap.get? l=Ga { cls:=.type "list",data:=.seq its.toArray n }:=by
 obtain⟨z,its,n,r,e⟩:=I.hok l _ hH;exact⟨z,its,n,r,r.length,e⟩
def Fb(h:n<=sizeLine):vS n=false:=by
 unfold vS;exact Gd (by omega)
def HK:V->List V->Hp->VK->Prop:=λx vs H Q=>∃ l xs y,x=.ref l/\vs=[y]/\H l=Ga (.lst xs)/\xs.length<sizeLine/\Q .non (fH H l (.lst (xs++[y])))
def yL:YL X "list.append" HK:=by
 intro ω s σ H x vs v us Q I rx rv h;obtain⟨l,xs,y,rfl,rfl,hH,hz,q⟩:=h;cases rx;obtain⟨u,rfl,ru⟩:=rv.one;obtain⟨z,its,n,r,hl,e⟩:=I.lstM hH;refine call_meets PySem.F.slot_list_append ⟨_,e,rfl⟩ PySem.F.entry_list_append (PySem.F.args_list_append_2 _ _) (PySem.list_append l its.toArray n u (by rw[jv];omega)) ⟨e,?_⟩;refine⟨.non,_,I.lset (its':=its++[u]) hH e (by simp) (r.append (.cons ru .nil)) ?_,rfl,q⟩;rw[je,jU];omega
def Wc:R2:=λx y H Q=>∃ l k xs,x=.ref l/\y=.int k/\H l=Ga (.lst xs)/\-(2^63)<=k/\k<2^63/\xs.length*k.toNat<=sizeLine /\
 ∀ p,H p=Gb->Q (.ref p) (fH H p (.lst (jB k.toNat xs).flatten))
def HI(xs:List α)(k:Nat):(jB k xs).flatten.length=k*xs.length:=by
 induction k with
 | zero=>simp
 | succ k ih=>rw[uk,uP,je,ih,Nat.succ_mul,Nat.add_comm]
def ME:ir X (binaryOp .Mult) Wc:=by
 intro ω s σ H x y v u Q I rx ry h;obtain⟨l,k,xs,rfl,rfl,hH,h1,h2,hz,q⟩:=h;cases rx;obtain⟨t,rfl⟩:=ry;obtain⟨z,its,n,r,hl,e⟩:=I.lstM hH;have hlen:its.toArray.size*k.toNat<=sizeLine:=by rwa[jv,<- hl]
 have hcap:¬its.toArray.size*k.toNat>(2^63-1)/8:=by
  have:(sizeLine:Nat)<=(2^63-1)/8:=by decide
  omega
 have hfit:¬(!Builtin.List.listFitsIndex k)=true:=by
  rw[fitsIndex_both h1 h2];exact jH
 have hlong:¬vS (its.toArray.size*k.toNat)=true:=by
  rw[Fb hlen];exact jH
 have hnew:Vp (λx1 x2=>x1++x2) #[] (jB (if its.toArray.isEmpty=true then 0 else k.toNat) its.toArray)=(jB k.toNat its).flatten.toArray:=by
  have f0:∀ m:Nat,Vp (λx1 x2=>x1++x2) #[] (jB m its.toArray)=(jB m its).flatten.toArray:=λm=>by
   have:=yJ its m [];rw[vX] at this;exact this
  rw[f0];cases its with
  | nil=>simp
  | cons a r'=>rw[Gf (by simp)]
 refine wpAny_binaryOp_repeat_ref (T:="list") (U:="int") (by decide) ⟨_,e,rfl⟩ (λs'=>typeIs_int s' k t) noFill_list_mul PySem.F.fills_int_mul PySem.F.slot_int_rmul repeat_list PySem.F.slot_int_index.lookup
  (call_meets PySem.F.slot_int_rmul (typeIs_int s k t) PySem.F.entry_int_rmul (PySem.F.args_int_rmul_2 _ _) (int___rmul___int_list k t l its.toArray n)
   ⟨e,rfl,⟨_,e,rfl⟩,call_meets PySem.F.slot_list_mul ⟨_,e,rfl⟩ PySem.F.entry_list_mul (PySem.F.args_list_mul_2 _ _) (AutoListH.list___mul___list_int_3 l its.toArray n k t hfit hcap hlong) ⟨e,?_⟩⟩)
 rw[hnew];exact⟨.ref _,_,I.lnew (t':=s.toks) (r.rep k.toNat) (by rwa[HI,Nat.mul_comm]),rfl,q _ I.fresh⟩
end L2
namespace Att
open PySem PySem.W PySem.Calls PyProof.Rows
variable {P:Params}{h:Heap}{l:OpenLaw}{n:Nat}
def xU:∀ (ns:List Int) (vs:List Gg),WellAll P h vs (ns.map WData.int)->IntsAre vs ns:=by
 intro ns;induction ns with
 | nil =>
  intro vs w;rw[qc] at w;cases w;exact .nil
 | cons n ns ih =>
  intro vs w;rw[jO] at w;cases w with
  | cons a b =>
   cases a;exact .cons _ _ (ih _ b)
def ET(hn:l.most=Ga n){args:List WData}{vals:List Gg}
  (hpre:l.row.toRowW.claim.pre args=true) (hwl:WellAll P h vals args) :
  ∃ a vs ns,vals=[kF a]/\args=[WData.list (ns.map WData.int)]/\h.get? a=Ga { cls:=.type "list",data:=.seq vs.toArray }/\IntsAre vs ns/\ns.length<=n:=by
 have hsh:WShape.hasAll [] args [.list .int]=true:=(pre_splitW hpre).1;have hc:l.pre.holds [] { args:=args }=true:=(pre_splitW hpre).2;obtain⟨d,r,rfl,h1,h2⟩:=hasAllW_cons hsh;obtain rfl:=hasAllW_nil h2;obtain⟨xs,rfl,h3⟩:=hasW_list h1;obtain⟨ns,rfl⟩:=items_int h3;have hlen:ns.length<=n:=by
  unfold OpenLaw.pre at hc;have h4:(WTm.not (.lt (.lit (.int (n:Int))) (.len (.arg 0)))).holds [] { args:=[.list (ns.map .int)] }=true:=by
   have h4:=(holds_andW hc).1;rw[hn] at h4;exact h4
  have h5:=condW_of h4 (w_not (w_lt w_lit (w_len_list (w_arg rfl))));rw[jc] at h5;refine Nat.le_of_not_lt λq=>?_;have q':(n:Int)<((ns.length:Nat):Int):=by omega
  first
   | (rw[Gc q'] at h5;exact absurd h5 (by decide))
   | (simp at h5;omega)
 cases hwl with
 | cons w1 w2 =>
  cases w2;cases w1 with
  | list ho hall=>exact⟨_,_,ns,rfl,rfl,ho,xU ns _ hall,hlen⟩
def DG (l:OpenLaw)(args:List WData):l.row.toRowW.claim.post args (.bool true) args=true :=
 postW_of (r:=l.row.toRowW) (X:=(true==true))
  (show WShape.has [] (.bool true) .bool=true by first|rfl|decide|simp[WShape.has,WShape.arms,WShape.armsAll])
  (show(WTm.eq .res (.lit (.bool true))).value [] { args:=args,res:=Ga (.bool true),after:=args }=Ga (.bool (true==true)) from w_eq_bool (w_res rfl) w_lit) rfl
def attach_call{q:Program}{loose:List Str}{XP:(Str->Option Gg)->Heap->Prop}{YP:World->Heap->Prop}{d:DefRec}
  (hn:l.most=Ga n) (hdf:d.params.defaults=[])
  (call:∀ (w:World) (s₀ s₁:Gh) (mg mb:Str->Option Gg) (fa:Gk) (o:Obj) (pm cd doc:Gg) (a:Gk) (vs:List Gg) (ns:List Int),
   Ground q loose [] XP w s₀ mg mb s₁.heap->YP w s₁.heap ->
   s₁.heap.get? fa=Ga o->o.data=.func (docDef d.name d.params d.body d.scope pm cd doc)->s₁.heap.CodeRec cd d.name->mg d.name=Ga (.ref fa) ->
   s₁.heap.get? a=Ga { cls:=.type "list",data:=.seq vs.toArray }->IntsAre vs ns->ns.length<=n->s₁.gens=#[] ->
   codeAny (model l.prog w) callerA (.call (.ref fa) ⟨[.ref a],[]⟩) (λr s'=>r=.ok (.ret (.bool true))/\OldK s₁.heap s'.heap/\s'.os=s₁.os/\AllBare s'.gens) s₁) :
  WalkO q loose XP YP l.row.toRowW d [] (λf vs=>Vq f vs):=by
 intro w s₀ s₁ mg mb G Y fa o pm cd doc dV kV ho hd hcd hD hmg hg args vals as hpre hlay hrd hwl hlo;obtain rfl:dV=.none:=Dflts.none hD hdf;obtain rfl:kV=.none:=Dflts.noKw hD;obtain⟨a,vs,ns,rfl,rfl,hobj,hints,hlen⟩:=ET hn hpre hwl;refine enter_call (codeAny_mono (call w s₀ s₁ mg mb fa o pm cd doc a vs ns G Y ho (fd_plain hd) hcd hmg hobj hints hlen hg) λr s' hq=>?_);obtain⟨rfl,h2,h3,h4⟩:=hq;exact⟨.inl ⟨.bool true,.bool true,[],rfl,λ_=>rfl,.bool true,DG l _,λ_=>⟨List.Pairwise.nil,λ_ hm=>(nomatch hm)⟩⟩,h2,h3,h4⟩
end Att
namespace L2
open PySem PySem.Spec PyProof.Rows
def zh:∀ {vs:List Gg} {ns:List Int},IntsAre vs ns->fV (ns.map V.int) vs
 | _,_,.nil=>.nil
 | _,_,.cons n t h=>.cons ⟨t,rfl⟩ (zh h)
def CZ (H:Hp):Prop:=∀ b,H b=Gb\/∃ o xs,H b=Ga (.frz o (.lst xs))
variable {CX:sv}{P q:Program}{a f:Gk}{k n:Nat}{mg:Str->Option Gg}{sp:Sp}{w:World}{x qual:Str}{K:Params->jb}{XP:(Str->Option Gg)->Heap->Prop}{YP:World->Heap->Prop}{d:DefRec}{l:Vm}{loose ps:List Str}{X:Cx}{base h h':Heap}{st:Stmt}{u r:Gg}{H H':Hp}{kvs:List (gI×V)}{v y:V}{s:Gh}{σ:St}{ω:List (Gk×Obj)}{A:Around}{E Q:Gg->Gh->Prop}{o:Option V}{pos:Pos}
def Fc{K:jb}{mb:Str->Option Gg}{fa:Gk}{fd:Gj}{s₁:Gh}{vs:List Gg}{ns:List Int}
  (KX:K.In s₁.heap) (hns:s₁.heap.Ns mainGlobals mg) (hb:s₁.heap.Ns builtinsNs mb) (hbb:∀ x:Str,x≠"__name__"->mb x=bootBuiltins x) (hlim:s₁.heap.NoLimit) (hg:s₁.gens=#[])
  (ha:s₁.heap.get? a=Ga { cls:=.type "list",data:=.seq vs.toArray }) (hi:IntsAre vs ns) (hl:ns.length<=sizeLine) (hr:ic k callerA)
  (F:∀ base:Heap,K.In base->base.Ns mainGlobals mg->fM P w K mg base CX k fa fd [x] sp) (hbind:∀ (s:Gh) (u:Gg),BindsTo s fd ⟨[u],[]⟩ [(x,u)])
  (hsp:∀ H:Hp,CZ H->hZ K H a (ns.map V.int)->sp [.ref a] H (λv _=>v=.bl true) λ_ _ _=>False)
  (hCX:∀ H e s',CX [] H s₁ (λ_ _ _=>False) e s'->False) :
  codeAny (model P w) callerA (.call (.ref fa) ⟨[.ref a],[]⟩) (λr s'=>r=.ok (.ret (.bool true))/\OldK s₁.heap s'.heap/\s'.os=s₁.os/\AllBare s'.gens) s₁:=by
 have rv:=zh hi;have lenV:=hi.length;have core:∀ H:Hp,CZ H->hZ K H a (ns.map V.int)->lJ P w H s₁.heap->(∀ b,H b≠Gb->b=a)->(H a≠Gb->K.lookup a=Gb) ->
   codeAny (model P w) callerA (.call (.ref fa) ⟨[.ref a],[]⟩) (λr s'=>r=.ok (.ret (.bool true))/\OldK s₁.heap s'.heap/\s'.os=s₁.os/\AllBare s'.gens) s₁:=by
  intro H hO hS hok hA hK;have base_of:∀ {b:Gk} {o:Obj},s₁.heap.get? b=Ga o->H b=Gb->(sy s₁.heap H).get? b=Ga o:=λe n=>Fe e n;have noA:∀ {b:Gk} {o:Obj} {es:Array DictEntry} {ep:Nat},s₁.heap.get? b=Ga o->o.data=.dict es ep->H b=Gb:=λ{b o es ep} e d=>by
   cases q:H b with
   | none=>rfl
   | some u =>
    have e':b=a:=hA b (by rw[q];simp);subst e';rw[ha] at e;cases e;have d':Data.seq vs.toArray _=Data.dict es ep:=d;cases d'
  have nsK:∀ {b:Gk} {m:Str->Option Gg},s₁.heap.Ns b m->(sy s₁.heap H).Ns b m:=λ{b m} ⟨o,es,ep,e,d,r⟩=>⟨o,es,ep,base_of e (noA e d),d,r⟩;have hKb:K.In (sy s₁.heap H):=λb o e=>base_of (KX b o e) (by
   cases q:H b with
   | none=>rfl
   | some u =>
    have e':b=a:=hA b (by rw[q];simp);subst e';rw[hK (by rw[q];simp)] at e;cases e)
  have hM:Mod K mg (sy s₁.heap H):=⟨hKb,nsK hns,⟨mb,nsK hb,hbb⟩,let ⟨mc,h1,h2⟩:=hlim;⟨mc,nsK h1,h2⟩⟩;have e0:xo P w K mg (sy s₁.heap H) callerA [] s₁ H:=⟨rfl,hM,λb o e=>HU e,Nat.le_of_eq (Dt _ _),trivial,λb hb=>absurd (show b∈([]:List Gk) from hb) (by simp),hok,.of_eq hg⟩;refine codeAny_mono ((F _ hKb (nsK hns)).run callerA [] s₁ H ⟨[.ref a],[]⟩ [.ref a] [.ref a] _ _ hr e0 (hbind s₁ (.ref a)) (.cons rfl .nil) (hsp H hO hS)) λr s' h=>?_;cases r with
  | error e=>exact(hCX H e s' h).elim
  | ok fl =>
   cases fl with
   | next=>exact False.elim h
   | brk=>exact False.elim h
   | cont=>exact False.elim h
   | ret u =>
    obtain⟨v,H',os,bare,un,hok',r',q⟩:=h;have q':v=.bl true:=q;subst q';obtain rfl:u=ve true:=r';refine⟨rfl,OldK.of_keep λb o e=>?_,os,bare⟩;cases q:H b with
    | none=>exact un.keep b o e q (by intro z;exact absurd (show b∈([]:List Gk) from z) (by simp)) (by simp)
    | some u =>
     rcases hO b with z|⟨ob,xs,z⟩
     .rw[q] at z;cases z
     .have z2:=un.frzs b ob _ z;obtain⟨e1,_⟩:=hok b _ z;obtain⟨e2,_⟩:=hok' b _ z2;rw[e] at e1;cases e1;exact e2
 cases hk:K.lookup a with
 | some o =>
  have e:=KX a o hk;rw[ha] at e;cases e;refine core (λ_=>Gb) (λ_=>.inl rfl) (.inr ⟨_,vs.toArray,_,hk,rfl,rfl,rfl,by rwa[jv,lenV],by simpa using rv⟩) (λb u z=>by have z':(Gb:Option HO)=Ga u:=z;cases z') (λb z=>absurd rfl z) λz=>absurd rfl z
 | none =>
  refine core (λb=>if b=a then Ga (.frz { cls:=.type "list",data:=.seq vs.toArray } (.lst (ns.map V.int))) else Gb) (λb=>?_) (.inl (.inr ⟨{ cls:=.type "list",data:=.seq vs.toArray },Ge rfl⟩)) (λb u z=>?_) (λb z=>?_) λ_=>hk
  .by_cases hb:b=a
   .exact .inr ⟨_,_,Ge hb⟩
   .exact .inl (Gf hb)
  .by_cases hb:b=a
   .have z':=(Ge hb).symm.trans z;cases z';subst hb;exact⟨ha,by rwa[jc],vs,_,rv,ha⟩
   .have z':=(Gf hb).symm.trans z;cases z'
  .by_cases hb:b=a
   .exact hb
   .exact absurd (Gf hb) z
def HQ{CX:World->sv}{sp:World->Sp}
  (hn:l.most=Ga n) (hn2:n<=sizeLine) (hdf:d.params.defaults=[]) (hr:ic k callerA)
  (hY:∀ (w:World) (h:Heap),YP w h->(K w.params).In h)
  (F:∀ (w:World) (mg:Str->Option Gg) (fa:Gk) (h:Heap),(K w.params).In h->h.Ns mainGlobals mg->mg d.name=Ga (.ref fa) ->
   ∃ fd:Gj,(∀ (s:Gh) (u:Gg),BindsTo s fd ⟨[u],[]⟩ [(x,u)]) /\
    ∀ base:Heap,(K w.params).In base->base.Ns mainGlobals mg->fM l.prog w (K w.params) mg base (CX w) k fa fd [x] (sp w))
  (hsp:∀ (w:World) (H:Hp) (a:Gk) (ns:List Int),ns.length<=n->CZ H->hZ (K w.params) H a (ns.map V.int)->sp w [.ref a] H (λv _=>v=.bl true) λ_ _ _=>False)
  (hCX:∀ (w:World) (H:Hp) (s:Gh) (e:Gg) (s':Gh),CX w [] H s (λ_ _ _=>False) e s'->False) :
  Vx q loose XP YP l.row.toRowW d [] (λf vs=>Vq f vs):=by
 refine Att.attach_call hn hdf λw s₀ s₁ mg mb fa o pm cd doc a vs ns G Y ho hd hcd hmg hobj hints hlen hg=>?_;have KX:=hY w _ Y;obtain⟨fd,hb,hF⟩:=F w mg fa _ KX G.T.g hmg;exact Fc KX G.T.g G.T.b G.T.builtins G.T.nolimit hg hobj hints (jI hlen hn2) hr hF hb (λH hO hS=>hsp w H a ns hlen hO hS) λH e s'=>hCX w H s₁ e s'
def walk_ofK{sp:jb->Sp}
  (hn:l.most=Ga n) (hn2:n<=sizeLine) (hdf:d.params.defaults=[]) (hr:ic k callerA)
  (hY:∀ (w:World) (h:Heap),YP w h->(K w.params).In h)
  (F:∀ (w:World) (mg:Str->Option Gg) (fa:Gk) (h:Heap),(K w.params).In h->h.Ns mainGlobals mg->mg d.name=Ga (.ref fa) ->
   ∃ fd:Gj,(∀ (s:Gh) (u:Gg),BindsTo s fd ⟨[u],[]⟩ [(x,u)]) /\
    ∀ base:Heap,(K w.params).In base->base.Ns mainGlobals mg->fM l.prog w (K w.params) mg base CX k fa fd [x] (sp (K w.params)))
  (hsp:∀ (K:jb) (H:Hp) (a:Gk) (ns:List Int),ns.length<=n->CZ H->hZ K H a (ns.map V.int)->sp K [.ref a] H (λv _=>v=.bl true) λ_ _ _=>False)
  (hCX:∀ (H:Hp) (s:Gh) (e:Gg) (s':Gh),CX [] H s (λ_ _ _=>False) e s'->False) :
  Vx q loose XP YP l.row.toRowW d [] (λf vs=>Vq f vs) :=
 HQ (K:=K) (CX:=λ_=>CX) (sp:=λw=>sp (K w.params)) hn hn2 hdf hr hY F (λw H a ns h1 h2 h3=>hsp (K w.params) H a ns h1 h2 h3) λ_ H s e s'=>hCX H s e s'
abbrev CX0:sv:=λ_ _ _ _ _ _=>False
abbrev E0:XK:=λ_ _ _=>False
def wt:sj CX0 X E0:=λ_ _ _ _ _ _ _ h=>h.elim
structure rF (K:jb)(x qual:Str)(st:Stmt)(f:Gk)(fd:Gj):Prop where
 ex:∃ (oc:Gg) (od:Option Gk) (kV doc pm:Gg) (an:Option Gk) (cdv ct:Gg) (osl:Array (Option Gg)),
  fd=kZ x qual (defArgs st) (defBody st) (defScope st) .none kV doc pm an cdv ct/\K.lookup f=Ga ⟨oc,od,.func fd,osl⟩/\vB K cdv qual=true
 kp:uc K (.ref f)=true
variable {K:jb}
def rF.ok{fd:Gj}{N:List Str}(F:rF K x qual st f fd)(S:fF N ps (defScope st))(len:∀ vs H Q E,sp vs H Q E->vs.length=ps.length)
  (hbody:∀ (cdv:Gg) (A:Around) (outer:List Env) (s:Gh) (H:Hp) (vs:List V) (Q:VK) (E:XK),ic k (A.deeper (envOfC qual (defScope st) s.heap.objs.size f cdv))->sp vs H Q E ->
   ∃ t,nV (nU CX0 P w K mg base N qual (defScope st) f cdv A outer s H E).nox (defBody st) t/\t { nx:=λ_ H'=>Q .non H',rt:=Q } (start N vs) H):fM P w K mg base CX0 (k+1) f fd ps sp:=by
 obtain⟨oc,od,kV,doc,pm,an,cdv,ct,osl,rfl,lk,hcd⟩:=F.ex;refine OZ lk hcd S len λA outer s H vs Q E hr hsp=>?_;obtain⟨t,h,q⟩:=hbody cdv A outer s H vs Q E hr hsp;exact⟨t,h.nox,q⟩
def rF.binds{fd:Gj}(F:rF K x qual st f fd)
  (h:∀ (kV doc pm:Gg) (an:Option Gk) (cdv ct:Gg) (us:List Gg),us.length=ps.length->bindArgs (kZ x qual (defArgs st) (defBody st) (defScope st) .none kV doc pm an cdv ct) ⟨us,[]⟩=pure (ps.zip us)):ma K fd ps []:=by
 obtain⟨oc,od,kV,doc,pm,an,cdv,ct,osl,rfl,lk,hcd⟩:=F.ex;exact .all (h kV doc pm an cdv ct)
def Eu{oc:Gg}{od an:Option Gk}{osl:Array (Option Gg)}{kV doc pm cdv ct:Gg}(l:K.lookup f=Ga ⟨oc,od,.func (kZ x qual (defArgs st) (defBody st) (defScope st) .none kV doc pm an cdv ct),osl⟩)
  (c:vB K cdv qual=true) (k:uc K (.ref f)=true):rF K x qual st f (kZ x qual (defArgs st) (defBody st) (defScope st) .none kV doc pm an cdv ct):=⟨⟨oc,od,kV,doc,pm,an,cdv,ct,osl,rfl,l,c⟩,k⟩
def tS(h:n<=1000):n<sizeLine:=JU h (by decide)
def oG {A B:Prop}(h:B):if false=true then A else B:=by
 rwa[Gf jH]
def oK {A B:Prop}(h:A):if true=true then A else B:=by
 rwa[Ge rfl]
section
variable {κ:Type}[DecidableEq κ]
def pY (kvs:List (κ×V))(k:κ):Option V:=(kvs.find? λkv=>decide (kv.1=k)).map (·.2)
def sE (kvs:List (κ×V))(k:κ)(v:V):List (κ×V) :=
 if (kvs.any λkv=>decide (kv.1=k))=true then kvs.map (λkv=>if kv.1=k then(kv.1,v) else kv) else kvs++[(k,v)]
variable {k:κ}{p:κ×V}{r kvs:List (κ×V)}{vs:List (κ×Gg)}
def Ah(e:p.1=k):pY (p::r) k=Ga p.2:=by simp[pY,qw,e]
def AS(e:¬p.1=k):pY (p::r) k=pY r k:=by simp[pY,qw,e]
def AV (kvs:List (κ×V))(k:κ)(v:V):(sE kvs k v).length<=kvs.length+1:=by
 unfold sE;split
 .rw[jc];omega
 .rw[je,jC,uy];omega
def oa.isSome_eq{u:Option Gg}(r:oa o u):o.isSome=u.isSome:=by
 cases o with
 | none=>cases u with
  | none=>rfl
  | some _=>exact(show False from r).elim
 | some _=>cases u with
  | none=>exact(show False from r).elim
  | some _=>rfl
def KV.val(r:KV kvs vs)(k:κ):oa (pY kvs k) (valueAt vs k):=by
 unfold KV at r;induction r with
 | nil=>exact True.intro
 | @cons p q ps qs h t ih =>
  obtain⟨h1,h2⟩:=h;by_cases e:p.1=k
  .have e':q.1=k:=h1.symm.trans e;have b:valueAt (q::qs) k=Ga q.2:=by simp[valueAt,qw,e']
   rwa[Ah e,b]
  .have e':¬q.1=k:=λz=>e (h1.trans z);have b:valueAt (q::qs) k=valueAt qs k:=by simp[valueAt,qw,e']
   rwa[AS e,b]
def KV.any {kvs:List (κ×V)}{vs:List (κ×Gg)}(r:KV kvs vs)(k:κ):(kvs.any λkv=>decide (kv.1=k))=vs.any λkv=>decide (kv.1=k):=by
 unfold KV at r;induction r with
 | nil=>rfl
 | cons h t ih=>rw[vT,vT,ih,h.1]
def KV.repl(r:KV kvs vs)(k:κ)(ry:gq y u) :
  KV (kvs.map λkv=>if kv.1=k then(kv.1,y) else kv) (vs.map λkv=>if kv.1=k then(kv.1,u) else kv):=by
 unfold KV at r ⊢;induction r with
 | nil=>exact .nil
 | @cons p q ps qs h t ih =>
  rw[jO,jO];refine .cons ?_ ih;obtain⟨h1,h2⟩:=h;by_cases e:p.1=k
  .rw[Ge e,Ge (h1.symm.trans e)];exact⟨h1,ry⟩
  .rw[Gf e,Gf (λz=>e (h1.trans z))];exact⟨h1,h2⟩
def KV.put(r:KV kvs vs)(k:κ)(ry:gq y u):KV (sE kvs k y) (stored vs k u):=by
 unfold sE stored;rw[r.any k];by_cases e:(vs.any λkv=>decide (kv.1=k))=true
 .rw[Ge e,Ge e];exact r.repl k ry
 .rw[Gf e,Gf e];exact Paired.snoc r ⟨rfl,ry⟩
def KV.length {kvs:List (κ×V)}{vs:List (κ×Gg)}(r:KV kvs vs):kvs.length=vs.length:=Paired.length r
end
variable {k:gI}
def ye(r:gq (kV k) u):(iW P w).is k u=true:=by
 cases k with
 | inl i=>obtain⟨t,e⟩:=(show ∃ t,u=uW i t from r);subst e;exact AX P w i t
 | inr x=>obtain⟨t,e⟩:=(show ∃ t,u=qI x t from r);subst e;exact AU P w x t
def Po {u:HO}(ok:lJ P w H h)(e:Rd H a u):iy P w H h a u:=e.ok ok
def wm(ok:lJ P w H h)(e:Rd H a (.dK kvs)):kvs.length<=sizeLine/\(a==sysModules)=false/\∃ vs,KV kvs vs/\h.DictOf (iW P w) a vs :=
 show iy P w H h a (.dK kvs) from Po ok e
def Pk(ok:lJ P w H h)(e:H a=Ga (.dK kvs)):kvs.length<=sizeLine/\(a==sysModules)=false/\∃ vs,KV kvs vs/\h.DictOf (iW P w) a vs:=wm ok (.inl e)
def Am (H:Hp)(a:Gk)(y:V)(r:Option V):Prop :=
 ∃ kvs k,Rd H a (.dK kvs)/\y=kV k/\r=pY kvs k
def yG (H:Hp)(a:Gk)(y v:V)(H':Hp):Prop :=
 ∃ kvs k,H a=Ga (.dK kvs)/\y=kV k/\kvs.length<sizeLine/\H'=fH H a (.dK (sE kvs k v))
def yG.k9(e:H a=Ga (.dK kvs))(hl:kvs.length<sizeLine):yG H a (kV k) v (fH H a (.dK (sE kvs k v))):=⟨kvs,k,e,rfl,hl,rfl⟩
def fB.big (I:fB X ω σ H s):sysModules<s.heap.objs.size:=by
 have h:mainGlobals<s.heap.objs.size:=(I.mod.glob.keeps I.bk).lt;exact qd (by decide) h
def DY(hu:A.units+1<cLine)(I:fB X ω σ H s)(g:Am H a y (Ga v))(ry:gq y u)(h:∀ w' s',fB X ω σ H s'->gq v w'->Q w' s') :
  wpAny (model X.prog X.w) A (getItem (.ref a) u) Q E s:=by
 obtain⟨kvs,k,e,ey,l⟩:=g;subst ey;obtain⟨z,hd,vs,rel,dd⟩:=wm I.hok e;obtain⟨w',hw,rw'⟩:=oa.some_of (v:=v) (o:=valueAt vs k) (by rw[l];exact rel.val k);exact wpAny_getItem_of (ye ry) dd.mapOf hw (h w' _ (I.tok _) rw')
def HX(hu:A.units+1<cLine)(I:fB X ω σ H s)(g:Am H a y o)(ry:gq y u)(h:∀ s',fB X ω σ H s'->Q (.bool (!o.isSome)) s') :
  wpAny (model X.prog X.w) A (compareOp .NotIn u (.ref a)) Q E s:=by
 obtain⟨kvs,k,e,ey,l⟩:=g;subst ey;obtain⟨z,hd,vs,rel,dd⟩:=wm I.hok e;refine wpAny_notIn_of (ye ry) hd dd.mapOf ?_;rw[<- (rel.val k).isSome_eq,<- l];exact h _ (I.tok _)
def yF{t':Nat}{ob:HO}(I:fB X ω σ H s)(mu:EH (H a))(hs:uu a s.heap h')(he:∃ q,h'.get? a=Ga q)(new:iy X.prog X.w (fH H a ob) h' a ob) :
  fB X ω σ (fH H a ob) { s with heap:=h',toks:=t' } :=
 I.write (x:=a) (e:=a) mu (.inl rfl) (λb q hb z=>(hs.2 b hb).trans z) he new
def Ou{vs:List (gI×Gg)}(z:kvs.length<=sizeLine)(hd:(a==sysModules)=false)(rel:KV kvs vs)(dd:h'.DictOf (iW P w) a vs) :
  iy P w H' h' a (.dK kvs):=⟨z,hd,vs,rel,dd⟩
def DB{Q:Unit->Gh->Prop}(hu:A.units+1<cLine)(I:fB X ω σ H s)(g:yG H a y v H')(ry:gq y u)(rv:gq v r)(h:∀ s',fB X ω σ H' s'->Q () s') :
  wpAny (model X.prog X.w) A (setItem (.ref a) u r) Q E s:=by
 obtain⟨kvs,k,e,ey,l,eH⟩:=g;subst ey eH;obtain⟨z,hd,vs,rel,dd⟩:=Pk I.hok e;have hz:vs.length<=sizeLine:=by rwa[<- rel.length]
 have hl:(sE kvs k v).length<=sizeLine:=by have:=AV kvs k v;omega
 refine wpAny_setItem_pairs (hsz:=hz) (ye ry) dd λh' dd' hs=>h _ ?_;have he:∃ q,h'.get? a=Ga q:=let ⟨q,_,_,hq,_⟩:=dd';⟨q,hq⟩
 exact yF I (by rw[e];exact True.intro) hs he (Ou hl hd (rel.put k rv) dd')
def zJ (i:Expr):Prop:=∀ ov iv,subscripted i false ov iv=operate [ov,iv] (getItem ov iv)
def Bo {prog:Program}{ψ:Env}{value slice:Expr}{T id:String}
  (hl:typeLookup (.type T) "__getitem__"=pure (Ga (.builtin id))) (hs:zJ slice)
  (h:wpAny (model prog w) A (eval value ψ) (λo s₁=>wpAny (model prog w) A (eval slice ψ) (λi s₂=>s₂.TypeIs o T/\wpAny (model prog w) A (getItem o i) Q E s₂) E s₁) E s) :
  wpAny (model prog w) A (eval (.Subscript value slice pos) ψ) Q E s:=by
 refine Subscript_ (wpAny_mono h (λo s₁ h₁=>wpAny_mono h₁ (λi s₂ h₂=>?_) λ_ _ x=>x) λ_ _ x=>x);obtain⟨hT,h₂⟩:=h₂;unfold subscriptTail;refine fk ?_;rw[getitemInPython_of_ne hT.not_modules];refine fk (wpAny_specialOf hT hl ?_);have fin:wpAny (model prog w) A (subscripted slice false o i) (λr s₃=>wpAny (model prog w) A (letTemporaryGo value o r >>= λ_=>pure r) Q E s₃) E s₂:=by
  rw[hs o i];exact wpAny_operating (wpAny_mono h₂ (λr s₃ h₃=>fk (wpAny_letTemporaryGo (fq h₃))) λ_ _ x=>x)
 first
  | exact fq (fk fin)
  | exact fk (fq (fk fin))
  | exact fk fin
def AW(I:fB X ω σ H s)(g:Am H a y o):s.TypeIs (.ref a) "dict":=by
 obtain⟨kvs,k,e,_,_⟩:=g;obtain⟨_,_,vs,_,dd⟩:=wm I.hok e;exact dd.typeIs
def OW (td ty:TE):TE:=λσ H Q=>td σ H λx H1=>ty σ H1 λy H2=>∃ a v,x=.ref a/\Am H2 a y (Ga v)/\Q v H2
def Ia (ty td:TE):TE:=λσ H Q=>ty σ H λy H1=>td σ H1 λx H2=>∃ a o,x=.ref a/\Am H2 a y o/\Q (.bl (!o.isSome)) H2
def OS (td ty tv:TE):TS:=λD σ H=>tv σ H λv H1=>td σ H1 λx H2=>ty σ H2 λy H3=>∃ a H4,x=.ref a/\yG H3 a y v H4/\D.nx σ H4
section
variable {X:Cx}{o i e value:Expr}{pos pos' tpos:Pos}{td ty tv:TE}
def AY (hu:X.A.units+1<cLine)(ho:PE X o td)(hi:PE X i ty)(hs:zJ i):PE X (.Subscript o i pos) (OW td ty):=by
 intro ω s σ H Q I h;refine Bo qP.lookup hs (gn (ho ω s σ H _ I h) λu s1 ⟨x,H1,I1,rx,q1⟩=>gn (hi ω s1 σ H1 _ I1 q1) λiv s2 ⟨y,H2,I2,ry,a,v,ex,g,q2⟩=>?_);subst ex;obtain rfl:u=kF a:=rx;exact⟨AW I2 g,DY hu I2 g ry λw' s3 I3 rw'=>⟨v,H2,I3,rw',q2⟩⟩
def EI (hu:X.A.units+1<cLine)(hi:PE X i ty)(ho:PE X o td):PC X .NotIn i o (Ia ty td):=by
 intro ω s σ H Q I h;refine gn (hi ω s σ H _ I h) λiv s1 ⟨y,H1,I1,ry,q1⟩=>gn (ho ω s1 σ H1 _ I1 q1) λu s2 ⟨x,H2,I2,rx,a,ov,ex,g,q2⟩=>?_;subst ex;obtain rfl:u=kF a:=rx;exact HX hu I2 g ry λs3 I3=>⟨.bl (!ov.isSome),H2,I3,rfl,q2⟩
def Ci (hu:X.A.units+1<cLine)(ho:PE X o td)(hi:PE X i ty)(hv:PE X value tv)(hs:swapsWith value (Ga (.Subscript o i pos')) pos.line X.env=pure false) :
  PS X (.Assign [.Subscript o i pos'] value pos) (OS td ty tv):=by
 intro ω s σ H D I h;refine wpAny_Assign_Subscript (gn (hv ω s σ H _ I h) λr s1 ⟨v,H1,I1,rv,q1⟩=>gn (ho ω s1 σ H1 _ I1 q1) λu s2 ⟨x,H2,I2,rx,q2⟩=>gn (hi ω s2 σ H2 _ I2 q2) λiv s3 ⟨y,H3,I3,ry,a,H4,ex,g,q3⟩=>?_) hs;subst ex;obtain rfl:u=kF a:=rx;exact DB hu I3 g ry rv λs4 I4=>⟨σ,H4,I4,q3⟩
end
def Fa(h:Heap)(hb:sysModules<h.objs.size):iy P w H (h.push { cls:=.type "dict",data:=.dict #[] }) h.objs.size (.dK []) :=
 ⟨kh _,beq_eq_false_iff_ne.mpr (ur (jL hb)),[],.nil,Heap.DictOf.new h⟩
def Im:TE:=λ_ H Q=>∀ p,H p=Gb->Q (.ref p) (fH H p (.dK []))
def zE:PE X (.Dict [] [] pos) Im:=λω s σ H Q I h =>
 wpAny_Dict_empty ⟨.ref s.heap.objs.size,_,I.laid (a:=s.heap.objs.size) (o:=.dK []) (t':=s.toks) (λ_ _ q=>jj _ q) (jw _) (Fa s.heap I.big),rfl,h _ (I.hok.fresh (jw _))⟩
end L2
set_option autoImplicit false
namespace T3
open PySem PySem.Spec
noncomputable instance decD:DecidableEq PyData:=λa b=>Classical.propDecidable (a=b)
mutual
def fZ:PyData->Nat->Bool
 | .none,_=>true
 | .int _,_=>true
 | .tuple _,0=>false
 | .tuple xs,n+1=>iR xs n
 | .bool _,_=>false
 | .str _,_=>false
 | .list _,_=>false
 | .dict _,_=>false
def iR:List PyData->Nat->Bool
 | [],_=>true
 | x::xs,n=>fZ x n&&iR xs n
end
mutual
def rA:PyData->Int
 | .int i=>hashInt i
 | .tuple xs=>reduceHash (k4 (iL xs))
 | _=>0xFCA86420
def iL:List PyData->List Int
 | []=>[]
 | x::xs=>rA x::iL xs
end
mutual
def rm:PyData->Nat
 | .tuple xs=>lv xs+1
 | _=>1
def lv:List PyData->Nat
 | []=>0
 | x::xs=>rm x+lv xs
end
mutual
def DU:∀ (d:PyData) (n:Nat),fZ d n=true->d.canLay0=true/\d.depth<=n
 | .none,_,_=>⟨rfl,kh _⟩
 | .int _,_,_=>⟨rfl,kh _⟩
 | .tuple xs,0,h=>by simp[fZ] at h
 | .tuple xs,n+1,h=>by
  rw[fZ] at h;have:=VA xs n h;exact⟨this.1,Jb this.2⟩
 | .bool _,_,h=>by simp[fZ] at h
 | .str _,_,h=>by simp[fZ] at h
 | .list _,_,h=>by simp[fZ] at h
 | .dict _,_,h=>by simp[fZ] at h
def VA:∀ (xs:List PyData) (n:Nat),iR xs n=true->kq xs=true/\kD xs<=n
 | [],_,_=>⟨rfl,kh _⟩
 | x::xs,n,h=>by
  rw[iR,jl] at h;have a:=DU x n h.1;have b:=VA xs n h.2;refine⟨?_,?_⟩
  .rw[kq,a.1,b.1];rfl
  .rw[kD];omega
end
mutual
def Tv:∀ (a b:PyData) (n m:Nat),fZ a n=true->fZ b m=true->ku a b=true->a=b
 | .none,.none,_,_,_,_,_=>rfl
 | .none,.int _,_,_,_,_,h=>by simp[ku] at h
 | .none,.tuple _,_,_,_,_,h=>by simp[ku] at h
 | .int _,.none,_,_,_,_,h=>by simp[ku] at h
 | .int i,.int j,_,_,_,_,h=>by simp only[ku] at h;rw[beq_iff_eq] at h;rw[h]
 | .int _,.tuple _,_,_,_,_,h=>by simp[ku] at h
 | .tuple _,.none,_,_,_,_,h=>by simp[ku] at h
 | .tuple _,.int _,_,_,_,_,h=>by simp[ku] at h
 | .tuple xs,.tuple ys,0,_,p,_,_=>by simp[fZ] at p
 | .tuple xs,.tuple ys,_+1,0,_,q,_=>by simp[fZ] at q
 | .tuple xs,.tuple ys,n+1,m+1,p,q,h=>by rw[ku] at h;rw[fZ] at p q;rw[PF xs ys n m p q h]
 | .bool _,_,_,_,p,_,_=>by simp[fZ] at p
 | .str _,_,_,_,p,_,_=>by simp[fZ] at p
 | .list _,_,_,_,p,_,_=>by simp[fZ] at p
 | .dict _,_,_,_,p,_,_=>by simp[fZ] at p
 | .none,.bool _,_,_,_,q,_=>by simp[fZ] at q
 | .none,.str _,_,_,_,q,_=>by simp[fZ] at q
 | .none,.list _,_,_,_,q,_=>by simp[fZ] at q
 | .none,.dict _,_,_,_,q,_=>by simp[fZ] at q
 | .int _,.bool _,_,_,_,q,_=>by simp[fZ] at q
 | .int _,.str _,_,_,_,q,_=>by simp[fZ] at q
 | .int _,.list _,_,_,_,q,_=>by simp[fZ] at q
 | .int _,.dict _,_,_,_,q,_=>by simp[fZ] at q
 | .tuple _,.bool _,_,_,_,q,_=>by simp[fZ] at q
 | .tuple _,.str _,_,_,_,q,_=>by simp[fZ] at q
 | .tuple _,.list _,_,_,_,q,_=>by simp[fZ] at q
 | .tuple _,.dict _,_,_,_,q,_=>by simp[fZ] at q
def PF:∀ (xs ys:List PyData) (n m:Nat),iR xs n=true->iR ys m=true->vq xs ys=true->xs=ys
 | [],[],_,_,_,_,_=>rfl
 | [],_::_,_,_,_,_,h=>by simp[vq] at h
 | _::_,[],_,_,_,_,h=>by simp[vq] at h
 | x::xs,y::ys,n,m,p,q,h=>by
  rw[vq,jl] at h;rw[iR,jl] at p q;rw[Tv x y n m p.1 q.1 h.1,PF xs ys n m p.2 q.2 h.2]
end
mutual
def Qd {h h':Heap}{d0:Gk}{o:Obj}{es:Array DictEntry}{ep:Nat}(ho:h.get? d0=Ga o)(hd:o.data=.dict es ep)(hs:uu d0 h h'):∀ (d:PyData) (n:Nat) (v:Gg) (as:List Gk),fZ d n=true->Reads h v d as->Reads h' v d as
 | .none,_,_,_,_,.none=>.none
 | .int _,_,_,_,_,.int i t=>.int i t
 | .tuple _,0,_,_,k,_=>by simp[fZ] at k
 | .tuple xs,n+1,_,_,k,.tuple (a:=a) (o:=o') h1 h2 h3 h4=>by
  rw[fZ] at k;have hne:a≠d0:=by
   rintro rfl;have:o'=o:=jK (h1.symm.trans ho);rw[this,hd] at h3;cases h3
  exact .tuple ((hs.2 a hne).trans h1) h2 h3 (Ux ho hd hs xs n _ _ k h4)
 | .bool _,_,_,_,k,_=>by simp[fZ] at k
 | .str _,_,_,_,k,_=>by simp[fZ] at k
 | .list _,_,_,_,k,_=>by simp[fZ] at k
 | .dict _,_,_,_,k,_=>by simp[fZ] at k
def Ux {h h':Heap}{d0:Gk}{o:Obj}{es:Array DictEntry}{ep:Nat}(ho:h.get? d0=Ga o)(hd:o.data=.dict es ep)(hs:uu d0 h h'):∀ (xs:List PyData) (n:Nat) (vs:List Gg) (as:List Gk),iR xs n=true->ReadsAll h vs xs as->ReadsAll h' vs xs as
 | [],_,_,_,_,.nil=>.nil
 | x::xs,n,_,_,k,.cons h1 h2=>by
  rw[iR,jl] at k;exact .cons (Qd ho hd hs x n _ _ k.1 h1) (Ux ho hd hs xs n _ _ k.2 h2)
end
section
variable {prog:Program}{w:World}
def zuD {A:Around}{E:Gg->Gh->Prop}{s:Gh}{Q:Int->Gh->Prop}(h:Q 0xFCA86420 { s with toks:=s.toks+1 }):wpAny (model prog w) A (pyHash .none) Q E s:=by
 have hT:s.TypeIs .none "NoneType":=rfl;unfold pyHash;have hv:[jX].any Value.onHeap=false:=rfl;refine fk ?_;rw[cRoomFor,Gf (by rw[hv];exact jH)];refine fq (fk (wpAny_specialOf hT PySem.F.slot_NoneType_hash.lookup ?_));show wpAny _ _ (if (Ga (Value.builtin "NoneType.__hash__")==Ga jX)=true then _ else _) Q E s;rw[Gf (by rw[beq_builtin_none];exact jH)];refine fk (wpAny_specialOf hT PySem.F.slot_NoneType_hash.lookup ?_);show wpAny _ _ (callSpecialIfBoundUnlessNone? .none "__hash__" _ >>= _) Q E s;refine fk (wpAny_callSpecialIfBoundUnlessNone?_slot hT PySem.F.slot_NoneType_hash (wpAny_call_entry PySem.F.slot_NoneType_hash hT PySem.F.entry_NoneType_hash (show wpAny _ _ (do ret (<- mkInt 0xFCA86420)) _ _ s from wpAny_ret_mkInt ?_) (PySem.F.args_NoneType_hash_1 _)));show wpAny _ _ (if (decide (-(2:Int)^63<=0xFCA86420)&&decide ((0xFCA86420:Int)<2^63))=true then _ else _) Q E _;rw[Ge (by decide)];exact fq h
def xR (prog:Program)(w:World)(d:PyData):Prop:=∀ (A:Around) (E:Gg->Gh->Prop) (s:Gh) (v:Gg) (as:List Gk) (Q:Int->Gh->Prop),A.units+d.depth<cLine->Reads s.heap v d as->Q (rA d) { s with toks:=s.toks+rm d }->wpAny (model prog w) A (pyHash v) Q E s
def Tc:∀ (xs ys:List PyData),iL (xs++ys)=iL xs++iL ys
 | [],ys=>by rw[iL];rfl
 | x::xs,ys=>by rw[ul,iL,iL,Tc xs ys];rfl
def Rg:∀ (xs ys:List PyData),lv (xs++ys)=lv xs+lv ys
 | [],ys=>by rw[lv];exact(vg _).symm
 | x::xs,ys=>by rw[ul,lv,lv,Rg xs ys,qZ]
def Tl:∀ {xs:List PyData} {x:PyData},x∈xs->x.depth<=kD xs
 | y::ys,x,h=>by
  rw[kD];rcases jo.mp h with rfl|h
  .omega
  .have:=Tl h;omega
variable {xs:List PyData}
def YE(IH:∀ x∈xs,xR prog w x):xR prog w (.tuple xs):=by
 intro A E s v as Q hu r q;cases r with
 | @tuple a o vs n' _ _ h1 h2 h3 h4 =>
  rw[rA,rm] at q;have hT:s.TypeIs (.ref a) "tuple":=⟨o,h1,h2⟩;have hu':A.units+(kD xs+1)<cLine:=hu;unfold pyHash;unfold pyHashByItsType;refine fk (wpAny_cRoomFor_or (.inr (by omega)) ?_);refine fk (wpAny_specialOf hT PySem.F.slot_tuple_hash.lookup ?_);show wpAny _ _ (if (Ga (Value.builtin "tuple.__hash__")==Ga jX)=true then _ else _) Q E s;rw[Gf (by rw[beq_builtin_none];exact jH)];refine fk (wpAny_specialOf hT PySem.F.slot_tuple_hash.lookup ?_);show wpAny _ _ (callSpecialIfBoundUnlessNone? (.ref a) "__hash__" _ >>= _) Q E s;refine fk (wpAny_callSpecialIfBoundUnlessNone?_slot hT PySem.F.slot_tuple_hash (wpAny_call_entry PySem.F.slot_tuple_hash hT PySem.F.entry_tuple_hash ?_ (PySem.F.args_tuple_hash_1 _)));show wpAny _ _ (vC (.ref a) >>= _) _ _ s;refine fk (wpAny_tupleItemsOf h1 h3 ?_);refine fk ?_;rw[<- JV];refine wpAny_forIn_list _
   (λrest (b:Array Int) s'=>∃ dn lf bs,xs=dn++lf/\ReadsAll s.heap rest lf bs/\b.toList=iL dn/\s'={ s with toks:=s.toks+lv dn })
   _ ?_ ?_ _ _ ⟨[],xs,_,rfl,h4,rfl,rfl⟩
  .rintro x rest b s' ⟨dn,lf,bs,e,hl,hb,rfl⟩;cases hl with
   | @cons _ _ d ds as1 bs1 r1 r2 =>
    have hm:d∈xs:=by rw[e];exact jD _ jf
    have hd:=Tl hm;refine fk (IH d hm A.in1 _ _ x as1 _ (by show A.units+1+d.depth<cLine;omega) r1 ?_);have z:∃ dn' lf' bs',xs=dn'++lf'/\ReadsAll s.heap rest lf' bs'/\(b.push (rA d)).toList=iL dn'/\({ s with toks:=s.toks+lv dn+rm d }:Gh)={ s with toks:=s.toks+lv dn' }:=by
     refine⟨dn++[d],ds,bs1,by rw[e,j3];rfl,r2,?_,?_⟩
     .rw[vx,hb,Tc];rw[iL,iL]
     .rw[Rg,lv,lv,Nat.add_zero,qZ]
    first
     | exact fq z
     | exact fk (fq (fq z))
  .rintro b s' ⟨dn,lf,bs,e,hl,hb,rfl⟩;cases hl;rw[kf] at e;subst e;show wpAny _ _ (retInt (k4 b.toList)) _ _ _;rw[hb];refine wpAny_ret_mkInt ?_;show wpAny _ _ (if (decide (-(2:Int)^63<=k4 (iL xs))&&decide (k4 (iL xs)<2^63))=true then _ else _) Q E _;unfold reduceHash at q;by_cases hr:(decide (-(2:Int)^63<=k4 (iL xs))&&decide (k4 (iL xs)<2^63))=true
   .rw[Ge hr] at q ⊢;exact fq (by simpa [qZ] using q)
   .rw[Gf hr] at q ⊢;exact fk (wpAny_rule (fq (by simpa [qZ] using q)))
mutual
def Sm:∀ (d:PyData) (n:Nat),fZ d n=true->xR prog w d
 | .none,_,_=>λA E s v as Q _ r q=>by cases r;exact zuD (by rw[rA,rm] at q;exact q;all_goals exact λ_ z=>by cases z)
 | .int i,_,_=>λA E s v as Q _ r q=>by cases r;exact wpAny_pyHash_int (by rw[rA,rm] at q;exact q;all_goals exact λ_ z=>by cases z)
 | .tuple _,0,k=>by simp[fZ] at k
 | .tuple xs,n+1,k=>by rw[fZ] at k;exact YE (Uc xs n k)
 | .bool _,_,k=>by simp[fZ] at k
 | .str _,_,k=>by simp[fZ] at k
 | .list _,_,k=>by simp[fZ] at k
 | .dict _,_,k=>by simp[fZ] at k
def Uc:∀ (xs:List PyData) (n:Nat),iR xs n=true->∀ x∈xs,xR prog w x
 | [],_,_,x,h=>by cases h
 | y::ys,n,k,x,h=>by
  rw[iR,jl] at k;rcases jo.mp h with e|h
  .rw[e];exact Sm y n k.1
  .exact Uc ys n k.2 x h
end
def wy (prog:Program)(w:World)(n:Nat)(d:PyData):Prop:=∀ (A:Around) (E:Gg->Gh->Prop) (s:Gh) (v:Gg) (as:List Gk) (Q:Bool->Gh->Prop),Reads s.heap v d as->Q true s->wpAny (model prog w) A (eqIsQuiet n v) Q E s
def zuE{n:Nat}(IH:∀ x∈xs,wy prog w n x):wy prog w (n+1) (.tuple xs):=by
 intro A E s v as Q r q;cases r with
 | @tuple a o vs n' _ _ h1 h2 h3 h4 =>
  have hT:s.TypeIs (.ref a) "tuple":=⟨o,h1,h2⟩;unfold eqIsQuiet;refine fk (wpAny_specialOf hT PySem.F.slot_tuple_eq.lookup ?_);show wpAny _ _ (isInstance (.ref a) (.type "tuple") >>= _) _ _ s;refine fk (wpAny_isInstance hT isSubtype_tuple_tuple ?_);simp only[JP,kU,if_false];refine fk (wpAny_seqItems h1 h3 (fk ?_));show wpAny _ _ (forIn vs _ _) _ _ s;rw[<- JV];refine wpAny_forIn_list _ (λrest r s'=>r.1=Gb/\s'=s/\∃ lf bs,ReadsAll s.heap rest lf bs/\∀ x∈lf,x∈xs) _ ?_ ?_ _ _ ⟨rfl,rfl,xs,_,h4,λ_ z=>z⟩
  .rintro x rest r s' ⟨hr,rfl,lf,bs,hl,hm⟩;cases hl with
   | @cons _ _ d ds as1 bs1 r1 r2 =>
    refine fk (IH d (hm d jf) _ _ _ x as1 _ r1 ?_);simp only[JP,kU,if_false];exact fq ⟨rfl,rfl,ds,bs1,r2,λy hy=>hm y (jk _ hy)⟩
  .rintro⟨b1,b2⟩ s' ⟨hr,rfl,_⟩;simp only at hr;subst hr;exact fq q
mutual
def Sh:∀ (d:PyData) (n:Nat),fZ d n=true->wy prog w n d
 | .none,n,_=>λA E s v as Q r q=>by cases r;rw[eqIsQuiet_byValue n rfl];exact fq q
 | .int i,n,_=>λA E s v as Q r q=>by cases r;rw[eqIsQuiet_byValue n rfl];exact fq q
 | .tuple _,0,k=>by simp[fZ] at k
 | .tuple xs,n+1,k=>by rw[fZ] at k;exact zuE (Sx xs n k)
 | .bool _,_,k=>by simp[fZ] at k
 | .str _,_,k=>by simp[fZ] at k
 | .list _,_,k=>by simp[fZ] at k
 | .dict _,_,k=>by simp[fZ] at k
def Sx:∀ (xs:List PyData) (n:Nat),iR xs n=true->∀ x∈xs,wy prog w n x
 | [],_,_,x,h=>by cases h
 | y::ys,n,k,x,h=>by
  rw[iR,jl] at k;rcases jo.mp h with e|h
  .rw[e];exact Sh y n k.1
  .exact Sx ys n k.2 x h
end
noncomputable def xa (prog:Program)(w:World):HeapKind prog w PyData where
 is:=λh d a=>fZ d 8=true/\∃ as,Reads h (.ref a) d as
 hash:=rA
 draws:=rm
 room:=λA=>A.units+20<cLine
 inj:=λ{h a x y} hx hy=>SeqAt.Reads.unique x y _ _ _ (DU x 8 hx.1).1 hx.2.choose_spec hy.2.choose_spec
 keeps:=λ{h h' k a d o es ep} x ho hd hs=>⟨x.1,_,Qd ho hd hs k 8 _ _ x.1 x.2.choose_spec⟩
 pyHash:=λ{A E s k a Q} hu hk q=>Sm k 8 hk.1 A E s _ _ Q (by have:=(DU k 8 hk.1).2;omega) hk.2.choose_spec q
 eqBool:=λ{A E s x y a b Q} hu hx hy q=>by
  have l1:=DU x 8 hx.1;have l2:=DU y 8 hy.1;refine SeqAt.eqAt_reads x y A s (.ref a) (.ref b) _ _ hx.2.choose_spec hy.2.choose_spec l1.1 l2.1 (by omega) prog w E Q ?_;have e:ku x y=decide (x=y):=by
   rw[jQ,decide_eq_true_eq];exact⟨λz=>Tv x y 8 8 hx.1 hy.1 z,λz=>by rw[z];exact SeqAt.eqv_refl y l2.1⟩
  rwa[e]
 quiet:=λ{A E s k a Q} hk q=>Sh k 8 hk.1 A E s _ _ Q hk.2.choose_spec q
end
def nD (h:Heap)(d:Gk)(es:Array DictEntry)(ep:Nat):Prop:=∃ o,h.get? d=Ga o/\o.ExactDict/\o.data=.dict es ep
variable {d it:Gk}{ep i:Nat}{es:Array DictEntry}{s:Gh}{h h':Heap}{A:Around}{E:Gg->Gh->Prop}{prog:Program}{w:World}{Q:Option Gg->Gh->Prop}
def nD.ty(x:nD s.heap d es ep):s.TypeIs (.ref d) "dict":=let ⟨o,ho,hc,_⟩:=x;⟨o,ho,hc.1⟩
def nD.kept(x:nD h d es ep)(k:∀ o,h.get? d=Ga o->h'.get? d=Ga o):nD h' d es ep:=let ⟨o,ho,r⟩:=x;⟨o,k _ ho,r⟩
def Tz{Q:Gg->Gh->Prop}(hd:(d==sysModules)=false)(hm:nD s.heap d es ep)
  (hQ:Q (.ref s.heap.objs.size) { s with heap:=s.heap.push { cls:=.type "dict_keyiterator",data:=.fields #[.ref d,.int 0 0,.int es.size 0,.int ep 0] } }):wpAny (model prog w) A (pyIter (.ref d)) Q E s:=by
 have hT:=hm.ty;obtain⟨o,ho,hc,hdat⟩:=hm;refine wpAny_pyIter_slot hT PySem.F.slot_dict_iter (wpAny_call_entry PySem.F.slot_dict_iter hT PySem.F.entry_dict_iter ?_ (PySem.F.args_dict_iter_1 _));unfold Builtin.«dict.__iter__» Builtin.Dict.dictSlotNone;refine fk (fk (wpAny_notOrdered_dict hT ?_));show wpAny _ _ (pure (kF d)) _ _ s;refine fq ?_;show wpAny _ _ (JB d >>= _) _ _ s;unfold JB;rw[Gf (by rw[hd];exact jH)];refine fk (fq (fk (wpAny_dictEntries ho hdat (fk (wpAny_dictEpoch ho hdat ?_)))));exact fk (wpAny_newObj_type (fq ⟨_,rfl,"dict_keyiterator",_,⟨_,jA _ rfl,rfl⟩,PySem.F.slot_dict_keyiterator_next.lookup,hQ⟩))
def SB{e:DictEntry}(hit:s.heap.IsKeyIter it d i es.size ep)(hm:nD s.heap d es ep)(hx:es[i]?=Ga e)
  (hQ:∀ h',h'.IsKeyIter it d (i+1) es.size ep->uu it s.heap h'->Q (Ga e.key) { s with heap:=h' }):wpAny (model prog w) A (pyNext (.ref it)) Q E s:=by
 obtain⟨o,ho,hc,hd⟩:=id hit;obtain⟨od,hod,hcd,hdd⟩:=id hm;unfold pyNext;refine fk (wpAny_attempt (wpAny_callSpecial?_slot (name:=ja "__next__") hit.typeIs PySem.F.slot_dict_keyiterator_next (wpAny_call_entry PySem.F.slot_dict_keyiterator_next hit.typeIs PySem.F.entry_dict_keyiterator_next ?_ (PySem.F.args_dict_keyiterator_next_1 _))));refine fk (fq (fk (fk ?_)))
 first|refine fk (wpAny_typeNameOfWhole_keyiter hit.typeIs (fq ?_))|refine fk (wpAny_typeNameOf_keyiter hit.typeIs (fq ?_))
 refine fk (wpAny_fieldsOf ho hd ?_);simp only[show qx "dict_keyiterator"=false by decide,kU,if_false];show wpAny _ _ (if (kF d==jX)=true then _ else _) _ _ s;rw[Gf (show ¬((kF d==jX)=true) from jH)];refine fk (fq (fk (wpAny_dictEntries hod hdd ?_)));rw[Gf (by simp)];refine fk (fq (fk (wpAny_dictEpoch hod hdd ?_)));rw[Gf (by simp)];refine fq ?_;simp only[show ¬((i:Int)<0) from by omega,if_false,jN,hx];refine fk ?_
 first|refine fk (wpAny_typeNameOfWhole_keyiter hit.typeIs (fq ?_))|refine fk (wpAny_typeNameOf_keyiter hit.typeIs (fq ?_))
 refine fk (wpAny_isOneOf_keyiter hit.typeIs ?_);show wpAny _ _ (setField (.ref it) 1 (rawInt ((i:Int)+1)) >>= _) _ _ s;refine fk (wpAny_setField ho hd (by simp) ?_);have hit':(s.heap.update it (vt (·.setIfInBounds 1 (rawInt ((i:Int)+1))))).IsKeyIter it d (i+1) es.size ep :=
  ⟨_,kc _ ho (qh (uJ hd _)),(qT ..).trans hc,by rw[uJ hd];simp[rawInt]⟩
 refine fk (wpAny_holding (fk (wpAny_isOneOf_keyiter (s:={ s with heap:=s.heap.update it (vt (·.setIfInBounds 1 (rawInt ((i:Int)+1)))) }) hit'.typeIs ?_)));show wpAny _ _ (pure e.key) _ _ _;exact fq (fq ⟨_,rfl,fq (hQ _ hit' (kj ..))⟩)
def QH(hh:A.handled=Gb)(hit:s.heap.IsKeyIter it d i es.size ep)(hm:nD s.heap d es ep)(hx:es.size<=i)
  (hQ:∀ h',Heap.ExtBut it s.heap h'->Q Gb { s with heap:=h' }):wpAny (model prog w) A (pyNext (.ref it)) Q E s:=by
 obtain⟨o,ho,hc,hd⟩:=id hit;obtain⟨od,hod,hcd,hdd⟩:=id hm;unfold pyNext;refine fk (wpAny_attempt (wpAny_callSpecial?_slot (name:=ja "__next__") hit.typeIs PySem.F.slot_dict_keyiterator_next (wpAny_call_entry PySem.F.slot_dict_keyiterator_next hit.typeIs PySem.F.entry_dict_keyiterator_next ?_ (PySem.F.args_dict_keyiterator_next_1 _))));refine fk (fq (fk (fk ?_)))
 first|refine fk (wpAny_typeNameOfWhole_keyiter hit.typeIs (fq ?_))|refine fk (wpAny_typeNameOf_keyiter hit.typeIs (fq ?_))
 refine fk (wpAny_fieldsOf ho hd ?_);simp only[show qx "dict_keyiterator"=false by decide,kU,if_false];show wpAny _ _ (if (kF d==jX)=true then _ else _) _ _ s;rw[Gf (show ¬((kF d==jX)=true) from jH)];refine fk (fq (fk (wpAny_dictEntries hod hdd ?_)));rw[Gf (by simp)];refine fk (fq (fk (wpAny_dictEpoch hod hdd ?_)));rw[Gf (by simp)];refine fq ?_;simp only[show ¬((i:Int)<0) from by omega,if_false,jN,uB hx];refine fk ?_
 first|refine fk (wpAny_typeNameOfWhole_keyiter hit.typeIs (fq ?_))|refine fk (wpAny_typeNameOf_keyiter hit.typeIs (fq ?_))
 show wpAny _ _ (setField (.ref it) 0 .none >>= _) _ _ s;refine fk (wpAny_setField ho hd (by simp) ?_);show wpAny _ _ (newExc (.type "StopIteration") [] >>= _) _ _ _;refine fk ?_;simp only[newExc,newTuple];refine fk (wpAny_newObj_type (fk (m:=firstArgMember _ _) (wpAny_of_eq (a:=jX) (by first|rfl|(simp only[firstArgMember];rfl)) (wpAny_newObj_type ?_ (by size_fits)))) (by size_fits));simp only[raiseNew];refine fk (wpAny_handled ?_);rw[show A.in1.handled=Gb from hh];refine fk (fq (wpAny_throw ?_));refine(fk (wpAny_isInstance (T:="StopIteration") (b:=true) ⟨_,jA _ rfl,rfl⟩ isSubtype_stop ?_));exact fq (hQ _ (((kj ..).extBut.push _).push _))
def zuF (hh:A.handled=Gb)(I d:Gk)(hne:d≠I)(es:Array DictEntry)(ep:Nat) :
  Walks prog w A I [I,d] [I] es.size (λi v=>∃ e,es[i]?=Ga e/\v=e.key) (λi h=>h.IsKeyIter I d i es.size ep/\nD h d es ep) where
 sub:=λb hb=>by simp at hb;simp[hb]
 frame:=λ_ _ _ st hk=>⟨st.1.at λo e=>hk I (by simp) o e,st.2.kept λo e=>hk d (by simp) o e⟩
 item:=λi s Q E hi st hQ=>by
  have hx:es[i]?=Ga es[i]:=kQ hi;refine SB st.1 st.2 hx λh' hit' hs'=>?_;exact hQ _ h' s.toks ⟨_,hx,rfl⟩ ⟨hit',st.2.kept λo eo=>(hs'.2 d hne).trans eo⟩ λb o hb eo=>hs'.extBut b o (λh=>hb (by simp[h])) eo
 done:=λs Q E st hQ=>QH hh st.1 st.2 (jw _) λh' he'=>hQ h' s.toks λb o hb eo=>he' b o (λh=>hb (by simp[h])) eo
 self:=λ_ _ _ _ st hQ=>wpAny_pyIter_keyiter st.1 hQ
open PySem PySem.Spec PyProof.Rows L2
abbrev St:=L2.St
abbrev D:=PySem.PyData
def fw (H H':Hp):Prop:=∀ b o,H b=Ga o->H' b=Ga o
def fw.refl (H:Hp):fw H H:=λ_ _ h=>h
variable {H H1 H2 H' H0 F F1 F':Hp}{l a D0:Gk}{K:jb}{xs ys:List V}{ob o:HO}{u:Option V}{σ:St}{v:V}{d:D}{ds rs ks:List D}{X:Cx}{e b c tg iter elt:Expr}{t':TT}{pos p p2 pos' px py spos:Pos}{x y:Str}{es rest ifs elts:List Expr}{r r':R2}{op op':CmpOp}{Q:Gg->Gh->Prop}{ω:List (Gk×Obj)}{te:TE}{T:String}{st:Stmt}{k j n x1:Nat}{body:List Stmt}{scope:Scope}{R:Result->Gh->Prop}{J:It}{cl:List (Str×Gk)}{fp as:List Gk}{fr nb ps:List Str}{ix:List Nat}{s2:Gh}{Qv:Hp->Prop}{k':D->D->Option D}{mg:Str->Option Gg}{fm:List D->Option D}{P:Vd->Gh->Prop}{vs out its:List Gg}{is:List Int}{m:Int}{cd:Gg}
def fw.trans(a:fw H H1)(b:fw H1 H2):fw H H2:=λc o h=>b c o (a c o h)
def fw.free(e:fw H H')(h:H' l=Option.none):H l=Option.none:=by
 cases q:H l with
 | none=>rfl
 | some o=>rw[e l o q] at h;cases h
def fw.seq(e:fw H H')(h:hZ K H a xs):hZ K H' a xs:=by
 rcases h with (h|⟨o,h⟩)|h
 .exact .inl (.inl (e _ _ h))
 .exact .inl (.inr ⟨o,e _ _ h⟩)
 .exact .inr h
def fw.put(s:fw H0 H)(n:H0 a=Gb)(m:∀ o u,H a≠Ga (.frz o u)):fw H0 (fH H a ob):=λb o h=>by
 rw[fJ (iz h n)];exact s b o h
def fw.new(n:H a=Gb):fw H (fH H a ob):=(fw.refl H).put n λo u z=>by rw[n] at z;cases z
def Ow:HO->Prop
 | .lst _=>True
 | .ext _=>True
 | .dK _=>True
 | _=>False
def fw.ow(s:fw H H')(h:H a=Ga ob)(_:Ow ob):H' a=Ga ob:=s a ob h
def Ow.nf(o:Ow ob)(h:H a=Ga ob):∀ x u,H a≠Ga (.frz x u):=λx u z=>by
 rw[h] at z;cases z;exact o
def Pl:HO->Prop
 | .lst _=>True
 | .tup _=>True
 | .ext _=>True
 | .dK _=>True
 | _=>False
def Ow.pl(o:Ow ob):Pl ob:=by cases ob<;>first|exact o|trivial
def fw.upL(s:fw F H)(ha:H a=Ga ob)(p:Pl ob):fw (fH F a ob) H:=λb o h=>by
 by_cases hb:b=a
 .subst hb;rw[fI] at h;cases h;exact ha
 .rw[fJ hb] at h;exact s b o h
def fw.up2(s:fw F H)(nF:F a=Gb)(nH:H a=Gb)(p:Pl ob):fw (fH F a ob) (fH H a ob) :=
 (s.put nF λo u z=>by rw[nH] at z;cases z).upL fI p
def Pl.nf(o:Pl ob)(h:H a=Ga ob):∀ x u,H a≠Ga (.frz x u):=λx u z=>by
 rw[h] at z;cases z;exact o
def fw.pl(s:fw H H')(h:H a=Ga ob)(_:Pl ob):H' a=Ga ob:=s a ob h
def fw.swp{o':HO}(s:fw (fH H0 a o) H)(p:Pl o)(p':Pl o'):fw (fH H0 a o') (fH H a o'):=λb u h=>by
 by_cases hb:b=a
 .subst hb;rw[fI] at h ⊢;exact h
 .rw[fJ hb] at h ⊢;exact s b u (by rwa[fJ hb])
def sA (ks:List D)(as:List Gk):List DictEntry:=(ks.zip as).map λp=>{ key:=.ref p.2,hash:=rA p.1,val:=.bool true }
def ng (a:Gk)(ks:List D)(as:List Gk)(ep:Nat):Heap->Prop:=λh=>∃ o es,h.get? a=Ga o/\o.ExactDict/\o.data=.dict es ep/\es.toList=sA ks as
structure rf (ks:List D):Prop where
 key:∀ k∈ks,fZ k 8=true
 tup:∀ k∈ks,∃ xs,k=.tuple xs
 nd:ks.Nodup
 len:ks.length<=1000000
abbrev DS (ks:List D):D:=PyData.dict (ks.map λk=>(k,jS true))
def lP (kvs:List (Str×D)):D:=PyData.dict ((vb,vb)::(vb,vb)::kvs.map λp=>(jp p.1,p.2))
mutual
inductive gG (K:jb)(H:Hp):D->V->Prop where
 | non:gG K H .none .non
 | bl (b:Bool):gG K H (.bool b) (.bl b)
 | int (i:Int):gG K H (.int i) (.int i)
 | str (x:Str):gG K H (.str x) (.str x)
 | tup {a:Gk} {xs:List V} {ds:List D} (h:la K H a xs) (r:fL K H ds xs):gG K H (.tuple ds) (.ref a)
 | lst {a:Gk} {xs:List V} {ds:List D} (h:hZ K H a xs) (r:fL K H ds xs):gG K H (.list ds) (.ref a)
 | dic {a:Gk} {ks:List D} {as:List Gk} {ep:Nat} (hs:(a==sysModules)=false) (h:H a=Ga (.ext (ng a ks as ep))) (ok:rf ks) (r:fL K H ks (as.map V.ref)):gG K H (.dict (ks.map λk=>(k,jS true))) (.ref a)
 | dcs {a:Gk} {kvs:List (Str×D)} {ws:List (gI×V)} (h:Rd H a (.dK ws)) (r:gD K H kvs ws):gG K H (.dict ((vb,vb)::(vb,vb)::kvs.map λp=>(jp p.1,p.2))) (.ref a)
inductive fL (K:jb)(H:Hp):List D->List V->Prop where
 | nil:fL K H [] []
 | cons {d:D} {v:V} {ds:List D} {vs:List V} (h:gG K H d v) (t:fL K H ds vs):fL K H (d::ds) (v::vs)
inductive gD (K:jb)(H:Hp):List (Str×D)->List (gI×V)->Prop where
 | nil:gD K H [] []
 | cons {k:Str} {d:D} {v:V} {l:List (Str×D)} {m:List (gI×V)} (h:gG K H d v) (t:gD K H l m):gD K H ((k,d)::l) ((Sum.inr k,v)::m)
end
def lV(e:fw H H')(h:la K H a xs):la K H' a xs:=by
 rcases h with (h|⟨o,h⟩)|h
 .exact .inl (.inl (e _ _ h))
 .exact .inl (.inr ⟨o,e _ _ h⟩)
 .exact .inr h
def Rd.mono{ws:List (gI×V)}(e:fw H H')(h:Rd H a (.dK ws)):Rd H' a (.dK ws):=by
 rcases h with h|⟨o,h⟩
 .exact .inl (e _ _ h)
 .exact .inr ⟨o,e _ _ h⟩
mutual
def gG.mono {K:jb}{H H':Hp}(e:fw H H'):∀ {d:D} {v:V},gG K H d v->gG K H' d v
 | _,_,.non=>.non
 | _,_,.bl b=>.bl b
 | _,_,.int i=>.int i
 | _,_,.str x=>.str x
 | _,_,.tup h r=>.tup (lV e h) (fL.mono e r)
 | _,_,.lst h r=>.lst (e.seq h) (fL.mono e r)
 | _,_,.dic hs h ok r=>.dic hs (e _ _ h) ok (fL.mono e r)
 | _,_,.dcs h r=>.dcs (Rd.mono e h) (gD.mono e r)
def fL.mono {K:jb}{H H':Hp}(e:fw H H'):∀ {ds:List D} {vs:List V},fL K H ds vs->fL K H' ds vs
 | _,_,.nil=>.nil
 | _,_,.cons h t=>.cons (gG.mono e h) (fL.mono e t)
def gD.mono {K:jb}{H H':Hp}(e:fw H H'):∀ {l:List (Str×D)} {m:List (gI×V)},gD K H l m->gD K H' l m
 | _,_,.nil=>.nil
 | _,_,.cons h t=>.cons (gG.mono e h) (gD.mono e t)
end
def fL.length {K:jb}{H:Hp}:∀ {ds:List D} {vs:List V},fL K H ds vs->ds.length=vs.length
 | _,_,.nil=>rfl
 | _,_,.cons _ t=>congrArg J0 t.length
def fL.get {K:jb}{H:Hp}:∀ {ds:List D} {vs:List V} {i:Nat} {d:D},fL K H ds vs->ds[i]?=Ga d->∃ v,vs[i]?=Ga v/\gG K H d v
 | _,_,_,_,.nil,e=>by simp at e
 | _,_,0,_,.cons h _,e=>by simp at e;subst e;exact⟨_,rfl,h⟩
 | _,_,i+1,d,.cons _ t,e=>by
  obtain⟨v,h1,h2⟩:=fL.get (i:=i) (d:=d) t (by simpa using e);exact⟨v,by simpa using h1,h2⟩
def fL.append {K:jb}{H:Hp}:∀ {ds es:List D} {vs ws:List V},fL K H ds vs->fL K H es ws->fL K H (ds++es) (vs++ws)
 | _,_,_,_,.nil,q=>q
 | _,_,_,_,.cons h t,q=>.cons h (t.append q)
def fL.take {K:jb}{H:Hp}:∀ {ds:List D} {vs:List V} (n:Nat),fL K H ds vs->fL K H (ds.take n) (vs.take n)
 | _,_,0,_=>.nil
 | _,_,_+1,.nil=>.nil
 | _,_,n+1,.cons h t=>.cons h (t.take n)
def fL.drop {K:jb}{H:Hp}:∀ {ds:List D} {vs:List V} (n:Nat),fL K H ds vs->fL K H (ds.drop n) (vs.drop n)
 | _,_,0,r=>r
 | _,_,_+1,.nil=>.nil
 | _,_,n+1,.cons _ t=>t.drop n
def fL.set {K:jb}{H:Hp}{d:D}{v:V}(q:gG K H d v):∀ {ds:List D} {vs:List V} (i:Nat),fL K H ds vs->fL K H (ds.set i d) (vs.set i v)
 | _,_,_,.nil=>.nil
 | _,_,0,.cons _ t=>.cons q t
 | _,_,i+1,.cons h t=>.cons h (t.set q i)
def fL.reverse {K:jb}{H:Hp}:∀ {ds:List D} {vs:List V},fL K H ds vs->fL K H ds.reverse vs.reverse
 | _,_,.nil=>.nil
 | _,_,.cons h t=>by
  rw[J1,J1];exact t.reverse.append (.cons h .nil)
def fL.ints {K:jb}{H:Hp}:∀ (ns:List Int),fL K H (ns.map jd) (ns.map V.int)
 | []=>.nil
 | n::ns=>.cons (.int n) (fL.ints ns)
inductive Sl where
 | no|val (d:D)|own (ds:List D)|dic (ks:List D)|dks (kvs:List (Str×D))|dsk (C p r:Gk) (kvs:List (Str×D))
 deriving Inhabited
abbrev En:=List Sl
def lY:Sl->Bool
 | .own _=>true
 | .dic _=>true
 | .dks _=>true
 | _=>false
def gu (F F' H:Hp):Prop:=∀ b o,F' b=Ga o->F b=Gb->H b=Gb
def gu.refl (F H:Hp):gu F F H:=λb o e n=>by rw[e] at n;cases n
def gu.trans {F2:Hp}(a:gu F F1 H)(b:gu F1 F2 H1)(s:fw H H1):gu F F2 H:=λc o e n=>by
 cases q:F1 c with
 | none=>exact s.free (b c o e q)
 | some u=>exact a c u q n
def oP (K:jb)(H0 F H:Hp):Sl->Option V->Prop
 | .no,_=>True
 | .val d,u=>∃ v,u=Ga v/\gG K F d v
 | .own ds,u=>∃ a xs,u=Ga (.ref a)/\H a=Ga (.lst xs)/\F a=Gb/\H0 a=Gb/\fL K F ds xs
 | .dic ks,u=>∃ a as ep,u=Ga (.ref a)/\H a=Ga (.ext (ng a ks as ep))/\F a=Gb/\H0 a=Gb/\fL K F ks (as.map V.ref)/\(a==sysModules)=false/\rf ks
 | .dks kvs,u=>∃ a ws,u=Ga (.ref a)/\H a=Ga (.dK ws)/\F a=Gb/\H0 a=Gb/\gD K F kvs ws
 | .dsk C p r kvs,u=>u=Ga (.ref p)/\∃ dx ws,H0 p=Ga (.ins C dx [("runs",.ref r)])/\H0 r=Ga (.dK ws)/\gD K F kvs ws
structure RS (K:jb)(H0 F H:Hp)(ψ:En)(σ:St):Prop where
 h0:fw H0 H
 fh:fw F H
 sl:∀ (i:Nat) (s:Sl),ψ[i]?=Ga s->∃ u,σ[i]?=Ga u/\oP K H0 F H s u
 ap:∀ (i j:Nat) (a:Gk) (s t:Sl),lY s=true->lY t=true->ψ[i]?=Ga s->ψ[j]?=Ga t->σ[i]?=Ga (Ga (.ref a))->σ[j]?=Ga (Ga (.ref a))->i=j
def oP.at {s:Sl}(r:oP K H0 F H s u)(o:lY s=true):∃ a ob,u=Ga (.ref a)/\H a=Ga ob/\F a=Gb/\H0 a=Gb/\Ow ob:=by
 cases s with
 | no=>cases o
 | val d=>cases o
 | own ds=>obtain⟨a,xs,e,h,f,g,_⟩:=r;exact⟨a,_,e,h,f,g,trivial⟩
 | dic ks=>obtain⟨a,as,ep,e,h,f,g,_⟩:=r;exact⟨a,_,e,h,f,g,trivial⟩
 | dks kvs=>obtain⟨a,ws,e,h,f,g,_⟩:=r;exact⟨a,_,e,h,f,g,trivial⟩
 | dsk C p q kvs=>cases o
def oP.to {s:Sl}(r:oP K H0 F H s u)(f:fw F F')(k:∀ a ob,lY s=true->u=Ga (.ref a)->H a=Ga ob->F a=Gb->Ow ob->H' a=Ga ob/\F' a=Gb):oP K H0 F' H' s u:=by
 cases s with
 | no=>trivial
 | val d=>obtain⟨v,e2,q⟩:=r;exact⟨v,e2,q.mono f⟩
 | own ds =>
  obtain⟨a,xs,e2,ha,fa,h0a,q⟩:=r;obtain⟨k1,k2⟩:=k a _ rfl e2 ha fa trivial;exact⟨a,xs,e2,k1,k2,h0a,q.mono f⟩
 | dic ks =>
  obtain⟨a,as,ep,e2,ha,fa,h0a,q,r2⟩:=r;obtain⟨k1,k2⟩:=k a _ rfl e2 ha fa trivial;exact⟨a,as,ep,e2,k1,k2,h0a,q.mono f,r2⟩
 | dks kvs =>
  obtain⟨a,ws,e2,ha,fa,h0a,q⟩:=r;obtain⟨k1,k2⟩:=k a _ rfl e2 ha fa trivial;exact⟨a,ws,e2,k1,k2,h0a,q.mono f⟩
 | dsk C p r' kvs =>
  obtain⟨e2,dx,ws,h1,h2,q⟩:=r;exact⟨e2,dx,ws,h1,h2,q.mono f⟩
variable {ψ:En}{s0 s1:Sl}{u:Gg}
def RS.ne_free (r:RS K H0 F H ψ σ)(n:H a=Gb):∀ (j:Nat) (s:Sl),lY s=true->ψ[j]?=Ga s->σ[j]?≠Ga (Ga (.ref a)):=λj s o e z=>by
 obtain⟨u,e1,q⟩:=r.sl j s e;obtain⟨b,ob,e2,hb,_⟩:=q.at o;rw[z] at e1;cases e1;cases e2;rw[n] at hb;cases hb
def RS.grow (r:RS K H0 F H ψ σ)(g:fw H H')(f:fw F F')(fh:fw F' H')(n:gu F F' H):RS K H0 F' H' ψ σ:=by
 refine⟨r.h0.trans g,fh,λi s e=>?_,r.ap⟩;obtain⟨u,e1,q⟩:=r.sl i s e;refine⟨u,e1,q.to f λa ob _ _ ha fa ow=>⟨g.ow ha ow,?_⟩⟩;cases z:F' a with
 | none=>rfl
 | some o=>have:=n a o z fa;rw[ha] at this;cases this
def RS.later (r:RS K H0 F H ψ σ)(g:fw H H'):RS K H0 F H' ψ σ:=r.grow g (.refl _) (r.fh.trans g) (.refl _ _)
def RS.put (r:RS K H0 F H ψ σ)(hi:i<σ.length)(q:gG K F d v):RS K H0 F H (ψ.set i (.val d)) (σ.set i (Ga v)):=by
 refine⟨r.h0,r.fh,λj s e=>?_,λj k a s t o1 o2 e1 e2 e3 e4=>?_⟩
 .by_cases h:i=j
  .subst h;refine⟨Ga v,by rw[jG hi],?_⟩;by_cases hl:i<ψ.length
   .rw[jG hl] at e;cases e;exact⟨v,rfl,q⟩
   .rw[kI (by simpa using hl)] at e;cases e
  .rw[jJ h] at e ⊢;exact r.sl j s e
 .have nj:∀ (j:Nat) (s:Sl),lY s=true->(ψ.set i (.val d))[j]?=Ga s->i≠j:=λj s o e z=>by
   subst z;by_cases hl:i<ψ.length
   .rw[jG hl] at e;cases e;cases o
   .rw[kI (by simpa using hl)] at e;cases e
  have n1:=nj j s o1 e1;have n2:=nj k t o2 e2;rw[jJ n1] at e1 e3;rw[jJ n2] at e2 e4;exact r.ap j k a s t o1 o2 e1 e2 e3 e4
def RS.putG (r:RS K H0 F H ψ σ)(hi:i<σ.length)(q:oP K H0 F H s0 (Ga (.ref a)))
  (ne:∀ (j:Nat) (s:Sl),lY s=true->j≠i->ψ[j]?=Ga s->σ[j]?≠Ga (Ga (.ref a))):RS K H0 F H (ψ.set i s0) (σ.set i (Ga (.ref a))):=by
 refine⟨r.h0,r.fh,λj s e=>?_,λj k b s t o1 o2 e1 e2 e3 e4=>?_⟩
 .by_cases h:i=j
  .subst h;refine⟨Ga (.ref a),by rw[jG hi],?_⟩;by_cases hl:i<ψ.length
   .rw[jG hl] at e;cases e;exact q
   .rw[kI (by simpa using hl)] at e;cases e
  .rw[jJ h] at e ⊢;exact r.sl j s e
 .by_cases hj:i=j
  .by_cases hk:i=k
   .exact hj.symm.trans hk
   .subst hj;rw[jG hi] at e3;rw[jJ hk] at e2 e4;cases e3;exact absurd e4 (ne k t o2 (ur hk) e2)
  .by_cases hk:i=k
   .subst hk;rw[jG hi] at e4;rw[jJ hj] at e1 e3;cases e4;exact absurd e3 (ne j s o1 (ur hj) e1)
   .rw[jJ hj] at e1 e3;rw[jJ hk] at e2 e4;exact r.ap j k b s t o1 o2 e1 e2 e3 e4
def RS.putO (r:RS K H0 F H ψ σ)(hi:i<σ.length)(ha:H a=Ga (.lst xs))(fa:F a=Gb)(h0a:H0 a=Gb)(q:fL K F ds xs)
  (ne:∀ (j:Nat) (s:Sl),lY s=true->j≠i->ψ[j]?=Ga s->σ[j]?≠Ga (Ga (.ref a))):RS K H0 F H (ψ.set i (.own ds)) (σ.set i (Ga (.ref a))) :=
 r.putG hi ⟨a,xs,rfl,ha,fa,h0a,q⟩ ne
def RS.chgG (r:RS K H0 F H ψ σ)(e:ψ[i]?=Ga s0)(o0:lY s0=true)(u:σ[i]?=Ga (Ga (.ref a)))(q:oP K H0 F (fH H a ob) s1 (Ga (.ref a))) :
  RS K H0 F (fH H a ob) (ψ.set i s1) σ:=by
 obtain⟨u',e',q'⟩:=r.sl i _ e;obtain⟨a',ob',z,ha,fa,h0a,ow0⟩:=q'.at o0;rw[u] at e';cases e';cases z;have hl:i<ψ.length:=(ju.mp e).1;refine⟨r.h0.put h0a (ow0.nf ha),r.fh.put fa (ow0.nf ha),λj s ej=>?_,λj k b s t o1 o2 e1 e2 e3 e4=>?_⟩
 .by_cases h:i=j
  .subst h;rw[jG hl] at ej;cases ej;exact⟨_,u,q⟩
  .rw[jJ h] at ej;obtain⟨w,e2,q2⟩:=r.sl j s ej;refine⟨w,e2,q2.to (.refl _) λb ob2 ow z1 hb fb _=>⟨?_,fb⟩⟩;subst z1;rwa[fJ (λz=>by subst z;exact h (r.ap i j b _ _ o0 ow e ej u e2))]
 .have f1:∀ (j:Nat) (s:Sl),lY s=true->(ψ.set i s1)[j]?=Ga s->∃ s',lY s'=true/\ψ[j]?=Ga s':=λj s o h=>by
   by_cases hj:i=j
   .subst hj;exact⟨_,o0,e⟩
   .rw[jJ hj] at h;exact⟨_,o,h⟩
  obtain⟨_,o1,e1⟩:=f1 j _ o1 e1;obtain⟨_,o2,e2⟩:=f1 k _ o2 e2;exact r.ap j k b _ _ o1 o2 e1 e2 e3 e4
def RS.chg (r:RS K H0 F H ψ σ){es:List D}(e:ψ[i]?=Ga (.own ds))(u:σ[i]?=Ga (Ga (.ref a)))(q:fL K F es ys) :
  RS K H0 F (fH H a (.lst ys)) (ψ.set i (.own es)) σ:=by
 obtain⟨u',e',a',xs,z,ha,fa,h0a,_⟩:=r.sl i _ e;rw[u] at e';cases e';cases z;exact r.chgG e rfl u ⟨a,ys,rfl,fI,fa,h0a,q⟩
def nG:Sl->Sl
 | .own ds=>.val (.list ds)
 | .dic ks=>.val (DS ks)
 | .dks kvs=>.val (lP kvs)
 | s=>s
def YO (s:Sl):lY (nG s)=false:=by cases s<;>rfl
def frz (ψ:En):En:=ψ.map nG
def RS.frz {K:jb}{H0 F H:Hp}{ψ:En}{σ:St}(r:RS K H0 F H ψ σ):RS K H0 H H (T3.frz ψ) σ:=by
 refine⟨r.h0,.refl _,λi s e=>?_,λi j a s t o1 o2 e1=>?_⟩
 .unfold T3.frz at e;rw[jz] at e;cases z:ψ[i]? with
  | none=>rw[z] at e;cases e
  | some s' =>
   rw[z] at e;obtain⟨u,e1,q⟩:=r.sl i s' z;refine⟨u,e1,?_⟩;cases s' with
   | no=>cases e;trivial
   | val d=>cases e;obtain⟨v,e2,q⟩:=q;exact⟨v,e2,q.mono r.fh⟩
   | own ds =>
    cases e;obtain⟨a,xs,e2,ha,fa,h0a,q⟩:=q;exact⟨_,e2,.lst (hZ.of ha) (q.mono r.fh)⟩
   | dic ks =>
    cases e;obtain⟨a,as,ep,e2,ha,fa,h0a,q,sm,ok⟩:=q;exact⟨_,e2,.dic sm ha ok (q.mono r.fh)⟩
   | dks kvs =>
    cases e;obtain⟨a,ws,e2,ha,fa,h0a,q⟩:=q;exact⟨_,e2,.dcs (.inl ha) (q.mono r.fh)⟩
   | dsk C p r' kvs =>
    cases e;obtain⟨e2,dx,ws,h1,h2,q⟩:=q;exact⟨e2,dx,ws,h1,h2,q.mono r.fh⟩
 .exfalso;unfold T3.frz at e1;rw[jz] at e1;cases z:ψ[i]? with
  | none=>rw[z] at e1;cases e1
  | some s'=>rw[z] at e1;cases e1;rw[YO] at o1;cases o1
def frzAt (i:Nat)(ψ:En):En:=match ψ[i]? with
 | some (.own ds)=>ψ.set i (.val (.list ds))
 | some (.dic ks)=>ψ.set i (.val (DS ks))
 | some (.dks kvs)=>ψ.set i (.val (lP kvs))
 | _=>ψ
def RS.frzG(r:RS K H0 F H ψ σ)(os:lY s1=false)(e:ψ[i]?=Ga s0)(o0:lY s0=true)(e1:σ[i]?=Ga (Ga (.ref a)))(ha:H a=Ga ob)(ow0:Ow ob)(fa:F a=Gb)(h0a:H0 a=Gb)
  (q:∀ F',fw F F'->F' a=Ga ob->oP K H0 F' H s1 (Ga (.ref a))):F a=Gb/\H a=Ga ob/\Ow ob/\fw F (fH F a ob)/\gu F (fH F a ob) H0/\RS K H0 (fH F a ob) H (ψ.set i s1) σ:=by
 have hi:i<σ.length:=(ju.mp e1).1;have hl:i<ψ.length:=(ju.mp e).1;have sF:fw F (fH F a ob):=fw.new fa;refine⟨fa,ha,ow0,sF,λb o h n=>?_,⟨r.h0,λb o h=>?_,λj s ej=>?_,λj k b s t o1 o2 x1 x2 x3 x4=>?_⟩⟩
 .by_cases hb:b=a
  .subst hb;exact h0a
  .rw[fJ hb,n] at h;cases h
 .by_cases hb:b=a
  .subst hb;rw[fI] at h;cases h;exact ha
  .rw[fJ hb] at h;exact r.fh b o h
 .by_cases h:i=j
  .subst h;rw[jG hl] at ej;cases ej;exact⟨_,e1,q _ sF fI⟩
  .rw[jJ h] at ej;obtain⟨w,z1,q2⟩:=r.sl j s ej;refine⟨w,z1,q2.to sF λb ob2 ow z2 hb fb _=>⟨hb,?_⟩⟩;subst z2;rwa[fJ (λz=>by subst z;exact h (r.ap i j b _ _ o0 ow e ej e1 z1))]
 .have f1:∀ (j:Nat) (s:Sl),lY s=true->(ψ.set i s1)[j]?=Ga s->ψ[j]?=Ga s:=λj s o h=>by
   by_cases hj:i=j
   .subst hj;rw[jG hl] at h;cases h;rw[os] at o;cases o
   .rw[jJ hj] at h;exact h
  exact r.ap j k b _ _ o1 o2 (f1 j _ o1 x1) (f1 k _ o2 x2) x3 x4
def RS.frzAt2(r:RS K H0 F H ψ σ)(i:Nat):T3.frzAt i ψ=ψ\/∃ a ob,F a=Gb/\H a=Ga ob/\Ow ob/\fw F (fH F a ob)/\gu F (fH F a ob) H0/\RS K H0 (fH F a ob) H (T3.frzAt i ψ) σ:=by
 unfold T3.frzAt;split
 .rename_i ds e;obtain⟨u,e1,a,xs,e2,ha,fa,h0a,q⟩:=r.sl i _ e;subst e2;exact .inr ⟨_,_,r.frzG rfl e rfl e1 ha trivial fa h0a λF' f h=>⟨_,rfl,.lst (hZ.of h) (q.mono f)⟩⟩
 .rename_i ks e;obtain⟨u,e1,a,as,ep,e2,ha,fa,h0a,q,sm,ok⟩:=r.sl i _ e;subst e2;exact .inr ⟨_,_,r.frzG rfl e rfl e1 ha trivial fa h0a λF' f h=>⟨_,rfl,.dic sm h ok (q.mono f)⟩⟩
 .rename_i kvs e;obtain⟨u,e1,a,ws,e2,ha,fa,h0a,q⟩:=r.sl i _ e;subst e2;exact .inr ⟨_,_,r.frzG rfl e rfl e1 ha trivial fa h0a λF' f h=>⟨_,rfl,.dcs (.inl h) (q.mono f)⟩⟩
 .exact .inl rfl
def RS.frzAt {K:jb}{H0 F H:Hp}{ψ:En}{σ:St}(r:RS K H0 F H ψ σ)(i:Nat):∃ F',fw F F'/\gu F F' H0/\RS K H0 F' H (T3.frzAt i ψ) σ:=by
 rcases r.frzAt2 i with e|⟨a,ob,_,_,_,f,n,q⟩
 .rw[e];exact⟨F,.refl _,.refl _ _,r⟩
 .exact⟨_,f,n,q⟩
abbrev FV:=En->Option D
abbrev FL:=En->Option (List D)
abbrev FB:=En->Option Bool
def tV (K:jb)(f:FV):TE:=λσ H Q=>∃ H0 F ψ d,RS K H0 F H ψ σ/\f ψ=Ga d/\∀ v H' F',fw H H'->fw F F'->fw F' H'->gu F F' H->gG K F' d v->Q v H'
def tO (K:jb)(f:FL):TE:=λσ H Q=>∃ H0 F ψ ds,RS K H0 F H ψ σ/\f ψ=Ga ds /\
 ∀ a xs H' F',fw H H'->fw F F'->fw F' H'->gu F F' H->H a=Gb->F' a=Gb->H' a=Ga (.lst xs)->fL K F' ds xs->Q (.ref a) H'
def tT (K:jb)(f:FB):TT:=λσ H Q=>∃ H0 F ψ b,RS K H0 F H ψ σ/\f ψ=Ga b/\∀ H',fw H H'->Q b H'
def tL (K:jb)(f:FL):TA:=λσ H Q=>∃ H0 F ψ ds,RS K H0 F H ψ σ/\f ψ=Ga ds/\∀ vs H' F',fw H H'->fw F F'->fw F' H'->gu F F' H->fL K F' ds vs->Q vs H'
abbrev PV (X:Cx)(e:Expr)(f:FV):Prop:=PE X e (tV X.K f)
abbrev PO (X:Cx)(e:Expr)(f:FL):Prop:=PE X e (tO X.K f)
abbrev PB (X:Cx)(e:Expr)(f:FB):Prop:=PT X e (tT X.K f)
abbrev mD (X:Cx)(e:Expr)(f:FB):Prop:=PW X e (tT X.K f)
structure PL (X:Cx)(es:List Expr)(f:FL):Prop where
 pa:PA X es (tL X.K f)
 len:∀ ψ ds,f ψ=Ga ds->ds.length=es.length
def ia{t t':TE}(h:PE X e t)(m:∀ σ H Q,t' σ H Q->t σ H Q):PE X e t':=λω s σ H Q I q=>h ω s σ H Q I (m σ H Q q)
def xH{t:TT}(h:PT X e t)(m:∀ σ H Q,t' σ H Q->t σ H Q):PT X e t':=λω s σ H Q I q=>h ω s σ H Q I (m σ H Q q)
def Um{t:TT}(h:PW X e t)(m:∀ σ H Q,t' σ H Q->t σ H Q):PW X e t':=λwh ω s σ H Q I q=>h wh ω s σ H Q I (m σ H Q q)
def RL{e:List Expr}{t t':TA}(h:PA X e t)(m:∀ σ H Q,t' σ H Q->t σ H Q):PA X e t':=λp ω s σ H Q I q=>h p ω s σ H Q I (m σ H Q q)
def Gs{e:List Stmt}{t t':TS}(h:nV X e t)(m:∀ D σ H,t' D σ H->t D σ H):nV X e t':=λω s σ H D I q=>h ω s σ H D I (m D σ H q)
def nO{e:Stmt}{t t':TS}(h:PS X e t)(m:∀ D σ H,t' D σ H->t D σ H):PS X e t':=λω s σ H D I q=>h ω s σ H D I (m D σ H q)
def ft {α β:Type}{o:Option α}{f:α->Option β}{b:β}(h:o.bind f=Ga b):∃ a,o=Ga a/\f a=Ga b:=by
 cases o with
 | none=>cases h
 | some a=>exact⟨a,rfl,h⟩
def PO.v9{f:FL}(h:PO X e f):PV X e (λψ=>(f ψ).bind λds=>Ga (.list ds)):=by
 refine ia h λσ H Q=>?_;rintro⟨H0,F,ψ,d,r,e,q⟩;obtain⟨ds,z,e⟩:=ft e;cases e
 .refine⟨H0,F,ψ,ds,r,z,λa xs H' F' g f1 fh n ha fa ha' rr=>?_⟩;have sF:fw F' (fH F' a (.lst xs)):=fw.new fa;refine q (.ref a) H' (fH F' a (.lst xs)) g (f1.trans sF) (λb o h=>?_) (λb o h nb=>?_) (.lst (hZ.of fI) (rr.mono sF))
  .exact fw.upL fh ha' trivial b o h
  .by_cases hb:b=a
   .subst hb;exact ha
   .rw[fJ hb] at h;exact n b o h nb
noncomputable def gv (i:Nat):FV:=λψ=>match ψ[i]? with
 | some (.val d)=>Ga d
 | _=>Gb
def fu (i:Nat)(hN:X.N[i]?=Ga x:=by rfl)(hv:oz X.env.scope x:=by first|exact kC rfl|exact j7 (kC rfl)|exact j7 (j7 rfl))(hd:(x==("__debug__":Str))=false:=by decide)
  (hcd:(x==("__classdict__":Str))=false:=by decide):PV X (.Name x pos) (gv i):=by
 refine ia (lE hN hv hd hcd) λσ H Q=>?_;rintro⟨H0,F,ψ,d,r,e,q⟩;unfold gv at e;cases z:ψ[i]? with
 | none=>rw[z] at e;cases e
 | some s =>
  rw[z] at e;cases s with
  | val d' =>
   cases e;obtain⟨u,e1,v,e2,h⟩:=r.sl i _ z;subst e2;exact⟨v,e1,q v H F (.refl _) (.refl _) r.fh (.refl _ _) h⟩
  | no=>cases e
  | own _=>cases e
  | dic _=>cases e
  | dks _=>cases e
  | dsk _ _ _ _=>cases e
def Dh(h:PE X e (tC v))(r:∀ K F,gG K F d v):PV X e (λ_=>Ga d):=by
 refine ia h λσ H Q=>?_;rintro⟨H0,F,ψ,d',rs,e,q⟩;cases e;exact q v H F (.refl _) (.refl _) rs.fh (.refl _ _) (r _ _)
def fC {i j}:PV X (.Constant (.int i) j pos) (λ_=>Ga (.int i)):=Dh Kn λ_ _=>.int i
def mr {b j}:PV X (.Constant (.bool b) j pos) (λ_=>Ga (.bool b)):=Dh Hj λ_ _=>.bl b
def BH {j}:PV X (.Constant .none j pos) (λ_=>Ga .none):=Dh LS λ_ _=>.non
def gX {x:String}{j}:PV X (.Constant (.str x) j pos) (λ_=>Ga (.str x)):=Dh Ka λ_ _=>.str _
def fP:PL X [] (λ_=>Ga []):=by
 refine⟨RL lH λσ H Q=>?_,λψ ds e=>by cases e;rfl⟩;rintro⟨H0,F,ψ,ds,r,e,q⟩;cases e;exact q [] H F (.refl _) (.refl _) r.fh (.refl _ _) .nil
variable {f fa fb fe:FV}{g fi fl:FL}{a:Expr}{fc:FB}
def fA(ha:PV X e f)(hr:PL X es g)(hs:starEach (e::es) X.env=(false,eval e X.env)::starEach es X.env:=by rfl) :
  PL X (e::es) (λψ=>(f ψ).bind λd=>(g ψ).bind λds=>Ga (d::ds)):=by
 refine⟨RL (io ha hr.pa hs) λσ H Q=>?_,λψ ds e=>?_⟩
 .rintro⟨H0,F,ψ,ds,r,e,q⟩;obtain⟨d,e1,e⟩:=ft e;obtain⟨ds',e2,e⟩:=ft e;cases e;refine⟨H0,F,ψ,d,r,e1,λv H1 F1 g1 f1 fh1 n1 rv=>⟨H0,F1,ψ,ds',r.grow g1 f1 fh1 n1,e2,λvs H2 F2 g2 f2 fh2 n2 rvs=>?_⟩⟩;exact q (v::vs) H2 F2 (g1.trans g2) (f1.trans f2) fh2 (n1.trans n2 g1) (.cons (rv.mono f2) rvs)
 .obtain⟨d,e1,e⟩:=ft e;obtain⟨ds',e2,e⟩:=ft e;cases e;exact congrArg J0 (hr.len ψ _ e2)
def wD{x1}(h:PL X es g)(hz:es.length<=1000:=by decide):PV X (.Tuple es x1 pos) (λψ=>(g ψ).bind λds=>Ga (.tuple ds)):=by
 refine ia (Mi h.pa) λσ H Q=>?_;rintro⟨H0,F,ψ,d,r,e,q⟩;obtain⟨ds,e1,e⟩:=ft e;cases e;refine⟨H0,F,ψ,ds,r,e1,λvs H1 F1 g1 f1 fh1 n1 rv=>⟨?_,λp hp=>?_⟩⟩
 .rw[<- rv.length,h.len ψ ds e1];exact vf (tS hz)
 .have fp:F1 p=Gb:=fh1.free hp;have s1:fw F1 (fH F1 p (.tup vs)):=fw.new fp;have s2:fw H1 (fH H1 p (.tup vs)):=fw.new hp;refine q (.ref p) (fH H1 p (.tup vs)) (fH F1 p (.tup vs)) (g1.trans s2) (f1.trans s1) (λb o h=>?_) (λb o h nb=>?_) (.tup (la.of fI) (rv.mono s1))
  .exact fw.up2 (ob:=.tup vs) fh1 fp hp trivial b o h
  .by_cases hb:b=p
   .subst hb;exact g1.free hp
   .rw[fJ hb] at h;exact n1 b o h nb
def pB(h:PL X es g)(hz:es.length<=1000:=by decide):PO X (.List es pos) g:=by
 refine ia (Lu h.pa) λσ H Q=>?_;rintro⟨H0,F,ψ,ds,r,e1,q⟩;refine⟨H0,F,ψ,ds,r,e1,λvs H1 F1 g1 f1 fh1 n1 rv=>⟨?_,λp hp=>?_⟩⟩
 .rw[<- rv.length,h.len ψ ds e1];exact vf (tS hz)
 .have s2:fw H1 (fH H1 p (.lst vs)):=fw.new hp;exact q p vs (fH H1 p (.lst vs)) F1 (g1.trans s2) f1 (fh1.trans s2) n1 (g1.free hp) (fh1.free hp) fI rv
def rX (K:jb)(r:R2)(g:D->D->Option D):Prop:=∀ (F H:Hp) (x y:V) (a b d:D) (Q:VK),fw F H->gG K F a x->gG K F b y->g a b=Ga d ->
 (∀ v H' F',fw H H'->fw F F'->fw F' H'->gu F F' H->gG K F' d v->Q v H')->r x y H Q
variable {g:D->D->Option D}
def DW(hr:rX K r g){Q:VK}(h:tV K (λψ=>(fa ψ).bind λa=>(fb ψ).bind λb=>g a b) σ H Q):DM r (tV K fa) (tV K fb) σ H Q:=by
 obtain⟨H0,F,ψ,d,rs,e,q⟩:=h;obtain⟨a,e1,e⟩:=ft e;obtain⟨b,e2,e⟩:=ft e;refine⟨H0,F,ψ,a,rs,e1,λv H1 F1 g1 f1 fh1 n1 rv=>⟨H0,F1,ψ,b,rs.grow g1 f1 fh1 n1,e2,λu H2 F2 g2 f2 fh2 n2 ru=>?_⟩⟩;refine hr F2 H2 v u a b d Q fh2 (rv.mono f2) ru e λw H3 F3 g3 f3 fh3 n3 rw3=>?_;exact q w H3 F3 ((g1.trans g2).trans g3) ((f1.trans f2).trans f3) fh3 ((n1.trans n2 g1).trans n3 (g1.trans g2)) rw3
def wf {op:Operator}(ho:ir X (binaryOp op) r)(hr:rX X.K r g)(ha:PV X a fa)(hb:PV X b fb) :
  PV X (.BinOp a op b pos) (λψ=>(fa ψ).bind λx=>(fb ψ).bind λy=>g x y):=ia (zo ho ha hb) λ_ _ _ h=>DW hr h
def Ay(ho:ir X (compareOp op) r)(hr:rX X.K r g)(ha:PV X a fa)(hb:PV X b fb)(hm:behindInMarks op b=false:=by first|exact Al _|rfl|with_unfolding_all rfl) :
  PV X (.Compare a [op] [b] pos) (λψ=>(fa ψ).bind λx=>(fb ψ).bind λy=>g x y):=ia (HH ho ha hb hm) λ_ _ _ h=>DW hr h
def hJ:D->Option Bool
 | .bool b=>Ga b
 | _=>Gb
def xI{b:Bool}(h:hJ d=Ga b):d=.bool b:=by cases d<;>cases h;rfl
def Wk{Q:Bool->Hp->Prop}(h:tT K (λψ=>(f ψ).bind hJ) σ H Q):tV K f σ H (λx H'=>∃ k,x=.bl k/\Q k H'):=by
 obtain⟨H0,F,ψ,b,rs,e,q⟩:=h;obtain⟨d,e1,e2⟩:=ft e;cases xI e2;refine⟨H0,F,ψ,_,rs,e1,λv H1 F1 g1 f1 fh1 n1 rv=>?_⟩;cases rv;exact⟨b,rfl,q H1 g1⟩
def tw(ho:ir X (compareOp op) r)(hr:rX X.K r g)(ha:PV X a fa)(hb:PV X b fb)(hm:behindInMarks op b=false:=by first|exact Al _|rfl|with_unfolding_all rfl) :
  PB X (.Compare a [op] [b] pos) (λψ=>((fa ψ).bind λx=>(fb ψ).bind λy=>g x y).bind hJ):=by
 refine xH (Bs ho ha hb hm) λσ H Q h=>?_;exact DW hr (Wk h)
def zC:D->Option Bool
 | .none=>Ga false
 | .bool b=>Ga b
 | .int i=>Ga (i !=0)
 | .tuple xs=>Ga (!xs.isEmpty)
 | .list xs=>Ga (!xs.isEmpty)
 | _=>Gb
def fL.isEmpty {K:jb}{H:Hp}{ds:List D}{vs:List V}(r:fL K H ds vs):ds.isEmpty=vs.isEmpty:=by cases r<;>rfl
def WR{b:Bool}(e:zC d=Ga b)(r:gG K F d v)(s:fw F H):EX K v H b:=by
 cases r with
 | non=>cases e;rfl
 | bl c=>cases e;rfl
 | int i=>cases e;rfl
 | str x=>cases e
 | tup h r=>cases e;exact .inr (.inl ⟨_,lV s h,by rw[r.isEmpty]⟩)
 | lst h r=>cases e;exact .inl ⟨_,s.seq h,by rw[r.isEmpty]⟩
 | dic hs h ok r=>cases e
 | dcs h r=>cases e
def nw(h:PV X e f)(he:∀ whole,isTrue e X.env whole=(do let v <- whole;standAt e.pos;holding [v] (truthy v)):=by intro _;rfl):PB X e (λψ=>(f ψ).bind zC):=by
 refine xH (Fy h he) λσ H Q=>?_;rintro⟨H0,F,ψ,b,rs,e,q⟩;obtain⟨d,e1,e2⟩:=ft e;exact⟨H0,F,ψ,d,rs,e1,λv H1 F1 g1 f1 fh1 n1 rv=>⟨b,WR e2 rv fh1,q H1 g1⟩⟩
variable {f:FB}{r:List V->Hp->VK->Prop}
def oZ(h:PB X e f):PB X (.UnaryOp .Not e pos) (λψ=>(f ψ).bind λc=>Ga (!c)):=by
 refine xH (DZ h) λσ H Q=>?_;rintro⟨H0,F,ψ,b,rs,e,q⟩;obtain⟨c,z,e⟩:=ft e;cases e;exact⟨H0,F,ψ,c,rs,z,q⟩
def zC6(h:PB X a f):mD X (.BoolOp .And [a] pos) f:=HG h
def pM(h:PB X a f):mD X (.BoolOp .Or [a] pos) f:=DQ h
def zF0{g:FB}(ha:PB X a f)(hb:mD X (.BoolOp .And (b::rest) pos) g):mD X (.BoolOp .And (a::b::rest) pos) (λψ=>(f ψ).bind λc=>if c then g ψ else Ga false):=by
 refine Um (Ki ha hb) λσ H Q=>?_;rintro⟨H0,F,ψ,b,rs,e,q⟩;obtain⟨c,e1,e2⟩:=ft e;refine⟨H0,F,ψ,c,rs,e1,λH1 g1=>?_⟩;cases c with
 | true=>exact oK ⟨H0,F,ψ,b,rs.later g1,e2,λH2 g2=>q H2 (g1.trans g2)⟩
 | false=>cases e2;exact oG (q H1 g1)
def mG{g:FB}(ha:PB X a f)(hb:mD X (.BoolOp .Or (b::rest) pos) g):mD X (.BoolOp .Or (a::b::rest) pos) (λψ=>(f ψ).bind λc=>if c then Ga true else g ψ):=by
 refine Um (GL ha hb) λσ H Q=>?_;rintro⟨H0,F,ψ,b,rs,e,q⟩;obtain⟨c,e1,e2⟩:=ft e;refine⟨H0,F,ψ,c,rs,e1,λH1 g1=>?_⟩;cases c with
 | false=>exact oG ⟨H0,F,ψ,b,rs.later g1,e2,λH2 g2=>q H2 (g1.trans g2)⟩
 | true=>cases e2;exact oK (q H1 g1)
def mD.b9(h:mD X e f):PB X e f:=PW.pt h
variable {f:FV}
def rj {op}(h:PV X a f):PV X (.BoolOp op [a] pos) f:=IU h
def wG{g:FV}(ha:PV X a f)(hb:PV X (.BoolOp .And (b::rest) pos) g):PV X (.BoolOp .And (a::b::rest) pos) (λψ=>((f ψ).bind hJ).bind λc=>if c then g ψ else Ga (.bool false)):=by
 refine ia (MK ha hb) λσ H Q=>?_;rintro⟨H0,F,ψ,d,rs,e,q⟩;obtain⟨c,e1,e2⟩:=ft e;obtain⟨d',e3,e4⟩:=ft e1;cases xI e4;refine⟨H0,F,ψ,_,rs,e3,λv H1 F1 g1 f1 fh1 n1 rv=>?_⟩;cases rv;refine⟨c,rfl,?_⟩;cases c with
 | true=>exact oK ⟨H0,F1,ψ,d,rs.grow g1 f1 fh1 n1,e2,λw H2 F2 g2 f2 fh2 n2 rw2=>q w H2 F2 (g1.trans g2) (f1.trans f2) fh2 (n1.trans n2 g1) rw2⟩
 | false=>cases e2;exact oG (q (.bl false) H1 F1 g1 f1 fh1 n1 (.bl false))
def CP{g:FV}(ha:PV X a f)(hb:PV X (.BoolOp .Or (b::rest) pos) g):PV X (.BoolOp .Or (a::b::rest) pos) (λψ=>((f ψ).bind hJ).bind λc=>if c then Ga (.bool true) else g ψ):=by
 refine ia (OQ ha hb) λσ H Q=>?_;rintro⟨H0,F,ψ,d,rs,e,q⟩;obtain⟨c,e1,e2⟩:=ft e;obtain⟨d',e3,e4⟩:=ft e1;cases xI e4;refine⟨H0,F,ψ,_,rs,e3,λv H1 F1 g1 f1 fh1 n1 rv=>?_⟩;cases rv;refine⟨c,rfl,?_⟩;cases c with
 | false=>exact oG ⟨H0,F1,ψ,d,rs.grow g1 f1 fh1 n1,e2,λw H2 F2 g2 f2 fh2 n2 rw2=>q w H2 F2 (g1.trans g2) (f1.trans f2) fh2 (n1.trans n2 g1) rw2⟩
 | true=>cases e2;exact oK (q (.bl true) H1 F1 g1 f1 fh1 n1 (.bl true))
def LC(ha:PV X a f):PV X (.UnaryOp .Not a pos) (λψ=>((f ψ).bind hJ).bind λc=>Ga (.bool (!c))):=by
 refine ia (Mt ha) λσ H Q=>?_;rintro⟨H0,F,ψ,d,rs,e,q⟩;obtain⟨c,e1,e2⟩:=ft e;obtain⟨d',e3,e4⟩:=ft e1;cases xI e4;cases e2;refine⟨H0,F,ψ,_,rs,e3,λv H1 F1 g1 f1 fh1 n1 rv=>?_⟩;cases rv;exact⟨c,rfl,q (.bl (!c)) H1 F1 g1 f1 fh1 n1 (.bl _)⟩
def Cw{g:FV}(hc:PB X c fc)(ha:PV X a f)(hb:PV X b g):PV X (.IfExp c a b pos) (λψ=>(fc ψ).bind λk=>if k then f ψ else g ψ):=by
 refine ia (EZ hc ha hb) λσ H Q=>?_;rintro⟨H0,F,ψ,d,rs,e,q⟩;obtain⟨k,e1,e2⟩:=ft e;refine⟨H0,F,ψ,k,rs,e1,λH1 g1=>?_⟩;cases k with
 | true=>exact oK ⟨H0,F,ψ,d,rs.later g1,e2,λw H2 F2 g2 f2 fh2 n2 rw2=>q w H2 F2 (g1.trans g2) f2 fh2 (λb o h nb=>g1.free (n2 b o h nb)) rw2⟩
 | false=>exact oG ⟨H0,F,ψ,d,rs.later g1,e2,λw H2 F2 g2 f2 fh2 n2 rw2=>q w H2 F2 (g1.trans g2) f2 fh2 (λb o h nb=>g1.free (n2 b o h nb)) rw2⟩
section
variable {X:Cx}{ω:List (Gk×Obj)}{σ:St}{F H:Hp}{s:Gh}
def Ol:∀ ks:List D,(ks.map λk=>(k,jS true)).map (·.1)=ks
 | []=>rfl
 | k::ks=>congrArg (k::·) (Ol ks)
mutual
def oh:D->Bool
 | .dict _=>false
 | .list xs=>nZ xs
 | .tuple xs=>nZ xs
 | _=>true
def nZ:List D->Bool
 | []=>true
 | x::xs=>oh x&&nZ xs
end
mutual
def zP:∀ {d:D},d.canLay0=true->oh d=true
 | .none,_=>by rw[oh]<;>(intros;contradiction)
 | .bool _,_=>by rw[oh]<;>(intros;contradiction)
 | .int _,_=>by rw[oh]<;>(intros;contradiction)
 | .str _,_=>by rw[oh]<;>(intros;contradiction)
 | .list xs,h=>by rw[vE] at h;rw[oh];exact DF h
 | .tuple xs,h=>by rw[vE] at h;rw[oh];exact DF h
 | .dict _,h=>by rw[vE] at h;cases h
def DF:∀ {ds:List D},kq ds=true->nZ ds=true
 | [],_=>by rw[nZ]
 | x::xs,h=>by
  rw[kq,jl] at h;rw[nZ,zP h.1,DF h.2];rfl
end
mutual
def Mj:∀ {d:D} {n:Nat},fZ d n=true->oh d=true
 | .none,_,_=>by rw[oh]<;>(intros;contradiction)
 | .int _,_,_=>by rw[oh]<;>(intros;contradiction)
 | .tuple xs,0,h=>by rw[fZ] at h;cases h
 | .tuple xs,n+1,h=>by rw[fZ] at h;rw[oh];exact Ue h
 | .bool _,_,h=>by rw[fZ] at h;cases h
 | .str _,_,h=>by rw[fZ] at h;cases h
 | .list _,_,h=>by rw[fZ] at h;cases h
 | .dict _,_,h=>by rw[fZ] at h;cases h
def Ue:∀ {ds:List D} {n:Nat},iR ds n=true->nZ ds=true
 | [],_,_=>by rw[nZ]
 | x::xs,n,h=>by
  rw[iR,jl] at h;rw[nZ,Mj h.1,Ue h.2];rfl
end
mutual
def gG.reads (I:fB X ω σ H s)(g:fw F H):∀ {d:D} {v:V},gG X.K F d v->oh d=true->∀ {u:Gg},gq v u->∃ as,Reads s.heap u d as
 | _,_,.non,_,u,r=>by cases r;exact⟨_,.none⟩
 | _,_,.bl b,_,u,r=>by cases r;exact⟨_,.bool b⟩
 | _,_,.int i,_,u,r=>by obtain⟨t,rfl⟩:=r;exact⟨_,.int i t⟩
 | _,_,.str x,_,u,r=>by obtain⟨t,rfl⟩:=r;exact⟨_,.str x t⟩
 | _,_,.tup h q,pl,u,r=>by
  cases r;rw[oh] at pl;obtain⟨its,rv,⟨o,e,c,n,d⟩,_⟩:=I.tuple (lV g h);obtain⟨as,ra⟩:=fL.reads I g q pl rv;exact⟨_,.tuple e c d (by simpa using ra)⟩
 | _,_,.lst h q,pl,u,r=>by
  cases r;rw[oh] at pl;obtain⟨its,rv,⟨o,n,e,c,_,d⟩,_⟩:=I.list (g.seq h);obtain⟨as,ra⟩:=fL.reads I g q pl rv;exact⟨_,.list e c d (by simpa using ra)⟩
 | _,_,.dic _ _ _ _,pl,u,r=>by rw[oh] at pl;cases pl
 | _,_,.dcs _ _,pl,u,r=>by rw[oh] at pl;cases pl
def fL.reads (I:fB X ω σ H s)(g:fw F H):∀ {ds:List D} {vs:List V},fL X.K F ds vs->nZ ds=true->∀ {us:List Gg},fV vs us->∃ as,ReadsAll s.heap us ds as
 | _,_,.nil,_,us,r=>by cases r;exact⟨_,.nil⟩
 | _,_,.cons h t,pl,us,r=>by
  rw[nZ,jl] at pl;cases r with
  | cons r1 r2 =>
   obtain⟨as,a⟩:=gG.reads I g h pl.1 r1;obtain⟨bs,b⟩:=fL.reads I g t pl.2 r2;exact⟨_,.cons a b⟩
end
end
def xk (a b:D):Bool:=a.canLay0&&b.canLay0&&decide (min a.depth b.depth<=100)
def gw (a b:D):Option D:=if xk a b then Ga (.bool (ku a b)) else Gb
def gN (a b:D):Option D:=if xk a b then Ga (.bool (!PyData.eqv a b)) else Gb
def sK (K:jb)(g:D->D->Option D):R2:=λx y H Q=>∃ F a b d,fw F H/\gG K F a x/\gG K F b y/\g a b=Ga d/\∀ k,d=.bool k->Q (.bl k) H
def Sj {a b:D}(h:xk a b=true):a.canLay0=true/\b.canLay0=true/\min a.depth b.depth<=100:=by
 unfold xk at h;simp only[jl,decide_eq_true_eq] at h;exact⟨h.1.1,h.1.2,h.2⟩
def SI(hu:X.A.units+100<cLine):ir X (compareOp .Eq) (sK X.K gw):=by
 intro ω s σ H x y v u Q I rx ry h;obtain⟨F,a,b,d,g,ra,rb,e,q⟩:=h;unfold gw at e;split at e
 .rename_i ok;obtain⟨h1,h2,h3⟩:=Sj ok;obtain⟨as,ha⟩:=ra.reads I g (zP h1) rx;obtain⟨bs,hb⟩:=rb.reads I g (zP h2) ry;refine SeqAt.compareEq_reads ha hb h1 h2 (by omega) ⟨.bl _,H,I,rfl,q _ (jK e).symm⟩
 .cases e
def Kj(hu:X.A.units+100<cLine):ir X (compareOp .NotEq) (sK X.K gN):=by
 intro ω s σ H x y v u Q I rx ry h;obtain⟨F,a,b,d,g,ra,rb,e,q⟩:=h;unfold gN at e;split at e
 .rename_i ok;obtain⟨h1,h2,h3⟩:=Sj ok;obtain⟨as,ha⟩:=ra.reads I g (zP h1) rx;obtain⟨bs,hb⟩:=rb.reads I g (zP h2) ry;refine SeqAt.compareNe_reads ha hb h1 h2 (by omega) ⟨.bl _,H,I,rfl,q _ (jK e).symm⟩
 .cases e
def tD(hg:∀ a b d,g a b=Ga d->∃ k,d=.bool k):rX K (sK K g) g:=by
 intro F H x y a b d Q s ra rb e q;refine⟨F,a,b,d,s,ra,rb,e,λk ek=>?_⟩;subst ek;exact q (.bl k) H F (.refl _) (.refl _) s (.refl _ _) (.bl k)
def Ua:∀ a b d,gw a b=Ga d->∃ k,d=.bool k:=λa b d h=>by unfold gw at h;split at h<;>cases h;exact⟨_,rfl⟩
def Qr:∀ a b d,gN a b=Ga d->∃ k,d=.bool k:=λa b d h=>by unfold gN at h;split at h<;>cases h;exact⟨_,rfl⟩
def dI (C:Int->Int->Bool)(g:Int->Int->D):D->D->Option D
 | .int i,.int j=>if C i j then Ga (g i j) else Gb
 | _,_=>Gb
variable {g:Int->Int->V}
def CO{C:Int->Int->Prop}{C':Int->Int->Bool}{g':Int->Int->D}(hC:∀ i j,C' i j=true->C i j)(hg:∀ i j F,gG K F (g' i j) (g i j)):rX K (rI C g) (dI C' g'):=by
 intro F H x y a b d Q s ra rb e q;cases ra<;>cases rb<;>first|(cases e;done)|skip
 rename_i i j;unfold dI at e;dsimp only at e;split at e
 .rename_i c;cases e;exact⟨i,j,rfl,rfl,hC i j c,q _ H F (.refl _) (.refl _) s (.refl _ _) (hg i j F)⟩
 .cases e
def wE (g:Int->Int->D):D->D->Option D
 | .int i,.int j=>Ga (g i j)
 | _,_=>Gb
def mn{g':Int->Int->D}(hg:∀ i j F,gG K F (g' i j) (g i j)):rX K (tR g) (wE g'):=by
 intro F H x y a b d Q s ra rb e q;cases ra<;>cases rb<;>first|(cases e;done)|skip
 rename_i i j;cases e;exact⟨i,j,rfl,rfl,q _ H F (.refl _) (.refl _) s (.refl _ _) (hg i j F)⟩
def iZ:D->D->Option D:=wE λi j=>.int (i-j)
def sJ (i j:Int):Bool:=(decide (-(2^64)<i)&&decide (i<2^64))||(decide (-(2^64)<j)&&decide (j<2^64))
def iT:D->D->Option D:=dI sJ λi j=>.int (i*j)
def gy:D->D->Option D:=dI (λ_ j=>decide (0<j)&&decide (j<1073741824)) λi j=>.int (i/j)
def fW:D->D->Option D:=dI (λ_ j=>decide (0<j)) λi j=>.int (i%j)
def lj:D->D->Option D:=dI (λi j=>decide (0<=j)&&decide (j<=1000000)&&decide (i.natAbs<2^64)) λi j=>.int (i^j.toNat)
def NI:D->D->Option D:=wE λi j=>.int (uX i j)
def Go:D->D->Option D:=wE λi j=>.int (JO i j)
def mq:D->D->Option D:=wE λi j=>.bool (decide (i<j))
def lQ:D->D->Option D:=wE λi j=>.bool (decide (i<=j))
def sU:D->D->Option D:=wE λi j=>.bool (decide (j<i))
def Kp:D->D->Option D:=wE λi j=>.bool (decide (j<=i))
def fy:D->D->Option D
 | .int i,.int j=>Ga (.int (i+j))
 | .tuple xs,.tuple ys=>if xs.length+ys.length<=sizeLine then Ga (.tuple (xs++ys)) else Gb
 | .list xs,.list ys=>if xs.length+ys.length<=sizeLine then Ga (.list (xs++ys)) else Gb
 | .str x,.str y=>if x.length+y.length<=sizeLine then Ga (.str (x++y)) else Gb
 | _,_=>Gb
def YC{a b:Gk}(I:fB X ω σ H s)(ha:la X.K H a [])(hb:la X.K H b ys)(h:Q (.ref b) s) :
  wpAny (model X.prog X.w) X.A (binaryOp .Add (.ref a) (.ref b)) Q X.xe s:=by
 obtain⟨its,r1,p1,_⟩:=I.tuple ha;obtain⟨its2,r2,p2,_⟩:=I.tuple hb;cases r1;obtain⟨⟨cls,dd,data,sl⟩,ho,hc,n,hd⟩:=id p1;obtain⟨⟨cls2,dd2,data2,sl2⟩,ho2,hc2,n2,hd2⟩:=id p2;simp only at hc hd hc2 hd2;subst hc hd hc2 hd2;exact concat_meets ⟨_,ho,rfl⟩ ⟨_,ho2,rfl⟩ noFill_tuple_add seq_tuple_add qb v7 (vR _ _)
   (tuple_addW0 a b #[] its2.toArray n n2 dd dd2 sl sl2 (by rfl)) ⟨ho,ho2,h⟩
def HE (K:jb):R2:=λx y H Q=>∃ F a b d,fw F H/\gG K F a x/\gG K F b y/\fy a b=Ga d/\∀ v H' F',fw H H'->fw F F'->fw F' H'->gu F F' H->gG K F' d v->Q v H'
def rE{p:Gk}(g:fw F H)(hp:H p=Gb)(pl:Pl o:=by trivial):fw H (fH H p o)/\fw F (fH F p o)/\fw (fH F p o) (fH H p o)/\gu F (fH F p o) H:=by
 have fp:F p=Gb:=g.free hp;refine⟨fw.new hp,fw.new fp,fw.up2 g fp hp pl,λb u h nb=>?_⟩
 .by_cases hb:b=p
  .subst hb;exact hp
  .rw[fJ hb,nb] at h;cases h
def Yq:ir X (binaryOp .Add) (HE X.K):=by
 intro ω s σ H x y v u Q I rx ry h;obtain⟨F,a,b,d,g,ra,rb,e,q⟩:=h;cases ra with
 | int i =>
  cases rb<;>first|(cases e;done)|skip
  cases e;exact NW ω s σ H _ _ v u Q I rx ry ⟨i,_,rfl,rfl,q _ H F (.refl _) (.refl _) g (.refl _ _) (.int _)⟩
 | str i =>
  cases rb<;>first|(cases e;done)|skip
  unfold fy at e;dsimp only at e;split at e
  .rename_i c;cases e;exact CM ω s σ H _ _ v u Q I rx ry ⟨i,_,rfl,rfl,c,q _ H F (.refl _) (.refl _) g (.refl _ _) (.str _)⟩
  .cases e
 | @tup p xs ds h1 q1 =>
  cases rb<;>first|(cases e;done)|skip
  rename_i p2 xs2 ds2 h2 q2;unfold fy at e;dsimp only at e;split at e
  .rename_i c;cases e;by_cases hx:xs=[]
   .subst hx;cases q1;cases rx;cases ry;exact YC I (lV g h1) (lV g h2) ⟨.ref p2,H,I,rfl,q _ H F (.refl _) (.refl _) g (.refl _ _) (.tup h2 q2)⟩
   .refine HV ω s σ H _ _ v u Q I rx ry ⟨p,p2,xs,xs2,rfl,rfl,lV g h1,lV g h2,hx,by rwa[<- q1.length,<- q2.length],λz=>?_,λz l hl=>?_⟩
    .subst z;cases q2;exact q _ H F (.refl _) (.refl _) g (.refl _ _) (by rw[kf];exact .tup h1 q1)
    .obtain⟨s1,s2,s3,s4⟩:=rE (o:=.tup (xs++xs2)) g hl;exact q _ _ _ s1 s2 s3 s4 (.tup (la.of fI) ((q1.append q2).mono s2))
  .cases e
 | @lst p xs ds h1 q1 =>
  cases rb<;>first|(cases e;done)|skip
  rename_i p2 xs2 ds2 h2 q2;unfold fy at e;dsimp only at e;split at e
  .rename_i c;cases e;cases rx;cases ry;obtain⟨its,r,pl,hz⟩:=I.list (g.seq h1);obtain⟨its2,r2,pl2,hz2⟩:=I.list (g.seq h2);obtain⟨o,n,e1,c1,d1,k1⟩:=pl;obtain⟨o2,n2,e2,c2,d2,k2⟩:=pl2;have l1:=q1.length;have l2:=q2.length;have l3:=r.length;have l4:=r2.length;obtain⟨oc,od,oda,osl⟩:=o;obtain⟨oc2,od2,oda2,osl2⟩:=o2;simp only at c1 d1 k1 c2 d2 k2;subst c1 d1 k1 c2 d2 k2;refine concat_meets ⟨_,e1,rfl⟩ ⟨_,e2,rfl⟩ noFill_list_add seq_list_add JC Jl (Jc _ _)
    (list_addW p p2 its.toArray its2.toArray n n2 _ _ _ _ (by rw[jv,jv];omega)) ⟨e1,e2,?_⟩
   have ea:its.toArray++its2.toArray=(its++its2).toArray:=by simp
   rw[ea];obtain⟨s1,s2,s3,s4⟩:=rE (o:=.lst (xs++xs2)) g I.fresh;exact⟨.ref _,_,I.lnew (t':=s.toks) (r.append r2) (by rw[je];omega),rfl,q _ _ _ s1 s2 s3 s4 (.lst (hZ.of fI) ((q1.append q2).mono s2))⟩
  .cases e
 | non=>cases e
 | bl k=>cases e
 | dic hs h ok r=>cases e
 | dcs h r=>cases e
def WX:rX K (HE K) fy:=λF H x y a b d Q s ra rb e q=>⟨F,a,b,d,s,ra,rb,e,q⟩
variable {g:FV}
def ij (ha:PV X a f)(hb:PV X b g):PV X (.BinOp a .Add b pos) (λψ=>(f ψ).bind λx=>(g ψ).bind λy=>fy x y):=wf Yq WX ha hb
def pC (ha:PV X a f)(hb:PV X b g):PV X (.BinOp a .Sub b pos) (λψ=>(f ψ).bind λx=>(g ψ).bind λy=>iZ x y):=wf Kl (mn λ_ _ _=>.int _) ha hb
def xq (ha:PV X a f)(hb:PV X b g):PV X (.BinOp a .Mult b pos) (λψ=>(f ψ).bind λx=>(g ψ).bind λy=>iT x y) :=
 wf NS (CO (λi j h=>by simpa [sJ,CC] using h) λ_ _ _=>.int _) ha hb
def ou (ha:PV X a f)(hb:PV X b g):PV X (.BinOp a .FloorDiv b pos) (λψ=>(f ψ).bind λx=>(g ψ).bind λy=>gy x y) :=
 wf HL (CO (λi j h=>by simpa [OA] using h) λ_ _ _=>.int _) ha hb
def ml (ha:PV X a f)(hb:PV X b g):PV X (.BinOp a .Mod b pos) (λψ=>(f ψ).bind λx=>(g ψ).bind λy=>fW x y) :=
 wf MP (CO (λi j h=>by simpa using h) λ_ _ _=>.int _) ha hb
def Ai (ha:PV X a f)(hb:PV X b g):PV X (.BinOp a .Pow b pos) (λψ=>(f ψ).bind λx=>(g ψ).bind λy=>lj x y) :=
 wf Iv (CO (λi j h=>by simpa [LG,and_assoc] using h) λ_ _ _=>.int _) ha hb
def zC8 (ha:PV X a f)(hb:PV X b g):PV X (.BinOp a .BitAnd b pos) (λψ=>(f ψ).bind λx=>(g ψ).bind λy=>NI x y):=wf KD (mn λ_ _ _=>.int _) ha hb
def zF1 (ha:PV X a f)(hb:PV X b g):PV X (.BinOp a .BitOr b pos) (λψ=>(f ψ).bind λx=>(g ψ).bind λy=>Go x y):=wf Pq (mn λ_ _ _=>.int _) ha hb
def LP (ha:PV X a f)(hb:PV X b g):PV X (.Compare a [.Lt] [b] pos) (λψ=>(f ψ).bind λx=>(g ψ).bind λy=>mq x y):=Ay wq (mn λ_ _ _=>.bl _) ha hb
def WG (ha:PV X a f)(hb:PV X b g):PV X (.Compare a [.LtE] [b] pos) (λψ=>(f ψ).bind λx=>(g ψ).bind λy=>lQ x y):=Ay mE (mn λ_ _ _=>.bl _) ha hb
def Df (ha:PV X a f)(hb:PV X b g):PV X (.Compare a [.Gt] [b] pos) (λψ=>(f ψ).bind λx=>(g ψ).bind λy=>sU x y):=Ay Gn (mn λ_ _ _=>.bl _) ha hb
def Aw (hu:X.A.units+100<cLine)(ha:PV X a f)(hb:PV X b g):PV X (.Compare a [.Eq] [b] pos) (λψ=>(f ψ).bind λx=>(g ψ).bind λy=>gw x y):=Ay (SI hu) (tD Ua) ha hb
def WF (hu:X.A.units+100<cLine)(ha:PV X a f)(hb:PV X b g):PV X (.Compare a [.NotEq] [b] pos) (λψ=>(f ψ).bind λx=>(g ψ).bind λy=>gN x y):=Ay (Kj hu) (tD Qr) ha hb
def AB (ha:PV X a f)(hb:PV X b g):PB X (.Compare a [.Lt] [b] pos) (λψ=>((f ψ).bind λx=>(g ψ).bind λy=>mq x y).bind hJ):=tw wq (mn λ_ _ _=>.bl _) ha hb
def Fk (ha:PV X a f)(hb:PV X b g):PB X (.Compare a [.LtE] [b] pos) (λψ=>((f ψ).bind λx=>(g ψ).bind λy=>lQ x y).bind hJ):=tw mE (mn λ_ _ _=>.bl _) ha hb
def Od (ha:PV X a f)(hb:PV X b g):PB X (.Compare a [.Gt] [b] pos) (λψ=>((f ψ).bind λx=>(g ψ).bind λy=>sU x y).bind hJ):=tw Gn (mn λ_ _ _=>.bl _) ha hb
def WH (ha:PV X a f)(hb:PV X b g):PB X (.Compare a [.GtE] [b] pos) (λψ=>((f ψ).bind λx=>(g ψ).bind λy=>Kp x y).bind hJ):=tw OY (mn λ_ _ _=>.bl _) ha hb
def ly (hu:X.A.units+100<cLine)(ha:PV X a f)(hb:PV X b g):PB X (.Compare a [.Eq] [b] pos) (λψ=>((f ψ).bind λx=>(g ψ).bind λy=>gw x y).bind hJ):=tw (SI hu) (tD Ua) ha hb
def oC (hu:X.A.units+100<cLine)(ha:PV X a f)(hb:PV X b g):PB X (.Compare a [.NotEq] [b] pos) (λψ=>((f ψ).bind λx=>(g ψ).bind λy=>gN x y).bind hJ):=tw (Kj hu) (tD Qr) ha hb
def tSh (K:jb)(f:FL):TE:=λσ H Q=>∃ H0 F ψ ds,RS K H0 F H ψ σ/\f ψ=Ga ds /\
 ∀ a xs H' F',fw H H'->fw F F'->fw F' H'->gu F F' H->hZ K H' a xs->fL K F' ds xs->Q (.ref a) H'
abbrev tX (X:Cx)(e:Expr)(f:FL):Prop:=PE X e (tSh X.K f)
def BS:D->Option (List D)
 | .list xs=>Ga xs
 | _=>Gb
def BJ:D->Option (List D)
 | .tuple xs=>Ga xs
 | _=>Gb
def zxX{xs:List D}(h:BS d=Ga xs):d=.list xs:=by cases d<;>cases h;rfl
def zxY{xs:List D}(h:BJ d=Ga xs):d=.tuple xs:=by cases d<;>cases h;rfl
def gl (i:Nat):FL:=λψ=>match ψ[i]? with
 | some (.own ds)=>Ga ds
 | some (.val (.list ds))=>Ga ds
 | _=>Gb
def PV.sh(h:PV X e f):tX X e (λψ=>(f ψ).bind BS):=by
 refine ia h λσ H Q=>?_;rintro⟨H0,F,ψ,ds,r,e,q⟩;obtain⟨d,e1,e2⟩:=ft e;cases zxX e2;refine⟨H0,F,ψ,_,r,e1,λv H' F' g f1 fh n rv=>?_⟩;cases rv with
 | lst h1 h2=>exact q _ _ H' F' g f1 fh n (fh.seq h1) h2
def PO.sh{f:FL}(h:PO X e f):tX X e f:=by
 refine ia h λσ H Q=>?_;rintro⟨H0,F,ψ,ds,r,e,q⟩;exact⟨H0,F,ψ,ds,r,e,λa xs H' F' g f1 fh n ha fa ha' rr=>q a xs H' F' g f1 fh n (hZ.of ha') rr⟩
def DL (i:Nat)(hN:X.N[i]?=Ga x:=by rfl)(hv:oz X.env.scope x:=by first|exact kC rfl|exact j7 (kC rfl)|exact j7 (j7 rfl))(hd:(x==("__debug__":Str))=false:=by decide)
  (hcd:(x==("__classdict__":Str))=false:=by decide):tX X (.Name x pos) (gl i):=by
 refine ia (lE hN hv hd hcd) λσ H Q=>?_;rintro⟨H0,F,ψ,ds,r,e,q⟩;unfold gl at e;split at e
 .rename_i ds' z;cases e;obtain⟨u,e1,a,xs,e2,ha,fa,h0a,rr⟩:=r.sl i _ z;subst e2;exact⟨.ref a,e1,q a xs H F (.refl _) (.refl _) r.fh (.refl _ _) (hZ.of ha) rr⟩
 .rename_i ds' z;cases e;obtain⟨u,e1,v,e2,h⟩:=r.sl i _ z;subst e2;cases h with
  | lst h1 h2=>exact⟨_,e1,q _ _ H F (.refl _) (.refl _) r.fh (.refl _ _) (r.fh.seq h1) h2⟩
 .cases e
def gf:D->D->Option D
 | .list xs,.int i=>atI xs i
 | .tuple xs,.int i=>atI xs i
 | _,_=>Gb
def fL.at{vs:List V}(r:fL K F ds vs){i:Int}(h:atI ds i=Ga d):∃ v,atI vs i=Ga v/\gG K F d v:=by
 unfold atI at h ⊢;rw[<- r.length];obtain⟨j,e1,e2⟩:=ft h;obtain⟨v,e3,e4⟩:=r.get e2;exact⟨v,by rwa[e1],e4⟩
def RE:rX K (QN K) gf:=by
 intro F H x y a b d Q s ra rb e q;cases ra<;>first|(cases e;done)|skip
 .rename_i p xs ds h1 h2;cases rb<;>first|(cases e;done)|skip
  rename_i i;obtain⟨v,e1,e2⟩:=h2.at e;exact .inr (.inl ⟨p,xs,i,v,rfl,rfl,lV s h1,e1,q v H F (.refl _) (.refl _) s (.refl _ _) e2⟩)
 .rename_i p xs ds h1 h2;cases rb<;>first|(cases e;done)|skip
  rename_i i;obtain⟨v,e1,e2⟩:=h2.at e;exact .inl ⟨p,xs,i,v,rfl,rfl,s.seq h1,e1,q v H F (.refl _) (.refl _) s (.refl _ _) e2⟩
def gB(ha:PV X a f)(hb:PV X b g)(hs:wz b:=by exact λ_ _=>rfl):PV X (.Subscript a b pos) (λψ=>(f ψ).bind λx=>(g ψ).bind λy=>gf x y) :=
 ia (De EG ha hb hs) λ_ _ _ h=>DW RE h
def Fm (xs:List D):D->Option D
 | .int i=>atI xs i
 | _=>Gb
def zF2{f:FL}(ha:tX X a f)(hb:PV X b g)(hs:wz b:=by exact λ_ _=>rfl):PV X (.Subscript a b pos) (λψ=>(f ψ).bind λx=>(g ψ).bind λy=>Fm x y):=by
 refine ia (De Cm ha hb hs) λσ H Q=>?_;rintro⟨H0,F,ψ,d,r,e,q⟩;obtain⟨ds,e1,e⟩:=ft e;obtain⟨b,e2,e⟩:=ft e;refine⟨H0,F,ψ,ds,r,e1,λp xs H1 F1 g1 f1 fh1 n1 hl rr=>⟨H0,F1,ψ,b,r.grow g1 f1 fh1 n1,e2,λu H2 F2 g2 f2 fh2 n2 ru=>?_⟩⟩;cases ru<;>first|(cases e;done)|skip
 rename_i i;obtain⟨v,e3,e4⟩:=rr.at e;exact⟨p,xs,i,v,rfl,rfl,g2.seq hl,e3,q v H2 F2 (g1.trans g2) (f1.trans f2) fh2 (n1.trans n2 g1) (e4.mono f2)⟩
def BZ{id:String}(hc:iH X (.builtin id) r)(hg:Gl X x)(hm:X.mg x=Gb)(hv:bootBuiltins x=Ga (.builtin id))(ha:PE X e te)
  (hn:x≠"__name__":=by decide) (hdb:(x==("__debug__":Str))=false:=by decide) (hs:starEach [e] X.env=[(false,eval e X.env)]:=by rfl):PE X (.Call (.Name x p) [e] [] pos) (λσ H Q=>te σ H λv H1=>r [v] H1 Q) :=
 ia (xi hc hg hm hv (io ha lH hs) hn hdb hs (by rfl)) λσ H Q h=>h
def Ae{id:String}(hc:iH X (.type id) r)(hg:Gl X x)(hm:X.mg x=Gb)(hv:bootBuiltins x=Ga (.type id))(ha:PE X e te)
  (hn:x≠"__name__":=by decide) (hdb:(x==("__debug__":Str))=false:=by decide) (hs:starEach [e] X.env=[(false,eval e X.env)]:=by rfl):PE X (.Call (.Name x p) [e] [] pos) (λσ H Q=>te σ H λv H1=>r [v] H1 Q) :=
 ia (Es hc hg hm hv (io ha lH hs) hn hdb hs (by rfl)) λσ H Q h=>h
def gZ:D->Option D
 | .list xs=>Ga (.int xs.length)
 | .tuple xs=>Ga (.int xs.length)
 | _=>Gb
def oo(hg:Gl X "len")(hm:X.mg "len"=Gb)(ha:PV X e f)(hs:starEach [e] X.env=[(false,eval e X.env)]:=by rfl):PV X (.Call (.Name "len" p) [e] [] pos) (λψ=>(f ψ).bind gZ):=by
 refine ia (BZ vk hg hm Vr ha (hs:=hs)) λσ H Q=>?_;rintro⟨H0,F,ψ,d,r,e,q⟩;obtain⟨d',e1,e⟩:=ft e;refine⟨H0,F,ψ,d',r,e1,λv H1 F1 g1 f1 fh1 n1 rv=>?_⟩;cases rv<;>first|(cases e;done)|skip
 .rename_i p xs ds h1 h2;cases e;exact⟨p,xs,rfl,.inr (lV fh1 h1),q _ H1 F1 g1 f1 fh1 n1 (by rw[h2.length];exact .int _)⟩
 .rename_i p xs ds h1 h2;cases e;exact⟨p,xs,rfl,.inl (fh1.seq h1),q _ H1 F1 g1 f1 fh1 n1 (by rw[h2.length];exact .int _)⟩
def Cc{f:FL}(hg:Gl X "tuple")(hm:X.mg "tuple"=Gb)(ha:tX X e f)(hs:starEach [e] X.env=[(false,eval e X.env)]:=by rfl):PV X (.Call (.Name "tuple" p) [e] [] pos) (λψ=>(f ψ).bind λxs=>Ga (.tuple xs)):=by
 refine ia (Ae zm hg hm boot_tuple ha (hs:=hs)) λσ H Q=>?_;rintro⟨H0,F,ψ,d,r,e,q⟩;obtain⟨ds,e1,e⟩:=ft e;cases e;refine⟨H0,F,ψ,ds,r,e1,λp xs H1 F1 g1 f1 fh1 n1 hl rr=>⟨p,xs,rfl,.inl ⟨hl,λl hl'=>?_⟩⟩⟩;obtain⟨s1,s2,s3,s4⟩:=rE (o:=.tup xs) fh1 hl';exact q _ _ _ (g1.trans s1) (f1.trans s2) s3 (n1.trans s4 g1) (.tup (la.of fI) (rr.mono s2))
def FN:D->String
 | .none=>"NoneType"|.bool _=>"bool"|.int _=>"int"|.str _=>"str"|.list _=>"list"|.tuple _=>"tuple"|.dict _=>"dict"
def FW (T:String)(d:D):Bool:=FN d==T||(T=="int"&&FN d=="bool")
def FY:List String:=["int","bool","str","list","tuple"]
def zA4(hT:T∈FY)(d:D):PySem.W.kitOne K (.type (FN d)) (.type T)=Ga (FW T d):=by
 simp only[FY,jo,j8,or_false] at hT;rcases hT with rfl|rfl|rfl|rfl|rfl<;>cases d<;>kernel_rfl
def XO(I:fB X ω σ H s)(g:fw F H)(r:gG X.K F d v)(ru:gq v u):∃ P,PySem.W.KitX X.K u (.type (FN d)) P/\P s.heap:=by
 cases r with
 | non=>cases ru;exact⟨_,PySem.W.kitx_none,True.intro⟩
 | bl b=>cases ru;exact⟨_,PySem.W.kitx_bool,True.intro⟩
 | int i=>obtain⟨t,rfl⟩:=ru;exact⟨_,PySem.W.kitx_int,True.intro⟩
 | str x=>obtain⟨t,rfl⟩:=ru;exact⟨_,PySem.W.kitx_str,True.intro⟩
 | tup h q=>cases ru;obtain⟨its,rv,⟨o,e,c,n,d⟩,_⟩:=I.tuple (lV g h);exact⟨_,PySem.W.kitx_tuple,⟨o,e,c⟩⟩
 | lst h q=>cases ru;obtain⟨its,rv,⟨o,n,e,c,_,d⟩,_⟩:=I.list (g.seq h);exact⟨_,PySem.W.kitx_list,⟨o,e,c⟩⟩
 | dic sm h ok q=>cases ru;obtain⟨⟨o,es,e,c,d,k⟩,_,_⟩:=(show iy X.prog X.w H s.heap _ (.ext _) from I.hok _ _ (g _ _ h));exact⟨_,J2,⟨o,e,c.1⟩⟩
 | dcs h q=>cases ru;obtain⟨_,_,vs,_,o,es,ep,e,c,_⟩:=wm I.hok (Rd.mono g h);exact⟨_,J2,⟨o,e,c.1⟩⟩
def Yi(r:gq v u):u≠.builtin "__main__.__loader__#opaque":=by
 intro z;subst z;cases v<;>first|(cases r;done)|(obtain⟨t,q⟩:=r;cases q)
def zuM(hT:T∈FY):iH X (.builtin "isinstance") (λxs H Q=>∃ F d x,xs=[x,.ty T]/\fw F H/\gG X.K F d x/\Q (.bl (FW T d)) H):=by
 intro ω s σ H xs us Q I r h;obtain⟨F,d,x,rfl,g,rx,q⟩:=h;obtain⟨u,w',rfl,r1,r2⟩:=FK r;cases r2;obtain⟨P,Z,z⟩:=XO I g rx r1;exact PySem.W.kia_one Z I.kIn z (zA4 hT d) (Yi r1) λtk=>⟨.bl _,H,I.tok tk,rfl,q⟩
def zF4(hg:Gl X x)(hm:X.mg x=Gb)(hv:bootBuiltins x=Ga (.type T))(hn:x≠"__name__":=by decide)(hd:(x==("__debug__":Str))=false:=by decide):PE X (.Name x pos) (tC (.ty T)) :=
 λ_ _ _ H _ I h=>oU I hg hm hv ⟨.ty T,H,I,rfl,h⟩ hn hd
def zx(hT:T∈FY)(hg:Gl X "isinstance")(hm:X.mg "isinstance"=Gb)(hg2:Gl X x)(hm2:X.mg x=Gb)(hv:bootBuiltins x=Ga (.type T))(ha:PV X e f)
  (hn:x≠"__name__":=by decide) (hd:(x==("__debug__":Str))=false:=by decide)
  (hs:starEach [e,.Name x p2] X.env=(false,eval e X.env)::starEach [.Name x p2] X.env:=by rfl) (hs2:starEach [.Name x p2] X.env=[(false,eval (.Name x p2) X.env)]:=by rfl) :
  PV X (.Call (.Name "isinstance" p) [e,.Name x p2] [] pos) (λψ=>(f ψ).bind λd=>Ga (.bool (FW T d))):=by
 refine ia (xi (zuM hT) hg hm boot_isinstance (io ha (io (zF4 (pos:=p2) hg2 hm2 hv hn hd) lH hs2) hs) (by decide) (by decide) hs (by rw[hs2];rfl)) λσ H Q=>?_;rintro⟨H0,F,ψ,d,r,e,q⟩;obtain⟨d',e1,e⟩:=ft e;cases e;refine⟨H0,F,ψ,d',r,e1,λv H1 F1 g1 f1 fh1 n1 rv=>?_⟩;exact⟨F1,d',v,rfl,fh1,rv,q _ H1 F1 g1 f1 fh1 n1 (.bl _)⟩
inductive oj where
 | nx (ψ:En)|rt (d:D)|ro (ds:List D)|bk (ψ:En)|ct (ψ:En)|rc (d:D) (ψ:En)
abbrev FS:=En->Option oj
def yA (K:jb)(H0 F:Hp)(E:rO):oj->Prop
 | .nx ψ=>∀ σ' H' F',fw F F'->gu F F' H0->RS K H0 F' H' ψ σ'->E.nx σ' H'
 | .bk ψ=>∀ σ' H' F',fw F F'->gu F F' H0->RS K H0 F' H' ψ σ'->E.bk σ' H'
 | .ct ψ=>∀ σ' H' F',fw F F'->gu F F' H0->RS K H0 F' H' ψ σ'->E.ct σ' H'
 | .rt d=>∀ v H' F',fw H0 H'->fw F F'->fw F' H'->gu F F' H0->gG K F' d v->E.rt v H'
 | .ro ds=>∀ a xs H' F',fw H0 H'->fw F F'->fw F' H'->gu F F' H0->H0 a=Gb->F' a=Gb->H' a=Ga (.lst xs)->fL K F' ds xs->E.rt (.ref a) H'
 | .rc d ψ=>∀ v σ' H' F',fw F F'->gu F F' H0->RS K H0 F' H' ψ σ'->gG K F' d v->E.rt v H'
def gu.up {F2:Hp}(a:gu F F1 H0)(b:gu F1 F2 H0):gu F F2 H0:=a.trans b (.refl _)
def gu.dn(a:gu F F1 H)(s:fw H0 H):gu F F1 H0:=λb o h n=>s.free (a b o h n)
def yA.mono{E:rO}{o:oj}(f:fw F F1)(n:gu F F1 H0)(p:yA K H0 F E o):yA K H0 F1 E o:=by
 cases o with
 | nx ψ=>exact λσ' H' F' f2 n2 r=>p σ' H' F' (f.trans f2) (n.up n2) r
 | bk ψ=>exact λσ' H' F' f2 n2 r=>p σ' H' F' (f.trans f2) (n.up n2) r
 | ct ψ=>exact λσ' H' F' f2 n2 r=>p σ' H' F' (f.trans f2) (n.up n2) r
 | rt d=>exact λv H' F' g f2 fh n2 r=>p v H' F' g (f.trans f2) fh (n.up n2) r
 | ro ds=>exact λa xs H' F' g f2 fh n2 h1 h2 h3 r=>p a xs H' F' g (f.trans f2) fh (n.up n2) h1 h2 h3 r
 | rc d ψ=>exact λv σ' H' F' f2 n2 r q=>p v σ' H' F' (f.trans f2) (n.up n2) r q
def LH (K:jb)(g:FS):TS:=λE σ H=>∃ H0 F ψ o,RS K H0 F H ψ σ/\g ψ=Ga o/\yA K H0 F E o
abbrev mo (X:Cx)(st:Stmt)(g:FS):Prop:=PS X st (LH X.K g)
abbrev mV (X:Cx)(st:List Stmt)(g:FS):Prop:=nV X st (LH X.K g)
noncomputable def mK (o:Option oj)(k:FS):Option oj:=o.bind λo=>match o with
 | .nx ψ=>k ψ
 | o=>Ga o
def iq:mV X [] (λψ=>Ga (.nx ψ)):=by
 refine Gs HW λE σ H=>?_;rintro⟨H0,F,ψ,o,r,e,p⟩;cases e;exact p σ H F (.refl _) (.refl _ _) r
variable {g:FS}{a:Gk}
def fS{rest:List Stmt}{k:FS}(h1:mo X st g)(h2:mV X rest k):mV X (st::rest) (λψ=>mK (g ψ) k):=by
 refine Gs (xh h1 h2) λE σ H=>?_;rintro⟨H0,F,ψ,o,r,e,p⟩;obtain⟨o1,e1,e2⟩:=ft e;refine⟨H0,F,ψ,o1,r,e1,?_⟩;cases o1 with
 | nx env1=>exact λσ' H' F' f n r'=>⟨H0,F',env1,o,r',e2,p.mono f n⟩
 | rt d=>cases e2;exact p
 | ro d=>cases e2;exact p
 | rc a d=>cases e2;exact p
 | bk d=>cases e2;exact p
 | ct d=>cases e2;exact p
def fQ(h1:mo X st g):mV X [st] g:=yu h1
def Dy (i:Nat)(h:mo X st g):mo X st (λψ=>g (frzAt i ψ)):=by
 refine nO h λE σ H=>?_;rintro⟨H0,F,ψ,o,r,e,p⟩;obtain⟨F',f,n,r'⟩:=r.frzAt i;exact⟨H0,F',_,o,r',e,p.mono f n⟩
def gm(h:PV X e f):mo X (.Return (Ga e) pos) (λψ=>(f ψ).bind λd=>Ga (.rt d)):=by
 refine nO (xy h) λE σ H=>?_;rintro⟨H0,F,ψ,o,r,e,p⟩;obtain⟨d,e1,e⟩:=ft e;cases e;exact⟨H0,F,ψ,d,r,e1,λv H' F' g f1 fh n rv=>p v H' F' (r.h0.trans g) f1 fh (n.dn r.h0) rv⟩
def VC{f:FL}(h:PO X e f):mo X (.Return (Ga e) pos) (λψ=>(f ψ).bind λd=>Ga (.ro d)):=by
 refine nO (xy h) λE σ H=>?_;rintro⟨H0,F,ψ,o,r,e,p⟩;obtain⟨d,e1,e⟩:=ft e;cases e;exact⟨H0,F,ψ,d,r,e1,λa xs H' F' g f1 fh n ha fa ha' rr=>p a xs H' F' (r.h0.trans g) f1 fh (n.dn r.h0) (r.h0.free ha) fa ha' rr⟩
def go (i:Nat):FL:=λψ=>match ψ[i]? with
 | some (.own ds)=>Ga ds
 | _=>Gb
def XB (i:Nat)(hN:X.N[i]?=Ga x:=by rfl)(hv:oz X.env.scope x:=by first|exact kC rfl|exact j7 (kC rfl)|exact j7 (j7 rfl))(hd:(x==("__debug__":Str))=false:=by decide)
  (hcd:(x==("__classdict__":Str))=false:=by decide):mo X (.Return (Ga (.Name x p)) pos) (λψ=>(go i ψ).bind λd=>Ga (.ro d)):=by
 refine nO (xy (lE hN hv hd hcd)) λE σ H=>?_;rintro⟨H0,F,ψ,o,r,e,p⟩;obtain⟨ds,e1,e⟩:=ft e;cases e;unfold go at e1;split at e1
 .rename_i ds' z;cases e1;obtain⟨u,e1,a,xs,e2,ha,fa,h0a,rr⟩:=r.sl i _ z;subst e2;exact⟨.ref a,e1,p a xs H F r.h0 (.refl _) r.fh (.refl _ _) h0a fa ha rr⟩
 .cases e1
def gW{a b:List Stmt}{k:FS}(hc:PB X c fc)(ha:mV X a g)(hb:mV X b k):mo X (.If c a b pos) (λψ=>(fc (frz ψ)).bind λt=>if t then g ψ else k ψ):=by
 refine nO (Cy hc ha hb) λE σ H=>?_;rintro⟨H0,F,ψ,o,r,e,p⟩;obtain⟨t,e1,e⟩:=ft e;refine⟨H0,H,frz ψ,t,r.frz,e1,λH' g'=>?_⟩;cases t with
 | true=>exact oK ⟨H0,F,ψ,o,r.later g',e,p⟩
 | false=>exact oG ⟨H0,F,ψ,o,r.later g',e,p⟩
def gQ (i:Nat)(h:PV X e f)(hN:X.N.Nodup)(hi:X.N[i]?=Ga x:=by rfl)(hx:tP X.env.scope x:=by first|exact kC rfl|exact j7 rfl)
  (hs:swapsWith e (Ga (.Name x pos')) pos.line X.env=pure false:=by rfl) (hf:X.fn x=true\/X.env.scope.names.lookup x=Ga .local:=by first|exact .inl rfl|exact .inr rfl) :
  mo X (.Assign [.Name x pos'] e pos) (λψ=>(f ψ).bind λd=>Ga (.nx (ψ.set i (.val d)))):=by
 intro ω s σ H D I hw;refine sZ hN hi hx h hs hf ω s σ H D I ?_;obtain⟨H0,F,ψ,o,r,e,p⟩:=hw;obtain⟨d,e1,e⟩:=ft e;cases e;have hl:i<σ.length:=by rw[I.len];exact(ju.mp hi).1
 exact⟨H0,F,ψ,d,r,e1,λv H' F' g f1 fh n rv=>p _ H' F' f1 (n.dn r.h0) ((r.grow g f1 fh n).put hl rv)⟩
def As (i:Nat){f:FL}(h:PO X e f)(hN:X.N.Nodup)(hi:X.N[i]?=Ga x:=by rfl)(hx:tP X.env.scope x:=by first|exact kC rfl|exact j7 rfl)
  (hs:swapsWith e (Ga (.Name x pos')) pos.line X.env=pure false:=by rfl) (hf:X.fn x=true\/X.env.scope.names.lookup x=Ga .local:=by first|exact .inl rfl|exact .inr rfl) :
  mo X (.Assign [.Name x pos'] e pos) (λψ=>(f ψ).bind λd=>Ga (.nx (ψ.set i (.own d)))):=by
 intro ω s σ H D I hw;refine sZ hN hi hx h hs hf ω s σ H D I ?_;obtain⟨H0,F,ψ,o,r,e,p⟩:=hw;obtain⟨d,e1,e⟩:=ft e;cases e;have hl:i<σ.length:=by rw[I.len];exact(ju.mp hi).1
 refine⟨H0,F,ψ,d,r,e1,λa xs H' F' g f1 fh n ha fa ha' rr=>p _ H' F' f1 (n.dn r.h0) ((r.grow g f1 fh n).putO hl ha' fa (r.h0.free ha) rr ?_)⟩;exact λj s o _ ej=>r.ne_free ha j s o ej
def Be (i:Nat){p3:Pos}(h:PV X e f)(hN:X.N[i]?=Ga x:=by rfl)(hv:oz X.env.scope x:=by first|exact kC rfl|exact j7 (kC rfl)|exact j7 (j7 rfl))
  (hst:starEach [e] X.env=[(false,eval e X.env)]:=by rfl) (hline:(p2.endLine==p3.line)=true:=by rfl)
  (hd:(x==("__debug__":Str))=false:=by decide) (hcd:(x==("__classdict__":Str))=false:=by decide)
  (hs:swapsWith (.Call (.Attribute (.Name x p) "append" p2) [e] [] p3) Gb pos.line X.env=pure false:=by rfl) :
  mo X (.Expr (.Call (.Attribute (.Name x p) "append" p2) [e] [] p3) pos) (λψ=>(go i ψ).bind λds=>(f ψ).bind λd=>if ds.length<1000000 then Ga (.nx (ψ.set i (.own (ds++[d])))) else Gb):=by
 refine nO (HM (wv Jd PySem.F.slot_list_append PySem.F.type_list_append yL (lE (pos:=p) hN hv hd hcd) (io h lH hst) rfl (by rw[hst];rfl) hline hst rfl) hs) λE σ H=>?_;rintro⟨H0,F,ψ,o,r,e,p⟩;obtain⟨ds,e1,e⟩:=ft e;obtain⟨d,e2,e⟩:=ft e;split at e;rotate_left
 .cases e
 rename_i hz;cases e;unfold go at e1;split at e1;rotate_left
 .cases e1
 rename_i ds' z;cases e1;obtain⟨u,e3,a,xs,e4,ha,fa,h0a,rr⟩:=r.sl i _ z;subst e4;refine⟨.ref a,e3,.inl ⟨rfl,xs,hZ.of ha⟩,H0,F,ψ,d,r,e2,λv H' F' g f1 fh n rv=>?_⟩;have r2:=r.grow g f1 fh n;obtain⟨u2,e5,a2,xs2,e6,ha2,fa2,h0a2,nL⟩:=r2.sl i _ z;rw[e3] at e5;cases e5;cases e6;have ex:xs2=xs:=by have:=g a _ ha;rw[ha2] at this;cases this;rfl
 subst ex;refine⟨a,xs2,v,rfl,rfl,ha2,?_,?_⟩
 .rw[<- nL.length];exact jx hz (by rw[sizeLine_eq];decide)
 .exact p σ _ F' f1 (n.dn r.h0) (r2.chg z e3 (nL.append (.cons rv .nil)))
abbrev FT:=D->En->Option En
def tG (K:jb)(t:FT):TG:=λv σ H Q=>∃ H0 F ψ d env',RS K H0 F H ψ σ/\gG K F d v/\t d ψ=Ga env'/\∀ σ',RS K H0 F H env' σ'->Q σ' H
abbrev sP (X:Cx)(tg:Expr)(t:FT):Prop:=PG X tg (tG X.K t)
def tGs (K:jb)(t:List D->En->Option En):yb:=λvs σ H Q=>∃ H0 F ψ ds env',RS K H0 F H ψ σ/\fL K F ds vs/\t ds ψ=Ga env'/\∀ σ',RS K H0 F H env' σ'->Q σ' H
abbrev zN (X:Cx)(tg:List Expr)(t:List D->En->Option En):Prop:=Aa X tg (tGs X.K t)
def zA5{t t':TG}(h:PG X tg t)(m:∀ v σ H Q,t' v σ H Q->t v σ H Q):PG X tg t':=λω s σ H v u Q I r q=>h ω s σ H v u Q I r (m _ _ _ _ q)
def SO {tg:List Expr}{t t':yb}(h:Aa X tg t)(m:∀ v σ H Q,t' v σ H Q->t v σ H Q):Aa X tg t':=λω s σ H v u Q I r q=>h ω s σ H v u Q I r (m _ _ _ _ q)
def BA (i:Nat)(hN:X.N.Nodup)(hi:X.N[i]?=Ga x:=by rfl)(hx:tP X.env.scope x:=by first|exact kC rfl|exact j7 rfl)(hf:X.fn x=true\/X.env.scope.names.lookup x=Ga .local:=by first|exact .inl rfl|exact .inr rfl) :
  sP X (.Name x pos) (λd ψ=>Ga (ψ.set i (.val d))):=by
 intro ω s σ H v u Q I r hw;refine HN hN hi hx hf ω s σ H v u Q I r ?_;obtain⟨H0,F,ψ,d,env',rs,rv,e,q⟩:=hw;cases e;have hl:i<σ.length:=by rw[I.len];exact(ju.mp hi).1
 exact q _ (rs.put hl rv)
def zDb:zN X [] (λds ψ=>match ds with|[]=>Ga ψ|_=>Gb):=by
 refine SO HF λvs σ H Q=>?_;rintro⟨H0,F,ψ,ds,env',rs,rv,e,q⟩;cases rv with
 | nil=>cases e;exact⟨rfl,q σ rs⟩
 | cons _ _=>cases e
variable {t:FT}
def zA6{u:List D->En->Option En}(h1:sP X e t)(h2:zN X es u)(hs:(assignEach (e::es) X.env).map (·.2)=assign e X.env::(assignEach es X.env).map (·.2):=by rfl) :
  zN X (e::es) (λds ψ=>match ds with|d::r=>(t d ψ).bind λenv1=>u r env1|[]=>Gb):=by
 refine SO (Fp h1 h2 hs) λvs σ H Q=>?_;rintro⟨H0,F,ψ,ds,env',rs,rv,e,q⟩;cases rv with
 | nil=>cases e
 | @cons d v ds vs h t =>
  obtain⟨env1,e1,e2⟩:=ft e;exact⟨v,vs,rfl,H0,F,ψ,d,env1,rs,h,e1,λσ1 r1=>⟨H0,F,env1,ds,env',r1,t,e2,q⟩⟩
def zF5{t:List D->En->Option En}(hc:X.calm=true)(h:zN X es t)(hl:∀ ds ψ env',t ds ψ=Ga env'->ds.length=es.length)
  (hn:(assignEach es X.env).length=es.length:=by rfl) (hst:(assignEach es X.env).findIdx? (·.1)=Gb:=by rfl):sP X (.Tuple es k pos) (λd ψ=>(BJ d).bind λds=>t ds ψ):=by
 refine zA5 (Kx hc h hn hst) λv σ H Q=>?_;rintro⟨H0,F,ψ,d,env',rs,rv,e,q⟩;obtain⟨ds,e1,e2⟩:=ft e;cases zxY e1;cases rv with
 | @tup a xs _ h1 rr=>exact⟨a,xs,rfl,lV rs.fh h1,by rw[<- rr.length];exact hl _ _ _ e2,H0,F,ψ,ds,env',rs,rr,e2,q⟩
def zF6(he:PV X e f)(hg:sP X tg t)(hs:swapsWithSole [tg] e pos.line X.env=pure false:=by rfl)(hw:swappedStores [tg] e X.env=pure Gb:=by rfl)
  (h1:(assignEach [tg] X.env).map (·.2)=[assign tg X.env]:=by rfl):mo X (.Assign [tg] e pos) (λψ=>(f ψ).bind λd=>(t d ψ).bind λenv1=>Ga (.nx env1)):=by
 refine nO (zL he hg hs hw h1) λE σ H=>?_;rintro⟨H0,F,ψ,o,r,e,p⟩;obtain⟨d,e1,e⟩:=ft e;obtain⟨env1,e2,e⟩:=ft e;cases e;exact⟨H0,F,ψ,d,r,e1,λv H' F' g f1 fh n rv=>⟨H0,F',ψ,d,env1,r.grow g f1 fh n,rv,e2,λσ' r'=>p σ' H' F' f1 (n.dn r.h0) r'⟩⟩
def gk (t:FT)(body:FS):List D->FS
 | [],ψ=>Ga (.nx ψ)
 | x::r,ψ=>(t x ψ).bind λe1=>(body e1).bind λo=>match o with
  | .nx e=>gk t body r e
  | .ct e=>gk t body r e
  | .bk e=>Ga (.nx e)
  | .rt d=>Ga (.rt d)
  | .ro ds=>Ga (.ro ds)
  | .rc d e=>Ga (.rc d e)
def lW (K:jb)(J:It)(F:Hp)(items:List D):Prop:=∀ (H:Hp),fw F H->∀ i,(items.length<=i->J.stop i H) /\
 ∀ d,items[i]?=Ga d->J.go i H/\∀ x H',J.yld i H x H'->fw H H'/\∃ F',fw F F'/\fw F' H'/\gu F F' H/\gG K F' d x
def tI (K:jb)(f:FL):TI:=λσ H R=>∃ H0 F ψ ds,RS K H0 F H ψ σ/\f ψ=Ga ds/\∀ J H' F',fw H H'->fw F F'->fw F' H'->gu F F' H->(∀ F2,fw F' F2->lW K J F2 ds)->R J H'
abbrev wO (X:Cx)(tg iter:Expr)(f:FL):Prop:=PI X tg iter (tI X.K f)
def Ld {it:Expr}{t t':TI}(h:PI X tg it t)(m:∀ σ H Q,t' σ H Q->t σ H Q):PI X tg it t':=λω s σ H Q I q=>h ω s σ H Q I (m σ H Q q)
def oV{f:FL}(hp:PassesOwn (model X.prog X.w) X.A X.env X.xe)(hc:X.calm=true)(hi:wO X tg iter f)(hg:sP X tg t)(hb:mV X body g)
  (hs:∀ x,foldedSetIterable iter X.env x=pure x:=by intro _;rfl):mo X (.For tg iter body [] pos) (λψ=>(f ψ).bind λds=>gk t g ds ψ):=by
 refine nO (AG hp hc hi hg hb hs) λE σ H=>?_;rintro⟨H0,F,ψ,o,r,e,p⟩;obtain⟨ds,e1,e⟩:=ft e;refine⟨H0,F,ψ,ds,r,e1,λJ H1 F1 g1 f1 fh1 n1 Y=>?_⟩;have p1:=p.mono f1 (n1.dn r.h0);have r1:=r.grow g1 f1 fh1 n1;refine⟨λi m σ H=>i+m=ds.length/\∃ F2 ψ,RS X.K H0 F2 H ψ σ/\fw F1 F2/\gu F1 F2 H0/\gk t g (ds.drop i) ψ=Ga o,⟨ds.length,by omega,F1,ψ,r1,.refl _,.refl _ _,e⟩,?_⟩;rintro i m σ' H' ⟨hm,F2,mZ,r2,f2,n2,e2⟩;have p2:=p1.mono f2 n2;obtain⟨yd,yg⟩:=Y F2 f2 H' r2.fh i;by_cases hlt:i<ds.length
 .obtain⟨go,yy⟩:=yg ds[i] (by simp[hlt]);rw[uN hlt] at e2;unfold gk at e2;obtain⟨e3,x1,x2⟩:=ft e2;obtain⟨o1,x3,x4⟩:=ft x2;refine .inr ⟨go,λσ3 H3=>i+1+(m-1)=ds.length/\∃ F3 ψ,RS X.K H0 F3 H3 ψ σ3/\fw F1 F3/\gu F1 F3 H0/\gk t g (ds.drop (i+1)) ψ=Ga o,λσ3 H3 h3=>⟨m-1,by omega,h3⟩,λx Hx yl=>?_⟩;obtain⟨gx,F4,f4,fh4,n4,rx⟩:=yy x Hx yl;have r4:=r2.grow gx f4 fh4 n4;refine⟨H0,F4,mZ,ds[i],e3,r4,rx,x1,λσ5 r5=>⟨H0,F4,e3,o1,r5,x3,?_⟩⟩;have p4:=p2.mono f4 (n4.dn r2.h0);cases o1 with
  | nx e5=>exact λσ6 H6 F6 f6 n6 r6=>⟨by omega,F6,e5,r6,f2.trans (f4.trans f6),n2.up ((n4.dn r2.h0).up n6),x4⟩
  | ct e5=>exact λσ6 H6 F6 f6 n6 r6=>⟨by omega,F6,e5,r6,f2.trans (f4.trans f6),n2.up ((n4.dn r2.h0).up n6),x4⟩
  | bk e5=>cases x4;exact p4
  | rt d=>cases x4;exact p4
  | ro d=>cases x4;exact p4
  | rc a d=>cases x4;exact p4
 .rw[vh (by omega)] at e2;cases e2;exact .inl ⟨yd (by omega),p2 σ' H' F2 (.refl _) (.refl _ _) r2⟩
def toS:D->Option (List D)
 | .list xs=>Ga xs
 | .tuple xs=>Ga xs
 | _=>Gb
def zrF(h:hZ K F a xs)(r:fL K F ds xs):lW K (LQ K a) F ds:=by
 intro H g i;refine⟨λhi=>⟨xs,g.seq h,by rwa[<- r.length]⟩,λd hd=>?_⟩;obtain⟨v,e1,e2⟩:=r.get hd;refine⟨⟨xs,v,g.seq h,e1⟩,λx H' y=>?_⟩;obtain⟨rfl,y⟩:=y;have:=y xs (g.seq h);rw[e1] at this;cases this;exact⟨.refl _,F,.refl _,g,.refl _ _,e2⟩
def ztK(h:la K F a xs)(r:fL K F ds xs):lW K (IX K a) F ds:=by
 intro H g i;refine⟨λhi=>⟨xs,lV g h,by rwa[<- r.length]⟩,λd hd=>?_⟩;obtain⟨v,e1,e2⟩:=r.get hd;refine⟨⟨xs,v,lV g h,e1⟩,λx H' y=>?_⟩;obtain⟨rfl,y⟩:=y;have:=y xs (lV g h);rw[e1] at this;cases this;exact⟨.refl _,F,.refl _,g,.refl _ _,e2⟩
def II {ψ:Env}:∀ (names:List (Str×NameKind)) (cs:List (Str×Gk)),(∀ y∈names,y.2=.free->∃ c,ψ.cells.lookup y.1=Ga c)->(∀ x c,cs.lookup x=Ga c->ψ.cells.lookup x=Ga c) ->
  ∃ cl,(forIn names cs λ(y:Str×NameKind) (r:List (Str×Gk))=>(if (y.2==.free)=true then(do let a <- cellOf ψ y.1;pure (ForInStep.yield ((y.1,a)::r))) else pure (ForInStep.yield r):Sem (ForInStep (List (Str×Gk)))))=(pure cl:Sem (List (Str×Gk))) /\
   (∀ x c,cl.lookup x=Ga c->ψ.cells.lookup x=Ga c)/\(∀ x,(x,ko)∈names->∃ c,cl.lookup x=Ga c)/\∀ x c,cs.lookup x=Ga c->∃ c',cl.lookup x=Ga c'
 | [],cs,_,h2=>⟨cs,rfl,h2,λx hx=>by simp at hx,λx c h=>⟨c,h⟩⟩
 | (n,k)::r,cs,h1,h2=>by
  have h1':∀ y∈r,y.2=.free->∃ c,ψ.cells.lookup y.1=Ga c:=λy hy=>h1 y (jk _ hy);by_cases hk:k=.free
  .obtain⟨c,hc⟩:=h1 (n,k) jf hk;have h2':∀ x c',((n,c)::cs).lookup x=Ga c'->ψ.cells.lookup x=Ga c':=λx c' h=>by
    rw[kE] at h;cases hx:x==n with
    | true=>rw[hx] at h;cases h;rwa[beq_iff_eq.mp hx]
    | false=>rw[hx] at h;exact h2 x c' h
   obtain⟨cl,e,a,b,d⟩:=II r ((n,c)::cs) h1' h2';refine⟨cl,?_,a,λx hx=>?_,λx c' h=>?_⟩
   .rw[qy];have hb:(k==ko)=true:=by simp[hk]
    simp only[hb,if_true];have hcell:cellOf ψ n=pure c:=by unfold cellOf;rw[hc]
    rwa[hcell]
   .rcases jo.mp hx with z|z
    .cases z;exact d n c (by simp[kE])
    .exact b x z
   .cases hx:x==n with
    | true=>exact d x c (by rw[kE,hx])
    | false=>exact d x c' (by rwa[kE,hx])
  .obtain⟨cl,e,a,b,d⟩:=II r cs h1' h2;refine⟨cl,?_,a,λx hx=>?_,d⟩
   .rw[qy];have hb:(k==ko)=false:=by simpa using hk
    simp only[hb,kU,if_false];exact e
   .rcases jo.mp hx with z|z
    .cases z;exact absurd rfl hk
    .exact b x z
def Xz{ψ:Env}:closureFor scope ψ=(forIn scope.names [] λ(y:Str×NameKind) (r:List (Str×Gk))=>(if (y.2==.free)=true then(do let a <- cellOf ψ y.1;pure (ForInStep.yield ((y.1,a)::r))) else pure (ForInStep.yield r):Sem (ForInStep (List (Str×Gk))))) >>= pure:=by
 unfold closureFor;rfl
def UC {ψ:Env}:∀ {names:List (Str×NameKind)} {x:Str},names.lookup x=Ga .free ->
  (names.map λ(n,k)=>if (k==ko&&ψ.scope.kind==.function&&ψ.kindOf n==Ga .cell) then(n,vU) else(n,k)).lookup x=Ga .cell \/
  (names.map λ(n,k)=>if (k==ko&&ψ.scope.kind==.function&&ψ.kindOf n==Ga .cell) then(n,vU) else(n,k)).lookup x=Ga .free
 | [],_,h=>by simp at h
 | (n,k)::r,x,h=>by
  have ih:=@UC ψ r x;show uE x ((if (k==ko&&ψ.scope.kind==.function&&ψ.kindOf n==Ga .cell)=true then(n,vU) else(n,k))::_)=_\/uE x ((if (k==ko&&ψ.scope.kind==.function&&ψ.kindOf n==Ga .cell)=true then(n,vU) else(n,k))::_)=_;cases hx:x==n with
  | true =>
   simp only[kE,hx] at h;cases h;by_cases hc:(ko==ko&&ψ.scope.kind==.function&&ψ.kindOf n==Ga .cell)=true
   .rw[Ge hc];simp[kE,hx]
   .rw[Gf hc];simp[kE,hx]
  | false =>
   simp only[kE,hx] at h;by_cases hc:(k==ko&&ψ.scope.kind==.function&&ψ.kindOf n==Ga .cell)=true
   .rw[Ge hc];simp only[kE,hx];exact ih h
   .rw[Gf hc];simp only[kE,hx];exact ih h
structure se (N:List Str)(osc:Scope)(scope:Scope)(x:Str)(fr:List Str)(ix:List Nat):Prop where
 kind:scope.kind=.function
 nocell:∀ y∈scope.names,y.2≠.cell
 locs:∀ y∈scope.names,y.2=.local->scope.names.lookup y.1=Ga .local
 tgt:scope.names.lookup x=Ga .local
 outs:∀ y∈scope.names,y.2=.free->osc.names.lookup y.1=Ga .cell\/osc.names.lookup y.1=Ga .free
 free:∀ y∈fr,scope.names.lookup y=Ga .free
 len:fr.length=ix.length
 at_:∀ (j i:Nat) (y:Str),ix[j]?=Ga i->fr[j]?=Ga y->N[i]?=Ga y
 apart:ix.Nodup
def prj (ix:List Nat)(σ:St):St:=Gb::ix.map λi=>(σ[i]?).join
def iG (X:Cx)(scope:Scope)(cl:List (Str×Gk))(C:Gk)(N':List Str)(s:Gh)(H:Hp)(fp:List Gk)(ω:List (Gk×Obj)):Cx :=
 { X with N:=N',s₀:=s,H₀:=H,env:=compEnvC scope cl C X.env,outer:=X.stack,ex:=fp,fn:=λ_=>false,pn:=X.pn++ω,xe:=λ_ _=>False }
def tY (k:Nat)(ix:List Nat)(σ:St):St:=jB k Gb++ix.map λi=>(σ[i]?).join
def zr (J:It)(g:TG)(tc:TT)(te:TE)(D0:Gk)(σ:St)(H:Hp)(Qv:Hp->Prop):Prop:=∃ W:Nat->Nat->St->Hp->Prop,(∃ m,W 0 m σ H)/\∀ i m σ H,W i m σ H ->
 (J.stop i H/\Qv H)\/(J.go i H/\∃ N:St->Hp->Prop,(∀ σ' H',N σ' H'->∃ m',m'<m/\W (i+1) m' σ' H') /\
  ∀ x H',J.yld i H x H'->g x σ H' λσ2 H2=>tc σ2 H2 λb H3=>if b=true then te σ2 H3 λy H4=>∃ ys,H4 D0=Ga (.lst ys)/\ys.length<sizeLine/\N σ2 (fH H4 D0 (.lst (ys++[y]))) else N σ2 H3)
def NY (X:Cx):List Expr->TT->Prop
 | [],t=>t=λ_ H Q=>Q true H
 | [c],t=>PT X c t
 | _,_=>False
def Ew {target:Expr}{it acc:Gg}{ψ:Env}(I:Nat->Gh->Prop)
  (turn:∀ n s,I n s->wpAny (model prog w) A (pyNext it) (λr s1=>match r with
   | none=>R (.ok .next) s1
   | some v=>wpAny (model prog w) A (letOwnedTupleGo target it v) (λ_ s2=>wpAny (model prog w) A (assign target ψ v) (λ_ s3 =>
     wpAny (model prog w) A (forIn ifs true λc r=>if r=true then do let ok <- isTrue c ψ (eval c ψ);pure (ForInStep.yield ok) else pure (ForInStep.yield r)) (λok s4 =>
      if ok=true then wpAny (model prog w) A (eval elt ψ) (λx s5 =>
       wpAny (model prog w) A (call (.builtin "list.append") [acc,x]) (λ_ s6=>∃ m,m<n/\I m s6) (notedBy (model prog w) A ψ λe s'=>R (.error e) s') s5) (notedBy (model prog w) A ψ λe s'=>R (.error e) s') s4
      else ∃ m,m<n/\I m s4) (notedBy (model prog w) A ψ λe s'=>R (.error e) s') s3) (notedBy (model prog w) A ψ λe s'=>R (.error e) s') s2) (notedBy (model prog w) A ψ λe s'=>R (.error e) s') s1) (notedBy (model prog w) A ψ λe s'=>R (.error e) s') s)
  (n:Nat) (h:I n s):codeAny (model prog w) A (.compLoop (.ListComp elt [⟨target,iter,ifs,0⟩] scope pos) 0 it acc ψ) R s:=by
 refine codeAny_loop rfl I (λn s hI=>?_) n h;show wpAny _ A ((compTurn (.ListComp elt [⟨target,iter,ifs,0⟩] scope pos) 0 it acc ψ).onRaise (λx=>do noteFrame x ψ;theTreesLotGoes x)) _ _ s;refine wpAny_noted ?_;rw[compTurn_list];refine fk (wpAny_standAt (fk (wpAny_mono (turn n s hI) (λr s1 h1=>?_) λ_ _ z=>z)));cases r with
 | none=>exact fq h1
 | some v =>
  refine fk (wpAny_mono h1 (λ_ s2 h2=>fk (wpAny_mono h2 (λ_ s3 h3=>fk (wpAny_mono h3 (λok s4 h4=>?_) λ_ _ z=>z)) λ_ _ z=>z)) λ_ _ z=>z);cases ok with
  | false=>exact fq ⟨rfl,h4⟩
  | true=>exact fk (fk (wpAny_mono h4 (λx s5 h5=>fk (wpAny_mono h5 (λ_ s6 h6=>fq (fq ⟨rfl,h6⟩)) λ_ _ z=>z)) λ_ _ z=>z))
variable {g:TG}
def Nd(S:se X.N X.env.scope scope x fr ix)(hl1:∀ x c,cl.lookup x=Ga c->X.env.cells.lookup x=Ga c)(hl2:∀ x,(x,ko)∈scope.names->∃ c,cl.lookup x=Ga c)
 {tn:Nat->Heap->Prop} (I:fB X ω σ H2 s2) (T:tz X.prog X.w X.K tg J fp it tn) (st:tn 0 s2.heap) (hf:∀ b∈fp,pV X ω H2 b) (hc:X.calm=true)
  {Qv:Gk->Hp->Prop} {tc:TT}
  (hblk:∀ C s H,PG (iG X scope cl C (nb++fr) s H fp ω) tg g/\NY (iG X scope cl C (nb++fr) s H fp ω) ifs tc/\PE (iG X scope cl C (nb++fr) s H fp ω) elt te)
  (hW:∀ D0,H2 D0=Gb->zr J g tc te D0 (tY nb.length ix σ) (fH H2 D0 (.lst [])) (Qv D0))
  {RR:Gg->Gk->Result->Gh->Prop}
  (hRR:∀ D0 C s' H',fB X ω σ H' s'->s2.heap.objs.size<=C->(∃ m,s'.heap.Ns C m)->H' C=Gb->Qv D0 H'->RR (.ref D0) C (.ok .next) s') :
  wpAny (model X.prog X.w) X.A (newList []) (λacc s3=>wpAny (model X.prog X.w) X.A (newFunctionEnv scope X.env.globals cl [] X.env.qual Gb .none (Ga X.env)) (λcenv s4 =>
   codeAny (model X.prog X.w) X.A (.compStart (.ListComp elt [⟨tg,iter,ifs,0⟩] scope pos) 0 (.ref it) acc { cenv with scope:=relabel scope X.env }) (RR acc cenv.locals) s4) E s3) E s2:=by
 have hD0:H2 s2.heap.objs.size=Gb:=I.fresh;obtain⟨W,⟨m0,w0⟩,turn⟩:=hW s2.heap.objs.size hD0;have I3:=I.lnew (t':=s2.toks) (ys:=[]) (its:=[]) .nil (kh _);refine wpAny_newList (wpAny_newFunctionEnv S.nocell (by intro y hy;simp at hy) (λh1 hns hsb=>?_) S.kind);dsimp only at hns hsb ⊢;generalize hHp:s2.heap.push { cls:=.type "list",dict:=Gb,data:=.seq ([]:List Gg).toArray }=P2 at hns hsb I3 ⊢;have hC:P2.objs.size=s2.heap.objs.size+1:=by rw[<- hHp,vA]
 have keep:∀ b o,P2.get? b=Ga o->h1.get? b=Ga o:=λb o e=>hsb.extBut b o (jL (jy e)) (jj _ e);have neC:∀ b o,P2.get? b=Ga o->b≠P2.objs.size:=λb o e=>jL (jy e);have keep2:∀ b o,s2.heap.get? b=Ga o->P2.get? b=Ga o:=λb o e=>by rw[<- hHp];exact jj _ e
 have fpo:∀ b∈fp,∃ o,s2.heap.get? b=Ga o/\∀ v,o.data≠.cell v:=λb hb=>T.obj 0 _ st b hb;have fpC:∀ b∈fp,b≠P2.objs.size:=λb hb=>by obtain⟨o,e,_⟩:=fpo b hb;exact neC b o (keep2 b o e)
 have fpD:∀ b∈fp,b≠s2.heap.objs.size:=λb hb=>by obtain⟨o,e,_⟩:=fpo b hb;exact jL (jy e)
 have fpS:∀ b∈fp,b∉rT X.stack:=λb hb z=>by
  obtain⟨_,f1,f2,_⟩:=hf b hb;rcases jo.mp (I.stkSub b z) with q|q
  .exact f1 q
  .exact f2 q
 have cellK:∀ x c,cl.lookup x=Ga c->∃ v,P2.IsCell c v:=λx c e=>by
  obtain⟨v,o,ho,hd⟩:=I.cell x c (hl1 x c e);exact⟨v,o,keep2 c o ho,hd⟩
 have okB:(iG X scope cl P2.objs.size (nb++fr) { s2 with heap:=P2 } (fH H2 s2.heap.objs.size (.lst [])) fp ω).Ok:=by
  refine⟨I.ok.mod,by show(relabel scope X.env).kind=_;exact S.kind,I.ok.glob,I.ok.blt,jw _,λy z c e1 e2=>?_,λy hy=>?_,λy c hfn _=>?_,I.ok.hd,I.ok.frames,.inl rfl,λb hb=>⟨fpC b hb,λy c e=>?_⟩,λb o e=>?_,?_,λb o e hb=>?_,fpS,I3.stack,I3.stkFree⟩
  .exact I.ok.inj y z c (hl1 y c e1) (hl1 z c e2)
  .
   have hy':(relabel scope X.env).names.lookup y=Ga .cell\/(relabel scope X.env).names.lookup y=Ga .free:=hy;have mem:(y,ko)∈scope.names:=by
    have hfind:∀ (names:List (Str×NameKind)),(∀ z∈names,z.2≠.cell)->((names.map λ(n,k)=>if (k==ko&&X.env.scope.kind==.function&&X.env.kindOf n==Ga .cell) then(n,vU) else(n,k)).lookup y=Ga .cell \/
      (names.map λ(n,k)=>if (k==ko&&X.env.scope.kind==.function&&X.env.kindOf n==Ga .cell) then(n,vU) else(n,k)).lookup y=Ga .free)->(y,ko)∈names:=by
     intro names;induction names with
     | nil=>intro _ h;simp at h
     | cons p r ih =>
      obtain⟨n,k⟩:=p;intro hn h;have ih':=ih (λz hz=>hn z (jk _ hz));have hk:k≠.cell:=hn (n,k) jf;rw[jO] at h;dsimp only at h;by_cases hcnd:(k==ko&&X.env.scope.kind==.function&&X.env.kindOf n==Ga .cell)=true
      .rw[Ge hcnd] at h;have hkf:k=.free:=by simp only[jl,beq_iff_eq] at hcnd;exact hcnd.1.1
       cases hx:y==n with
       | true=>rw[beq_iff_eq.mp hx,hkf];exact jf
       | false =>
        rw[kE,hx] at h;exact jk _ (ih' h)
      .rw[Gf hcnd] at h;cases hx:y==n with
       | true =>
        rw[kE,hx] at h;rcases h with h|h
        .exact absurd (jK h) hk
        .rw[beq_iff_eq.mp hx,<- jK h];exact jf
       | false =>
        rw[kE,hx] at h;exact jk _ (ih' h)
    exact hfind scope.names S.nocell hy'
   exact hl2 y mem
  .cases hfn
  .obtain⟨_,_,_,_,f4,_⟩:=hf b hb;exact f4 y c (hl1 y c e)
  .obtain⟨e1,e2⟩:=I3.bs b o e;exact⟨e1,e2⟩
  .exact jI I.ok.bsz I3.sz
  .obtain⟨_,_,_,f3,_⟩:=hf b hb;rcases f3 with z|z
   .exact I.ok.noex b o e z
   .exact absurd (jx (jy e) (jI I.ok.bsz z)) (kb _)
 have i4:fB (iG X scope cl P2.objs.size (nb++fr) { s2 with heap:=P2 } (fH H2 s2.heap.objs.size (.lst [])) fp ω) [] (tY nb.length ix σ) (fH H2 s2.heap.objs.size (.lst [])) { s2 with heap:=h1,toks:=s2.toks+([]:List (Str×Gg)).length }:=by
  refine⟨okB,rfl,I.bare,Un.kept keep,⟨_,hns,λi y v e1 e2 e3=>?_⟩,λy c e=>?_,?_,λy c e=>?_,λp hp=>?_,I3.hok.kept keep,?_⟩
  .by_cases hk:i<nb.length
   .rw[tY,ki (by rwa[j6]),ka,Ge hk] at e2;cases e2
   .have e1':fr[i-nb.length]?=Ga y:=by rwa[<- jZ (by omega)]
    have hj:i-nb.length<ix.length:=by rw[<- S.len];exact(ju.mp e1').1
    have eix:ix[i-nb.length]?=Ga ix[i-nb.length]:=jg hj;have e2'':σ[ix[i-nb.length]]?=Ga (Ga v):=by
     rw[tY,jZ (by rw[j6];omega),j6,jz,eix] at e2;have e2':(σ[ix[i-nb.length]]?).join=Ga v:=jK e2;cases z:σ[ix[i-nb.length]]? with
     | none=>rw[z] at e2';cases e2'
     | some w=>rw[z] at e2';cases e2';rfl
    have hN:=S.at_ _ ix[i-nb.length] y eix e1';have hfree:=S.free y (j5 e1');have hmem:(y,ko)∈scope.names:=uz hfree;have hout:=S.outs _ hmem rfl;obtain⟨m,hn,hl⟩:=I.loc;obtain⟨u,ru,lk⟩:=hl ix[i-nb.length] y v hN e2'' (hout.elim (λz=>.inr (.inl z)) λz=>.inr (.inr z));refine⟨u,ru,.inr ?_⟩;rcases lk with ⟨k,_⟩|⟨k,c,ec,hcell⟩
    .exfalso;have k':X.env.scope.names.lookup y=Ga .local:=k;rcases hout with z|z
     .rw[z] at k';cases k'
     .rw[z] at k';cases k'
    .obtain⟨c',ec'⟩:=hl2 y hmem;have:c'=c:=by have:=hl1 y c' ec';rw[ec] at this;cases this;rfl
     subst this;obtain⟨o,ho,hd⟩:=hcell;exact⟨UC (ψ:=X.env) hfree,c',ec',o,keep _ o (keep2 _ o ho),hd⟩
  .obtain⟨v,o,ho,hd⟩:=cellK y c e;exact⟨v,o,keep _ o ho,hd⟩
  .show fH H2 s2.heap.objs.size (.lst []) P2.objs.size=Gb;exact I3.hok.fresh (jw _)
  .exact I3.freeC y c (hl1 y c e)
  .have hp':p∈X.pn++ω:=by simpa [iG] using hp
   obtain⟨e,n,ne,nf,d⟩:=I3.pin p hp';refine⟨keep _ _ e,n,neC _ _ e,λz=>?_,d⟩;rcases jo.mp (I.stkSub _ z) with q|q
   .exact ne q
   .exact nf q
  .simp[tY,iG,S.len]
 obtain⟨hg,hif,he⟩:=hblk P2.objs.size { s2 with heap:=P2 } (fH H2 s2.heap.objs.size (.lst []));generalize hX':iG X scope cl P2.objs.size (nb++fr) { s2 with heap:=P2 } (fH H2 s2.heap.objs.size (.lst [])) fp ω=X' at okB i4 hg hif he;have xA:X'.A=X.A:=by rw[<- hX'];rfl
 have xP:X'.prog=X.prog:=by rw[<- hX'];rfl
 have xw:X'.w=X.w:=by rw[<- hX'];rfl
 have xK:X'.K=X.K:=by rw[<- hX'];rfl
 have xc:X'.calm=true:=by rwa[<- hX']
 have xe:X'.env=compEnvC scope cl P2.objs.size X.env:=by rw[<- hX'];rfl
 have xx:∀ v s,X'.xe v s->False:=by rw[<- hX'];exact λ_ _ z=>z
 have stat:∀ {H':Hp},(∀ b∈fp,H' b=Gb)->∀ b∈fp,pV X' [] H' b:=λhn b hb=>by
  obtain⟨_,f1,f2,f3,f4,f5⟩:=hf b hb;refine⟨hn b hb,?_,?_,?_,?_,?_⟩
  .rw[xe];exact fpC b hb
  .rw[<- hX'];exact fpS b hb
  .rw[<- hX'];exact .inl hb
  .rw[<- hX'];exact λy c e=>f4 y c (hl1 y c e)
  .rw[<- hX'];intro p hp;exact f5 p (by simpa [iG] using hp)
 have st1:tn 0 h1:=T.keep 0 _ _ st λb hb o e=>keep b o (keep2 b o e);have fr0:∀ b∈fp,fH H2 s2.heap.objs.size (.lst []) b=Gb:=λb hb=>by rw[fJ (fpD b hb)];exact(hf b hb).1
 have loop:∀ s4:Gh,s4={ s2 with heap:=h1,toks:=s2.toks+([]:List (Str×Gg)).length } ->
   codeAny (model X.prog X.w) X.A (.compLoop (.ListComp elt [⟨tg,iter,ifs,0⟩] scope pos) 0 (.ref it) (.ref s2.heap.objs.size) (compEnvC scope cl P2.objs.size X.env)) (RR (.ref s2.heap.objs.size) P2.objs.size) s4:=by
  rintro s4 rfl;refine Ew (λn s'=>∃ i σ' H',fB X' [] σ' H' s'/\tn i s'.heap/\(∀ b∈fp,H' b=Gb)/\W i n σ' H') ?_ m0 ⟨0,_,_,i4,st1,fr0,w0⟩;rintro n s5 ⟨i,σ5,H5,I5,st5,fr5,w5⟩;rcases turn i n σ5 H5 w5 with ⟨stop,qn⟩|⟨go,N,hN,step⟩
  .have dn:=T.done X' xP xw xK xc i [] s5 σ5 H5 (λ_ _=>False) I5 (stat fr5) st5 stop;rw[xA] at dn;refine wpAny_mono dn (λr s6 ⟨hr,I6⟩=>?_) λ_ _ z=>z.elim;subst hr;have base6:Un (rT X.stack) fp (fH H2 s2.heap.objs.size (.lst [])) H5 P2 s6.heap:=by have:=I6.base;rw[<- hX'] at this;exact this
   have os6:s6.os=s2.os:=by have:=I6.os;rw[<- hX'] at this;exact this
   have hok6:lJ X.prog X.w H5 s6.heap:=by have:=I6.hok;rw[xP,xw] at this;exact this
   have I7:fB X ω σ H5 s6:=fB.call' (s:={ s2 with heap:=P2,toks:=s2.toks }) I3 os6 base6 hok6 I6.bare λb hb=>by
    obtain⟨_,f1,_,f3,f4,f5⟩:=hf b hb;exact⟨f3,f1,f4,f5⟩
   refine hRR _ _ s6 H5 I7 (by rw[hC];exact qp _) ?_ ?_ qn
   .obtain⟨m,hm,_⟩:=I6.loc;rw[xe] at hm;exact⟨m,hm⟩
   .have:=I6.free;rw[xe] at this;exact this
  .have itm:=T.item X' xP xw xK xc i [] s5 σ5 H5 (λ_ _=>False) I5 (stat fr5) st5 go;rw[xA] at itm;refine wpAny_mono itm (λr s6 ⟨u,hr,h6⟩=>?_) λ_ _ z=>z.elim;subst hr;refine wpAny_mono h6 (λ_ s7 ⟨xv,H7,I7,r7,y7,st7,fr7⟩=>?_) λ_ _ z=>z.elim;have I7':=I7.pinned (stat fr7) (T.obj _ _ st7);have stepx:=step xv H7 y7;have asg:=hg _ s7 σ5 H7 xv u _ I7' r7 stepx;rw[xA,xP,xw,xe] at asg;refine wpAny_mono asg (λ_ s8 ⟨σ8,H8,I8,q8⟩=>?_) λ_ _ z=>(xx _ _ z).elim;have again:∀ {H9:Hp} {s9:Gh},fB X' ([]++rZ fp s7.heap) σ8 H9 s9->N σ8 H9->∃ m,m<n/\∃ i σ' H',fB X' [] σ' H' s9/\tn i s9.heap/\(∀ b∈fp,H' b=Gb)/\W i m σ' H':=λ{H9 s9} I9 n9=>by
    obtain⟨m',hm,w9⟩:=hN σ8 H9 n9;refine⟨m',hm,i+1,σ8,H9,I9.unpinned,T.keep _ _ _ st7 λb hb o e=>(I9.pin (b,o) (jD _ (jD _ (pG hb e)))).1,λb hb=>?_,w9⟩;obtain⟨o,e,d⟩:=T.obj _ _ st7 b hb;exact(I9.pin (b,o) (jD _ (jD _ (pG hb e)))).2.1
   have fin:∀ (ok:Bool) (H9:Hp) (s9:Gh),fB X' ([]++rZ fp s7.heap) σ8 H9 s9->(if ok=true then te σ8 H9 λy H4=>∃ ys,H4 s2.heap.objs.size=Ga (.lst ys)/\ys.length<sizeLine/\N σ8 (fH H4 s2.heap.objs.size (.lst (ys++[y]))) else N σ8 H9) ->
     if ok=true then wpAny (model X.prog X.w) X.A (eval elt (compEnvC scope cl P2.objs.size X.env)) (λxv s10=>wpAny (model X.prog X.w) X.A (call (.builtin "list.append") [.ref s2.heap.objs.size,xv]) (λ_ s11=>∃ m,m<n/\∃ i σ' H',fB X' [] σ' H' s11/\tn i s11.heap/\(∀ b∈fp,H' b=Gb)/\W i m σ' H')
      (notedBy (model X.prog X.w) X.A (compEnvC scope cl P2.objs.size X.env) λe s'=>RR (.ref s2.heap.objs.size) P2.objs.size (.error e) s') s10) (notedBy (model X.prog X.w) X.A (compEnvC scope cl P2.objs.size X.env) λe s'=>RR (.ref s2.heap.objs.size) P2.objs.size (.error e) s') s9
     else ∃ m,m<n/\∃ i σ' H',fB X' [] σ' H' s9/\tn i s9.heap/\(∀ b∈fp,H' b=Gb)/\W i m σ' H':=by
    intro ok H9 s9 I9 q9;cases ok with
    | false =>
     rw[Gf jH] at q9 ⊢;exact again I9 q9
    | true =>
     rw[Ge rfl] at q9 ⊢;have ev:=he _ s9 σ8 H9 _ I9 q9;rw[xA,xP,xw,xe] at ev;refine wpAny_mono ev (λu s10 ⟨y,H10,I10,r10,ys,hys,hz,q10⟩=>?_) λ_ _ z=>(xx _ _ z).elim;have ap:=yL (X:=X') _ s10 σ8 H10 (.ref s2.heap.objs.size) [y] (.ref s2.heap.objs.size) [u] (λ_ H'=>N σ8 H') I10 rfl (.cons r10 .nil) ⟨_,ys,y,rfl,rfl,hys,hz,q10⟩;rw[xA,xP,xw] at ap;refine wpAny_mono ap (λ_ s11 ⟨_,H11,I11,_,q11⟩=>again I11 q11) λ_ _ z=>(xx _ _ z).elim
   match ifs,hif with
   | [],hif=>exact wpAny_tests_nil (by
     have hif':tc=λ_ H Q=>Q true H:=hif;rw[hif'] at q8;exact fin true H8 s8 I8 q8)
   | [c],hif =>
    have lO:=(show PT X' c tc from hif) _ s8 σ8 H8 _ I8 q8;rw[xA,xP,xw,xe] at lO;exact wpAny_tests_one (wpAny_mono lO (λok s9 ⟨H9,I9,q9⟩=>fin ok H9 s9 I9 q9) λ_ _ z=>(xx _ _ z).elim)
   | _::_::_,hif=>exact hif.elim
 exact codeAny_compStart_list (loop _ rfl) (T.self _ 0 _ _ _ st1 (loop _ rfl))
def nY:Option Sl->Sl
 | some (.val d)=>.val d
 | some (.own ds)=>.own ds
 | _=>.no
def ls (ix:List Nat)(ψ:En):En:=ix.map λ(i:Nat)=>nY ψ[i]?
def gd (fc:FB)(fe:FV)(base:En):List D->Option (List D)
 | []=>Ga []
 | x::r=>(fc (.val x::base)).bind λb=>if b then(fe (.val x::base)).bind λy=>(gd fc fe base r).bind λys=>Ga (y::ys) else gd fc fe base r
def nK (o:HO):Prop:=∀ ws,o≠.dK ws
def WM:nK (.lst xs):=λ_ h=>by cases h
def RS.lend(r:RS K H0 F H ψ σ)(ha:H a=Gb)(pl:Pl o:=by trivial):RS K (fH H0 a o) F (fH H a o) ψ σ:=by
 have fa:=r.fh.free ha;refine⟨fw.up2 r.h0 (r.h0.free ha) ha pl,r.fh.put fa (λx u z=>by rw[ha] at z;cases z),λi s e=>?_,r.ap⟩
 .obtain⟨u,e1,q⟩:=r.sl i s e;refine⟨u,e1,?_⟩;cases s with
  | no=>trivial
  | val d=>exact q
  | own ds=>obtain⟨b,xs,e2,hb,fb,h0b,rr⟩:=q;have n:=iz hb ha;exact⟨b,xs,e2,by rwa[fJ n],fb,by rwa[fJ n],rr⟩
  | dic ks=>obtain⟨b,as,ep,e2,hb,fb,h0b,rr⟩:=q;have n:=iz hb ha;exact⟨b,as,ep,e2,by rwa[fJ n],fb,by rwa[fJ n],rr⟩
  | dks kvs=>obtain⟨b,ws,e2,hb,fb,h0b,rr⟩:=q;have n:=iz hb ha;exact⟨b,ws,e2,by rwa[fJ n],fb,by rwa[fJ n],rr⟩
  | dsk C p r' kvs=>obtain⟨e2,dx,ws,h1,h2,rr⟩:=q;exact⟨e2,dx,ws,by rwa[fJ (iz h1 (r.h0.free ha))],by rwa[fJ (iz h2 (r.h0.free ha))],rr⟩
def RS.swap{o':HO}(r:RS K (fH H0 a o) F H ψ σ)(fa:F a=Gb)(pl:Pl o:=by trivial)(pl':Pl o':=by trivial)(pk:nK o:=by first|exact WM|exact nK_e):RS K (fH H0 a o') F (fH H a o') ψ σ:=by
 refine⟨r.h0.swp pl pl',r.fh.put fa (pl.nf (r.h0.pl fI pl)),λi s e=>?_,r.ap⟩
 .obtain⟨u,e1,q⟩:=r.sl i s e;have ne:∀ b,fH H0 a o b=Gb->b≠a:=λb h z=>by subst z;rw[fI] at h;cases h
  refine⟨u,e1,?_⟩;cases s with
  | no=>trivial
  | val d=>exact q
  | own ds=>obtain⟨b,xs,e2,hb,fb,h0b,rr⟩:=q;have n:=ne b h0b;exact⟨b,xs,e2,by rwa[fJ n],fb,by rw[fJ n] at h0b ⊢;exact h0b,rr⟩
  | dic ks=>obtain⟨b,as,ep,e2,hb,fb,h0b,rr⟩:=q;have n:=ne b h0b;exact⟨b,as,ep,e2,by rwa[fJ n],fb,by rw[fJ n] at h0b ⊢;exact h0b,rr⟩
  | dks kvs=>obtain⟨b,ws,e2,hb,fb,h0b,rr⟩:=q;have n:=ne b h0b;exact⟨b,ws,e2,by rwa[fJ n],fb,by rw[fJ n] at h0b ⊢;exact h0b,rr⟩
  | dsk C p r' kvs =>
   obtain⟨e2,dx,ws,h1,h2,rr⟩:=q;have n1:p≠a:=λz=>by subst z;rw[fI] at h1;cases h1;exact pl
   have n2:r'≠a:=λz=>by subst z;rw[fI] at h2;cases h2;exact pk _ rfl
   exact⟨e2,dx,ws,by rw[fJ n1] at h1 ⊢;exact h1,by rw[fJ n2] at h2 ⊢;exact h2,rr⟩
def SY{s:Sl}(h:(ls ix ψ)[j]?=Ga s)(o:lY s=true):∃ k ds,ix[j]?=Ga k/\ψ[k]?=Ga (.own ds)/\s=.own ds:=by
 unfold ls at h;rw[jz] at h;cases z:ix[j]? with
 | none=>rw[z] at h;cases h
 | some k =>
  rw[z] at h;have h2:=jK h;unfold nY at h2;dsimp only at h2;split at h2
  .subst h2;cases o
  .rename_i ds hd;subst h2;exact⟨k,ds,rfl,hd,rfl⟩
  .subst h2;cases o
def RS.prj {K:jb}{H0 F H:Hp}{ψ:En}{σ:St}(r:RS K H0 F H ψ σ)(ix:List Nat)(nd:ix.Nodup):RS K H0 F H (.no::ls ix ψ) (T3.prj ix σ):=by
 refine⟨r.h0,r.fh,λi s e=>?_,λi j a s t o1 o2 e1 e2 e3 e4=>?_⟩
 .cases i with
  | zero=>simp at e;subst e;exact⟨Gb,rfl,trivial⟩
  | succ j =>
   have e':(ls ix ψ)[j]?=Ga s:=by simpa using e
   unfold ls at e';rw[jz] at e';cases z:ix[j]? with
   | none=>rw[z] at e';cases e'
   | some k =>
    rw[z] at e';have e2:=jK e';refine⟨(σ[k]?).join,by simp[T3.prj,z],?_⟩;unfold nY at e2;dsimp only at e2;split at e2
    .rename_i d hd;subst e2;obtain⟨u,e3,v,e4,rv⟩:=r.sl k _ hd;exact⟨v,by rw[e3,e4];rfl,rv⟩
    .rename_i ds hd;subst e2;obtain⟨u,e3,a,xs,e4,rv⟩:=r.sl k _ hd;exact⟨a,xs,by rw[e3,e4];rfl,rv⟩
    .subst e2;trivial
 .cases i with
  | zero=>simp at e1;subst e1;cases o1
  | succ i =>
   cases j with
   | zero=>simp at e2;subst e2;cases o2
   | succ j =>
    obtain⟨k1,d1,x1,y1,z1⟩:=SY (by simpa using e1) o1;obtain⟨k2,d2,x2,y2,z2⟩:=SY (by simpa using e2) o2;have g1:σ[k1]?=Ga (Ga (.ref a)):=by
     obtain⟨u,e5,b,xs,e6,_⟩:=r.sl k1 _ y1;have:(T3.prj ix σ)[i+1]?=Ga ((σ[k1]?).join):=by simp[T3.prj,x1]
     rw[e3] at this;rw[e5,e6] at this ⊢;exact congrArg Ga (jK this).symm
    have g2:σ[k2]?=Ga (Ga (.ref a)):=by
     obtain⟨u,e5,b,xs,e6,_⟩:=r.sl k2 _ y2;have:(T3.prj ix σ)[j+1]?=Ga ((σ[k2]?).join):=by simp[T3.prj,x2]
     rw[e4] at this;rw[e5,e6] at this ⊢;exact congrArg Ga (jK this).symm
    have ek:k1=k2:=r.ap k1 k2 a _ _ rfl rfl y1 y2 g1 g2;subst ek;have hi:i<ix.length:=(ju.mp x1).1;have hj:j<ix.length:=(ju.mp x2).1;have:i=j:=(Va (h₀:=hi) (h₁:=hj) nd).mp (by rw[(ju.mp x1).2,(ju.mp x2).2]);rw[this]
def RS.pushNo(r:RS K H0 F H ψ σ):RS K H0 F H (.no::ψ) (Gb::σ):=by
 refine⟨r.h0,r.fh,λi s e=>?_,λi j a s t o1 o2 e1 e2 e3 e4=>?_⟩
 .cases i with
  | zero=>cases e;exact⟨Gb,rfl,trivial⟩
  | succ j=>exact r.sl j s e
 .cases i with
  | zero=>cases e1;cases o1
  | succ i' =>
   cases j with
   | zero=>cases e2;cases o2
   | succ j'=>exact congrArg J0 (r.ap i' j' a s t o1 o2 e1 e2 e3 e4)
def RS.pushNos {K:jb}{H0 F H:Hp}{ψ:En}{σ:St}(r:RS K H0 F H ψ σ)(ix:List Nat)(nd:ix.Nodup):∀ k,RS K H0 F H (jB (k+1) .no++ls ix ψ) (tY (k+1) ix σ)
 | 0=>r.prj ix nd
 | k+1=>(r.pushNos ix nd k).pushNo
def UQ{fc':FB}{fe':FV}{tc:TT}{tg:FT}{sp:D->Option En}
  (hsp:∀ d l,sp d=Ga l->l.length=k+1/\∀ sx base,sx.length=k+1->tg d (sx++base)=Ga (l++base))
  (hfc:∀ d base b,fc' (.val d::base)=Ga b->∃ l,sp d=Ga l/\fc (l++base)=Ga b)
  (hfe:∀ d l base y,sp d=Ga l->fe' (.val d::base)=Ga y->fe (l++base)=Ga y)
  (hg:∀ v σ H Q,tG K tg v σ H Q->g v σ H Q)
  (htc:∀ σ H Q,tT K fc σ H Q->tc σ H Q) (nd:ix.Nodup) (r:RS K H0 F1 H1 ψ σ) (Y:∀ F2,fw F1 F2->lW K J F2 ds) (e:gd fc' fe' (ls ix ψ) ds=Ga rs) (hz:ds.length<=1000000) (hD:H1 D0=Gb)
  (q:∀ xs H' F',fw H1 H'->fw F1 F'->fw F' H'->gu F1 F' H1->F' D0=Gb->H' D0=Ga (.lst xs)->fL K F' rs xs->Qv H') :
  zr J g tc (tV K fe) D0 (tY (k+1) ix σ) (fH H1 D0 (.lst [])) Qv:=by
 have fD:F1 D0=Gb:=r.fh.free hD;have h0D:H0 D0=Gb:=r.h0.free hD;have g0:fw H1 (fH H1 D0 (.lst [])):=fw.new hD;refine⟨λi m σ' H'=>i+m=ds.length/\∃ F2 sx don ys rest,sx.length=k+1/\RS K (fH H0 D0 (.lst ys)) F2 H' (sx++ls ix ψ) σ'/\fw F1 F2/\gu F1 F2 H1/\fw H1 H'/\F2 D0=Gb/\H' D0=Ga (.lst ys)/\fL K F2 don ys/\don.length<=i /\
  gd fc' fe' (ls ix ψ) (ds.drop i)=Ga rest/\rs=don++rest,⟨ds.length,by omega,F1,jB (k+1) .no,[],[],rs,j6,(r.pushNos ix nd k).lend hD,.refl _,.refl _ _,g0,fD,fI,.nil,jw _,e,rfl⟩,?_⟩
 rintro i m σ' H' ⟨hm,F2,sx,don,ys,rest,ln,r2,f2,n2,g2,fd2,hd2,nL,hl2,e2,ers⟩;obtain⟨yd,yg⟩:=Y F2 f2 H' r2.fh i;by_cases hlt:i<ds.length
 .obtain⟨go,yy⟩:=yg ds[i] (by simp[hlt]);rw[uN hlt] at e2;unfold gd at e2;obtain⟨b,x1,x2⟩:=ft e2;obtain⟨l,ep,x1⟩:=hfc _ _ _ x1;obtain⟨ll,lt⟩:=hsp _ _ ep;refine .inr ⟨go,λσ3 H3=>i+1+(m-1)=ds.length/\∃ F2 sx don ys rest,sx.length=k+1/\RS K (fH H0 D0 (.lst ys)) F2 H3 (sx++ls ix ψ) σ3/\fw F1 F2/\gu F1 F2 H1/\fw H1 H3/\F2 D0=Gb/\H3 D0=Ga (.lst ys)/\fL K F2 don ys/\don.length<=i+1 /\
   gd fc' fe' (ls ix ψ) (ds.drop (i+1))=Ga rest/\rs=don++rest,λσ3 H3 h3=>⟨m-1,by omega,h3⟩,λx Hx yl=>?_⟩
  obtain⟨gx,F4,f4,fh4,n4,rx⟩:=yy x Hx yl;have r4:=r2.grow gx f4 fh4 n4;have noD:∀ {F F' H:Hp},F D0=Gb->(∃ o,H D0=Ga o)->gu F F' H->F' D0=Gb:=λ{F F' H} a ⟨o,b⟩ n=>by
   cases z:F' D0 with
   | none=>rfl
   | some o'=>have:=n D0 o' z a;rw[b] at this;cases this
  have fd4:F4 D0=Gb:=noD fd2 ⟨_,hd2⟩ n4;refine hg _ _ _ _ ⟨fH H0 D0 (.lst ys),F4,sx++ls ix ψ,ds[i],l++ls ix ψ,r4,rx,lt _ _ ln,λσ5 r5=>?_⟩;refine htc _ _ _ ⟨fH H0 D0 (.lst ys),F4,l++ls ix ψ,b,r5,x1,λH6 g6=>?_⟩;have r6:=r5.later g6;have hd6:H6 D0=Ga (.lst ys):=g6 _ _ (gx _ _ hd2);have s6:fw H1 H6:=g2.trans (gx.trans g6);have nn4:gu F1 F4 H1:=n2.trans n4 g2;cases b with
  | true =>
   obtain⟨y,x3,x4⟩:=ft x2;obtain⟨ys',x5,x6⟩:=ft x4;cases x6;refine oK ⟨fH H0 D0 (.lst ys),F4,l++ls ix ψ,y,r6,hfe _ _ _ _ ep x3,λv H7 F7 g7 f7 fh7 n7 rv=>⟨ys,g7 _ _ hd6,?_,by omega,F7,l,don++[y],ys++[v],ys',ll,?_,f2.trans (f4.trans f7),?_,?_,noD fd4 ⟨_,hd6⟩ n7,fI,?_,?_,x5,?_⟩⟩
   .rw[<- nL.length];have:don.length<1000000:=by omega
    exact jx this (by rw[sizeLine_eq];decide)
   .exact(r6.grow g7 f7 fh7 n7).swap (noD fd4 ⟨_,hd6⟩ n7)
   .exact nn4.trans n7 s6
   .exact(s6.trans g7).put hD (Ow.nf (ob:=.lst ys) trivial (g7 _ _ hd6))
   .exact((nL.mono f4).mono f7).append (.cons rv .nil)
   .rw[je,jU];omega
   .rw[ers,j3];rfl
  | false =>
   exact oG ⟨by omega,F4,l,don,ys,rest,ll,r6,f2.trans f4,nn4,s6,fd4,hd6,nL.mono f4,by omega,x2,ers⟩
 .rw[vh (by omega)] at e2;cases e2;refine .inl ⟨yd (by omega),q ys H' F2 g2 f2 r2.fh n2 fd2 hd2 ?_⟩;rw[ers,kf];exact nL
def SF{tc:TT}
  (hg:∀ v σ H Q,tG K (λd ψ=>Ga (ψ.set 0 (.val d))) v σ H Q->g v σ H Q)
  (htc:∀ σ H Q,tT K fc σ H Q->tc σ H Q) (nd:ix.Nodup) (r:RS K H0 F1 H1 ψ σ) (Y:∀ F2,fw F1 F2->lW K J F2 ds) (e:gd fc fe (ls ix ψ) ds=Ga rs) (hz:ds.length<=1000000) (hD:H1 D0=Gb)
  (q:∀ xs H' F',fw H1 H'->fw F1 F'->fw F' H'->gu F1 F' H1->F' D0=Gb->H' D0=Ga (.lst xs)->fL K F' rs xs->Qv H') :
  zr J g tc (tV K fe) D0 (prj ix σ) (fH H1 D0 (.lst [])) Qv :=
 UQ (sp:=λd=>Ga [.val d]) (k:=0) (λd l e=>by cases e;exact⟨rfl,λsx base h=>by match sx,h with|[s],_=>rfl⟩) (λd base b h=>⟨_,rfl,h⟩) (λd l base y e h=>by cases e;exact h) hg htc nd r Y e hz hD q
def gh (fi:FL)(fc:FB)(fe:FV)(ix:List Nat):FL:=λψ=>(fi ψ).bind λds=>if ds.length<=1000000 then gd fc fe (ls ix ψ) ds else Gb
section
variable {X:Cx}{elt iter:Expr}{x:Str}{px pos:Pos}{ifs:List Expr}{scope:Scope}{fr:List Str}{ix:List Nat}{fi:FL}{fc:FB}{fe:FV}
def xd (K:jb)(ifs:List Expr)(fc:FB):TT:=match ifs with
 | []=>λ_ H Q=>Q true H
 | _=>tT K fc
structure Bh (X:Cx)(scope:Scope)(x:Str)(px:Pos)(fr:List Str)(ifs:List Expr)(elt:Expr)(fc:FB)(fe:FV):Prop where
 h:∀ cl C s H fp ω,sP (iG X scope cl C (x::fr) s H fp ω) (.Name x px) (λd ψ=>Ga (ψ.set 0 (.val d))) /\
  NY (iG X scope cl C (x::fr) s H fp ω) ifs (xd X.K ifs fc)/\PV (iG X scope cl C (x::fr) s H fp ω) elt fe
 hn:ifs=[]->fc=λ_=>Ga true
def iX (nd:(x::fr).Nodup)(hl:scope.names.lookup x=Ga .local)(he:∀ cl C s H fp ω,PV (iG X scope cl C (x::fr) s H fp ω) elt fe):Bh X scope x px fr [] elt (λ_=>Ga true) fe :=
 ⟨λcl C s H fp ω=>⟨BA 0 nd rfl (.inl (lookup_relabel_local hl)) (.inr (lookup_relabel_local hl)),rfl,he cl C s H fp ω⟩,λ_=>rfl⟩
def tJ(nd:(x::fr).Nodup)(hl:scope.names.lookup x=Ga .local)(hc:∀ cl C s H fp ω,PB (iG X scope cl C (x::fr) s H fp ω) c fc)(he:∀ cl C s H fp ω,PV (iG X scope cl C (x::fr) s H fp ω) elt fe) :
  Bh X scope x px fr [c] elt fc fe :=
 ⟨λcl C s H fp ω=>⟨BA 0 nd rfl (.inl (lookup_relabel_local hl)) (.inr (lookup_relabel_local hl)),hc cl C s H fp ω,he cl C s H fp ω⟩,λh=>nomatch h⟩
def Bh.tc (B:Bh X scope x px fr ifs elt fc fe):∀ σ H Q,tT X.K fc σ H Q->xd X.K ifs fc σ H Q:=by
 intro σ H Q h;cases ifs with
 | nil =>
  obtain⟨H0,F,ψ,b,r,e,q⟩:=h;rw[B.hn rfl] at e;cases e;exact q H (.refl _)
 | cons c r=>exact h
def Ky(I:fB X ω σ H s)(S:se X.N X.env.scope scope x fr ix):∃ cl,closureFor scope X.env=pure cl/\(∀ x c,cl.lookup x=Ga c->X.env.cells.lookup x=Ga c)/\∀ x,(x,ko)∈scope.names->∃ c,cl.lookup x=Ga c:=by
 obtain⟨cl,e,a,b,_⟩:=II (ψ:=X.env) scope.names [] (λy hy hf=>I.ok.has y.1 (S.outs y hy hf)) (λx c h=>by simp at h);refine⟨cl,?_,a,b⟩;rw[Xz,e];rfl
def mO (hc:X.calm=true)(S:se X.N X.env.scope scope x fr ix)(hi:wO X (.Name x px) iter fi)(B:Bh X scope x px fr ifs elt fc fe)(hs:∀ v,foldedSetIterable iter X.env v=pure v:=by intro _;rfl) :
  PO X (.ListComp elt [⟨.Name x px,iter,ifs,0⟩] scope pos) (gh fi fc fe ix):=by
 intro ω s σ H Q I hw;obtain⟨cl,hclos,hl1,hl2⟩:=Ky I S;obtain⟨H0,F,ψ,rs,r,e,q⟩:=hw;obtain⟨ds,e1,e⟩:=ft e;split at e;rotate_left
 .cases e
 rename_i hz;rw[eval_ListComp];refine wpAny_comprehension_free (use:=Gb) rfl hs hclos S.kind S.locs (wpAny_mono (hi ω s σ H (λJ H1=>∃ F1,fw H H1/\fw F F1/\fw F1 H1/\gu F F1 H/\∀ F2,fw F1 F2->lW X.K J F2 ds) I ⟨H0,F,ψ,ds,r,e1,λJ H1 F1 g1 f1 fh1 n1 Y=>⟨F1,g1,f1,fh1,n1,Y⟩⟩)
  (λxv s1 h1=>wpAny_mono h1 (λitv s2 h2=>?_) λ_ _ z=>z) λ_ _ z=>z)
 obtain⟨it,fp,tn,J,H2,eit,I2,T,st2,f2,F1,g1,f1,fh1,n1,Y⟩:=h2;subst eit;refine Nd (nb:=[x]) (g:=tG X.K (λd ψ=>Ga (ψ.set 0 (.val d)))) (te:=tV X.K fe) (tc:=xd X.K ifs fc) (RR:=λacc C=>compPost (model X.prog X.w) X.A X.xe Gb (EP X ω σ Q) acc C) (Qv:=λD0 H'=>Q (.ref D0) H') S hl1 hl2 I2 T st2 f2 hc (λC s' H'=>B.h cl C s' H' fp ω) (λD0 hD=>?_) λD0 C s' H' I' hC hn hf hq=>?_
 .exact SF (λ_ _ _ _ h=>h) B.tc S.apart (r.grow g1 f1 fh1 n1) Y e hz hD λxs H' F' g2 f2' fh2 n2 fd hd rr=>q D0 xs H' F' (g1.trans g2) (f1.trans f2') fh2 (n1.trans n2 g1) (g1.free hD) fd hd rr
 .obtain⟨m,hm⟩:=hn;refine⟨m,hm,λh' sb=>?_⟩;have nC:∀ p o,s2.heap.get? p=Ga o->p≠C:=λp o e=>jL (jx (jy e) hC);refine⟨.ref D0,H',?_,rfl,hq⟩;refine I'.turned (it:=C) (t':=s'.toks) (λb o hb e=>sb.extBut b o hb e) hf (uA (jx I2.lt hC)) (.inr (jI I2.sz hC)) (λy c ec z=>?_) λp hp z=>?_
  .obtain⟨v,qv⟩:=I2.cell y c ec;exact absurd (jx qv.lt (by rwa[z])) (kb _)
  .exact nC _ _ (I2.pin p hp).1 z
end
def we (i:Nat)(hc:X.calm=true)(S:se X.N X.env.scope scope x fr ix)(hit:wO X (.Name x px) iter fi)(B:Bh X scope x px fr ifs elt fc fe)(hN:X.N.Nodup)(hi:X.N[i]?=Ga y:=by rfl)(hy:X.env.scope.names.lookup y=Ga .local:=by rfl)
  (hsw:swapsWith (.ListComp elt [⟨.Name x px,iter,ifs,0⟩] scope pos) (Ga (.Name y py)) spos.line X.env=pure true:=by rfl) (hs:∀ v,foldedSetIterable iter X.env v=pure v:=by intro _;rfl) :
  mo X (.Assign [.Name y py] (.ListComp elt [⟨.Name x px,iter,ifs,0⟩] scope pos) spos) (λψ=>(gh fi fc fe ix ψ).bind λd=>Ga (.nx (ψ.set i (.own d)))):=by
 intro ω s σ H D I hw;obtain⟨cl,hclos,hl1,hl2⟩:=Ky I S;obtain⟨H0,F,ψ,o,r,e,p⟩:=hw;obtain⟨rs,e0,e⟩:=ft e;cases e;obtain⟨ds,e1,e⟩:=ft e0;split at e;rotate_left
 .cases e
 rename_i hz;have hl:i<σ.length:=by rw[I.len];exact(ju.mp hi).1
 rw[exec_Assign_Name_used _ _ _ _ hsw];refine fk (wpAny_standAt (fk ?_));show wpAny _ X.A (do let _ <- comprehension (.ListComp elt [⟨.Name x px,iter,ifs,0⟩] scope pos) scope X.env _ (newList []) false (eval iter X.env) (Ga (assign (.Name y py) X.env))) _ _ s;refine fk (wpAny_mono (wpAny_comprehension_free (use:=Ga (assign (.Name y py) X.env)) (Q:=λ_ s'=>SP X ω D .next s') rfl hs hclos S.kind S.locs
  (wpAny_mono (hit ω s σ H (λJ H1=>∃ F1,fw H H1/\fw F F1/\fw F1 H1/\gu F F1 H/\∀ F2,fw F1 F2->lW X.K J F2 ds) I ⟨H0,F,ψ,ds,r,e1,λJ H1 F1 g1 f1 fh1 n1 Y=>⟨F1,g1,f1,fh1,n1,Y⟩⟩)
  (λxv s1 h1=>wpAny_mono h1 (λitv s2 h2=>?_) λ_ _ z=>z) λ_ _ z=>z)) (λ_ s' hq=>fq (fq hq)) λ_ _ z=>z)
 obtain⟨it,fp,tn,J,H2,eit,I2,T,st2,f2,F1,g1,f1,fh1,n1,Y⟩:=h2;subst eit;refine Nd (nb:=[x]) (g:=tG X.K (λd ψ=>Ga (ψ.set 0 (.val d)))) (te:=tV X.K fe) (tc:=xd X.K ifs fc) (RR:=λacc C=>compPost (model X.prog X.w) X.A X.xe (Ga (assign (.Name y py) X.env)) (λ_ s'=>SP X ω D .next s') acc C) (Qv:=λD0 H'=>D.nx (σ.set i (Ga (.ref D0))) H') S hl1 hl2 I2 T st2 f2 hc
  (λC s' H'=>B.h cl C s' H' fp ω) (λD0 hD=>?_) λD0 C s' H' I' hC hn hf hq=>?_
 .refine SF (λ_ _ _ _ h=>h) B.tc S.apart (r.grow g1 f1 fh1 n1) Y e hz hD λxs H' F' g2 f2' fh2 n2 fd hd rr=>?_;have nn:gu F F' H:=n1.trans n2 g1;have r':=r.grow (g1.trans g2) (f1.trans f2') fh2 nn;refine p _ H' F' (f1.trans f2') (nn.dn r.h0) (r'.putO hl hd fd (r.h0.free (g1.free hD)) rr ?_);exact λj s o _ ej=>r.ne_free (g1.free hD) j s o ej
 .obtain⟨m,hm⟩:=hn;have nC:∀ p o,s2.heap.get? p=Ga o->p≠C:=λp o e=>jL (jx (jy e) hC);have cC:∀ y c,X.env.cells.lookup y=Ga c->c≠C:=λy c ec z=>by
   obtain⟨v,qv⟩:=I2.cell y c ec;exact absurd (jx qv.lt (by rwa[z])) (kb _)
  have lC:C≠X.env.locals:=uA (jx I2.lt hC);show wpAny _ X.A (assign (.Name y py) X.env (.ref D0)) _ _ _;refine wpAny_assign_Name (za I' hN hi (.inl hy) (v:=.ref D0) rfl (λs'' I'' ⟨a,sb,ha⟩=>?_) (.inr hy));have aC:C≠a:=by
   rcases ha with z|z
   .rwa[z]
   .exact(cC _ _ z).symm
  refine⟨m,hm.sameBut sb aC,λh' sb2=>⟨_,H',?_,hq⟩⟩;refine I''.turned (it:=C) (t':=s''.toks) (λb o hb e=>sb2.extBut b o hb e) hf lC (.inr (jI I2.sz hC)) cC λp hp z=>nC _ _ (I2.pin p hp).1 z
def Ap (i:Nat):oj->oj
 | .nx e=>.nx (frzAt i e)
 | o=>o
def wK (i:Nat){g:FS}(h:mo X st g):mo X st (λψ=>(g ψ).bind λo=>Ga (Ap i o)):=by
 refine nO h λE σ H=>?_;rintro⟨H0,F,ψ,o,r,e,p⟩;obtain⟨o1,e1,e2⟩:=ft e;cases e2;refine⟨H0,F,ψ,o1,r,e1,?_⟩;cases o1 with
 | nx e3 =>
  intro σ' H' F' f n r';obtain⟨F2,f2,n2,r2⟩:=r'.frzAt i;exact p σ' H' F2 (f.trans f2) (n.up n2) r2
 | rt d=>exact p
 | ro d=>exact p
 | rc a d=>exact p
 | bk d=>exact p
 | ct d=>exact p
def XQ {l:Expr}{tl:TE}(hl:PE X l tl):PI X tg l (λσ H R=>tl σ H λx H1=>∃ a,x=.ref a/\(((∃ xs,hZ X.K H1 a xs)/\R (LQ X.K a) H1)\/((∃ xs,la X.K H1 a xs)/\R (IX X.K a) H1))):=by
 intro ω s σ H R I h;refine gn (hl ω s σ H _ I h) λv s1 ⟨x,H1,I1,r1,a,e,q1⟩=>?_;subst e;cases r1;rcases q1 with ⟨⟨xs,hq⟩,q⟩|⟨⟨xs,hq⟩,q⟩
 .obtain⟨its,rv,p,hz⟩:=I1.list hq;refine wpAny_pyIter_list p.isList ⟨s1.heap.objs.size,[s1.heap.objs.size],_,_,H1,rfl,I1.kept (t':=s1.toks) λb o e=>jj _ e,EA a _,⟨_,jA _ rfl,rfl,rfl⟩,λb hb=>?_,q⟩;cases jn.mp hb;exact I1.fpOk (jw _) I1.fresh
 .obtain⟨its,rv,p,hz⟩:=I1.tuple hq;refine wpAny_pyIter_tuple (show s1.heap.IsTuple a its.toArray from p) ⟨s1.heap.objs.size,[s1.heap.objs.size],_,_,H1,rfl,I1.kept (t':=s1.toks) λb o e=>jj _ e,Cn a _,⟨_,jA _ rfl,rfl,rfl⟩,λb hb=>?_,q⟩;cases jn.mp hb;exact I1.fpOk (jw _) I1.fresh
def oX {l:Expr}(h:PV X l f):wO X tg l (λψ=>(f ψ).bind toS):=by
 refine Ld (XQ h) λσ H R=>?_;rintro⟨H0,F,ψ,ds,r,e,q⟩;obtain⟨d,e1,e2⟩:=ft e;refine⟨H0,F,ψ,d,r,e1,λv H1 F1 g1 f1 fh1 n1 rv=>?_⟩;cases rv<;>first|(cases e2;done)|skip
 .rename_i a xs ds' h1 rr;cases e2;exact⟨a,rfl,.inr ⟨⟨xs,lV fh1 h1⟩,q _ H1 F1 g1 f1 fh1 n1 λF2 f2=>ztK (lV f2 h1) (rr.mono f2)⟩⟩
 .rename_i a xs ds' h1 rr;cases e2;exact⟨a,rfl,.inl ⟨⟨xs,fh1.seq h1⟩,q _ H1 F1 g1 f1 fh1 n1 λF2 f2=>zrF (f2.seq h1) (rr.mono f2)⟩⟩
def ip (lo:Int)(n:Nat):List D:=(jq n).map λk=>.int (lo+(k:Nat))
def RZ{lo:Int}:lW K (Dp lo n) F (ip lo n):=by
 intro H g i;refine⟨λhi=>(by simpa [ip] using hi:n<=i),λd hd=>?_⟩;have hi:i<n:=by have:=(ju.mp hd).1;simpa [ip] using this
 refine⟨hi,λx H' y=>?_⟩;obtain⟨rfl,rfl⟩:=y;have:d=.int (lo+(i:Nat)):=by
  have h2:(ip lo n)[i]?=Ga (.int (lo+(i:Nat))):=by simp[ip,hi]
  rw[h2] at hd;exact(jK hd).symm
 subst this;exact⟨.refl _,F,.refl _,g,.refl _ _,.int _⟩
def gO:D->Option (List D)
 | .int j=>if -(2^62)<=j/\j<2^62 then Ga (ip 0 j.toNat) else Gb
 | _=>Gb
def mU:D->D->Option (List D)
 | .int i,.int j=>if -(2^62)<=i/\i<2^62/\-(2^62)<=j/\j<2^62 then Ga (ip i (j-i).toNat) else Gb
 | _,_=>Gb
variable {a:Expr}{g:FV}
def nN(hg:Gl X "range")(hm:X.mg "range"=Gb)(ha:PV X a f)(hs:starEach [a] X.env=[(false,eval a X.env)]:=by rfl):wO X tg (.Call (.Name "range" p) [a] [] pos) (λψ=>(f ψ).bind gO):=by
 refine Ld (EV hg hm (io ha lH hs) hs) λσ H R=>?_;rintro⟨H0,F,ψ,ds,r,e,q⟩;obtain⟨d,e1,e2⟩:=ft e;refine⟨H0,F,ψ,d,r,e1,λv H1 F1 g1 f1 fh1 n1 rv=>?_⟩;cases rv<;>first|(cases e2;done)|skip
 rename_i j;unfold gO at e2;dsimp only at e2;split at e2
 .rename_i c;cases e2;exact⟨j,rfl,c.1,c.2,q _ H1 F1 g1 f1 fh1 n1 λF2 f2=>RZ⟩
 .cases e2
def EU(hg:Gl X "range")(hm:X.mg "range"=Gb)(ha:PV X a f)(hb:PV X b g)(hs:starEach [a,b] X.env=[(false,eval a X.env),(false,eval b X.env)]:=by rfl)(hs2:starEach [b] X.env=[(false,eval b X.env)]:=by rfl) :
  wO X tg (.Call (.Name "range" p) [a,b] [] pos) (λψ=>(f ψ).bind λx=>(g ψ).bind λy=>mU x y):=by
 refine Ld (Dl hg hm (io ha (io hb lH hs2) (by rw[hs,hs2])) hs hs2) λσ H R=>?_;rintro⟨H0,F,ψ,ds,r,e,q⟩;obtain⟨d,e1,e2⟩:=ft e;obtain⟨d2,e3,e4⟩:=ft e2;refine⟨H0,F,ψ,d,r,e1,λv H1 F1 g1 f1 fh1 n1 rv=>⟨H0,F1,ψ,d2,r.grow g1 f1 fh1 n1,e3,λv2 H2 F2 g2 f2 fh2 n2 rv2=>?_⟩⟩;cases rv<;>first|(cases e4;done)|skip
 cases rv2<;>first|(cases e4;done)|skip
 rename_i i j;unfold mU at e4;dsimp only at e4;split at e4
 .rename_i c;cases e4;exact⟨i,j,rfl,c,q _ H2 F2 (g1.trans g2) (f1.trans f2) fh2 (n1.trans n2 g1) λF2 f2=>RZ⟩
 .cases e4
def spV (K:jb)(fm:List D->Option D):Sp:=λvs H Q _=>∃ F ds d,fw F H/\fL K F ds vs/\fm ds=Ga d/\∀ v H' F',fw H H'->fw F F'->fw F' H'->gu F F' H->gG K F' d v->Q v H'
def zD (K:jb)(fm:List D->Option (List D)):Sp:=λvs H Q _=>∃ F ds d,fw F H/\fL K F ds vs/\fm ds=Ga d/\∀ a xs H' F',fw H H'->fw F F'->fw F' H'->gu F F' H->H a=Gb->F' a=Gb->H' a=Ga (.lst xs)->fL K F' d xs->Q (.ref a) H'
def oY (n:Nat)(ds:List D):En:=ds.map Sl.val++jB (n-ds.length) Sl.no
def RS.start {K:jb}{F H:Hp}{N:List Str}{ds:List D}{vs:List V}(g:fw F H)(r:fL K F ds vs):RS K H F H (oY N.length ds) (start N vs):=by
 have hl:=r.length;refine⟨.refl _,g,λi s e=>?_,λi j a s t o1 o2 e1=>?_⟩
 .unfold oY at e;by_cases hi:i<ds.length
  .rw[ki (by simpa using hi),jz] at e;obtain⟨v,e1,e2⟩:=r.get (jg hi);rw[jg hi] at e;cases e;refine⟨Ga v,?_,v,rfl,e2⟩;unfold L2.start;rw[ki (by rw[jc];omega),jz,e1];rfl
  .rw[jZ (by simpa using hi),ka] at e;split at e
   .rename_i hlt;cases e;refine⟨Gb,?_,trivial⟩;unfold L2.start;rw[jZ (by rw[jc];omega),ka];rw[jc] at hlt ⊢;rw[Ge (by omega)]
   .cases e
 .exfalso;unfold oY at e1;by_cases hi:i<ds.length
  .rw[ki (by simpa using hi),jz,jg hi] at e1;cases e1;cases o1
  .rw[jZ (by simpa using hi),ka] at e1;split at e1<;>cases e1;cases o1
section
variable {P:Program}{w:World}{K:jb}{mg:Str->Option Gg}{base:Heap}{x qual:Str}{st:Stmt}{f:Gk}{fd:Gj}{N ps:List Str}{k:Nat}
def fnV(F:rF K x qual st f fd)(S:fF N ps (defScope st))(hlen:∀ ds d,fm ds=Ga d->ds.length=ps.length)
  (hb:∀ (cdv:Gg) (A:Around) (outer:List Env) (s:Gh) (H:Hp) (E:XK),ic k (A.deeper (envOfC qual (defScope st) s.heap.objs.size f cdv)) ->
   ∃ g,mV (nU CX0 P w K mg base N qual (defScope st) f cdv A outer s H E).nox (defBody st) g/\∀ ds d,fm ds=Ga d->g (oY N.length ds)=Ga (.rt d)\/(∃ xs,d=.list xs/\g (oY N.length ds)=Ga (.ro xs))) :
  fM P w K mg base CX0 (k+1) f fd ps (spV K fm):=by
 refine F.ok S (λvs H Q E h=>?_) (λcdv A outer s H vs Q E hr h=>?_)
 .obtain⟨F0,ds,d,_,r,e,_⟩:=h;rw[<- r.length];exact hlen ds d e
 .obtain⟨F0,ds,d,g0,r,e,q⟩:=h;obtain⟨g,hg,hm⟩:=hb cdv A outer s H E hr;rcases hm ds d e with z|⟨xs,rfl,z⟩
  .exact⟨_,hg,H,F0,_,_,RS.start g0 r,z,λv H' F' g1 f1 fh1 n1 rv=>q v H' F' g1 f1 fh1 n1 rv⟩
  .refine⟨_,hg,H,F0,_,_,RS.start g0 r,z,λa ys H' F' g1 f1 fh1 n1 ha fa ha' rr=>?_⟩;have sF:fw F' (fH F' a (.lst ys)):=fw.new fa;refine q (.ref a) H' (fH F' a (.lst ys)) g1 (f1.trans sF) (λb o h=>?_) (λb o h nb=>?_) (.lst (hZ.of fI) (rr.mono sF))
   .exact fw.upL fh1 ha' trivial b o h
   .by_cases hb:b=a
    .subst hb;exact ha
    .rw[fJ hb] at h;exact n1 b o h nb
def XX {fm:List D->Option (List D)}(F:rF K x qual st f fd)(S:fF N ps (defScope st))(hlen:∀ ds d,fm ds=Ga d->ds.length=ps.length)
  (hb:∀ (cdv:Gg) (A:Around) (outer:List Env) (s:Gh) (H:Hp) (E:XK),ic k (A.deeper (envOfC qual (defScope st) s.heap.objs.size f cdv)) ->
   ∃ g,mV (nU CX0 P w K mg base N qual (defScope st) f cdv A outer s H E).nox (defBody st) g/\∀ ds d,fm ds=Ga d->g (oY N.length ds)=Ga (.ro d)) :
  fM P w K mg base CX0 (k+1) f fd ps (zD K fm):=by
 refine F.ok S (λvs H Q E h=>?_) (λcdv A outer s H vs Q E hr h=>?_)
 .obtain⟨F0,ds,d,_,r,e,_⟩:=h;rw[<- r.length];exact hlen ds d e
 .obtain⟨F0,ds,d,g0,r,e,q⟩:=h;obtain⟨g,hg,hm⟩:=hb cdv A outer s H E hr;exact⟨_,hg,H,F0,_,_,RS.start g0 r,hm ds d e,λa xs H' F' g1 f1 fh1 n1 ha fa ha' rr=>q a xs H' F' g1 f1 fh1 n1 ha fa ha' rr⟩
end
section
variable {X:Cx}{k:Nat}{f:Gk}{fd:Gj}{ps:List Str}{x:Str}{p pos:Pos}{e:Expr}{es:List Expr}{g:FL}
def zDd(F:fM X.prog X.w X.K X.mg X.base CX0 k f fd ps (spV X.K fm))(hr:ic k X.A)(hm:X.mg x=Ga (.ref f))(hk:uc X.K (.ref f)=true)(hb:ma X.K fd ps [])(ha:PL X (e::es) g)(hg:Gl X x:=by rfl)
  (hdb:(x==("__debug__":Str))=false:=by decide) (he:starEach (e::es) X.env=(false,eval e X.env)::starEach es X.env:=by rfl) (hpl:(backTo pos (starEach es X.env)).any (·.1)=false:=by rfl) :
  PV X (.Call (.Name x p) (e::es) [] pos) (λψ=>(g ψ).bind fm):=by
 refine ia (yC F hr hg hm hk hb .nil wt ha.pa hdb he hpl) λσ H Q=>?_;rintro⟨H0,F,ψ,d,r,e,q⟩;obtain⟨ds,e1,e2⟩:=ft e;refine⟨H0,F,ψ,ds,r,e1,λvs H1 F1 g1 f1 fh1 n1 rv=>⟨F1,ds,d,fh1,by rwa[kf],e2,λv H2 F2 g2 f2 fh2 n2 rv2=>?_⟩⟩;exact q v H2 F2 (g1.trans g2) (f1.trans f2) fh2 (n1.trans n2 g1) rv2
def Ea {fm:List D->Option (List D)}(F:fM X.prog X.w X.K X.mg X.base CX0 k f fd ps (zD X.K fm))(hr:ic k X.A)(hm:X.mg x=Ga (.ref f))(hk:uc X.K (.ref f)=true)(hb:ma X.K fd ps [])(ha:PL X (e::es) g)(hg:Gl X x:=by rfl)
  (hdb:(x==("__debug__":Str))=false:=by decide) (he:starEach (e::es) X.env=(false,eval e X.env)::starEach es X.env:=by rfl) (hpl:(backTo pos (starEach es X.env)).any (·.1)=false:=by rfl) :
  PO X (.Call (.Name x p) (e::es) [] pos) (λψ=>(g ψ).bind fm):=by
 refine ia (yC F hr hg hm hk hb .nil wt ha.pa hdb he hpl) λσ H Q=>?_;rintro⟨H0,F,ψ,d,r,e,q⟩;obtain⟨ds,e1,e2⟩:=ft e;refine⟨H0,F,ψ,ds,r,e1,λvs H1 F1 g1 f1 fh1 n1 rv=>⟨F1,ds,d,fh1,by rwa[kf],e2,λa xs H2 F2 g2 f2 fh2 n2 ha fa ha' rr=>?_⟩⟩;exact q a xs H2 F2 (g1.trans g2) (f1.trans f2) fh2 (n1.trans n2 g1) (g1.free ha) fa ha' rr
end
def CV:D->D->Option Bool
 | .none,.none=>Ga true
 | _,.none=>Ga false
 | .bool a,.bool b=>Ga (a==b)
 | _,.bool _=>Ga false
 | _,_=>Gb
def Ab (a b:D):Option D:=(CV a b).bind λk=>Ga (.bool k)
def wk (a b:D):Option D:=(CV a b).bind λk=>Ga (.bool (!k))
def PZ{a b:D}{x y:V}{v:Gg}{k:Bool}(ra:gG K F a x)(rb:gG K F b y)(rx:gq x u)(ry:gq y v)(e:CV a b=Ga k):plainIs u v=true/\(u==v)=k:=by
 cases rb<;>first|(cases ra<;>cases e;done)|skip
 .cases ry;cases ra<;>cases e<;>first
   | (cases rx;exact⟨rfl,rfl⟩)
   | (obtain⟨t,rfl⟩:=rx;exact⟨rfl,rfl⟩)
 .rename_i c;cases ry;cases ra<;>cases e<;>first
   | (cases rx;exact⟨rfl,rfl⟩)
   | (cases rx;rename_i b;cases b<;>cases c<;>exact⟨rfl,rfl⟩)
   | (obtain⟨t,rfl⟩:=rx;exact⟨rfl,rfl⟩)
def Ug:ir X (compareOp .Is) (sK X.K Ab):=by
 intro ω s σ H x y v u Q I rx ry h;obtain⟨F,a,b,d,g,ra,rb,e,q⟩:=h;obtain⟨k,e1,e2⟩:=ft e;obtain⟨z1,z2⟩:=PZ ra rb rx ry e1;cases e2;exact wpAny_is_plain z1 (by rw[z2];exact⟨.bl k,H,I,rfl,q k rfl⟩)
def zxZ:ir X (compareOp .IsNot) (sK X.K wk):=by
 intro ω s σ H x y v u Q I rx ry h;obtain⟨F,a,b,d,g,ra,rb,e,q⟩:=h;obtain⟨k,e1,e2⟩:=ft e;obtain⟨z1,z2⟩:=PZ ra rb rx ry e1;cases e2;exact wpAny_isNot_plain z1 (by rw[z2];exact⟨.bl (!k),H,I,rfl,q _ rfl⟩)
def Sk:∀ a b d,Ab a b=Ga d->∃ k,d=.bool k:=λa b d h=>by obtain⟨k,_,e⟩:=ft h;cases e;exact⟨_,rfl⟩
def zx0:∀ a b d,wk a b=Ga d->∃ k,d=.bool k:=λa b d h=>by obtain⟨k,_,e⟩:=ft h;cases e;exact⟨_,rfl⟩
def Wu (ha:PV X a f)(hb:PV X b g):PV X (.Compare a [.Is] [b] pos) (λψ=>(f ψ).bind λx=>(g ψ).bind λy=>Ab x y):=Ay Ug (tD Sk) ha hb
def WL (ha:PV X a f)(hb:PV X b g):PB X (.Compare a [.Is] [b] pos) (λψ=>((f ψ).bind λx=>(g ψ).bind λy=>Ab x y).bind hJ):=tw Ug (tD Sk) ha hb
def zDe (ha:PV X a f)(hb:PV X b g):PB X (.Compare a [.IsNot] [b] pos) (λψ=>((f ψ).bind λx=>(g ψ).bind λy=>wk x y).bind hJ):=tw zxZ (tD zx0) ha hb
def pv (a:D)(xs:List D):Bool:=a.canLay0&&kq xs&&decide (min (kD xs) a.depth<=90)
def rY (a b:D):Option D:=(toS b).bind λxs=>if pv a xs then Ga (.bool (xs.any λy=>ku y a)) else Gb
def xg (a b:D):Option D:=(toS b).bind λxs=>if pv a xs then Ga (.bool (!xs.any λy=>ku y a)) else Gb
def Pw {a:D}{xs:List D}(h:pv a xs=true):a.canLay0=true/\kq xs=true/\min (kD xs) a.depth<=90:=by
 unfold pv at h;simp only[jl,decide_eq_true_eq] at h;exact⟨h.1.1,h.1.2,h.2⟩
def QL (hu:X.A.units+100<cLine):ir X (compareOp .In) (sK X.K rY):=by
 intro ω s σ H x y v u Q I rx ry h;obtain⟨F,a,b,d,g,ra,rb,e,q⟩:=h;obtain⟨xs,e1,e2⟩:=ft e;split at e2
 .rename_i ok;obtain⟨h1,h2,h3⟩:=Pw ok;obtain⟨as,ha⟩:=ra.reads I g (zP h1) rx;obtain⟨bs,hb⟩:=rb.reads I g (by cases b<;>cases e1<;>(rw[oh];exact DF h2)) ry;cases b<;>cases e1
  .exact SeqAt.in_list_reads hb ha h2 h1 (by omega) ⟨.bl _,H,I,rfl,q _ (jK e2).symm⟩
  .exact SeqAt.in_tuple_reads hb ha h2 h1 (by omega) ⟨.bl _,H,I,rfl,q _ (jK e2).symm⟩
 .cases e2
def TV (hu:X.A.units+100<cLine):ir X (compareOp .NotIn) (sK X.K xg):=by
 intro ω s σ H x y v u Q I rx ry h;obtain⟨F,a,b,d,g,ra,rb,e,q⟩:=h;obtain⟨xs,e1,e2⟩:=ft e;split at e2
 .rename_i ok;obtain⟨h1,h2,h3⟩:=Pw ok;obtain⟨as,ha⟩:=ra.reads I g (zP h1) rx;obtain⟨bs,hb⟩:=rb.reads I g (by cases b<;>cases e1<;>(rw[oh];exact DF h2)) ry;cases b<;>cases e1
  .exact SeqAt.notIn_list_reads hb ha h2 h1 (by omega) ⟨.bl _,H,I,rfl,q _ (jK e2).symm⟩
  .exact SeqAt.notIn_tuple_reads hb ha h2 h1 (by omega) ⟨.bl _,H,I,rfl,q _ (jK e2).symm⟩
 .cases e2
def UL:∀ a b d,rY a b=Ga d->∃ k,d=.bool k:=λa b d h=>by obtain⟨k,_,e⟩:=ft h;split at e<;>cases e;exact⟨_,rfl⟩
def Uk:∀ a b d,xg a b=Ga d->∃ k,d=.bool k:=λa b d h=>by obtain⟨k,_,e⟩:=ft h;split at e<;>cases e;exact⟨_,rfl⟩
def NL (hu:X.A.units+100<cLine)(ha:PV X a f)(hb:PV X b g)(hm:behindInMarks .In b=false:=by first|rfl|with_unfolding_all rfl):PB X (.Compare a [.In] [b] pos) (λψ=>((f ψ).bind λx=>(g ψ).bind λy=>rY x y).bind hJ):=tw (QL hu) (tD UL) ha hb hm
def zF7 (hu:X.A.units+100<cLine)(ha:PV X a f)(hb:PV X b g)(hm:behindInMarks .NotIn b=false:=by first|rfl|with_unfolding_all rfl):PB X (.Compare a [.NotIn] [b] pos) (λψ=>((f ψ).bind λx=>(g ψ).bind λy=>xg x y).bind hJ):=tw (TV hu) (tD Uk) ha hb hm
def xf:D->Option D
 | .int i=>Ga (.int (-i))
 | _=>Gb
def TZ (ha:PV X a f):PV X (.UnaryOp .USub a pos) (λψ=>(f ψ).bind xf):=by
 refine ia (Ps MF ha) λσ H Q=>?_;rintro⟨H0,F,ψ,d,r,e,q⟩;obtain⟨d',e1,e⟩:=ft e;refine⟨H0,F,ψ,d',r,e1,λv H1 F1 g1 f1 fh1 n1 rv=>?_⟩;cases rv<;>first|(cases e;done)|skip
 cases e;exact⟨_,rfl,q _ H1 F1 g1 f1 fh1 n1 (.int _)⟩
def fN:D->Option D
 | .int i=>if i.natAbs.log2<1920 then Ga (.str (toString i)) else Gb
 | _=>Gb
def pd(hg:Gl X "str")(hm:X.mg "str"=Gb)(ha:PV X a f)(hs:starEach [a] X.env=[(false,eval a X.env)]:=by rfl):PV X (.Call (.Name "str" p) [a] [] pos) (λψ=>(f ψ).bind fN):=by
 refine ia (Ae AC hg hm boot_str ha (hs:=hs)) λσ H Q=>?_;rintro⟨H0,F,ψ,d,r,e,q⟩;obtain⟨d',e1,e⟩:=ft e;refine⟨H0,F,ψ,d',r,e1,λv H1 F1 g1 f1 fh1 n1 rv=>?_⟩;cases rv<;>first|(cases e;done)|skip
 rename_i i;unfold fN at e;dsimp only at e;split at e
 .rename_i c;cases e;exact⟨i,rfl,c,q _ H1 F1 g1 f1 fh1 n1 (.str _)⟩
 .cases e
def Db:D->Option D
 | .int i=>Ga (.int (k5 i))
 | _=>Gb
def zA7:yN X "int.bit_length" (λx xs H Q=>∃ i,x=.int i/\xs=[]/\Q (.int (k5 i)) H):=by
 intro ω s σ H x xs v us Q I rx rv h;obtain⟨i,rfl,rfl,q⟩:=h;obtain⟨t,rfl⟩:=rx;cases rv;exact call_int_bit_length ⟨.int _,H,I.tok _,⟨_,rfl⟩,q⟩
def XS(ha:PV X a f)(hbase:attributeBase a "bit_length" X.env (eval a X.env)=eval a X.env:=by rfl)(hline:(p.endLine==p2.line)=true:=by rfl):PV X (.Call (.Attribute a "bit_length" p) [] [] p2) (λψ=>(f ψ).bind Db):=by
 refine ia (Nx PySem.F.plainAttrs_int PySem.F.slot_int_bit_length PySem.F.type_int_bit_length zA7 ha hbase hline) λσ H Q=>?_;rintro⟨H0,F,ψ,d,r,e,q⟩;obtain⟨d',e1,e⟩:=ft e;refine⟨H0,F,ψ,d',r,e1,λv H1 F1 g1 f1 fh1 n1 rv=>?_⟩;cases rv<;>first|(cases e;done)|skip
 rename_i i;cases e;exact⟨rfl,i,rfl,rfl,q _ H1 F1 g1 f1 fh1 n1 (.int _)⟩
def mL:List D->Option (List Int)
 | []=>Ga []
 | .int i::r=>(mL r).bind λis=>Ga (i::is)
 | _=>Gb
def GP:∀ {ds:List D} {is:List Int},mL ds=Ga is->ds=is.map jd
 | [],_,h=>by cases h;rfl
 | .int i::r,is,h=>by
  obtain⟨js,e1,e2⟩:=ft (show(mL r).bind (λis=>Ga (i::is))=Ga is from h);cases e2;rw[GP e1];rfl
 | .none::_,_,h=>by cases h
 | .bool _::_,_,h=>by cases h
 | .str _::_,_,h=>by cases h
 | .list _::_,_,h=>by cases h
 | .tuple _::_,_,h=>by cases h
 | .dict _::_,_,h=>by cases h
def fL.ints_inv {K:jb}{F:Hp}:∀ {is:List Int} {vs:List V},fL K F (is.map jd) vs->vs=is.map V.int
 | [],_,h=>by cases h;rfl
 | i::is,_,h=>by
  cases h with
  | cons h t=>cases h;rw[fL.ints_inv t];rfl
def UD(hm:X.mg x=Ga u)(r:gq v u)(rd:∀ K F,gG K F d v)(hg:Gl X x:=by rfl)(hd:(x==("__debug__":Str))=false:=by decide):PV X (.Name x pos) (λ_=>Ga d):=Dh (HP hg hm r hd) rd
def Gm{r:R2}{k:D->D->Option D}{h:FV}(ho:ir X (compareOp op) r)(ho':ir X (compareOp op') r')(hr:rX X.K r k)(hr':rX X.K r' k')(ha:PV X a f)(hb:PV X b g)(hc:PV X c h)
  (hm:lastMarks [op,op'] [b,c]=false:=by with_unfolding_all rfl) :
  PV X (.Compare a [op,op'] [b,c] pos) (λψ=>(f ψ).bind λx=>(g ψ).bind λy=>((k x y).bind hJ).bind λt=>if t then(h ψ).bind λz=>k' y z else Ga (.bool false)):=by
 refine ia (Fj ho ho' ha hb hc hm) λσ H Q=>?_;rintro⟨H0,F,ψ,d,rs,e,q⟩;obtain⟨x,e1,e⟩:=ft e;obtain⟨y,e2,e⟩:=ft e;obtain⟨t,e3,e⟩:=ft e;obtain⟨d1,e4,e5⟩:=ft e3;cases xI e5;refine⟨H0,F,ψ,x,rs,e1,λv H1 F1 g1 f1 fh1 n1 rv=>⟨H0,F1,ψ,y,rs.grow g1 f1 fh1 n1,e2,λu H2 F2 g2 f2 fh2 n2 ru=>?_⟩⟩;refine hr F2 H2 v u x y _ _ fh2 (rv.mono f2) ru e4 λw H3 F3 g3 f3 fh3 n3 rw3=>?_;cases rw3;refine⟨t,rfl,?_⟩;have gg:fw H H3:=(g1.trans g2).trans g3;have ff:fw F F3:=(f1.trans f2).trans f3;have nn:gu F F3 H:=(n1.trans n2 g1).trans n3 (g1.trans g2);cases t with
 | true =>
  obtain⟨z,e6,e7⟩:=ft (show(h ψ).bind (λz=>k' y z)=Ga d from e);refine oK ⟨H0,F3,ψ,z,rs.grow gg ff fh3 nn,e6,λw4 H4 F4 g4 f4 fh4 n4 rw4=>?_⟩;refine hr' F4 H4 u w4 y z d Q fh4 ((ru.mono f3).mono f4) rw4 e7 λw5 H5 F5 g5 f5 fh5 n5 rw5=>?_;exact q w5 H5 F5 ((gg.trans g4).trans g5) ((ff.trans f4).trans f5) fh5 ((nn.trans n4 gg).trans n5 (gg.trans g4)) rw5
 | false=>cases e;exact oG (q _ H3 F3 gg ff fh3 nn (.bl false))
def NT (t:Bool)(K:jb)(H:Hp)(a:Gk)(xs:List V):Prop:=if t then la K H a xs else hZ K H a xs
def IsX (t:Bool)(h:Heap)(a:Gk)(its:List Gg):Prop:=if t then h.IsTuple a its.toArray else h.IsList a its.toArray
variable {a:Gk}{g:FS}{op:D->D->Option D}{b:Bool}
def KN {t:Bool}(I:fB X ω σ H s)(h:NT t X.K H a xs):∃ its:List Gg,fV xs its/\IsX t s.heap a its/\∃ o,s.heap.get? a=Ga o:=by
 cases t with
 | true=>obtain⟨its,r,p,_⟩:=I.tuple h;exact⟨its,r,p,let ⟨o,e,_⟩:=p;⟨o,e⟩⟩
 | false=>obtain⟨its,r,p,_⟩:=I.list h;exact⟨its,r,p.isList,let ⟨o,n,e,_⟩:=p;⟨o,e⟩⟩
def zx1 {t:Bool}(I:fB X ω σ H s)(h:NT t X.K H a xs)(h':NT t X.K H a ys):xs=ys:=by
 cases t with
 | true=>exact I.tuple_inj h h'
 | false=>exact I.list_inj h h'
def Uv{ch:List Gk}(I:fB X ω σ H s)(hch:∀ b∈ch,pV X ω H b)(k:∀ b o,b∉ch->s.heap.get? b=Ga o->h'.get? b=Ga o)(tk:Nat):fB X ω σ H { s with heap:=h',toks:=tk }:=by
 have nch:∀ b u,H b=Ga u->b∉ch:=λb u e z=>by rw[(hch b z).1] at e;cases e
 refine I.step (g':=s.gens) (d':=s.drawn) (ch:=ch) (λb hb=>?_) (λb o _ _ hc e _=>k b o hc e) (λb o _ _ hc e _=>⟨o.slots,k b o hc e⟩) (λ_ _ _ _ n=>n) (λb o hc e=>⟨o,k b o hc e⟩) (λ_ _ e=>e) (λ_ _ _ e=>e) (λm hm=>?_) (λb u e=>?_) I.bare
 .obtain⟨_,f1,_,f3,f4,f5⟩:=hch b hb;exact⟨f3,f1,f4,f5⟩
 .obtain⟨o,es,ep,ho,r⟩:=hm;exact⟨o,es,ep,k _ o (λz=>(hch _ z).2.1 rfl) ho,r⟩
 .refine(I.hok b u e).stay (λc v hc q=>k c v ?_ q) (λ_ q=>q) λ_ _ q=>q;rcases hc with z|z
  .rw[z];exact nch b u e
  .exact nch c _ z
abbrev fU (d:D):FV:=λ_=>Ga d
abbrev fG (op:D->D->Option D)(f g:FV):FV:=λψ=>(f ψ).bind λx=>(g ψ).bind λy=>op x y
abbrev un (op:D->Option D)(f:FV):FV:=λψ=>(f ψ).bind op
abbrev AA (op:List D->Option D)(f:FL):FV:=λψ=>(f ψ).bind op
abbrev lO (f:FV):FB:=λψ=>(f ψ).bind zC
abbrev gJ (op:D->D->Option D)(f g:FV):FB:=λψ=>((f ψ).bind λx=>(g ψ).bind λy=>op x y).bind hJ
abbrev rJ (f:FB):FB:=λψ=>(f ψ).bind λc=>Ga (!c)
abbrev aju (f g:FB):FB:=λψ=>(f ψ).bind λc=>if c then g ψ else Ga false
abbrev sW (f g:FB):FB:=λψ=>(f ψ).bind λc=>if c then Ga true else g ψ
abbrev yI (f g:FV):FV:=λψ=>((f ψ).bind hJ).bind λc=>if c then g ψ else Ga (.bool false)
abbrev Ex (f g:FV):FV:=λψ=>((f ψ).bind hJ).bind λc=>if c then Ga (.bool true) else g ψ
abbrev Fs (f:FV):FV:=λψ=>((f ψ).bind hJ).bind λc=>Ga (.bool (!c))
abbrev xu (c:FB)(f g:FV):FV:=λψ=>(c ψ).bind λk=>if k then f ψ else g ψ
abbrev AN (k k':D->D->Option D)(f g h:FV):FV:=λψ=>(f ψ).bind λx=>(g ψ).bind λy=>((k x y).bind hJ).bind λt=>if t then(h ψ).bind λz=>k' y z else Ga (.bool false)
abbrev gj:FL:=λ_=>Ga []
abbrev fz (f:FV)(g:FL):FL:=λψ=>(f ψ).bind λd=>(g ψ).bind λds=>Ga (d::ds)
abbrev yw (g:FL):FV:=λψ=>(g ψ).bind λds=>Ga (.tuple ds)
abbrev iP (g:FL):FV:=λψ=>(g ψ).bind λds=>Ga (.list ds)
abbrev fR (fm:List D->Option D)(g:FL):FV:=λψ=>(g ψ).bind fm
abbrev rn (fm:List D->Option (List D))(g:FL):FL:=λψ=>(g ψ).bind fm
abbrev Ad (f:FV):FL:=λψ=>(f ψ).bind BS
abbrev pR (f:FV):FL:=λψ=>(f ψ).bind toS
abbrev iJ (op:D->Option (List D))(f:FV):FL:=λψ=>(f ψ).bind op
abbrev rP (op:D->D->Option (List D))(f g:FV):FL:=λψ=>(f ψ).bind λx=>(g ψ).bind λy=>op x y
def pi (T:String)(d:D):Option D:=Ga (.bool (FW T d))
def sC (xs:List D):Option D:=Ga (.tuple xs)
abbrev lD:FS:=λψ=>Ga (.nx ψ)
abbrev fX (g k:FS):FS:=λψ=>mK (g ψ) k
abbrev gY (f:FV):FS:=λψ=>(f ψ).bind λd=>Ga (.rt d)
abbrev Fx (f:FL):FS:=λψ=>(f ψ).bind λd=>Ga (.ro d)
abbrev lG (c:FB)(g k:FS):FS:=λψ=>(c (frz ψ)).bind λt=>if t then g ψ else k ψ
abbrev gC (i:Nat)(f:FV):FS:=λψ=>(f ψ).bind λd=>Ga (.nx (ψ.set i (.val d)))
abbrev rQ (i:Nat)(f:FL):FS:=λψ=>(f ψ).bind λd=>Ga (.nx (ψ.set i (.own d)))
abbrev zv (i:Nat)(g:FS):FS:=λψ=>(g ψ).bind λo=>Ga (Ap i o)
abbrev zA (i:Nat)(g:FS):FS:=λψ=>g (frzAt i ψ)
abbrev zI (i:Nat)(f:FV):FS:=λψ=>(go i ψ).bind λds=>(f ψ).bind λd=>if ds.length<1000000 then Ga (.nx (ψ.set i (.own (ds++[d])))) else Gb
abbrev mj (f:FL)(t:FT)(g:FS):FS:=λψ=>(f ψ).bind λds=>gk t g ds ψ
abbrev Wx (f:FV)(t:FT):FS:=λψ=>(f ψ).bind λd=>(t d ψ).bind λenv1=>Ga (.nx env1)
abbrev iB (i:Nat):FT:=λd ψ=>Ga (ψ.set i (.val d))
abbrev sn:=List D->En->Option En
abbrev zt:sn:=λds ψ=>match ds with|[]=>Ga ψ|_=>Gb
abbrev ny (t:FT)(u:sn):sn:=λds ψ=>match ds with|d::r=>(t d ψ).bind λenv1=>u r env1|[]=>Gb
abbrev Du (u:sn):FT:=λd ψ=>(BJ d).bind λds=>u ds ψ
section
variable {X:Cx}{pos:Pos}
structure GV (X:Cx)(es:List Expr)(t:sn):Prop where
 p:zN X es t
 len:∀ ds ψ env',t ds ψ=Ga env'->ds.length=es.length
def Bq:GV X [] zt:=⟨zDb,λds ψ env' h=>by cases ds with|nil=>rfl|cons _ _=>cases h⟩
def pE{u:sn}(h1:sP X e t)(h2:GV X es u)(hs:(assignEach (e::es) X.env).map (·.2)=assign e X.env::(assignEach es X.env).map (·.2):=by rfl):GV X (e::es) (ny t u) :=
 ⟨zA6 h1 h2.p hs,λds ψ env' h=>by
  cases ds with
  | nil=>cases h
  | cons d r =>
   obtain⟨e1,_,x2⟩:=ft (show(t d ψ).bind (λenv1=>u r env1)=Ga env' from h);exact congrArg J0 (h2.len r e1 env' x2)⟩
def BK{t:sn}(hc:X.calm=true)(h:GV X es t)(hn:(assignEach es X.env).length=es.length:=by rfl)(hst:(assignEach es X.env).findIdx? (·.1)=Gb:=by rfl):sP X (.Tuple es k pos) (Du t):=zF5 hc h.p h.len hn hst
def lK (i:Nat)(hN:X.N.Nodup)(hi:X.N[i]?=Ga x:=by rfl)(hx:tP X.env.scope x:=by first|exact kC rfl|exact j7 rfl)(hf:X.fn x=true\/X.env.scope.names.lookup x=Ga .local:=by first|exact .inl rfl|exact .inr rfl):sP X (.Name x pos) (iB i):=BA i hN hi hx hf
end
structure Fn (K:jb)(mg:Str->Option Gg)(x:Str)(st:Stmt)(ps:List Str)(a:Gk)(fd:Gj):Prop where
 F:rF K x x st a fd
 b:ma K fd ps []
 m:mg x=Ga (.ref a)
def zF8{f:Gk}{oc:Gg}{od an:Option Gk}{osl:Array (Option Gg)}{kV doc pm cdv ct:Gg}(X:K.In h)(G:h.Ns mainGlobals mg)
  (a:j4 K mainGlobals x=Ga (Ga (.ref f))) (l:K.lookup f=Ga ⟨oc,od,.func (kZ x x (defArgs st) (defBody st) (defScope st) .none kV doc pm an cdv ct),osl⟩) (c:vB K cdv x=true) (k:uc K (.ref f)=true)
  (hb:∀ (kV doc pm:Gg) (an:Option Gk) (cdv ct:Gg) (us:List Gg),us.length=ps.length->bindArgs (kZ x x (defArgs st) (defBody st) (defScope st) .none kV doc pm an cdv ct) ⟨us,[]⟩=pure (ps.zip us)) :
  Fn K mg x st ps f (kZ x x (defArgs st) (defBody st) (defScope st) .none kV doc pm an cdv ct):=by
 have F:=Eu (st:=st) l c k;exact⟨F,F.binds hb,uG X G a⟩
def gL(r:ic k A):A.units+100<cLine:=by have:=r.un;omega
noncomputable def fY:Option oj->Option D
 | some (.rt d)=>Ga d
 | some (.ro xs)=>Ga (.list xs)
 | _=>Gb
noncomputable def AF:Option oj->Option (List D)
 | some (.ro xs)=>Ga xs
 | _=>Gb
def gp (np n:Nat)(g:FS)(ds:List D):Option D:=if ds.length=np then fY (g (oY n ds)) else Gb
def AQ (np n:Nat)(g:FS)(ds:List D):Option (List D):=if ds.length=np then AF (g (oY n ds)) else Gb
section
variable {P:Program}{w:World}{K:jb}{mg:Str->Option Gg}{base:Heap}{x qual:Str}{st:Stmt}{f:Gk}{fd:Gj}{N ps:List Str}{k:Nat}{g:FS}
def gU (F:rF K x qual st f fd)(S:fF N ps (defScope st))
  (hb:∀ (cdv:Gg) (A:Around) (outer:List Env) (s:Gh) (H:Hp) (E:XK),ic k (A.deeper (envOfC qual (defScope st) s.heap.objs.size f cdv))->mV (nU CX0 P w K mg base N qual (defScope st) f cdv A outer s H E).nox (defBody st) g) :
  fM P w K mg base CX0 (k+1) f fd ps (spV K (gp ps.length N.length g)):=by
 refine fnV F S (λds d h=>?_) (λcdv A outer s H E hr=>⟨g,hb cdv A outer s H E hr,λds d h=>?_⟩)
 .unfold gp at h;split at h
  .assumption
  .cases h
 .unfold gp at h;split at h
  .unfold fY at h;split at h
   .rename_i e;cases h;exact .inl e
   .rename_i e;cases h;exact .inr ⟨_,rfl,e⟩
   .cases h
  .cases h
def Qp (F:rF K x qual st f fd)(S:fF N ps (defScope st))
  (hb:∀ (cdv:Gg) (A:Around) (outer:List Env) (s:Gh) (H:Hp) (E:XK),ic k (A.deeper (envOfC qual (defScope st) s.heap.objs.size f cdv))->mV (nU CX0 P w K mg base N qual (defScope st) f cdv A outer s H E).nox (defBody st) g) :
  fM P w K mg base CX0 (k+1) f fd ps (zD K (AQ ps.length N.length g)):=by
 refine XX F S (λds d h=>?_) (λcdv A outer s H E hr=>⟨g,hb cdv A outer s H E hr,λds d h=>?_⟩)
 .unfold AQ at h;split at h
  .assumption
  .cases h
 .unfold AQ at h;split at h
  .unfold AF at h;split at h
   .rename_i e;cases h;exact e
   .cases h
  .cases h
end
def zDh{ns:List Int}(hS:hZ K H a (ns.map V.int))(h:fm [.list (ns.map jd)]=Ga (.bool true)):spV K fm [.ref a] H (λv _=>v=.bl true) λ_ _ _=>False :=
 ⟨H,[.list (ns.map jd)],.bool true,.refl _,.cons (.lst hS (fL.ints ns)) .nil,h,λv H' F' _ _ _ _ r=>by cases r;rfl⟩
def Rf (d:List D):AF (Ga (.ro d))=Ga d:=rfl
variable {k:FS}
def iw{e:En}(h:g ψ=Ga (.nx e)):fX g k ψ=k e:=by show mK (g ψ) k=_;rw[h];rfl
def wJ(h:g ψ=Ga (.rt d)):fX g k ψ=Ga (.rt d):=by show mK (g ψ) k=_;rw[h];rfl
def pq {c:FB}(h:c (frz ψ)=Ga true):lG c g k ψ=g ψ:=by show(c (frz ψ)).bind _=_;rw[h];rfl
def rL {c:FB}(h:c (frz ψ)=Ga false):lG c g k ψ=k ψ:=by show(c (frz ψ)).bind _=_;rw[h];rfl
def mQ(h:f ψ=Ga d):gY f ψ=Ga (.rt d):=by show(f ψ).bind _=_;rw[h];rfl
def Ts {f:FL}{d:List D}(h:f ψ=Ga d):Fx f ψ=Ga (.ro d):=by show(f ψ).bind _=_;rw[h];rfl
def tu(h:f ψ=Ga d):gC i f ψ=Ga (.nx (ψ.set i (.val d))):=by show(f ψ).bind _=_;rw[h];rfl
def MZ{f:FL}{d:List D}(h:f ψ=Ga d):rQ i f ψ=Ga (.nx (ψ.set i (.own d))):=by show(f ψ).bind _=_;rw[h];rfl
def zF9{e:En}(h:g ψ=Ga (.nx e)):zv i g ψ=Ga (.nx (frzAt i e)):=by show(g ψ).bind _=_;rw[h];rfl
def iV{g:FV}{a b:D}(h1:f ψ=Ga a)(h2:g ψ=Ga b):fG op f g ψ=op a b:=by show(f ψ).bind _=_;rw[h1];show(g ψ).bind _=_;rw[h2];rfl
def yr {op:D->Option D}{a:D}(h1:f ψ=Ga a):un op f ψ=op a:=by show(f ψ).bind _=_;rw[h1];rfl
def Tq {op:List D->Option D}{f:FL}{a:List D}(h1:f ψ=Ga a):AA op f ψ=op a:=by show(f ψ).bind _=_;rw[h1];rfl
variable {g:FL}
def lZ(h:g ψ=Ga ds):fR fm g ψ=fm ds:=by show(g ψ).bind _=_;rw[h];rfl
def Ng {fm:List D->Option (List D)}(h:g ψ=Ga ds):rn fm g ψ=fm ds:=by show(g ψ).bind _=_;rw[h];rfl
def Ed(h1:f ψ=Ga d)(h2:g ψ=Ga ds):fz f g ψ=Ga (d::ds):=by show(f ψ).bind _=_;rw[h1];show(g ψ).bind _=_;rw[h2];rfl
def wF(h:g ψ=Ga ds):iP g ψ=Ga (.list ds):=by show(g ψ).bind _=_;rw[h];rfl
def WU(h:g ψ=Ga ds):yw g ψ=Ga (.tuple ds):=by show(g ψ).bind _=_;rw[h];rfl
def Kv(h:f ψ=Ga (.list ds)):Ad f ψ=Ga ds:=by show(f ψ).bind _=_;rw[h];rfl
def zGb(h:f ψ=Ga d)(h2:toS d=Ga ds):pR f ψ=Ga ds:=by show(f ψ).bind _=_;rwa[h]
def wS {op:D->Option (List D)}{a:D}(h1:f ψ=Ga a):iJ op f ψ=op a:=by show(f ψ).bind _=_;rw[h1];rfl
variable {g:FV}
def QV {op:D->D->Option (List D)}{a b:D}(h1:f ψ=Ga a)(h2:g ψ=Ga b):rP op f g ψ=op a b:=by show(f ψ).bind _=_;rw[h1];show(g ψ).bind _=_;rw[h2];rfl
def tq {f:FL}{g:FS}(h:f ψ=Ga ds):mj f t g ψ=gk t g ds ψ:=by show(f ψ).bind _=_;rw[h];rfl
def xD(h:f ψ=Ga d)(h2:zC d=Ga b):lO f ψ=Ga b:=by show(f ψ).bind _=_;rwa[h]
def pN{x y:D}(h1:f ψ=Ga x)(h2:g ψ=Ga y)(h3:op x y=Ga (.bool b)):gJ op f g ψ=Ga b:=by
 show((f ψ).bind _).bind _=_;rw[h1];show((g ψ).bind _).bind _=_;rw[h2];show(op x y).bind _=_;rw[h3];rfl
def Ms {f:FB}(h:f ψ=Ga b):rJ f ψ=Ga (!b):=by show(f ψ).bind _=_;rw[h];rfl
def zU {f g:FB}(h:f ψ=Ga true):sW f g ψ=Ga true:=by show(f ψ).bind _=_;rw[h];rfl
def re {f g:FB}(h:f ψ=Ga false):sW f g ψ=g ψ:=by show(f ψ).bind _=_;rw[h];rfl
def PY(h1:go i ψ=Ga ds)(h2:f ψ=Ga d)(hz:ds.length<1000000):zI i f ψ=Ga (.nx (ψ.set i (.own (ds++[d])))):=by
 show(go i ψ).bind _=_;rw[h1];show(f ψ).bind _=_;rw[h2];exact Ge hz
def wN(h:fi ψ=Ga ds)(hz:ds.length<=1000000):gh fi fc fe ix ψ=gd fc fe (ls ix ψ) ds:=by
 show(fi ψ).bind _=_;rw[h];exact Ge hz
def Af {fe:FV}{base:En}{F:D->D}:∀ {ds:List D},(∀ d∈ds,fe (.val d::base)=Ga (F d))->gd (λ_=>Ga true) fe base ds=Ga (ds.map F)
 | [],_=>rfl
 | x::r,h=>by
  unfold gd;rw[jh,Ge rfl,h x jf,jh,Af λd hd=>h d (jk _ hd)];rfl
def Ec {fc:FB}{fe:FV}{base:En}{p:D->Bool}{F:D->D}:∀ {ds:List D},(∀ d∈ds,fc (.val d::base)=Ga (p d))->(∀ d∈ds,p d=true->fe (.val d::base)=Ga (F d))->gd fc fe base ds=Ga ((ds.filter p).map F)
 | [],_,_=>rfl
 | x::r,h1,h2=>by
  have ih:=Ec (fc:=fc) (fe:=fe) (base:=base) (p:=p) (F:=F) (ds:=r) (λd hd=>h1 d (jk _ hd)) (λd hd=>h2 d (jk _ hd));unfold gd;rw[h1 x jf,jh];cases hp:p x with
  | true=>rw[Ge rfl,h2 x jf hp,jh,ih,u5 hp];rfl
  | false=>rw[Gf jH,ih,v8 (by rw[hp];exact jH)]
def Ir (a b:Int):ku (.int a) (.int b)=(a==b):=by simp only[ku]
def Ik (a b:Int):gN (.int a) (.int b)=Ga (.bool (!(a==b))):=by
 unfold gN;have:xk (.int a) (.int b)=true:=rfl;rw[Ge this,Ir]
def xS (a b:Int):gw (.int a) (.int b)=Ga (.bool (a==b)):=by
 unfold gw;have:xk (.int a) (.int b)=true:=rfl;rw[Ge this,Ir]
def Tk:∀ {xs:List D},(∀ x∈xs,x.canLay0=true)->kq xs=true
 | [],_=>rfl
 | y::r,h=>by rw[kq,h y jf,Tk λx hx=>h x (jk _ hx)];rfl
def SK {n:Nat}:∀ {xs:List D},(∀ x∈xs,x.depth<=n)->kD xs<=n
 | [],_=>kh _
 | y::r,h=>by rw[kD];exact Nat.max_le.mpr ⟨h y jf,SK λx hx=>h x (jk _ hx)⟩
def pW (ns:List Int):kq (ns.map jd)=true:=Tk λx hx=>by obtain⟨n,_,rfl⟩:=jr.mp hx;rfl
def ZY (ns:List Int):kD (ns.map jd)<=0:=SK λx hx=>by obtain⟨n,_,rfl⟩:=jr.mp hx;exact jw _
def Tw (a:Int)(ns:List Int):rY (.int a) (.list (ns.map jd))=Ga (.bool (ns.contains a)):=by
 have h0:=ZY ns;have ok:pv (.int a) (ns.map jd)=true:=by
  unfold pv;rw[pW];have:min (kD (ns.map jd)) (J3 (.int a))<=90:=by omega
  rw[Gc this];rfl
 show(if pv (.int a) (ns.map jd)=true then Ga (jS ((ns.map jd).any λy=>ku y (.int a))) else Gb)=_;rw[Ge ok,List.any_map]
 congr 2
 rw[List.contains_eq_any_beq]
 congr 1
 funext x
 show ku (.int x) (.int a)=(a==x);rw[Ir];rw[jQ,beq_iff_eq,beq_iff_eq];exact eq_comm
def oH {α:Type}(lt:Nat->Nat->Option Bool):Jm α->Option α
 | .ret a=>Ga a
 | .ask i j k=>(lt i j).bind λb=>oH lt (k b)
def Sw {α:Type}{lt:Nat->Nat->Option Bool}{cmp:Nat->Nat->(Bool->Gh->Prop)->Gh->Prop}{s:Gh}(hc:∀ i j b C,lt i j=Ga b->C b s->cmp i j C s){G:α->Gh->Prop} :
  ∀ {t:Jm α} {a:α},oH lt t=Ga a->G a s->t.kasWp cmp G s
 | .ret x,a,e,g=>by cases e;exact g
 | .ask i j k,a,e,g=>by
  obtain⟨b,e1,e2⟩:=ft (show(lt i j).bind (λb=>oH lt (k b))=Ga a from e);exact hc i j b _ e1 (Sw hc e2 g)
def Qm{lt:Nat->Nat->Option Bool}{p:Array Nat}(ho:s.heap.get? a=Ga (seqObj "list" vs.toArray n))(h2:2<=vs.length)(h64:vs.length<64)
  (hp:oH lt (uI vs.length)=Ga p)
  (hk:∀ s1:Gh,(∀ b o,b≠a->s.heap.get? b=Ga o->s1.heap.get? b=Ga o)->∃ κ,(∀ Q:SortKind->Gh->Prop,Q κ s1->wpAny (model prog w) A (keyKind' vs.toArray) Q (λ_ _=>False) s1) /\
   ∀ i j b (C:Bool->Gh->Prop),lt i j=Ga b->C b s1->qz prog w A κ vs i j C s1)
  (h:∀ h' c,(∀ b o,b≠a->s.heap.get? b=Ga o->h'.get? b=Ga o)->h'.get? a=Ga (seqObj "list" (qF (p.toList.map λi=>vs.getD i jX)) c)->P (.done (.ret .none)) { s with heap:=h' }) :
  wpAny (model prog w) A (Builtin.«list.sort» ⟨[.ref a],[]⟩) P E s:=by
 have s1:=kj s.heap a (jW λ_=>(#[]:Array Gg));obtain⟨e1,ho1⟩:∃ e1,(s.heap.update a (jW λ_=>(#[]:Array Gg))).get? a=Ga (seqObj "list" #[] e1):=⟨_,get?_update_seq ho λ_=>#[]⟩;generalize hh1:s.heap.update a (jW λ_=>(#[]:Array Gg))=h1 at s1 ho1;have sl:vs.length<=sizeLine:=by rw[sizeLine_eq];omega
 rw[list_sort_plain];refine fk (listItems_at ho rfl (fk (listUpdate_at ho rfl ?_ (by rwa[jv]) (kh _))));rw[hh1];refine fk (seqEpoch_at ho1 rfl (fk (wpAny_newTuple (fk (wpAny_newList (wpAny_holding ?_) (kh _))) sl)));generalize hh3:(h1.push { cls:=.type "tuple",data:=.seq vs.toArray }).push { cls:=.type "list",data:=.seq ([]:List Gg).toArray }=h3;have k3:∀ b o,h1.get? b=Ga o->h3.get? b=Ga o:=λb o e=>by rw[<- hh3];exact jj _ (jj _ e)
 have keep:∀ b o,b≠a->s.heap.get? b=Ga o->h3.get? b=Ga o:=λb o nb e=>k3 b o (s1.extBut b o nb e);dsimp only;have n2:¬vs.toArray.size<2:=by rw[jv];omega
 rw[Gf n2,Gf n2];obtain⟨κ,hkind,hask⟩:=hk { s with heap:=h3 } keep;refine fk (wpAny_mono (hkind (λκ' s'=>κ'=κ/\s'={ s with heap:=h3 }) ⟨rfl,rfl⟩) (λκ' s' ⟨x1,x2⟩=>?_) λ_ _ z=>z.elim);subst x1 x2;refine fk (wpAny_mono (PySem.W.kat_run (Q:=λst' s'=>arrOf st'=p.map (PySem.W.kas_item (vs.toArray.zip vs.toArray))/\failedOf st'=Gb/\p.size=vs.length/\s'={ s with heap:=h3 }) (G:=λp' s'=>p'=p/\s'={ s with heap:=h3 })
  rfl h2 h64 (λp' st' s' a1 a2 a3 a4=>⟨by rwa[<- a4.1],a3,by rwa[<- a4.1],a4.2⟩) (Sw (λi j b C e c=>hask i j b C e c) hp ⟨rfl,rfl⟩)) ?_ λ_ _ e=>e)
 rintro⟨⟨⟩,st'⟩ s' ⟨har,hf,hsz,rfl⟩;dsimp only;rw[PySem.W.kat_snds rfl har];have ho3:h3.get? a=Ga (seqObj "list" #[] e1):=k3 _ _ ho1;have hz:(qF (p.toList.map λi=>vs.getD i jX)).size<=sizeLine:=by rwa[jv,jc,jP,hsz]
 refine fk (seqEpoch_at (s:={ s with heap:=h3 }) ho3 rfl (fk (listUpdate_at (s:={ s with heap:=h3 }) ho3 rfl ?_ (kh _) (qU hz))));rw[hf];simp only[bne_self_eq_false,kU,if_false];have s4:=kj h3 a (jW λ_=>qF (p.toList.map λi=>vs.getD i jX));obtain⟨c,hc⟩:∃ c,(h3.update a (jW λ_=>qF (p.toList.map λi=>vs.getD i jX))).get? a=Ga (seqObj "list" (qF (p.toList.map λi=>vs.getD i jX)) c):=⟨_,get?_update_seq ho3 λ_=>_⟩;exact fq (h _ c (λb o nb e=>s4.extBut b o nb (keep b o nb e)) hc)
def UE(ho:s.heap.get? a=Ga (seqObj "list" vs.toArray n))(h2:vs.length<2)
  (h:∀ h' c,(∀ b o,b≠a->s.heap.get? b=Ga o->h'.get? b=Ga o)->h'.get? a=Ga (seqObj "list" vs.toArray c)->P (.done (.ret .none)) { s with heap:=h' }) :
  wpAny (model prog w) A (Builtin.«list.sort» ⟨[.ref a],[]⟩) P E s:=by
 have s1:=kj s.heap a (jW λ_=>(#[]:Array Gg));obtain⟨e1,ho1⟩:∃ e1,(s.heap.update a (jW λ_=>(#[]:Array Gg))).get? a=Ga (seqObj "list" #[] e1):=⟨_,get?_update_seq ho λ_=>#[]⟩;generalize hh1:s.heap.update a (jW λ_=>(#[]:Array Gg))=h1 at s1 ho1;have sl:vs.length<=sizeLine:=by rw[sizeLine_eq];omega
 rw[list_sort_plain];refine fk (listItems_at ho rfl (fk (listUpdate_at ho rfl ?_ (by rwa[jv]) (kh _))));rw[hh1];refine fk (seqEpoch_at ho1 rfl (fk (wpAny_newTuple (fk (wpAny_newList (wpAny_holding ?_) (kh _))) sl)));generalize hh3:(h1.push { cls:=.type "tuple",data:=.seq vs.toArray }).push { cls:=.type "list",data:=.seq ([]:List Gg).toArray }=h3;have k3:∀ b o,h1.get? b=Ga o->h3.get? b=Ga o:=λb o e=>by rw[<- hh3];exact jj _ (jj _ e)
 have keep:∀ b o,b≠a->s.heap.get? b=Ga o->h3.get? b=Ga o:=λb o nb e=>k3 b o (s1.extBut b o nb e);dsimp only;have n2:vs.toArray.size<2:=by rw[jv];omega
 rw[Ge n2,Ge n2];refine fk (fq ?_);rw[StateT.run_pure];refine fk (fq ?_);dsimp only;have hout:(arrOf (SortSt.mk' general' (vs.toArray.zip vs.toArray) #[] 7 Gb)).map (·.2)=vs.toArray:=by
  show(vs.toArray.zip vs.toArray).map (·.2)=vs.toArray;apply Je.mp;rw[qk,Array.toList_zip];exact List.map_snd_zip (jw _)
 rw[hout];have ho3:h3.get? a=Ga (seqObj "list" #[] e1):=k3 _ _ ho1;refine fk (seqEpoch_at (s:={ s with heap:=h3 }) ho3 rfl (fk (listUpdate_at (s:={ s with heap:=h3 }) ho3 rfl ?_ (kh _) (qU (by rwa[jv])))));simp only[bne_self_eq_false,kU,if_false];have s4:=kj h3 a (jW λ_=>vs.toArray);obtain⟨c,hc⟩:∃ c,(h3.update a (jW λ_=>vs.toArray)).get? a=Ga (seqObj "list" vs.toArray c):=⟨_,get?_update_seq ho3 λ_=>_⟩;exact fq (h _ c (λb o nb e=>s4.extBut b o nb (keep b o nb e)) hc)
def QU(hl:s.heap.IsList l vs.toArray)(hz:vs.length<64)
  (hs:∀ (s1:Gh) (n:Nat) (P:Vd->Gh->Prop) (E':Gg->Gh->Prop),(∀ b o,s.heap.get? b=Ga o->s1.heap.get? b=Ga o)->s1.heap.get? (s.heap.objs.size+1)=Ga (seqObj "list" vs.toArray n) ->
   (∀ h' c,(∀ b o,b≠s.heap.objs.size+1->s1.heap.get? b=Ga o->h'.get? b=Ga o)->h'.get? (s.heap.objs.size+1)=Ga (seqObj "list" out.toArray c)->P (.done (.ret .none)) { s1 with heap:=h' }) ->
   wpAny (model prog w) A.in1.in1 (Builtin.«list.sort» ⟨[.ref (s.heap.objs.size+1)],[]⟩) P E' s1)
  (h:∀ h' c,(∀ b o,s.heap.get? b=Ga o->h'.get? b=Ga o)->h'.get? (s.heap.objs.size+1)=Ga (seqObj "list" out.toArray c)->Q (.ref (s.heap.objs.size+1)) { s with heap:=h' }) :
  wpAny (model prog w) A (call (.builtin "sorted") [.ref l]) Q E s:=by
 have sl:vs.length<=sizeLine:=by rw[sizeLine_eq];omega
 refine qQ kind_sorted plain_sorted entry_sorted (args_sorted1 _) ?_;unfold Builtin.«sorted»;refine fk (m:=checkCount "sorted" 1 1 _) (fq (fk (collect_list hl (fk (wpAny_newList ?_ sl)) sl)));generalize hh1:(s.heap.push (seqObj "list" #[] 0)).update s.heap.objs.size (jW (·++vs.toArray))=h1;have n1:h1.objs.size=s.heap.objs.size+1:=by rw[<- hh1,Heap.size_update,size_push']
 have k1:∀ b o,s.heap.get? b=Ga o->h1.get? b=Ga o:=λb o q=>by
  have hlt:b<s.heap.objs.size:=jy q;rwa[<- hh1,Heap.get?_update_ne _ _ _ _ (jL hlt),Heap.get?_push_ne _ _ _ (jL hlt)]
 show wpAny _ _ _ _ _ { s with heap:=h1.push (seqObj "list" vs.toArray 0) };dsimp only;rw[n1];have hoL:(h1.push (seqObj "list" vs.toArray 0)).get? (s.heap.objs.size+1)=Ga (seqObj "list" vs.toArray 0):=by rw[<- n1];exact jA _ rfl
 have keep:∀ b o,s.heap.get? b=Ga o->(h1.push (seqObj "list" vs.toArray 0)).get? b=Ga o:=λb o q=>jj _ (k1 b o q);refine fk (wpAny_holding (wpAny_call_entry slot_list_sort ⟨_,hoL,rfl⟩ entry_list_sort ?_ (args_list_sort _)));refine hs { s with heap:=h1.push (seqObj "list" vs.toArray 0) } 0 _ _ keep hoL λh' c kk hc=>⟨_,rfl,fq ⟨_,rfl,h h' c (λb o e=>kk b o (jL (vy (jy e))) (keep b o e)) hc⟩⟩
def oI:List Int->List Int->Bool
 | [],[]=>false
 | [],_::_=>true
 | _::_,[]=>false
 | x::xs,y::ys=>if x==y then oI xs ys else decide (x<y)
def Ac:D->D->Option Bool
 | .int i,.int j=>Ga (decide (i<j))
 | .tuple xs,.tuple ys=>(mL xs).bind λis=>(mL ys).bind λjs=>Ga (oI is js)
 | _,_=>Gb
def Ra:D->Bool
 | .int _=>true
 | _=>false
def Fq:D->Bool
 | .tuple (x::xs)=>(mL (x::xs)).isSome
 | _=>false
def oQ (ds:List D):Bool:=ds.all Ra||ds.all Fq
def xp (ds:List D)(i j:Nat):Option Bool:=(ds[i]?).bind λa=>(ds[j]?).bind λb=>Ac a b
def iU (ds:List D):Option (List D):=if ds.length<2 then Ga ds else if (decide (ds.length<64)&&oQ ds)=true then(oH (xp ds) (uI ds.length)).bind λp=>(if p.size<=64 then Ga (p.toList.map λi=>ds.getD i .none) else Gb) else Gb
def RF {b fin:Bool}{Q:Bool->Gh->Prop}:∀ {is js:List Int} {us ws:List Gg} {i:Nat},IntsAre us is->IntsAre ws js->(i=0->b=true)->fin=decide (is.length<js.length)->Q (oI is js) s->PySem.W.KatLex prog w A b fin Q (us.zip ws) i s
 | [],[],_,_,i,.nil,.nil,_,hf,q=>by
  rwa[hf]
 | [],y::ys,_,_,i,.nil,.cons _ _ _,_,hf,q=>by
  have e:decide (([]:List Int).length<(y::ys).length)=true:=Gc (J4 _);rwa[hf,e]
 | _::_,[],_,_,i,.cons _ _ _,.nil,_,hf,q=>by
  rwa[hf]
 | x::is,y::js,_,_,i,.cons _ t h1,.cons _ u h2,hb,hf,q=>by
  show wpAny _ _ (eqBool (.int x t) (.int y u)) _ _ s;refine wpAny_eqBool_int ?_;have q':Q (if (x==y)=true then oI is js else decide (x<y)) s:=q;cases hxy:(x==y) with
  | true =>
   rw[hxy,Ge rfl] at q';rw[Ge rfl];exact RF (i:=i+1) h1 h2 (λz=>absurd z (Nat.succ_ne_zero _)) (by rw[hf];simp only[jC,Nat.add_lt_add_iff_right]) q'
  | false =>
   rw[hxy,Gf jH] at q';rw[Gf jH];by_cases hi:i=0
   .subst hi;rw[hb rfl];exact oneLt_int q'
   .have e:(b&&i==0)=false:=by rw[beq_eq_false_iff_ne.mpr hi,JH]
    rw[e];exact PySem.W.kat_one _ _ (lt_int q')
def SV:∀ {is:List Int} {xs:List V} {us:List Gg},fL X.K F (is.map jd) xs->fV xs us->IntsAre us is
 | [],_,_,.nil,r=>by cases r;exact .nil
 | i::is,_,_,.cons h t,r=>by
  cases r with
  | cons r1 r2 =>
   cases h;obtain⟨tk,rfl⟩:=r1;exact .cons _ _ (SV t r2)
def VD(I:fB X ω σ H s)(g:fw F H)(r:gG X.K F (.tuple (is.map jd)) v)(ru:gq v u):∃ a o its n,u=.ref a/\s.heap.get? a=Ga o/\o.cls=.type "tuple"/\o.data=.seq its.toArray n/\IntsAre its is:=by
 cases r with
 | tup h q =>
  cases ru;obtain⟨its,rv,⟨o,e,c,n,d⟩,_⟩:=I.tuple (lV g h);exact⟨_,o,its,n,rfl,e,c,d,SV q rv⟩
def zuW(h:Fq d=true):∃ i is,d=.tuple ((i::is).map jd):=by
 cases d with
 | tuple xs =>
  cases xs with
  | nil=>cases h
  | cons x xs =>
   have h':(mL (x::xs)).isSome=true:=h;obtain⟨is,e⟩:=qY.mp h';have e2:=GP e;cases is with
   | nil=>cases e2
   | cons i is=>exact⟨i,is,by rw[e2]⟩
 | _=>cases h
def zx2(h:Ra d=true):∃ i,d=.int i:=by cases d<;>first|exact⟨_,rfl⟩|cases h
def GN:∀ is:List Int,mL (is.map jd)=Ga is
 | []=>rfl
 | i::is=>by
  show(mL (is.map jd)).bind (λr=>Ga (i::r))=_;rw[GN is];rfl
def Se (is js:List Int):Ac (.tuple (is.map jd)) (.tuple (js.map jd))=Ga (oI is js):=by
 show(mL _).bind _=_;rw[GN];show(mL _).bind _=_;rw[GN];rfl
def Da(rv:fV xs its)(rr:fL X.K F ds xs)(e:ds[i]?=Ga d):∃ v u,gG X.K F d v/\gq v u/\its.getD i jX=u:=by
 obtain⟨v,e1,r1⟩:=rr.get e;obtain⟨u,e2,r2⟩:=rv.get e1;exact⟨v,u,r1,r2,by rw[ji,e2];rfl⟩
def Qf(I:fB X ω σ H s)(g:fw F H)(rv:fV xs its)(rr:fL X.K F ds xs)(h2:2<=its.length)(ok:oQ ds=true){s1:Gh}(k:∀ b o,s.heap.get? b=Ga o->s1.heap.get? b=Ga o) :
  ∃ κ,(∀ Q:SortKind->Gh->Prop,Q κ s1->wpAny (model X.prog X.w) A (keyKind' its.toArray) Q (λ_ _=>False) s1)/\∀ i j b (C:Bool->Gh->Prop),xp ds i j=Ga b->C b s1->qz X.prog X.w A κ its i j C s1:=by
 have hlen:ds.length=its.length:=rr.length.trans rv.length;have look:∀ (i j:Nat) (b:Bool),xp ds i j=Ga b->∃ d e,ds[i]?=Ga d/\ds[j]?=Ga e/\Ac d e=Ga b:=λi j b h=>by
  obtain⟨d,e1,h⟩:=ft h;obtain⟨e,e2,h⟩:=ft h;exact⟨d,e,e1,e2,h⟩
 unfold oQ at ok;rw[vo] at ok;rcases ok with ok|ok
 .have ai:∀ (i:Nat) (d:D),ds[i]?=Ga d->∃ n,d=jd n:=λi d e=>zx2 (jR.mp ok d (j5 e));have av:∀ v∈its,∃ n t,v=uW n t:=λv hv=>by
   obtain⟨i,hi⟩:=List.mem_iff_getElem?.mp hv;have hl:i<ds.length:=by rw[hlen];exact(ju.mp hi).1
   obtain⟨n,hn⟩:=ai i _ (jg hl);obtain⟨v',u,r1,r2,e⟩:=Da rv rr (jg hl);rw[hn] at r1;cases r1;obtain⟨t,rfl⟩:=r2;rw[ji,hi] at e;exact⟨n,t,e⟩
  refine⟨oneType',λQ q=>PySem.W.kas_kind (T:=.type "int") h2 (λv hv=>?_) (by decide) (by decide) q,λi j b C e c=>?_⟩
  .obtain⟨n,t,rfl⟩:=av v hv;exact JD rfl
  .obtain⟨d,d2,e1,e2,e3⟩:=look i j b e;obtain⟨n,rfl⟩:=ai i d e1;obtain⟨m,rfl⟩:=ai j d2 e2;obtain⟨v1,u1,r1,r2,x1⟩:=Da rv rr e1;obtain⟨v2,u2,r3,r4,x2⟩:=Da rv rr e2;cases r1;cases r3;obtain⟨t,rfl⟩:=r2;obtain⟨t2,rfl⟩:=r4;unfold qz;rw[x1,x2];cases e3;exact PySem.W.kat_lt_int c
 .have ai:∀ (i:Nat) (d:D),ds[i]?=Ga d->∃ n is,d=uC ((n::is).map jd):=λi d e=>zuW (jR.mp ok d (j5 e));have tup:∀ (i:Nat) (d:D),ds[i]?=Ga d->∃ n is a o us k,d=uC ((n::is).map jd)/\its.getD i jX=kF a/\s1.heap.get? a=Ga o/\o.cls=.type "tuple"/\o.data=.seq us k/\IntsAre us.toList (n::is):=λi d e=>by
   obtain⟨n,is,rfl⟩:=ai i d e;obtain⟨v,u,r1,r2,x1⟩:=Da rv rr e;obtain⟨a,o,us,kk,rfl,e1,c,dd,hi⟩:=VD I g r1 r2;exact⟨n,is,a,o,us.toArray,kk,rfl,x1,k a o e1,c,dd,by simpa using hi⟩
  have kt:∀ (ws:List Gg) (es:List D),(∀ (i:Nat) v,ws[i]?=Ga v->∃ n is a o us kk,v=kF a/\s1.heap.get? a=Ga o/\o.cls=.type "tuple"/\o.data=.seq us kk/\IntsAre us.toList (n::is))->∃ fs,PySem.W.KatTups s1.heap ws fs/\fs.length=ws.length/\∀ v∈fs,∃ n t,v=uW n t:=by
   intro ws es;induction ws with
   | nil=>intro _;exact⟨[],.nil,rfl,λv hv=>by simp at hv⟩
   | cons v r ih =>
    intro hall;obtain⟨n,is,a,o,us,kk,rfl,e1,c,dd,hi⟩:=hall 0 v rfl;obtain⟨fs,h1,h2,h3⟩:=ih λi v e=>hall (i+1) v (by simpa using e);cases hu:us.toList with
    | nil=>rw[hu] at hi;cases hi
    | cons f fr =>
     rw[hu] at hi;cases hi with
     | cons _ t hi' =>
      have hf:us[0]?=Ga (uW n t):=by rw[<- kJ,hu];rfl
      refine⟨uW n t::fs,.cons e1 c dd hf h1,by rw[jC,jC,h2],λv hv=>?_⟩;rcases jo.mp hv with rfl|hv
      .exact⟨n,t,rfl⟩
      .exact h3 v hv
  obtain⟨fs,t1,t2,t3⟩:=kt its ds λi v e=>by
   have hl:i<ds.length:=by rw[hlen];exact(ju.mp e).1
   obtain⟨n,is,a,o,us,kk,_,x1,x2⟩:=tup i _ (jg hl);rw[ji,e] at x1;exact⟨n,is,a,o,us,kk,x1,x2⟩
  refine⟨tuples' true,λQ q=>PySem.W.kat_kind (T:=.type "int") t1 (by omega) (λv hv=>?_) (by decide) q,λi j b C e c=>?_⟩
  .obtain⟨n,t,rfl⟩:=t3 v hv;exact JD rfl
  .obtain⟨d,d2,e1,e2,e3⟩:=look i j b e;obtain⟨n,is,a,o,us,kk,rfl,x1,y1,_,z1,w1⟩:=tup i d e1;obtain⟨n',is',a',o',us',kk',rfl,x2,y2,_,z2,w2⟩:=tup j d2 e2;unfold qz;rw[x1,x2];rw[Se] at e3;cases e3;refine PySem.W.kat_lt y1 z1 y2 z2 (RF w1 w2 (λ_=>rfl) ?_ c);have l1:=w1.length;have l2:=w2.length;rw[jP] at l1 l2;rw[l1,l2]
def ztM:iH X (.builtin "sorted") (λvs H Q=>∃ F ds rs p xs,vs=[.ref p]/\fw F H/\hZ X.K H p xs/\fL X.K F ds xs/\iU ds=Ga rs/\∀ a ys,H a=Gb->fL X.K F rs ys->Q (.ref a) (fH H a (.lst ys))):=by
 intro ω s σ H vs us Q I r h;obtain⟨F,ds,rs,p,xs,rfl,g,hl,rr,e,q⟩:=h;obtain⟨u,rfl,ru⟩:=mf r;cases ru;obtain⟨its,rv,pl,hz⟩:=I.list hl;have hlen:ds.length=its.length:=rr.length.trans rv.length;have hn:H (s.heap.objs.size+1)=Gb:=I.hok.fresh (qp _);have fin:∀ (out:List Gg) (ys:List V) (h':Heap) (c:Nat),fV ys out->out.length<=sizeLine->fL X.K F rs ys->(∀ b o,s.heap.get? b=Ga o->h'.get? b=Ga o)->h'.get? (s.heap.objs.size+1)=Ga (seqObj "list" out.toArray c) ->
   EP X ω σ Q (.ref (s.heap.objs.size+1)) { s with heap:=h' }:=λout ys h' c rvo hz2 rro k hc =>
  ⟨.ref _,_,I.laid (t':=s.toks) (o:=.lst ys) k (qp _) ⟨by rwa[rvo.length],out,c,rvo,hc⟩,rfl,q _ ys hn rro⟩
 unfold iU at e;split at e
 .rename_i hs;cases e;refine QU (out:=its) pl.isList (by omega) (λs1 n P E' k ho hP=>UE ho (by omega) λh' c kk hc=>hP h' c kk hc) λh' c k hc=>fin its xs h' c rv (by rw[sizeLine_eq];omega) rr k hc
 .rename_i hs;split at e
  .rename_i ok;rw[jl,decide_eq_true_eq] at ok;obtain⟨pm,e1,e2⟩:=ft e;split at e2;rotate_left
   .cases e2
   rename_i hpm;cases e2;have h2:2<=its.length:=by omega
   rw[hlen] at e1;refine QU (out:=pm.toList.map λi=>its.getD i jX) pl.isList (by omega) (λs1 n P E' k ho hP=>Qm ho h2 (by omega) e1 (λs2 k2=>Qf I g rv rr h2 ok.2 λb o eb=>k2 b o (jL (vy (jy eb))) (k b o eb)) λh' c kk hc=>hP h' c kk hc) λh' c k hc=>?_;refine fin _ (pm.toList.map λi=>xs.getD i .non) h' c ?_ ?_ ?_ k hc
   .have:∀ l:List Nat,fV (l.map λi=>xs.getD i V.non) (l.map λi=>its.getD i jX):=λl=>by
     induction l with
     | nil=>exact .nil
     | cons i l ih =>
      refine .cons ?_ ih;dsimp only;rw[ji,ji];cases hx:xs[i]? with
      | none=>rw[rv.none_of hx];rfl
      | some v=>obtain⟨u,e,r⟩:=rv.get hx;rwa[e]
    exact this _
   .rw[jc,jP,sizeLine_eq];omega
   .have:∀ l:List Nat,fL X.K F (l.map λi=>ds.getD i .none) (l.map λi=>xs.getD i V.non):=λl=>by
     induction l with
     | nil=>exact .nil
     | cons i l ih =>
      refine .cons ?_ ih;dsimp only;rw[ji,ji];cases hx:ds[i]? with
      | none =>
       have:xs[i]?=Gb:=kI (by rw[<- rr.length];exact uL.mp hx);rw[this];exact .non
      | some d=>obtain⟨v,e,r⟩:=rr.get hx;rwa[e]
    exact this _
  .cases e
def QD{f:FL}(hg:Gl X "sorted")(hm:X.mg "sorted"=Gb)(ha:tX X e f)(hs:starEach [e] X.env=[(false,eval e X.env)]:=by rfl):PO X (.Call (.Name "sorted" p) [e] [] pos) (λψ=>(f ψ).bind iU):=by
 refine ia (BZ ztM hg hm boot_sorted ha (hs:=hs)) λσ H Q=>?_;rintro⟨H0,F,ψ,rs,r,e,q⟩;obtain⟨ds,e1,e⟩:=ft e;refine⟨H0,F,ψ,ds,r,e1,λp xs H1 F1 g1 f1 fh1 n1 hl rr=>⟨F1,ds,rs,p,xs,rfl,fh1,hl,rr,e,λa ys ha ry=>?_⟩⟩;have s2:fw H1 (fH H1 a (.lst ys)):=fw.new ha;exact q a ys _ F1 (g1.trans s2) f1 (fh1.trans s2) n1 (g1.free ha) (fh1.free ha) fI ry
def zq:D->D->Option D:=wE λi j=>.int (if j>i then j else i)
variable {b a:Expr}{i:Int}{P:Program}{v:Gg}
def Xo{id:String}{op:Int->Int->Int}(hc:iH X (.builtin id) (λxs H Q=>∃ i j,xs=[.int i,.int j]/\Q (.int (op i j)) H))(hg:Gl X x)(hm:X.mg x=Gb)(hv:bootBuiltins x=Ga (.builtin id))(ha:PV X a f)(hb:PV X b g)
  (hn:x≠"__name__":=by decide) (hdb:(x==("__debug__":Str))=false:=by decide) (hs:starEach [a,b] X.env=(false,eval a X.env)::starEach [b] X.env:=by rfl) (hs2:starEach [b] X.env=[(false,eval b X.env)]:=by rfl) :
  PV X (.Call (.Name x p) [a,b] [] pos) (λψ=>(f ψ).bind λx=>(g ψ).bind λy=>wE (λi j=>.int (op i j)) x y):=by
 refine ia (xi hc hg hm hv (io ha (io hb lH hs2) hs) hn hdb hs (by rw[hs2];rfl)) λσ H Q=>?_;rintro⟨H0,F,ψ,d,r,e,q⟩;obtain⟨d1,e1,e3⟩:=ft e;obtain⟨d2,e2,e4⟩:=ft e3;clear e e3;refine⟨H0,F,ψ,d1,r,e1,λv H1 F1 g1 f1 fh1 n1 rv=>⟨H0,F1,ψ,d2,r.grow g1 f1 fh1 n1,e2,λv2 H2 F2 g2 f2 fh2 n2 rv2=>?_⟩⟩;cases rv<;>first|(cases e4;done)|skip
 cases rv2<;>first|(cases e4;done)|skip
 cases e4;exact⟨_,_,rfl,q _ H2 F2 (g1.trans g2) (f1.trans f2) fh2 (n1.trans n2 g1) (.int _)⟩
def zDm(hc:X.calm=true)(hg:Gl X "max")(hm:X.mg "max"=Gb)(ha:PV X a f)(hb:PV X b g)(hs:starEach [a,b] X.env=(false,eval a X.env)::starEach [b] X.env:=by rfl)(hs2:starEach [b] X.env=[(false,eval b X.env)]:=by rfl) :
  PV X (.Call (.Name "max" p) [a,b] [] pos) (λψ=>(f ψ).bind λx=>(g ψ).bind λy=>zq x y):=Xo (Ep hc) hg hm boot_max ha hb (hs:=hs) (hs2:=hs2)
def yH (xs:List D):D->Option (List D)
 | .int k=>if 0<=k/\k<1000000/\xs.length*k.toNat<=1000000 then Ga (jB k.toNat xs).flatten else Gb
 | _=>Gb
def fL.rep {K:jb}{F:Hp}{ds:List D}{xs:List V}(r:fL K F ds xs):∀ n,fL K F (jB n ds).flatten (jB n xs).flatten
 | 0=>.nil
 | n+1=>by rw[uk,uk,uP,uP];exact r.append (r.rep n)
def QA{f:FL}(ha:PO X a f)(hb:PV X b g):PO X (.BinOp a .Mult b pos) (λψ=>(f ψ).bind λxs=>(g ψ).bind λy=>yH xs y):=by
 refine ia (zo ME ha hb) λσ H Q=>?_;rintro⟨H0,F,ψ,rs,r,e,q⟩;obtain⟨ds,e1,e3⟩:=ft e;obtain⟨d2,e2,e4⟩:=ft e3;clear e e3;refine⟨H0,F,ψ,ds,r,e1,λl xs H1 F1 g1 f1 fh1 n1 ha fa ha' rr=>⟨H0,F1,ψ,d2,r.grow g1 f1 fh1 n1,e2,λv2 H2 F2 g2 f2 fh2 n2 rv2=>?_⟩⟩;cases rv2<;>first|(cases e4;done)|skip
 rename_i k;unfold yH at e4;dsimp only at e4;split at e4
 .rename_i c;cases e4;refine⟨l,k,xs,rfl,rfl,g2 _ _ ha',by omega,by omega,?_,λp hp=>?_⟩
  .rw[<- rr.length,sizeLine_eq];omega
  .have s2:fw H2 (fH H2 p (.lst (jB k.toNat xs).flatten)):=fw.new hp;exact q p _ _ F2 ((g1.trans g2).trans s2) (f1.trans f2) (fh2.trans s2) (n1.trans n2 g1) ((g1.trans g2).free hp) (fh2.free hp) fI ((rr.mono f2).rep _)
 .cases e4
def zu (ds:List D):D->D->Option (List D)
 | .int k,v=>(ixN ds.length k).bind λj=>Ga (ds.set j v)
 | _,_=>Gb
def SA (i:Nat){ie:Expr}{fi:FV}(hi:PV X ie fi)(h:PV X e f)(hN:X.N[i]?=Ga x:=by rfl)(hv:oz X.env.scope x:=by first|exact kC rfl|exact j7 (kC rfl)|exact j7 (j7 rfl))
  (hd:(x==("__debug__":Str))=false:=by decide) (hcd:(x==("__classdict__":Str))=false:=by decide)
  (hs:swapsWithSole [.Subscript (.Name x p) ie p2] e pos.line X.env=pure false:=by rfl) (hw:swappedStores [.Subscript (.Name x p) ie p2] e X.env=pure Gb:=by rfl)
  (h1:(assignEach [.Subscript (.Name x p) ie p2] X.env).map (·.2)=[assign (.Subscript (.Name x p) ie p2) X.env]:=by rfl)
  (ha:∀ v,assign (.Subscript (.Name x p) ie p2) X.env v=(do
   let ov <- holding [v] (eval (.Name x p) X.env)
   let iv <- holding [v,ov] (eval ie X.env)
   standAt p2
   holding [v,ov,iv] (setItem ov iv v)
   release [v,ov,iv] []):=by intro _;rfl) :
  mo X (.Assign [.Subscript (.Name x p) ie p2] e pos) (λψ=>(f ψ).bind λv=>(go i ψ).bind λds=>(fi ψ).bind λk=>(zu ds k v).bind λes=>Ga (.nx (ψ.set i (.own es)))):=by
 refine nO (zL h (Er (lE (pos:=p) hN hv hd hcd) hi Ft ha) hs hw h1) λE σ H=>?_;rintro⟨H0,F,ψ,o,r,e,p⟩;obtain⟨dv,e1,e5⟩:=ft e;obtain⟨ds,e2,e6⟩:=ft e5;obtain⟨dk,e3,e7⟩:=ft e6;obtain⟨es,e4,e8⟩:=ft e7;cases e8;clear e e5 e6 e7;unfold go at e2;split at e2;rotate_left
 .cases e2
 rename_i ds' z;cases e2;refine⟨H0,F,ψ,dv,r,e1,λv H1 F1 g1 f1 fh1 n1 rv=>?_⟩;have r1:=r.grow g1 f1 fh1 n1;obtain⟨u,x3,a,xs,x4,ha1,fa,h0a,rr⟩:=r1.sl i _ z;subst x4;refine⟨.ref a,x3,H0,F1,ψ,dk,r1,e3,λvk H2 F2 g2 f2 fh2 n2 rk=>?_⟩;have r2:=r1.grow g2 f2 fh2 n2;cases rk<;>first|(cases e4;done)|skip
 rename_i k;obtain⟨j,y1,y2⟩:=ft (show(ixN ds.length k).bind (λj=>Ga (ds.set j dv))=Ga es from e4);cases y2;refine⟨a,xs,k,j,rfl,rfl,g2 _ _ ha1,by rwa[<- rr.length],?_⟩;exact p σ _ F2 (f1.trans f2) ((n1.trans n2 g1).dn r.h0) (r2.chg z x3 ((rr.mono f2).set (rv.mono f2) j))
def nk (c:FB)(g:FS):Nat->FS
 | 0,_=>Gb
 | n+1,ψ=>(c (frz ψ)).bind λb=>if b then(g ψ).bind λo=>match o with
   | .nx e=>nk c g n e
   | .ct e=>nk c g n e
   | .bk e=>Ga (.nx e)
   | .rt d=>Ga (.rt d)
   | .ro ds=>Ga (.ro ds)
   | .rc d e=>Ga (.rc d e)
  else Ga (.nx ψ)
def zBb (n:Nat){g:FS}(hp:PassesOwn (model X.prog X.w) X.A X.env X.xe)(hc:PB X c fc)(hb:mV X body g):mo X (.While c body [] pos) (nk fc g n):=by
 refine nO (Fv hp hc hb) λE σ H=>?_;rintro⟨H0,F,ψ,o,r,e,p⟩;refine⟨λm σ H=>∃ F2 ψ,RS X.K H0 F2 H ψ σ/\fw F F2/\gu F F2 H0/\nk fc g m ψ=Ga o,⟨n,F,ψ,r,.refl _,.refl _ _,e⟩,?_⟩;rintro m σ' H' ⟨F2,mZ,r2,f2,n2,e2⟩;cases m with
 | zero=>cases e2
 | succ m =>
  obtain⟨b,x1,x2⟩:=ft (show(fc (frz mZ)).bind _=Ga o from e2);refine⟨H0,H',frz mZ,b,r2.frz,x1,λH3 g3=>?_⟩;have r3:=r2.later g3;have p2:=p.mono f2 n2;cases b with
  | false =>
   cases x2;exact oG (p2 σ' H3 F2 (.refl _) (.refl _ _) r3)
  | true =>
   obtain⟨o1,x3,x4⟩:=ft (show(g mZ).bind _=Ga o from x2);refine oK ⟨λσ4 H4=>∃ F4 ψ,RS X.K H0 F4 H4 ψ σ4/\fw F F4/\gu F F4 H0/\nk fc g m ψ=Ga o,λσ4 H4 h4=>⟨m,uY _,h4⟩,H0,F2,mZ,o1,r3,x3,?_⟩;cases o1 with
   | nx e5=>exact λσ6 H6 F6 f6 n6 r6=>⟨F6,e5,r6,f2.trans f6,n2.up n6,x4⟩
   | ct e5=>exact λσ6 H6 F6 f6 n6 r6=>⟨F6,e5,r6,f2.trans f6,n2.up n6,x4⟩
   | bk e5=>cases x4;exact p2
   | rt d=>cases x4;exact p2
   | ro d=>cases x4;exact p2
   | rc a d=>cases x4;exact p2
def GA {op:CmpOp}{r:R2}{k:D->D->Option D}{h:FV}(ho:ir X (compareOp op) r)(ho':ir X (compareOp op') r')(hr:rX X.K r k)(hr':rX X.K r' k')(ha:PV X a f)(hb:PV X b g)(hc:PV X c h)
  (hm:lastMarks [op,op'] [b,c]=false:=by with_unfolding_all rfl) :
  PB X (.Compare a [op,op'] [b,c] pos) (λψ=>((f ψ).bind λx=>(g ψ).bind λy=>((k x y).bind hJ).bind λt=>if t then(h ψ).bind λz=>k' y z else Ga (.bool false)).bind hJ):=by
 refine xH (Fg ho ho' ha hb hc hm) λσ H Q=>?_;rintro⟨H0,F,ψ,bb,rs,e0,q⟩;obtain⟨d,e,eb⟩:=ft e0;cases xI eb;obtain⟨x,e1,e⟩:=ft e;obtain⟨y,e2,e⟩:=ft e;obtain⟨t,e3,e⟩:=ft e;obtain⟨d1,e4,e5⟩:=ft e3;cases xI e5;refine⟨H0,F,ψ,x,rs,e1,λv H1 F1 g1 f1 fh1 n1 rv=>⟨H0,F1,ψ,y,rs.grow g1 f1 fh1 n1,e2,λu H2 F2 g2 f2 fh2 n2 ru=>?_⟩⟩;refine hr F2 H2 v u x y _ _ fh2 (rv.mono f2) ru e4 λw H3 F3 g3 f3 fh3 n3 rw3=>?_;cases rw3;refine⟨t,rfl,?_⟩;have gg:fw H H3:=(g1.trans g2).trans g3;have ff:fw F F3:=(f1.trans f2).trans f3;have nn:gu F F3 H:=(n1.trans n2 g1).trans n3 (g1.trans g2);cases t with
 | true =>
  obtain⟨z,e6,e7⟩:=ft (show(h ψ).bind (λz=>k' y z)=Ga (.bool bb) from e);refine oK ⟨H0,F3,ψ,z,rs.grow gg ff fh3 nn,e6,λw4 H4 F4 g4 f4 fh4 n4 rw4=>?_⟩;refine hr' F4 H4 u w4 y z _ _ fh4 ((ru.mono f3).mono f4) rw4 e7 λw5 H5 F5 g5 f5 fh5 n5 rw5=>?_;cases rw5;exact⟨bb,rfl,q H5 ((gg.trans g4).trans g5)⟩
 | false=>cases e;exact oG ⟨false,rfl,q H3 gg⟩
abbrev KQ (k k':D->D->Option D)(f g h:FV):FB:=λψ=>((f ψ).bind λx=>(g ψ).bind λy=>((k x y).bind hJ).bind λt=>if t then(h ψ).bind λz=>k' y z else Ga (.bool false)).bind hJ
abbrev Au (f:FL)(g:FV):FL:=λψ=>(f ψ).bind λxs=>(g ψ).bind λy=>yH xs y
abbrev yi (i:Nat)(fi f:FV):FS:=λψ=>(f ψ).bind λv=>(go i ψ).bind λds=>(fi ψ).bind λk=>(zu ds k v).bind λes=>Ga (.nx (ψ.set i (.own es)))
abbrev Hy (f:FL):FL:=λψ=>(f ψ).bind iU
abbrev Lh (f:FL)(g:FV):FV:=λψ=>(f ψ).bind λx=>(g ψ).bind λy=>Fm x y
def TJ {t:FT}{g:FS}(I:En->Prop):∀ {ds:List D} {ψ:En},I ψ->(∀ d∈ds,∀ ψ,I ψ->∃ e1 e2,t d ψ=Ga e1/\g e1=Ga (.nx e2)/\I e2)->∃ e,gk t g ds ψ=Ga (.nx e)/\I e
 | [],ψ,h,_=>⟨ψ,rfl,h⟩
 | x::r,ψ,h,st=>by
  obtain⟨e1,e2,q1,q2,q3⟩:=st x jf ψ h;obtain⟨e,z1,z2⟩:=TJ I (ds:=r) q3 (λd hd=>st d (jk _ hd));refine⟨e,?_,z2⟩;unfold gk;rwa[q1,jh,q2]
def AL (n:Nat):Jm (Array Nat)->Bool
 | .ret p=>p.toList.isPerm (jq n)
 | .ask i j k=>decide (i<n)&&decide (j<n)&&AL n (k true)&&AL n (k false)
def zx3:∀ n<7,AL n (uI n)=true:=by nofun
def wP {xs:List D}{v:D}(h:xs[j]?=Ga v):atI xs (j:Int)=Ga v:=sr h
def xQ(h:n<1000000):gO (.int (n:Int))=Ga (ip 0 n):=by
 unfold gO;dsimp only;rw[Ge (by constructor<;>omega),jN]
def rh (n:Nat):ip 0 n=(jq n).map λ(k:Nat)=>jd (k:Int):=by
 unfold ip;apply kL;intro k _;rw[Jn]
def Ca (lo:Int)(n:Nat):(ip lo n).length=n:=by unfold ip;rw[jc,jV]
variable {j:Int}
def nq(h:0<j):fW (.int i) (.int j)=Ga (.int (i%j)):=by
 show(if decide (0<j) then _ else _)=_;rw[Ge (Gc h)]
def sO(h:0<j)(h2:j<1073741824):gy (.int i) (.int j)=Ga (.int (i/j)):=by
 show(if decide (0<j)&&decide (j<1073741824) then _ else _)=_;rw[Gc h,Gc h2];rfl
def Cb(h:sJ i j=true):iT (.int i) (.int j)=Ga (.int (i*j)):=by
 show(if sJ i j then _ else _)=_;rw[Ge h]
abbrev FP:=En->Option (Option Int)
def tPt (K:jb)(f:FP):TO:=λσ H Q=>∃ H0 F ψ o,RS K H0 F H ψ σ/\f ψ=Ga o/\∀ H' F',fw H H'->fw F F'->fw F' H'->gu F F' H->Q o H'
abbrev Bg (X:Cx)(e:Option Expr)(f:FP):Prop:=L2.PO X e (tPt X.K f)
abbrev Mw:FP:=λ_=>Ga Gb
def GX:D->Option (Option Int)
 | .int i=>Ga (Ga i)
 | _=>Gb
abbrev Co (f:FV):FP:=λψ=>(f ψ).bind GX
def cutD (xs:List D)(lo hi:Option Int):List D:=(xs.drop (HT.sIx xs.length 0 lo)).take (HT.sIx xs.length xs.length hi-HT.sIx xs.length 0 lo)
def dSl:D->Option Int->Option Int->Option D
 | .list xs,lo,hi=>Ga (.list (cutD xs lo hi))
 | .tuple xs,lo,hi=>if HT.sIx xs.length 0 lo=0/\HT.sIx xs.length xs.length hi=xs.length then Gb else Ga (.tuple (cutD xs lo hi))
 | _,_,_=>Gb
def fL.cut(r:fL K F ds xs)(lo hi:Option Int):fL K F (cutD ds lo hi) (pe xs lo hi):=by
 unfold cutD pe;rw[r.length];exact(r.drop _).take _
def Bc:Bg X Gb Mw:=by
 intro ω s σ H Q I h;obtain⟨H0,F,ψ,o,r,e,q⟩:=h;cases e;exact HS ω s σ H Q I (q H F (.refl _) (.refl _) r.fh (.refl _ _))
def zi(h:PV X e f):Bg X (Ga e) (Co f):=by
 intro ω s σ H Q I hw;obtain⟨H0,F,ψ,o,r,e1,q⟩:=hw;obtain⟨d,e2,e3⟩:=ft e1;refine HR h ω s σ H Q I ⟨H0,F,ψ,d,r,e2,λv H' F' g1 f1 fh1 n1 rv=>?_⟩;cases rv<;>first|(cases e3;done)|skip
 cases e3;exact⟨_,rfl,q H' F' g1 f1 fh1 n1⟩
def KG (K:jb)(l:Gk):It :=
 ⟨λi H=>∃ xs x,hZ K H l xs/\xs[i]?=Ga x,
   λi H v H'=>∃ T x,v=.ref T/\H T=Gb/\H'=fH H T (.tup [.int i,x])/\∀ xs,hZ K H l xs->xs[i]?=Ga x,
   λi H=>∃ xs,hZ K H l xs/\xs[i]?=Gb⟩
def zu0(l e it:Gk)(D:e≠it) :
  tz P w K (.Tuple elts x1 pos) (KG K l) [e,it] e (λi h=>(∃ old,IsEnum h e it (i:Nat) old)/\h.IsListIter it l i) where
 mem:=by simp
 obj:=λi h st b hb=>by
  obtain⟨⟨old,he⟩,s1⟩:=st;simp only[jo,j8,or_false] at hb;rcases hb with rfl|rfl
  .exact⟨_,he,λv q=>by cases q⟩
  .obtain⟨o,e,_,d⟩:=s1;exact⟨o,e,λv q=>by rw[d] at q;cases q⟩
 keep:=λi h h' st k=>by
  obtain⟨⟨old,he⟩,s1⟩:=st;exact⟨⟨old,k e (by simp) _ he⟩,s1.at λo e=>k it (by simp) o e⟩
 item:=by
  intro X hP hw hK hc i ω s σ H E I hf st hg;subst hP hw hK;obtain⟨⟨old,he⟩,s1⟩:=st;obtain⟨xs,x,q1,ex⟩:=hg;obtain⟨its,r1,o1,ol1,e1⟩:=KN (t:=false) I q1;obtain⟨u1,eu1,ru1⟩:=r1.get ex;refine wpAny_pyNext_enum_item he s1 (o1:s.heap.IsList l its.toArray) (by simpa using eu1) D λh' e' s1' pT hn kk=>?_;have hT:H s.heap.objs.size=Gb:=I.fresh;have hch:∀ b∈[e,it],pV X ω H b:=hf;have kk':∀ b o,b∉[e,it]->s.heap.get? b=Ga o->h'.get? b=Ga o:=λb o hb q=>kk b o (λz=>hb (by simp[z])) (λz=>hb (by simp[z])) q;have nch:∀ b u,H b=Ga u->b∉[e,it]:=λb u q z=>by rw[(hch b z).1] at q;cases q
  have nT:∀ b o,s.heap.get? b=Ga o->b≠s.heap.objs.size:=λb o q=>jL (jy q);have nTu:∀ b u,H b=Ga u->b≠s.heap.objs.size:=λb u q z=>by rw[z,hT] at q;cases q
  have I1:fB X ω σ (fH H s.heap.objs.size (.tup [.int i,x])) { s with heap:=h',toks:=s.toks+1 }:=by
   refine I.step (g':=s.gens) (d':=s.drawn) (ch:=[e,it]) (λb hb=>?_) (λb o _ _ hc q _=>kk' b o hc q) (λb o _ _ hc q _=>⟨o.slots,kk' b o hc q⟩) (λb o _ q n=>by rwa[fJ (nT b o q)]) (λb o hc q=>⟨o,kk' b o hc q⟩) (λb ts q=>by rwa[fJ (nTu b _ q)]) (λb _ _ q=>by rwa[fJ (nTu b _ q)])
    (λm hm=>?_) (λb u q=>?_) I.bare
   .obtain⟨_,f1,_,f3,f4,f5⟩:=hch b hb;exact⟨f3,f1,f4,f5⟩
   .obtain⟨o,es,ep,ho,r⟩:=hm;exact⟨o,es,ep,kk' _ o (λq=>(hch _ q).2.1 rfl) ho,r⟩
   .by_cases hb:b=s.heap.objs.size
    .subst hb;rw[fI] at q;cases q;exact⟨(by show 2<=sizeLine;decide),[.int i s.toks,u1],.cons ⟨_,rfl⟩ (.cons ru1 .nil),⟨_,pT,rfl,_,rfl⟩⟩
    .rw[fJ hb] at q;refine(I.hok b u q).stay (λc v hc z=>kk' c v ?_ z) (λc z=>by rwa[fJ (nTu c _ z)]) λc ts z=>by rwa[fJ (nTu c _ z)]
     rcases hc with z|z
     .rw[z];exact nch b u q
     .exact nch c _ z
  refine⟨.ref s.heap.objs.size,rfl,?_⟩;refine wpAny_letOwnedTupleGo_enum e' λh2 z2 b2=>?_;have fe:pV X ω (fH H s.heap.objs.size (.tup [.int i,x])) e:=by
   obtain⟨f0,f1⟩:=hf e (by simp);exact⟨by rw[fJ (nT e _ he)];exact f0,f1⟩
  have I2:=Uv (h':=h2) (ch:=[e]) I1 (λb hb=>by cases jn.mp hb;exact fe) (λb o hb q=>b2.extBut b o (λz=>hb (by simp[z])) q) (s.toks+1);have kz:∀ b o,b≠e->h'.get? b=Ga o->h2.get? b=Ga o:=λb o hb q=>b2.extBut b o hb q;refine⟨.ref s.heap.objs.size,_,I2,rfl,⟨s.heap.objs.size,x,rfl,hT,rfl,λxs' p1=>?_⟩,⟨⟨_,z2⟩,?_⟩,λb hb=>?_⟩
  .rwa[zx1 (t:=false) I p1 q1]
  .exact s1'.at λo q=>kz _ o (λz=>D z.symm) q
  .rw[fJ]
   .exact(hf b hb).1
   .simp only[jo,j8,or_false] at hb;rcases hb with rfl|rfl
    .exact nT _ _ he
    .obtain⟨o,q,_⟩:=s1;exact nT _ _ q
 done:=by
  intro X hP hw hK hc i ω s σ H E I hf st hg;subst hP hw hK;obtain⟨⟨old,he⟩,s1⟩:=st;obtain⟨xs,q1,ex⟩:=hg;obtain⟨its,r1,o1,ol1,e1⟩:=KN (t:=false) I q1;have hh:X.A.handled=Gb:=I.ok.hd hc;have ex':its[i]?=Gb:=r1.none_of ex;refine wpAny_pyNext_enum_end hh he s1 (o1:s.heap.IsList l its.toArray) (by simpa using ex') λh' kk=>⟨rfl,?_⟩;exact Uv (ch:=[it]) I (λb hb=>hf b (by simp only[jo,j8,or_false] at hb ⊢;exact j7 hb)) (λb o hb q=>kk b o (λz=>hb (by simp[z])) q) s.toks
 self:=λ_ _ _ _ _ st h=>by obtain⟨⟨old,he⟩,_⟩:=st;exact wpAny_pyIter_enum he h
def Ar:D->Option (List D)
 | .list xs=>Ga ((jq xs.length).map λ(i:Nat)=>uC [.int (i:Int),xs.getD i .none])
 | _=>Gb
def zrJ(h1:hZ K F l xs)(r1:fL K F ds xs):lW K (KG K l) F ((jq ds.length).map λ(i:Nat)=>uC [.int (i:Int),ds.getD i .none]):=by
 intro H g i;have e1:=r1.length;refine⟨λhi=>⟨xs,g.seq h1,kI (by rw[jc,jV] at hi;omega)⟩,λd hd=>?_⟩;have hi:i<ds.length:=by have:=(ju.mp hd).1;rw[jc,jV] at this;exact this
 obtain⟨v1,x1,x2⟩:=r1.get (jg hi);have ed:d=.tuple [.int (i:Int),ds[i]]:=by
  rw[jz,vP hi,qA,ji,jg hi] at hd;exact(jK hd).symm
 subst ed;refine⟨⟨xs,v1,g.seq h1,x1⟩,λx H' y=>?_⟩;obtain⟨T,a,rfl,hT,rfl,q⟩:=y;have q1:=q xs (g.seq h1);rw[x1] at q1;cases q1;obtain⟨s1,s2,s3,s4⟩:=rE (o:=.tup [.int i,v1]) g hT;exact⟨s1,_,s2,s3,s4,.tup (la.of fI) (.cons (.int _) (.cons (x2.mono s2) .nil))⟩
def zDo{p4:Pos}(hg:Gl X "enumerate")(hm:X.mg "enumerate"=Gb)(ha:PV X a f)(hs:starEach [a] X.env=[(false,eval a X.env)]:=by rfl) :
  wO X (.Tuple elts x1 p4) (.Call (.Name "enumerate" p) [a] [] pos) (λψ=>(f ψ).bind Ar):=by
 intro ω s σ H R I h;obtain⟨H0,F,ψ,ds,r,e0,q⟩:=h;obtain⟨d1,e1,e⟩:=ft e0;clear e0;refine Call_ (oU I hg hm boot_enumerate (PyProof.Rows.callWith_type1 (gn (io ha lH hs pos ω s σ H (λvs H2=>∃ l xs,vs=[.ref l]/\hZ X.K H2 l xs/\R (KG X.K l) H2) I
  ⟨H0,F,ψ,d1,r,e1,λv H1 F1 g1 f1 fh1 n1 rv=>?_⟩) λus s1 ⟨vs,H2,I2,rvs,l,xs,ev,h1,hR⟩=>?_) hs (by rfl)))
 .cases rv<;>first|(cases e;done)|skip
  rename_i p1 xs ds1 h1 GU;cases e;exact⟨p1,xs,rfl,fh1.seq h1,q _ H1 F1 g1 f1 fh1 n1 λF3 f3=>zrJ (f3.seq h1) (GU.mono f3)⟩
 .subst ev;cases rvs with
  | cons r1 r2 =>
   cases r2;cases r1;obtain⟨its,r1,o1,_⟩:=KN (t:=false) I2 h1;refine call_enumerate_list (o1:s1.heap.IsList l its.toArray) λh' a1 a2 a3 a4=>?_;refine wpAny_pyIter_enum a1 ⟨_,[s1.heap.objs.size+1,s1.heap.objs.size],_,_,H2,rfl,I2.kept (t':=s1.toks) a4,zu0 l _ _ (show(s1.heap.objs.size+1:Nat)≠s1.heap.objs.size by omega),⟨⟨_,a1⟩,a2⟩,λb hb=>?_,hR⟩;have hb':s1.heap.objs.size<=b:=by
    simp only[jo,j8,or_false] at hb;rcases hb with rfl|rfl<;>first|exact jw _|exact Nat.le_add_right _ _
   exact I2.fpOk hb' (I2.hok.fresh hb')
def LZ:List Int->Option Int
 | []=>Gb
 | i::r=>Ga (r.foldl (λa b=>if b<a then b else a) i)
def Ff:List Int->Option Int
 | []=>Gb
 | i::r=>Ga (r.foldl (λa b=>if a<b then b else a) i)
def Cv (ds:List D):Option D:=(mL ds).bind λis=>(Ff is).bind λm=>Ga (.int m)
def BM:∀ (r:List Int) (i:Int),(r.foldl (λa b=>if b<a then b else a) i=i\/r.foldl (λa b=>if b<a then b else a) i∈r)/\r.foldl (λa b=>if b<a then b else a) i<=i/\∀ a∈r,r.foldl (λa b=>if b<a then b else a) i<=a
 | [],i=>⟨.inl rfl,qq _,λa h=>by cases h⟩
 | b::r,i=>by
  obtain⟨h1,h2,h3⟩:=BM r (if b<i then b else i);rw[Jv];refine⟨?_,?_,λa ha=>?_⟩
  .rcases h1 with z|z
   .by_cases hb:b<i
    .rw[Ge hb] at z ⊢;exact .inr (by rw[z];exact jf)
    .rw[Gf hb] at z ⊢;exact .inl z
   .exact .inr (jk _ z)
  .refine Jo h2 ?_;split
   .rename_i hb;exact Int.le_of_lt hb
   .exact qq _
  .rcases jo.mp ha with rfl|ha
   .refine Jo h2 ?_;split
    .exact qq _
    .rename_i hb;exact Int.not_lt.mp hb
   .exact h3 a ha
def BD:∀ (r:List Int) (i:Int),(r.foldl (λa b=>if a<b then b else a) i=i\/r.foldl (λa b=>if a<b then b else a) i∈r)/\i<=r.foldl (λa b=>if a<b then b else a) i/\∀ a∈r,a<=r.foldl (λa b=>if a<b then b else a) i
 | [],i=>⟨.inl rfl,qq _,λa h=>by cases h⟩
 | b::r,i=>by
  obtain⟨h1,h2,h3⟩:=BD r (if i<b then b else i);rw[Jv];refine⟨?_,?_,λa ha=>?_⟩
  .rcases h1 with z|z
   .by_cases hb:i<b
    .rw[Ge hb] at z ⊢;exact .inr (by rw[z];exact jf)
    .rw[Gf hb] at z ⊢;exact .inl z
   .exact .inr (jk _ z)
  .refine Jo ?_ h2;split
   .rename_i hb;exact Int.le_of_lt hb
   .exact qq _
  .rcases jo.mp ha with rfl|ha
   .refine Jo ?_ h2;split
    .exact qq _
    .rename_i hb;exact Int.not_lt.mp hb
   .exact h3 a ha
def zu1(h:LZ is=Ga m):m∈is/\∀ a∈is,m<=a:=by
 cases is with
 | nil=>cases h
 | cons i r =>
  cases h;obtain⟨h1,h2,h3⟩:=BM r i;refine⟨?_,λa ha=>?_⟩
  .rcases h1 with z|z
   .rw[z];exact jf
   .exact jk _ z
  .rcases jo.mp ha with rfl|ha
   .exact h2
   .exact h3 a ha
def zu2(h:Ff is=Ga m):m∈is/\∀ a∈is,a<=m:=by
 cases is with
 | nil=>cases h
 | cons i r =>
  cases h;obtain⟨h1,h2,h3⟩:=BD r i;refine⟨?_,λa ha=>?_⟩
  .rcases h1 with z|z
   .rw[z];exact jf
   .exact jk _ z
  .rcases jo.mp ha with rfl|ha
   .exact h2
   .exact h3 a ha
def zDp (hc:X.calm=true):iH X (.builtin "min") (λxs H Q=>∃ (p:Gk) (is:List Int) (m:Int),xs=[.ref p]/\hZ X.K H p (is.map V.int)/\LZ is=Ga m/\Q (.int m) H):=by
 intro ω s σ H xs us Q I r h;obtain⟨p,is,m,rfl,hl,hm,q⟩:=h;obtain⟨hm,hle⟩:=zu1 hm;obtain⟨u,rfl,ru⟩:=mf r;cases ru;obtain⟨its,rv,pl,hz⟩:=I.list hl;have hi:IntsAre its is:=xt rv;obtain⟨ys,ey⟩:=hi.allInts.items;have en:is=ys.toList.map (·.1):=hi.numsOf.symm.trans (by rw[<- nums_intItems,<- ey]);have el:is.length=ys.size:=by rw[en,jc,jP]
 have hne:0<ys.size:=by rw[<- el];exact Jp hm
 have hl':s.heap.IsList p (intItems ys):=by rw[<- ey];exact pl.isList
 refine min_intList (I.ok.hd hc) hl' hne λv h' tk hv hk=>?_;obtain⟨t,rfl⟩:=intItems_at hv;obtain⟨b1,b2⟩:=argBest_lt (numAt ys) (ys.size-1);have mem:numAt ys (argBest (λi j=>decide (numAt ys i<numAt ys j)) (ys.size-1))∈is:=by rw[numAt_eq,<- en];exact Vs (by omega)
 have le:numAt ys (argBest (λi j=>decide (numAt ys i<numAt ys j)) (ys.size-1))<=m:=by
  obtain⟨j,hj,ej⟩:=Vt hm;have:=b2 j (by omega);rw[numAt_eq ys j,<- en,ej] at this;exact this
 exact⟨.int m,H,I.kept hk,⟨t,by rw[Int.le_antisymm le (hle _ mem)]⟩,q⟩
def zu3 (hc:X.calm=true):iH X (.builtin "max") (λxs H Q=>∃ (p:Gk) (is:List Int) (m:Int),xs=[.ref p]/\hZ X.K H p (is.map V.int)/\Ff is=Ga m/\Q (.int m) H):=by
 intro ω s σ H xs us Q I r h;obtain⟨p,is,m,rfl,hl,hm,q⟩:=h;obtain⟨hm,hle⟩:=zu2 hm;obtain⟨u,rfl,ru⟩:=mf r;cases ru;obtain⟨its,rv,pl,hz⟩:=I.list hl;have hi:IntsAre its is:=xt rv;obtain⟨ys,ey⟩:=hi.allInts.items;have en:is=ys.toList.map (·.1):=hi.numsOf.symm.trans (by rw[<- nums_intItems,<- ey]);have el:is.length=ys.size:=by rw[en,jc,jP]
 have hne:0<ys.size:=by rw[<- el];exact Jp hm
 have hl':s.heap.IsList p (intItems ys):=by rw[<- ey];exact pl.isList
 refine max_intList (I.ok.hd hc) hl' hne λv h' tk hv hk=>?_;obtain⟨t,rfl⟩:=intItems_at hv;obtain⟨b1,b2⟩:=argBest_gt (numAt ys) (ys.size-1);have mem:numAt ys (argBest (λi j=>decide (numAt ys i>numAt ys j)) (ys.size-1))∈is:=by rw[numAt_eq,<- en];exact Vs (by omega)
 have le:m<=numAt ys (argBest (λi j=>decide (numAt ys i>numAt ys j)) (ys.size-1)):=by
  obtain⟨j,hj,ej⟩:=Vt hm;have:=b2 j (by omega);rw[numAt_eq ys j,<- en,ej] at this;exact this
 exact⟨.int m,H,I.kept hk,⟨t,by rw[Int.le_antisymm (hle _ mem) le]⟩,q⟩
def Yg(hc:X.calm=true)(hg:Gl X "max")(hm:X.mg "max"=Gb)(ha:tX X e fl)(hs:starEach [e] X.env=[(false,eval e X.env)]:=by rfl) :
  PV X (.Call (.Name "max" p) [e] [] pos) (AA Cv fl):=by
 refine ia (BZ (zu3 hc) hg hm boot_max ha (hs:=hs)) λσ H Q=>?_;rintro⟨H0,F,ψ,d,r,e,q⟩;obtain⟨ds,e1,e⟩:=ft e;obtain⟨is,e2,e⟩:=ft e;obtain⟨m,e3,e⟩:=ft e;cases e;refine⟨H0,F,ψ,ds,r,e1,λp xs H1 F1 g1 f1 fh1 n1 hl rr=>⟨p,is,m,rfl,?_,e3,q _ H1 F1 g1 f1 fh1 n1 (.int _)⟩⟩;rw[GP e2] at rr;rwa[<- rr.ints_inv]
def ni:List D->Option (List Bool)
 | []=>Ga []
 | .bool b::r=>(ni r).bind λbs=>Ga (b::bs)
 | _=>Gb
def TK:∀ {ds:List D} {bs:List Bool},ni ds=Ga bs->ds=bs.map jS
 | [],bs,h=>by cases h;rfl
 | .bool b::r,bs,h=>by
  obtain⟨cs,e1,e2⟩:=ft (show(ni r).bind (λbs=>Ga (b::bs))=Ga bs from h);cases e2;rw[TK e1];rfl
 | .none::_,_,h=>by cases h
 | .int _::_,_,h=>by cases h
 | .str _::_,_,h=>by cases h
 | .list _::_,_,h=>by cases h
 | .tuple _::_,_,h=>by cases h
 | .dict _::_,_,h=>by cases h
def LD:∀ bs:List Bool,ni (bs.map jS)=Ga bs
 | []=>rfl
 | b::r=>by show(ni (r.map jS)).bind _=_;rw[LD r];rfl
def fL.bools_inv {K:jb}{F:Hp}:∀ {bs:List Bool} {vs:List V},fL K F (bs.map jS) vs->vs=bs.map V.bl
 | [],_,h=>by cases h;rfl
 | b::r,_,h=>by
  cases h with
  | cons h t=>cases h;rw[fL.bools_inv t];rfl
def mH (ds:List D):Option D:=(ni ds).bind λbs=>Ga (.bool (bs.all id))
def zu4 (bs:List Bool):(jq bs.length).all (λi=>bs.getD i false)=bs.all id:=by
 rw[jQ,jR,jR];constructor
 .intro h x hx;obtain⟨i,hi,rfl⟩:=qC hx;have:=h i (jF.mpr hi);rw[ji,jg hi] at this;exact this
 .intro h i hi;have hi:=jF.mp hi;rw[ji,jg hi];exact h _ (k0 hi)
def zx4 {bs:List Bool}(rv:fV (bs.map V.bl) its):∀ (i:Nat) (v:Gg),its.toArray[i]?=Ga v->v=ve (bs.getD i false):=by
 intro i v hv;have hv':its[i]?=Ga v:=by simpa using hv
 have hlen:(bs.map V.bl).length=its.length:=rv.length;have:i<its.length:=(ju.mp hv').1;have hk:i<bs.length:=by rw[jc] at hlen;omega
 obtain⟨w',e1,e2⟩:=rv.get (i:=i) (x:=.bl bs[i]) (by rw[jz,jg hk];rfl);rw[hv'] at e1;cases e1;cases e2;rw[ji,jg hk];rfl
def zu5 (hc:X.calm=true):iH X (.builtin "all") (λxs H Q=>∃ (p:Gk) (bs:List Bool),xs=[.ref p]/\hZ X.K H p (bs.map V.bl)/\Q (.bl (bs.all id)) H):=by
 intro ω s σ H xs us Q I r h;obtain⟨p,bs,rfl,hl,q⟩:=h;obtain⟨u,rfl,ru⟩:=mf r;cases ru;obtain⟨its,rv,pl,hz⟩:=I.list hl;have hp:p<s.heap.objs.size:=by obtain⟨o,n,e,_⟩:=pl;exact jy e
 refine call_all_walk (wpAny_pyIter_list pl.isList ⟨s.heap.objs.size,[s.heap.objs.size,p],[s.heap.objs.size],_,_,_,λj=>bs.getD j false,rfl,Walks.list (show X.A.in1.handled=Gb from I.ok.hd hc) _ p (jL hp) its.toArray,⟨⟨_,jA _ rfl,rfl,rfl⟩,?_⟩,?_,?_⟩)
 .obtain⟨o,n,e,c,_,d⟩:=pl;exact⟨o,jj _ e,c,n,d⟩
 .intro i v s1 Q1 E1 hv hQ;rw[zx4 rv i v hv];exact wpAny_truthy_bool hQ
 .intro h' tk hk;have el:its.toArray.size=bs.length:=by rw[jv,<- rv.length,jc]
  rw[el,zu4];refine⟨.bl (bs.all id),H,I.kept λb o e=>hk b o ?_ (jj _ e),rfl,q⟩;intro z;cases jn.mp z;exact absurd (jy e) (kb _)
def Cg(hc:X.calm=true)(hg:Gl X "all")(hm:X.mg "all"=Gb)(ha:tX X e fl)(hs:starEach [e] X.env=[(false,eval e X.env)]:=by rfl) :
  PV X (.Call (.Name "all" p) [e] [] pos) (AA mH fl):=by
 refine ia (BZ (zu5 hc) hg hm boot_all ha (hs:=hs)) λσ H Q=>?_;rintro⟨H0,F,ψ,d,r,e,q⟩;obtain⟨ds,e1,e⟩:=ft e;obtain⟨bs,e2,e⟩:=ft e;cases e;refine⟨H0,F,ψ,ds,r,e1,λp xs H1 F1 g1 f1 fh1 n1 hl rr=>⟨p,bs,rfl,?_,q _ H1 F1 g1 f1 fh1 n1 (.bl _)⟩⟩;rw[TK e2] at rr;rwa[<- rr.bools_inv]
def rK:D->Option D
 | .int i=>Ga (.int i)
 | .bool b=>Ga (.int (if b then 1 else 0))
 | _=>Gb
def zDr(hg:Gl X "int")(hm:X.mg "int"=Gb)(ha:PV X e f)(hs:starEach [e] X.env=[(false,eval e X.env)]:=by rfl):PV X (.Call (.Name "int" p) [e] [] pos) (un rK f):=by
 refine ia (Ae yZ hg hm boot_int ha (hs:=hs)) λσ H Q=>?_;rintro⟨H0,F,ψ,d,r,e,q⟩;obtain⟨d',e1,e⟩:=ft e;refine⟨H0,F,ψ,d',r,e1,λv H1 F1 g1 f1 fh1 n1 rv=>?_⟩;cases rv<;>first|(cases e;done)|skip
 .rename_i b;cases e;exact .inr ⟨b,rfl,q _ H1 F1 g1 f1 fh1 n1 (.int _)⟩
 .rename_i i;cases e;exact .inl ⟨i,rfl,q _ H1 F1 g1 f1 fh1 n1 (.int _)⟩
abbrev pf:FS:=λ_=>Gb
def pD:mo X st pf:=by
 intro ω s σ H D I hw;obtain⟨H0,F,ψ,o,r,e,p⟩:=hw;cases e
abbrev FH (f:FV):FL:=λψ=>(f ψ).bind toS
def zBc(hg:Gl X "list")(hm:X.mg "list"=Gb)(ha:PV X e f)(hs:starEach [e] X.env=[(false,eval e X.env)]:=by rfl):PO X (.Call (.Name "list" p) [e] [] pos) (FH f):=by
 refine ia (Ae zX hg hm boot_list ha (hs:=hs)) λσ H Q=>?_;rintro⟨H0,F,ψ,ds,r,e,q⟩;obtain⟨d',e1,e⟩:=ft e;refine⟨H0,F,ψ,_,r,e1,λv H1 F1 g1 f1 fh1 n1 rv=>?_⟩;cases rv<;>first|(cases e;done)|skip
 .rename_i p xs ds' h1 rr;cases e;refine⟨p,xs,rfl,.inr (lV fh1 h1),λl hl'=>?_⟩;have s2:fw H1 (fH H1 l (.lst xs)):=fw.new hl';exact q l xs _ F1 (g1.trans s2) f1 (fh1.trans s2) n1 (g1.free hl') (fh1.free hl') fI rr
 .rename_i p xs ds' h1 rr;cases e;refine⟨p,xs,rfl,.inl (fh1.seq h1),λl hl'=>?_⟩;have s2:fw H1 (fH H1 l (.lst xs)):=fw.new hl';exact q l xs _ F1 (g1.trans s2) f1 (fh1.trans s2) n1 (g1.free hl') (fh1.free hl') fI rr
def ztP:typeLookup (.type "list_reverseiterator") "__len__"=pure Gb:=by rw[typeLookup_type,builtinLookup_eq_fast];kernel_rfl
def zx5:typeLookup (.type "list_reverseiterator") "__length_hint__"=pure (Ga (.builtin "list_reverseiterator.__length_hint__")):=by rw[typeLookup_type,builtinLookup_eq_fast];kernel_rfl
def Yn {x:Gk}{Q:Bool->Gh->Prop}(hT:s.TypeIs (.ref x) "list_reverseiterator")(hQ:Q false s):wpAny (model prog w) A (kG (.ref x)) Q E s:=by
 unfold kG;refine fk (wpAny_specialOf hT ztP ?_);show wpAny _ _ (specialOf (kF x) (ja "__length_hint__") >>= _) _ _ _;refine fk (wpAny_specialOf hT zx5 ?_);generalize hid:("list_reverseiterator.__length_hint__":String)=id0
 wp_delta
 rw[show splitId id0=Ga ("list_reverseiterator","__length_hint__") from by subst hid;decide +kernel];subst hid;refine fk (wpAny_isInstance (T:="list_reverseiterator") (b:=true) hT (by rw[isSubtype_type];kernel_rfl) ?_);refine wpAny_ite_split (λz=>absurd z (by decide)) λ_=>?_;refine wpAny_ite_split (λ_=>?_) λz=>absurd (by nofun) z;refine wpAny_ite_split (λz=>absurd z (by nofun)) λ_=>?_;exact fq hQ
def YA {I:Gk}{wr:List Gk}{P:Nat->Gg->Prop}{St:Nat->Heap->Prop}
  (W:Walks prog w A.in1.in1 I fp wr n P St) (hT:∀ i (s:Gh),St i s.heap->s.TypeIs (.ref I) "list_reverseiterator")
  (hint:∀ (s1:Gh) (Q1:Bool->Gh->Prop) (E1:Gg->Gh->Prop),s1.TypeIs (.ref I) "list_reverseiterator"->Q1 false s1->wpAny (model prog w) A.in1.in1 (kG (.ref I)) Q1 E1 s1)
  (st0:St 0 s.heap) (hfp:s.heap.objs.size∉fp) (hI:I∈fp) (hn:n<=sizeLine)
  (hQ:∀ h' tk acc c,(∀ b o,b∉wr->s.heap.get? b=Ga o->h'.get? b=Ga o)->h'.get? s.heap.objs.size=Ga { cls:=.type "list",data:=.seq acc c }->ItemsOf P acc n->Q (.ref s.heap.objs.size) { s with heap:=h',toks:=tk }) :
  wpAny (model prog w) A (call (.type "list") [.ref I]) Q E s:=by
 have W':=W.toS;refine callType_codes (Q₁:=λob s1=>ob=kF s.heap.objs.size/\s1={ s with heap:=s.heap.push { cls:=.type "list",data:=.seq #[] } }) PySem.F.called_list (PySem.F.typeCall_list_1 _) PySem.F.entry_list_init (code_list_new _ ⟨rfl,rfl⟩) λob s1 z=>?_;obtain⟨rfl,rfl⟩:=z;have n0:(s.heap.push { cls:=.type "list",data:=.seq #[] }).get? s.heap.objs.size=Ga { cls:=.type "list",data:=.seq #[] }:=jA _ rfl;have nI:s.heap.objs.size≠I:=λz=>hfp (z▸hI);refine⟨⟨_,n0,rfl⟩,PySem.F.args_list_init_2 _ _,?_⟩;show wpAny _ _ (vi (.ref s.heap.objs.size) >>= λold=>Jf (.ref s.heap.objs.size) (λ_=>#[]) >>= λ_=>letGo old.toList.reverse >>= λ_=>km (.ref s.heap.objs.size) (.ref I) .none) _ _ _;refine fk ?_;unfold vi;refine fk (wpAny_seqItems n0 rfl (fq ?_));show wpAny _ _ (updateSeq s.heap.objs.size (λ_=>#[]) >>= λ_=>letGo (#[]:Array Gg).toList.reverse >>= λ_=>km (.ref s.heap.objs.size) (.ref I) .none) _ _ _;refine fk (wpAny_updateSeq n0 rfl ?_);have n1:=kc (jW (λ_=>(#[]:Array Gg))) n0 rfl;have kp:∀ b o,s.heap.get? b=Ga o->((s.heap.push { cls:=.type "list",data:=.seq #[] }).update s.heap.objs.size (jW (λ_=>(#[]:Array Gg)))).get? b=Ga o:=λb o e =>
  (kS _ _ (ur (jL (jy e)))).trans (jj _ e)
 have st1:=W.frame 0 _ _ st0 λb _ o e=>kp b o e;generalize (s.heap.push { cls:=.type "list",data:=.seq #[] }).update s.heap.objs.size (jW (λ_=>(#[]:Array Gg)))=h1 at n1 kp st1;refine fk (wpAny_letGo ?_);unfold km;refine fk (wpAny_typeOf (hT 0 { s with heap:=h1 } st1) ?_);rw[show ud (.ref s.heap.objs.size) (.ref I)=false from by simp[ud,nI]];simp only[show(ue "list_reverseiterator"==ue "list")=false by decide,show(ue "list_reverseiterator"==ue "tuple")=false by decide,vp,kU,if_false];refine fk (W.self 0 _ _ _ st1 ?_);refine fk (wpAny_holding (hint _ _ _ (hT 0 { s with heap:=h1 } st1) ?_));refine wpAny_ite_split (λz=>absurd z (by decide)) λ_=>?_;refine fq ⟨plainId_quiet PySem.F.plain_extend_loop _,codeAny_extend_loopS W' hn s.heap.objs.size hfp .none n 0 { s with heap:=h1 } #[] _ rfl (kh _) st1 n1 (ItemsOf.nil P) λs' acc c m nn it=>?_⟩;refine⟨rfl,?_⟩;rw[Moved.eq_with m];refine hQ s'.heap s'.toks acc c (λb o hb e=>m.heap b o (λz=>?_) (kp b o e)) nn it;rcases jo.mp z with z|z
 .exact absurd (jy e) (by rw[z];exact kb _)
 .exact hb z
abbrev Lw (f:FL):FL:=λψ=>(f ψ).bind λxs=>Ga xs.reverse
def Oi:∀ (xs:List V) (us:List Gg),xs.length=us.length->(∀ (i:Nat) (x:V) (u:Gg),xs[i]?=Ga x->us[i]?=Ga u->gq x u)->fV xs us
 | [],[],_,_=>.nil
 | [],_::_,h,_=>by cases h
 | _::_,[],h,_=>by cases h
 | x::xs,u::us,h,r=>.cons (r 0 x u rfl rfl) (Oi xs us (qG h) λi y z e1 e2=>r (i+1) y z e1 e2)
def zu6{f:FL}{pos2:Pos}(hc:X.calm=true)(hg:Gl X "list")(hm:X.mg "list"=Gb)(hg2:Gl X "reversed")(hm2:X.mg "reversed"=Gb)(ha:tX X e f)(hs:starEach [e] X.env=[(false,eval e X.env)]:=by rfl)
  (hs2:starEach [.Call (.Name "reversed" p2) [e] [] pos2] X.env=[(false,eval (.Call (.Name "reversed" p2) [e] [] pos2) X.env)]:=by rfl) :
  PO X (.Call (.Name "list" p) [.Call (.Name "reversed" p2) [e] [] pos2] [] pos) (Lw f):=by
 intro ω s σ H Q I h;obtain⟨H0,F,ψ,ds,r,e0,q⟩:=h;obtain⟨d1,e1,e2⟩:=ft e0;cases e2;clear e0;refine Call_ (oU I hg hm boot_list (PyProof.Rows.callWith_type1 ?_ hs2 (by rfl)));rw[hs2];refine JR ?_;refine Call_ (oU I hg2 hm2 boot_reversed (PyProof.Rows.callWith_type1 (gn (io ha lH hs pos2 ω s σ H (λvs H2=>∃ l xs F2,vs=[.ref l]/\hZ X.K H2 l xs/\fw H H2/\fw F F2/\fw F2 H2/\gu F F2 H/\fL X.K F2 d1 xs) I
  ⟨H0,F,ψ,d1,r,e1,λa xs H1 F1 g1 f1 fh1 n1 hl rr=>⟨a,xs,F1,rfl,hl,g1,f1,fh1,n1,rr⟩⟩) λus s1 ⟨vs,H2,I2,rvs,l,xs,F2,ev,hl,g2,f2,fh2,n2,rr⟩=>?_) hs (by rfl)))
 subst ev;obtain⟨u,rfl,ru⟩:=mf rvs;cases ru;obtain⟨its,rv,pl,hz⟩:=I2.list hl;have ll:l<s1.heap.objs.size:=by obtain⟨o,n,e,_⟩:=pl;exact jy e
 refine call_reversed_list pl.isList ?_;refine JZ ?_;have I3:fB X ω σ H2 { s1 with heap:=s1.heap.push (revObj l ((its.toArray.size:Int)-1)),toks:=s1.toks }:=I2.kept λb o e=>jj _ e;have hit:(s1.heap.push (revObj l ((its.toArray.size:Int)-1))).IsRevIter s1.heap.objs.size l ((its.toArray.size:Int)-1):=⟨_,jA _ rfl,rfl,rfl⟩;have hl3:(s1.heap.push (revObj l ((its.toArray.size:Int)-1))).IsList l its.toArray:=by obtain⟨o,n,e,c,_,d⟩:=pl;exact⟨o,jj _ e,c,n,d⟩
 have W:=Walks.listRev (prog:=X.prog) (w:=X.w) (A:=X.A.in1.in1) (show X.A.in1.in1.handled=Gb from I2.ok.hd hc) s1.heap.objs.size l (jL ll) its.toArray;refine YA W (λi s2 z=>z.2.1.typeIs) (λs2 Q2 E2 z1 z2=>Yn z1 z2) ⟨kh _,(by rwa[show(its.toArray.size:Int)-1-((0:Nat):Int)=(its.toArray.size:Int)-1 by omega]),hl3⟩ ?_ (by simp) ?_ λh' tk acc c k na it=>?_
 .rw[vA];simp only[jo,j8,or_false,not_or];exact⟨Nat.succ_ne_self _,uA (vy ll)⟩
 .rwa[jv,<- rv.length]
 .have sz:acc.size=its.length:=by rw[it.1,jv]
  have vr:fV xs.reverse acc.toList:=by
   refine Oi _ _ (by have a:=rv.length;have b:=jP (xs:=acc);rw[vQ];omega) λi x u hx hu=>?_;have hu':=it.2 i u (by rwa[<- kJ]);have li:i<xs.length:=by have:=(ju.mp hx).1;rw[vQ] at this;exact this
   rw[JE li] at hx;obtain⟨u',e1,e2⟩:=rv.get hx;have e3:its[its.length-1-i]?=Ga u:=by rw[jv,qi] at hu';exact hu'
   rw[<- rv.length,e1] at e3;cases e3;exact e2
  have hS:s1.heap.objs.size<(s1.heap.push (revObj l ((its.toArray.size:Int)-1))).objs.size:=by rw[vA];exact uY _
  have f3:H2 (s1.heap.push (revObj l ((its.toArray.size:Int)-1))).objs.size=Gb:=I3.fresh;have I4:fB X ω σ (fH H2 (s1.heap.push (revObj l ((its.toArray.size:Int)-1))).objs.size (.lst xs.reverse)) { s1 with heap:=h',toks:=tk }:=by
   refine fB.laid (X:=X) (s:=s1) (t':=tk) I2 (λb o e=>k b o ?_ (jj _ e)) (vf hS) ?_
   .intro z;cases jn.mp z;exact absurd (jy e) (kb _)
   .refine⟨by rwa[vQ],acc.toList,c,vr,?_⟩;rwa[qr]
  have s2:fw H2 (fH H2 (s1.heap.push (revObj l ((its.toArray.size:Int)-1))).objs.size (.lst xs.reverse)):=fw.new f3;exact⟨.ref _,_,I4,rfl,q _ xs.reverse _ F2 (g2.trans s2) f2 (fh2.trans s2) n2 (g2.free f3) (fh2.free f3) fI rr.reverse⟩
def Bz{n:Int}(hm:∃ t,X.mg x=Ga (.int n t))(hg:Gl X x:=by rfl)(hd:(x==("__debug__":Str))=false:=by decide):PV X (.Name x pos) (λ_=>Ga (.int n)):=by
 obtain⟨t,h⟩:=hm;exact UD (v:=.int n) h ⟨_,rfl⟩ (λ_ _=>.int _) hg hd
variable {a:Gk}
def Yr:∀ h1 h2:Heap,ng a ks as ep h1->(∀ o,h1.get? a=Ga o->h2.get? a=Ga o)->ng a ks as ep h2:=by
 rintro h1 h2 ⟨o,es,ho,r⟩ k;exact⟨o,es,k _ ho,r⟩
def QI(p:ng a ks as ep h):iy P w H h a (.ext (ng a ks as ep)):=by
 obtain⟨o,es,ho,r⟩:=id p;exact⟨p,⟨o,ho⟩,Yr⟩
def Th(ok:lJ P w H h)(e:H a=Ga (.ext (ng a ks as ep))):ng a ks as ep h:=(show iy P w H h a (.ext _) from ok a _ e).1
def zx7:rf []:=⟨λ_ h=>(by cases h),λ_ h=>(by cases h),u7,kh _⟩
def mi (ks:List D)(as:List Gk):List (D×Gk×Gg):=(ks.zip as).map λp=>(p.1,p.2,ve true)
def UB(ks:List D)(as:List Gk):sA ks as=(mi ks as).map (entryOfKey (xa P w)):=by
 unfold sA mi;rw[jE];rfl
def DT:∀ {ks:List D} {as:List Gk},ks.length=as.length->(mi ks as).map (·.1)=ks
 | [],[],_=>rfl
 | [],_::_,h=>by cases h
 | _::_,[],h=>by cases h
 | k::ks,a::as,h=>congrArg (k::·) (DT (ks:=ks) (as:=as) (qG h))
def QM:∀ {ks:List D} {as:List Gk} (k:D) (b:Gk),ks.length=as.length->mi ks as++[(k,b,ve true)]=mi (ks++[k]) (as++[b])
 | [],[],k,b,_=>rfl
 | [],_::_,_,_,h=>by cases h
 | _::_,[],_,_,h=>by cases h
 | j::ks,a::as,k,b,h=>congrArg ((j,a,ve true)::·) (QM (ks:=ks) (as:=as) k b (qG h))
def SS:∀ {ks:List D} {as:List Gk} (k:D),(mi ks as).map (putAt k (.bool true))=mi ks as
 | [],[],k=>rfl
 | [],_::_,_=>rfl
 | _::_,[],_=>rfl
 | j::ks,a::as,k=>by
  show putAt k (.bool true) (j,a,ve true)::(mi ks as).map (putAt k (.bool true))=(j,a,ve true)::mi ks as;rw[SS (ks:=ks) (as:=as) k];refine congrArg (·::mi ks as) ?_;unfold putAt;split<;>rfl
def Ui:∀ {ks:List D} {as:List Gk} {x:D×Gk×Gg},x∈mi ks as->∃ i:Nat,ks[i]?=Ga x.1/\as[i]?=Ga x.2.1
 | [],[],x,h=>by cases h
 | [],_::_,x,h=>by cases h
 | _::_,[],x,h=>by cases h
 | k::ks,a::as,x,h=>by
  rcases jo.mp (show x∈(k,a,ve true)::mi ks as from h) with rfl|h
  .exact⟨0,rfl,rfl⟩
  .obtain⟨i,h1,h2⟩:=Ui h;exact⟨i+1,h1,h2⟩
def Qq(hl:ks.length=as.length)(k:D):(atKey (mi ks as) k).isSome=decide (k∈ks):=by
 unfold atKey;rw[Option.isSome_map];rw[jQ,List.find?_isSome,decide_eq_true_eq];constructor
 .rintro⟨x,hx,e⟩;have:x.1=k:=of_decide_eq_true e;rw[<- this,<- DT hl];exact jr.mpr ⟨x,hx,rfl⟩
 .intro h;rw[<- DT hl] at h;obtain⟨x,hx,e⟩:=jr.mp h;exact⟨x,hx,Gc e⟩
noncomputable def on (ks:List D)(k:D):List D:=if k∈ks then ks else ks++[k]
def RB (q:fL X.K F ks (as.map V.ref)):ks.length=as.length:=by have:=q.length;rw[jc] at this;exact this
def WB (I:fB X ω σ H s)(g:fw F H)(e:H a=Ga (.ext (ng a ks as ep)))(ok:rf ks)(q:fL X.K F ks (as.map V.ref)):s.heap.DictOfH (xa X.prog X.w) a (mi ks as):=by
 obtain⟨o,es,ho,hc,hd,he⟩:=Th I.hok e;refine⟨o,es,ep,ho,hc,hd,he.trans (UB ks as),λx hx=>?_,by rw[DT (RB q)];exact ok.nd⟩;obtain⟨i,h1,h2⟩:=Ui hx;obtain⟨v,e1,e2⟩:=q.get h1;rw[jz,h2] at e1;cases e1;exact⟨ok.key _ (j5 h1),gG.reads I g e2 (Mj (ok.key _ (j5 h1))) rfl⟩
def zvD:PE X (.Dict [] [] pos) (λσ H Q=>∀ p,H p=Gb->(p==sysModules)=false->Q (.ref p) (fH H p (.ext (ng p [] [] 0)))):=λω s σ H Q I h =>
 wpAny_Dict_empty ⟨.ref s.heap.objs.size,_,I.laid (a:=s.heap.objs.size) (o:=.ext (ng s.heap.objs.size [] [] 0)) (t':=s.toks) (λ_ _ q=>jj _ q) (jw _) (QI ⟨_,#[],jA _ rfl,⟨rfl,rfl,rfl⟩,rfl,rfl⟩),rfl,
  h _ (I.hok.fresh (jw _)) (beq_eq_false_iff_ne.mpr (ur (jL I.big)))⟩
abbrev MX (i:Nat):FS:=λψ=>Ga (.nx (ψ.set i (.dic [])))
def zx8 (i:Nat)(hN:X.N.Nodup)(hi:X.N[i]?=Ga x:=by rfl)(hx:tP X.env.scope x:=by first|exact kC rfl|exact j7 rfl)
  (hs:swapsWith (.Dict [] [] p) (Ga (.Name x pos')) pos.line X.env=pure false:=by rfl) (hf:X.fn x=true\/X.env.scope.names.lookup x=Ga .local:=by first|exact .inl rfl|exact .inr rfl) :
  mo X (.Assign [.Name x pos'] (.Dict [] [] p) pos) (MX i):=by
 intro ω s σ H D I hw;refine sZ hN hi hx zvD hs hf ω s σ H D I ?_;obtain⟨H0,F,ψ,o,r,e,p⟩:=hw;cases e;have hl:i<σ.length:=by rw[I.len];exact(ju.mp hi).1
 intro a ha sm;have g:fw H (fH H a (.ext (ng a [] [] 0))):=fw.new ha;exact p _ _ F (.refl _) (.refl _ _) ((r.later g).putG hl ⟨a,[],0,rfl,fI,r.fh.free ha,r.h0.free ha,.nil,sm,zx7⟩ λj s o _ ej=>r.ne_free ha j s o ej)
def Pm (K:jb):CA:=λo i v H Q=>∃ a ks as ep k b F,o=.ref a/\i=.ref b/\v=.bl true/\H a=Ga (.ext (ng a ks as ep))/\rf ks/\fw F H/\fL K F ks (as.map V.ref)/\gG K F k (.ref b)/\fZ k 8=true /\
 ∀ as' ep',(if k∈ks then as'=as else as'=as++[b])->Q (fH H a (.ext (ng a (on ks k) as' ep')))
def zBe (hu:X.A.units+100<cLine):Fd X (Pm X.K):=by
 intro ω s σ H o i v ov iv u Q I ro ri rv h;obtain⟨a,ks,as,ep,k,b,F,rfl,rfl,rfl,ha,ok,g,q,rk,kk,hQ⟩:=h;cases ro;cases ri;cases rv;have hD:=WB I g ha ok q;have hl:=RB q;obtain⟨bs,rd⟩:=gG.reads I g rk (Mj kk) (u:=.ref b) rfl;refine wpAny_setItem_heap (knd:=xa X.prog X.w) (show X.A.units+1+20<cLine by omega) ⟨kk,_,rd⟩ hD (λh' hm hs=>?_) ?_
 .obtain⟨o',es',ep',ho,hc,hd,he,_,_⟩:=id hm;have fin:∀ as',(if k∈ks then as'=as else as'=as++[b])->storedH (mi ks as) k b (.bool true)=mi (on ks k) as'->∃ H',fB X ω σ H' { s with heap:=h',toks:=s.toks+rm k }/\Q H':=λas' c e=>by
   refine⟨_,yF I (by rw[ha];trivial) hs ⟨o',ho⟩ (QI ⟨o',es',ho,hc,hd,?_⟩),hQ as' ep' c⟩;rw[he,e,<- UB]
  by_cases hm2:k∈ks
  .refine fin as (by rw[Ge hm2]) ?_;have:(atKey (mi ks as) k).isSome=true:=by rw[Qq hl,Gc hm2]
   unfold storedH on;rw[Ge this,Ge hm2,SS]
  .refine fin (as++[b]) (by rw[Gf hm2]) ?_;have:¬(atKey (mi ks as) k).isSome=true:=by rw[Qq hl,Gd hm2];exact jH
   unfold storedH on;rw[Gf this,Gf hm2,QM k b hl]
 .show(mi ks as).length<=sizeLine;have:(mi ks as).length=ks.length:=by rw[<- jc (f:=λx:D×Gk×Gg=>x.1),DT hl]
  rw[this,sizeLine_eq];exact jI ok.len (by decide)
def wu:D->Bool
 | .tuple _=>true
 | _=>false
def ZL(h:wu d=true):∃ xs,d=.tuple xs:=by cases d<;>first|exact⟨_,rfl⟩|cases h
noncomputable def zR (i:Nat)(f:FV):FS:=λψ=>(f ψ).bind λk=>match ψ[i]? with
 | some (.dic ks)=>if (fZ k 8&&wu k)=true/\ks.length<1000000 then Ga (.nx (ψ.set i (.dic (on ks k)))) else Gb
 | _=>Gb
def zx9{k:D}(ok:rf ks)(hk:fZ k 8=true)(ht:∃ xs,k=.tuple xs)(hl:ks.length<1000000):rf (on ks k):=by
 unfold on;split
 .exact ok
 .rename_i hn;refine⟨λx hx=>?_,λx hx=>?_,?_,by rwa[je]⟩
  .rcases jM.mp hx with z|z
   .exact ok.key x z
   .rwa[jn.mp z]
  .rcases jM.mp hx with z|z
   .exact ok.tup x z
   .rwa[jn.mp z]
  .rw[qV];refine⟨ok.nd,kO.mpr ⟨by simp,u7⟩,λx hx y hy=>?_⟩;rw[jn.mp hy];exact λz=>hn (z▸hx)
def Xr (i:Nat){ke:Expr}{pt:Pos}{jt}(hu:X.A.units+100<cLine)(hk:PV X ke f)(hN:X.N[i]?=Ga x:=by rfl)(hv:oz X.env.scope x:=by first|exact kC rfl|exact j7 (kC rfl)|exact j7 (j7 rfl))
  (hd:(x==("__debug__":Str))=false:=by decide) (hcd:(x==("__classdict__":Str))=false:=by decide)
  (hs:swapsWithSole [.Subscript (.Name x p) ke p2] (.Constant (.bool true) jt pt) pos.line X.env=pure false:=by rfl) (hw:swappedStores [.Subscript (.Name x p) ke p2] (.Constant (.bool true) jt pt) X.env=pure Gb:=by rfl)
  (h1:(assignEach [.Subscript (.Name x p) ke p2] X.env).map (·.2)=[assign (.Subscript (.Name x p) ke p2) X.env]:=by rfl)
  (ha:∀ v,assign (.Subscript (.Name x p) ke p2) X.env v=(do
   let ov <- holding [v] (eval (.Name x p) X.env)
   let iv <- holding [v,ov] (eval ke X.env)
   standAt p2
   holding [v,ov,iv] (setItem ov iv v)
   release [v,ov,iv] []):=by intro _;rfl) :
  mo X (.Assign [.Subscript (.Name x p) ke p2] (.Constant (.bool true) jt pt) pos) (zR i f):=by
 refine nO (zL (Hj (pos:=pt)) (Er (lE (pos:=p) hN hv hd hcd) hk (zBe hu) ha) hs hw h1) λE σ H=>?_;rintro⟨H0,F,ψ,o,r,e,p⟩;obtain⟨k,e1,e2⟩:=ft e;clear e;split at e2;rotate_left
 .cases e2
 rename_i ks z;split at e2;rotate_left
 .cases e2
 rename_i c;cases e2;obtain⟨c1,c2⟩:=c;rw[jl] at c1;obtain⟨xs,rfl⟩:=ZL c1.2;obtain⟨u,x3,a,as,ep,x4,ha1,fa,h0a,rr,sm,ok⟩:=r.sl i _ z;subst x4;refine⟨.ref a,x3,H0,F,ψ,.tuple xs,r,e1,λv H1 F1 g1 f1 fh1 n1 rv=>?_⟩;have r1:=r.grow g1 f1 fh1 n1;obtain⟨u,x5,a',as',ep',x6,ha2,fa2,h0a2,nL,sm2,ok2⟩:=r1.sl i _ z;subst x6;rw[x3] at x5;cases x5;cases rv with
 | @tup b vs _ hb rb =>
  refine⟨a,ks,as',ep',.tuple xs,b,F1,rfl,rfl,rfl,ha2,ok2,fh1,nL,.tup hb rb,c1.1,λas2 ep2 hc=>?_⟩;refine p σ _ F1 f1 (n1.dn r.h0) (r1.chgG z rfl x3 ⟨a,as2,ep2,rfl,fI,fa2,h0a2,?_,sm2,zx9 ok2 c1.1 ⟨_,rfl⟩ c2⟩);unfold on;split at hc
  .rename_i hm;rw[Ge hm,hc];exact nL
  .rename_i hm;rw[Gf hm,hc,kr];exact nL.append (.cons (.tup hb rb) .nil)
def Nz:List (D×D)->Bool
 | (.none,.none)::_=>true
 | _=>false
def zBf (ks:List D):Nz (ks.map λk=>(k,jS true))=false:=by
 cases ks with
 | nil=>rfl
 | cons k r=>cases k<;>rfl
noncomputable def ajw (k:D):D->Option D
 | .dict kvs=>if (fZ k 8&&wu k&&!Nz kvs)=true then Ga (.bool (decide (k∈kvs.map (·.1)))) else Gb
 | _=>Gb
def wl:D->Option (List D)
 | .dict kvs=>if Nz kvs=true then Gb else Ga (kvs.map (·.1))
 | _=>Gb
def PQ (ks:List D):wl (.dict (ks.map λk=>(k,jS true)))=Ga ((ks.map λk=>(k,jS true)).map (·.1)):=by
 unfold wl;dsimp only;rw[zBf,Gf jH]
def PM:∀ {ks:List D} {as:List Gk} {i:Nat} {b:Gk},ks.length=as.length->as[i]?=Ga b->∃ e,(sA ks as)[i]?=Ga e/\e.key=.ref b
 | [],[],i,b,_,h=>by simp at h
 | [],_::_,_,_,h,_=>by cases h
 | _::_,[],_,_,h,_=>by cases h
 | k::ks,a::as,0,b,_,h=>by cases h;exact⟨_,rfl,rfl⟩
 | k::ks,a::as,i+1,b,hl,h=>PM (ks:=ks) (as:=as) (i:=i) (b:=b) (qG hl) h
def zyB(hl:ks.length=as.length):(sA ks as).length=as.length:=by
 unfold sA;rw[jc,List.length_zip,hl,Nat.min_self]
variable {d:Gk}
def zBg(p:ng d ks as ep h):nD h d (sA ks as).toArray ep:=by
 obtain⟨o,es,ho,hc,hd,he⟩:=p;refine⟨o,ho,hc,?_⟩;rwa[<- he,qr]
def zrL:typeLookup (.type "dict") "__len__"=pure (Ga (.builtin "dict.__len__")):=by rw[typeLookup_type,builtinLookup_eq_fast];kernel_rfl
def zvE {x:Gk}{Q:Bool->Gh->Prop}(hT:s.TypeIs (.ref x) "dict")(hQ:Q false s):wpAny (model prog w) A (kG (.ref x)) Q E s:=by
 unfold kG;refine fk (wpAny_specialOf hT zrL ?_);generalize hid:("dict.__len__":String)=id0
 wp_delta
 rw[show splitId id0=Ga ("dict","__len__") from by subst hid;decide +kernel];subst hid;refine fk (wpAny_isInstance (T:="dict") (b:=true) hT (by rw[isSubtype_type];kernel_rfl) ?_);refine wpAny_ite_split (λz=>absurd z (by decide)) λ_=>?_;refine wpAny_ite_split (λ_=>?_) λz=>absurd (by nofun) z;exact fk (wpAny_typeOf hT (fq hQ))
def zyC{es:Array DictEntry}(hh:A.handled=Gb)(sm:(d==sysModules)=false)(hd:nD s.heap d es ep)(hn:es.size<=sizeLine)
  (hQ:∀ h' tk acc c,(∀ b o,s.heap.get? b=Ga o->h'.get? b=Ga o)->h'.get? s.heap.objs.size=Ga { cls:=.type "list",data:=.seq acc c }->ItemsOf (λi v=>∃ e,es[i]?=Ga e/\v=e.key) acc es.size->Q (.ref s.heap.objs.size) { s with heap:=h',toks:=tk }) :
  wpAny (model prog w) A (call (.type "list") [.ref d]) Q E s:=by
 have hlt:d<s.heap.objs.size:=by obtain⟨o,e,_⟩:=hd;exact jy e
 refine callType_codes (Q₁:=λob s1=>ob=kF s.heap.objs.size/\s1={ s with heap:=s.heap.push { cls:=.type "list",data:=.seq #[] } }) PySem.F.called_list (PySem.F.typeCall_list_1 _) PySem.F.entry_list_init (code_list_new _ ⟨rfl,rfl⟩) λob s1 z=>?_;obtain⟨rfl,rfl⟩:=z;have n0:(s.heap.push { cls:=.type "list",data:=.seq #[] }).get? s.heap.objs.size=Ga { cls:=.type "list",data:=.seq #[] }:=jA _ rfl;refine⟨⟨_,n0,rfl⟩,PySem.F.args_list_init_2 _ _,?_⟩;show wpAny _ _ (vi (.ref s.heap.objs.size) >>= λold=>Jf (.ref s.heap.objs.size) (λ_=>#[]) >>= λ_=>letGo old.toList.reverse >>= λ_=>km (.ref s.heap.objs.size) (.ref d) .none) _ _ _;refine fk ?_;unfold vi;refine fk (wpAny_seqItems n0 rfl (fq ?_));show wpAny _ _ (updateSeq s.heap.objs.size (λ_=>#[]) >>= λ_=>letGo (#[]:Array Gg).toList.reverse >>= λ_=>km (.ref s.heap.objs.size) (.ref d) .none) _ _ _;refine fk (wpAny_updateSeq n0 rfl ?_);have n1:=kc (jW (λ_=>(#[]:Array Gg))) n0 rfl;have kp:∀ b o,s.heap.get? b=Ga o->((s.heap.push { cls:=.type "list",data:=.seq #[] }).update s.heap.objs.size (jW (λ_=>(#[]:Array Gg)))).get? b=Ga o:=λb o e =>
  (kS _ _ (ur (jL (jy e)))).trans (jj _ e)
 generalize (s.heap.push { cls:=.type "list",data:=.seq #[] }).update s.heap.objs.size (jW (λ_=>(#[]:Array Gg)))=h1 at n1 kp;have hd1:nD h1 d es ep:=hd.kept λo e=>kp d o e;refine fk (wpAny_letGo ?_);unfold km;refine fk (wpAny_typeOf (T:="dict") (nD.ty (s:={ s with heap:=h1 }) hd1) ?_);rw[show ud (.ref s.heap.objs.size) (.ref d)=false from by simp[ud,uA hlt]];simp only[show(ue "dict"==ue "list")=false by decide,show(ue "dict"==ue "tuple")=false by decide,vp,kU,if_false];refine fk (Tz (s:={ s with heap:=h1 }) sm hd1 ?_);have kp2:∀ b o,h1.get? b=Ga o->(h1.push { cls:=.type "dict_keyiterator",data:=.fields #[.ref d,.int 0 0,.int es.size 0,.int ep 0] }).get? b=Ga o:=λb o e=>jj _ e;have it0:(h1.push { cls:=.type "dict_keyiterator",data:=.fields #[.ref d,.int 0 0,.int es.size 0,.int ep 0] }).IsKeyIter h1.objs.size d 0 es.size ep:=⟨_,jA _ rfl,rfl,rfl⟩;have dI:d≠h1.objs.size:=by obtain⟨o,e,_⟩:=hd1;exact jL (jy e)
 have sI:s.heap.objs.size≠h1.objs.size:=jL (jy n1);have hd2:=hd1.kept λo e=>kp2 d o e;have n2:=kp2 _ _ n1;generalize h1.push { cls:=.type "dict_keyiterator",data:=.fields #[.ref d,.int 0 0,.int es.size 0,.int ep 0] }=h2 at kp2 it0 hd2 n2;refine fk (wpAny_holding (zvE (nD.ty (s:={ s with heap:=h2 }) hd2) ?_));refine wpAny_ite_split (λ_=>?_) λz=>absurd (by decide) z;refine fk (wpAny_rule (fk ?_));show wpAny _ _ (updateSeq s.heap.objs.size (·.push .none) >>= λ_=>updateSeq s.heap.objs.size (·.pop)) _ _ _;refine fk (wpAny_updateSeq n2 rfl ?_);have n3:=kc (jW (·.push jX)) n2 rfl;refine wpAny_updateSeq (hz:=by seq_fits) n3 rfl ?_;have n4:=kc (jW (·.pop)) n3 rfl;have kp3:∀ b o,b≠s.heap.objs.size->h2.get? b=Ga o->((h2.update s.heap.objs.size (jW (·.push jX))).update s.heap.objs.size (jW (·.pop))).get? b=Ga o :=
  λb o hb e=>(kS _ _ (ur hb)).trans ((kS _ _ (ur hb)).trans e)
 have it4:=it0.at λo e=>kp3 _ o (ur sI) e;have hd4:=hd2.kept λo e=>kp3 _ o (jL hlt) e;generalize (h2.update s.heap.objs.size (jW (·.push jX))).update s.heap.objs.size (jW (·.pop))=h4 at n4 kp3 it4 hd4;have W:=(zuF (prog:=prog) (w:=w) (A:=A.in1.in1) (show A.in1.in1.handled=Gb from hh) h1.objs.size d dI es ep).toS;refine fq ⟨plainId_quiet PySem.F.plain_extend_loop _,codeAny_extend_loopS W hn s.heap.objs.size ?_ .none es.size 0 { s with heap:=h4 } #[] _ rfl (kh _) ⟨it4,hd4⟩ n4 (ItemsOf.nil _) λs' acc c m nn it=>?_⟩
 .simp only[jo,j8,or_false,not_or];exact⟨sI,uA hlt⟩
 .refine⟨rfl,?_⟩;rw[Moved.eq_with m];refine hQ s'.heap s'.toks acc c (λb o e=>m.heap b o (λz=>?_) (kp3 _ _ (jL (jy e)) (kp2 _ _ (kp b o e)))) nn it;simp only[jo,j8,or_false] at z;rcases z with z|z
  .exact absurd (jy e) (by rw[z];exact kb _)
  .exact absurd (jy (kp b o e)) (by rw[z];exact kb _)
def ztR (hc:X.calm=true):iH X (.type "list") (λxs H Q=>∃ (d:Gk) (ks:List D) (as:List Gk) (ep:Nat),xs=[.ref d]/\(d==sysModules)=false/\H d=Ga (.ext (ng d ks as ep))/\ks.length=as.length/\as.length<=1000000/\∀ l,H l=Gb->Q (.ref l) (fH H l (.lst (as.map V.ref)))):=by
 intro ω s σ H xs us Q I r h;obtain⟨d,ks,as,ep,rfl,sm,hd,hl,hz,q⟩:=h;obtain⟨u,rfl,ru⟩:=mf r;cases ru;have sz:(sA ks as).toArray.size=as.length:=by rw[jv,zyB hl]
 have hz':as.length<=sizeLine:=by rw[sizeLine_eq];exact jI hz (by decide)
 refine zyC (es:=(sA ks as).toArray) (ep:=ep) (I.ok.hd hc) sm (zBg (Th I.hok hd)) (by rwa[sz]) λh' tk acc c k na it=>?_;rw[sz] at it;have vr:fV (as.map V.ref) acc.toList:=by
  refine Oi _ _ (by have a1:=it.1;have a2:=jP (xs:=acc);rw[jc];omega) λi x u hx hu=>?_;obtain⟨e,e1,e2⟩:=it.2 i u (by rwa[<- kJ]);rw[jz] at hx;obtain⟨b,hb,rfl⟩:=vj.mp hx;obtain⟨e',e3,e4⟩:=PM hl hb;rw[qi,e3] at e1;cases e1;rw[e2,e4];rfl
 refine⟨.ref _,_,fB.laid (X:=X) (s:=s) (a:=s.heap.objs.size) (o:=.lst (as.map V.ref)) (t':=tk) I k (jw _) ⟨by rwa[jc],acc.toList,c,vr,?_⟩,rfl,q _ I.fresh⟩;rwa[qr]
def zBh(hc:X.calm=true)(hg:Gl X "list")(hm:X.mg "list"=Gb)(ha:PV X e f)(hs:starEach [e] X.env=[(false,eval e X.env)]:=by rfl):PO X (.Call (.Name "list" p) [e] [] pos) (iJ wl f):=by
 refine ia (Ae (ztR hc) hg hm boot_list ha (hs:=hs)) λσ H Q=>?_;rintro⟨H0,F,ψ,ds,r,e,q⟩;obtain⟨d',e1,e⟩:=ft e;refine⟨H0,F,ψ,_,r,e1,λv H1 F1 g1 f1 fh1 n1 rv=>?_⟩;cases rv<;>first|(cases e;done)|skip
 rename_i a ks as ep sm ha ok rr;rw[PQ] at e;cases e;rw[Ol] at q;have hl:ks.length=as.length:=by have:=rr.length;rw[jc] at this;exact this
 refine⟨a,ks,as,ep,rfl,sm,fh1 _ _ ha,hl,by rw[<- hl];exact ok.len,λl hl'=>?_⟩;have s2:fw H1 (fH H1 l (.lst (as.map V.ref))):=fw.new hl';exact q l _ _ F1 (g1.trans s2) f1 (fh1.trans s2) n1 (g1.free hl') (fh1.free hl') fI rr
def Qw(hz:vs.length<64)
  (hcol:∀ (A':Around) (Q':List Gg->Gh->Prop) (E':Gg->Gh->Prop),A'.handled=A.handled->(∀ h' tk,(∀ b o,s.heap.get? b=Ga o->h'.get? b=Ga o)->(∃ o,h'.get? s.heap.objs.size=Ga o)->Q' vs { s with heap:=h',toks:=tk })->wpAny (model prog w) A' (collect v) Q' E' s)
  (hs:∀ (s1:Gh) (a n:Nat) (P:Vd->Gh->Prop) (E':Gg->Gh->Prop),(∀ b o,s.heap.get? b=Ga o->s1.heap.get? b=Ga o)->s.heap.objs.size<=a->s1.heap.get? a=Ga (seqObj "list" vs.toArray n) ->
   (∀ h' c,(∀ b o,b≠a->s1.heap.get? b=Ga o->h'.get? b=Ga o)->h'.get? a=Ga (seqObj "list" out.toArray c)->P (.done (.ret .none)) { s1 with heap:=h' }) ->
   wpAny (model prog w) A.in1.in1 (Builtin.«list.sort» ⟨[.ref a],[]⟩) P E' s1)
  (h:∀ h' tk a c,(∀ b o,s.heap.get? b=Ga o->h'.get? b=Ga o)->s.heap.objs.size<=a->h'.get? a=Ga (seqObj "list" out.toArray c)->Q (.ref a) { s with heap:=h',toks:=tk }) :
  wpAny (model prog w) A (call (.builtin "sorted") [v]) Q E s:=by
 have sl:vs.length<=sizeLine:=by rw[sizeLine_eq];omega
 refine qQ kind_sorted plain_sorted entry_sorted (args_sorted1 _) ?_;unfold Builtin.«sorted»;refine fk (m:=checkCount "sorted" 1 1 _) (fq (fk (hcol _ _ _ rfl λh1 tk k1 t1=>fk (wpAny_newList ?_ sl))));obtain⟨o1,ho1⟩:=t1;have hsz:s.heap.objs.size<=h1.objs.size:=vf (jy ho1);have hoL:(h1.push (seqObj "list" vs.toArray 0)).get? h1.objs.size=Ga (seqObj "list" vs.toArray 0):=jA _ rfl;have keep:∀ b o,s.heap.get? b=Ga o->(h1.push (seqObj "list" vs.toArray 0)).get? b=Ga o:=λb o q=>jj _ (k1 b o q);refine fk (wpAny_holding (wpAny_call_entry slot_list_sort ⟨_,hoL,rfl⟩ entry_list_sort ?_ (args_list_sort _)));refine hs { s with heap:=h1.push (seqObj "list" vs.toArray 0),toks:=tk } h1.objs.size 0 _ _ keep hsz hoL λh' c kk hc=>⟨_,rfl,fq ⟨_,rfl,h h' tk h1.objs.size c (λb o e=>kk b o (jL (jx (jy e) hsz)) (keep b o e)) hsz hc⟩⟩
def zvF{Q:VK}(I:fB X ω σ H s)(g:fw F H)(rv:fV xs its)(rr:fL X.K F ds xs)(e:iU ds=Ga rs)
  (hcol:∀ (A':Around) (Q':List Gg->Gh->Prop) (E':Gg->Gh->Prop),A'.handled=X.A.handled->(∀ h' tk,(∀ b o,s.heap.get? b=Ga o->h'.get? b=Ga o)->(∃ o,h'.get? s.heap.objs.size=Ga o)->Q' its { s with heap:=h',toks:=tk })->wpAny (model X.prog X.w) A' (collect v) Q' E' s)
  (q:∀ a ys,H a=Gb->fL X.K F rs ys->Q (.ref a) (fH H a (.lst ys))):wpAny (model X.prog X.w) X.A (call (.builtin "sorted") [v]) (EP X ω σ Q) X.xe s:=by
 have hlen:ds.length=its.length:=rr.length.trans rv.length;have fin:∀ (out:List Gg) (ys:List V) (h':Heap) (tk:Nat) (a c:Nat),fV ys out->out.length<=sizeLine->fL X.K F rs ys->(∀ b o,s.heap.get? b=Ga o->h'.get? b=Ga o)->s.heap.objs.size<=a->h'.get? a=Ga (seqObj "list" out.toArray c) ->
   EP X ω σ Q (.ref a) { s with heap:=h',toks:=tk }:=λout ys h' tk a c rvo hz2 rro k ha hc =>
  ⟨.ref _,_,I.laid (t':=tk) (o:=.lst ys) k ha ⟨by rwa[rvo.length],out,c,rvo,hc⟩,rfl,q _ ys (I.hok.fresh ha) rro⟩
 unfold iU at e;split at e
 .rename_i hs;cases e;refine Qw (out:=its) (by omega) hcol (λs1 a n P E' k ha ho hP=>UE ho (by omega) λh' c kk hc=>hP h' c kk hc) λh' tk a c k ha hc=>fin its xs h' tk a c rv (by rw[sizeLine_eq];omega) rr k ha hc
 .rename_i hs;split at e
  .rename_i ok;rw[jl,decide_eq_true_eq] at ok;obtain⟨pm,e1,e2⟩:=ft e;split at e2;rotate_left
   .cases e2
   rename_i hpm;cases e2;have h2:2<=its.length:=by omega
   rw[hlen] at e1;refine Qw (out:=pm.toList.map λi=>its.getD i jX) (by omega) hcol (λs1 a n P E' k ha ho hP=>Qm ho h2 (by omega) e1 (λs2 k2=>Qf I g rv rr h2 ok.2 λb o eb=>k2 b o (jL (jx (jy eb) ha)) (k b o eb)) λh' c kk hc=>hP h' c kk hc) λh' tk a c k ha hc=>?_;refine fin _ (pm.toList.map λi=>xs.getD i .non) h' tk a c ?_ ?_ ?_ k ha hc
   .have:∀ l:List Nat,fV (l.map λi=>xs.getD i V.non) (l.map λi=>its.getD i jX):=λl=>by
     induction l with
     | nil=>exact .nil
     | cons i l ih =>
      refine .cons ?_ ih;dsimp only;rw[ji,ji];cases hx:xs[i]? with
      | none=>rw[rv.none_of hx];rfl
      | some v=>obtain⟨u,e,r⟩:=rv.get hx;rwa[e]
    exact this _
   .rw[jc,jP,sizeLine_eq];omega
   .have:∀ l:List Nat,fL X.K F (l.map λi=>ds.getD i .none) (l.map λi=>xs.getD i V.non):=λl=>by
     induction l with
     | nil=>exact .nil
     | cons i l ih =>
      refine .cons ?_ ih;dsimp only;rw[ji,ji];cases hx:ds[i]? with
      | none =>
       have:xs[i]?=Gb:=kI (by rw[<- rr.length];exact uL.mp hx);rw[this];exact .non
      | some d=>obtain⟨v,e,r⟩:=rr.get hx;rwa[e]
    exact this _
  .cases e
def HD {K:jb}{F:Hp}:∀ (ks:List Int),fL K F (ks.map jd) (ks.map V.int)
 | []=>.nil
 | k::ks=>.cons (.int k) (HD ks)
structure gF (K:jb)(x:Str)(st:Stmt)(cd:Gg)(a:Gk)(fd:Gj):Prop where
 e:∃ (od an:Option Gk) (sl:Array (Option Gg)) (oc kV dc pm ct:Gg),j4 K mainGlobals x=Ga (Ga (.ref a))/\K.lookup a=Ga ⟨oc,od,.func fd,sl⟩/\fd=kZ x x (defArgs st) (defBody st) (defScope st) .none kV dc pm an cd ct/\vB K cd x=true/\uc K (.ref a)=true
variable {f:Gk}
def gM{fd:Gj}(X:K.In h)(G:h.Ns mainGlobals mg)(w:gF K x st cd f fd)
  (hb:∀ (kV doc pm:Gg) (an:Option Gk) (cdv ct:Gg) (us:List Gg),us.length=ps.length->bindArgs (kZ x x (defArgs st) (defBody st) (defScope st) .none kV doc pm an cdv ct) ⟨us,[]⟩=pure (ps.zip us):=by first|(exact λ_ _ _ _ _ _ us hl=>(match us,hl with|[_],_=>rfl))|(exact λ_ _ _ _ _ _ us hl=>(match us,hl with|[_,_],_=>rfl))|(exact λ_ _ _ _ _ _ us hl=>(match us,hl with|[_,_,_],_=>rfl))|(exact λ_ _ _ _ _ _ us hl=>(match us,hl with|[_,_,_,_],_=>rfl))|(exact λ_ _ _ _ _ _ us hl=>(match us,hl with|[_,_,_,_,_],_=>rfl))|(exact λ_ _ _ _ _ _ us hl=>(match us,hl with|[_,_,_,_,_,_],_=>rfl))|(exact λ_ _ _ _ _ _ us hl=>(match us,hl with|[_,_,_,_,_,_,_],_=>rfl))):Fn K mg x st ps f fd:=by
 obtain⟨od,an,sl,oc,kV,dc,pm,ct,e1,e2,rfl,e3,e4⟩:=w.e;exact zF8 X G e1 e2 e3 e4 hb
def gF.bt{fd:Gj}(w:gF K x st cd f fd){Q:Gj->Prop}(q:∀ (kV doc pm:Gg) (an:Option Gk) (cdv ct:Gg),Q (kZ x x (defArgs st) (defBody st) (defScope st) .none kV doc pm an cdv ct)):Q fd:=by
 obtain⟨od,an,sl,oc,kV,dc,pm,ct,e1,e2,rfl,e3,e4⟩:=w.e;exact q _ _ _ _ _ _
abbrev FX:=En->Option Str
open PySem PySem.Spec PyProof.Rows PySem.W PySem.Calls
end T3
namespace HT
open PySem PySem.Spec PyProof.Rows
variable {A:Around}{E:Gg->Gh->Prop}{prog:Program}{s:Gh}{w:World}
def whole_t {t sl:Gk}{items:Array Gg}{vl vu:Gg}{lo hi:Option Int}{Q:Gg->Gh->Prop}(ht:IsTup s.heap t items)(hs:s.heap.IsSliceOf sl vl vu .none)(pl:IsPart vl lo)(pu:IsPart vu hi)
  (h0:sIx items.size 0 lo=0) (h1:sIx items.size items.size hi=items.size) (h:Q (.ref t) s):wpAny (model prog w) A (getItem (.ref t) (.ref sl)) Q E s:=by
 obtain⟨os,hos,hcs,hds⟩:=id hs;have hTs:s.TypeIs (.ref sl) "slice":=⟨os,hos,hcs⟩;unfold getItem
 try with_reducible refine wpAny_holding ?_
 first|refine fk (fq ?_)|skip
 refine fk (wpAny_sequenceKey ht.typeIs (by decide) ?_);refine fk (wpAny_callSpecial?_slot (name:=ja "__getitem__") ht.typeIs PyProof.Rows.slot_tuple_getitem
  (wpAny_call_entry PyProof.Rows.slot_tuple_getitem ht.typeIs entry_tuple_getitem ?_ (args_tuple_getitem _ _)))
 show wpAny _ _ (vC (.ref t) >>= _) _ _ s;refine fk (tupleItemsOf_ ht ?_);refine fk (wpAny_typeOf hTs ?_);rw[Ge (by decide)];refine fk (rg hs pl pu ?_);rw[h0,h1];have hyes:((((0:Nat):Int)==0&&(1:Int)==1&&(items.size-0)==items.size)=true):=by simp
 show wpAny _ _ (if (((0:Nat):Int)==0&&(1:Int)==1&&(items.size-0)==items.size)=true then _ else _) _ _ s;rw[Ge hyes];refine fk (fk (wpAny_typeOf ht.typeIs (fq ?_)));rw[Ge (by decide)];refine fk (wpAny_rule (fq ⟨_,rfl,fq h⟩))
end HT
namespace T3
open PySem PySem.Spec PyProof.Rows L2
def AR:D->Option Int->Option Int->Option D
 | .list xs,lo,hi=>Ga (.list (cutD xs lo hi))
 | .tuple xs,lo,hi=>Ga (.tuple (cutD xs lo hi))
 | _,_,_=>Gb
def YK (f:FV)(g h:FP):FV:=λψ=>(f ψ).bind λx=>(g ψ).bind λl=>(h ψ).bind λu=>AR x l u
def WK (K:jb):V->Option Int->Option Int->Hp->VK->Prop:=λx lo hi H Q=>∃ a xs,x=.ref a/\la K H a xs/\HT.sIx xs.length 0 lo=0/\HT.sIx xs.length xs.length hi=xs.length/\Q (.ref a) H
variable {X:Cx}{p2 pos:Pos}
def zBi:xT X (WK X.K):=by
 intro ω s σ H x v vl vu lo hi sl Q I rx hs pl pu h;obtain⟨a,xs,rfl,hx,h0,h1,q⟩:=h;cases rx;obtain⟨its,r,ht,hz⟩:=I.tuple hx;have hlen:its.toArray.size=xs.length:=by rw[jv];exact r.length.symm
 refine⟨"tuple",_,PyProof.Rows.slot_tuple_getitem.lookup,ht.typeIs,?_⟩;exact HT.whole_t ht hs pl pu (by rwa[hlen]) (by rwa[hlen]) ⟨.ref a,H,I,rfl,q⟩
def zyD {xs:List D}{lo hi:Option Int}(h0:HT.sIx xs.length 0 lo=0)(h1:HT.sIx xs.length xs.length hi=xs.length):cutD xs lo hi=xs:=by
 unfold cutD;rw[h0,h1,qe,qH];exact uh (jw _)
def zyE {a:Expr}{lo hi:Option Expr}{f:FV}{g h:FP}(ha:PV X a f)(hl:Bg X lo g)(hh:Bg X hi h):PV X (.Subscript a (.Slice lo hi Gb p2) pos) (YK f g h):=by
 refine ia (zw ((Cj.or EJ).or zBi) ha hl hh) λσ H Q=>?_;rintro⟨H0,F,ψ,d,r,e,q⟩;obtain⟨x,e1,e4⟩:=ft e;obtain⟨l,e2,e5⟩:=ft e4;obtain⟨u,e3,e6⟩:=ft e5;clear e e4 e5;refine⟨H0,F,ψ,x,r,e1,λv H1 F1 g1 f1 fh1 n1 rv=>⟨H0,F1,ψ,l,r.grow g1 f1 fh1 n1,e2,λH2 F2 g2 f2 fh2 n2=>⟨H0,F2,ψ,u,(r.grow g1 f1 fh1 n1).grow g2 f2 fh2 n2,e3,λH3 F3 g3 f3 fh3 n3=>?_⟩⟩⟩;have rv3:=rv.mono (f2.trans f3);cases rv3<;>first|(cases e6;done)|skip
 case lst a xs ds h1 h2 =>
  cases e6;refine kC (kC ⟨a,xs,rfl,fh3.seq h1,λp hp=>?_⟩);obtain⟨s1,s2,s3,s4⟩:=rE (o:=.lst (pe xs l u)) fh3 hp;exact q _ _ _ (((g1.trans g2).trans g3).trans s1) (((f1.trans f2).trans f3).trans s2) s3 (((n1.trans n2 g1).trans n3 (g1.trans g2)).trans s4 ((g1.trans g2).trans g3)) (.lst (hZ.of fI) ((h2.cut l u).mono s2))
 case tup a xs ds h1 h2 =>
  cases e6;by_cases hw:HT.sIx xs.length 0 l=0/\HT.sIx xs.length xs.length u=xs.length
  .refine j7 ⟨a,xs,rfl,lV fh3 h1,hw.1,hw.2,?_⟩;refine q _ _ _ ((g1.trans g2).trans g3) ((f1.trans f2).trans f3) fh3 ((n1.trans n2 g1).trans n3 (g1.trans g2)) ?_;rw[zyD (by rw[h2.length];exact hw.1) (by rw[h2.length];exact hw.2)];exact .tup h1 h2
  .refine kC (j7 ⟨a,xs,rfl,lV fh3 h1,hw,λp hp=>?_⟩);obtain⟨s1,s2,s3,s4⟩:=rE (o:=.tup (pe xs l u)) fh3 hp;exact q _ _ _ (((g1.trans g2).trans g3).trans s1) (((f1.trans f2).trans f3).trans s2) s3 (((n1.trans n2 g1).trans n3 (g1.trans g2)).trans s4 ((g1.trans g2).trans g3)) (.tup (la.of fI) ((h2.cut l u).mono s2))
end T3
namespace HT
open PySem PySem.Spec PyProof.Rows
def fm_congr {α β:Type}{f g:α->Option β}:∀ {l:List α},(∀ x∈l,f x=g x)->l.filterMap f=l.filterMap g
 | [],_=>rfl
 | a::r,h=>by rw[uV,uV,h a jf,fm_congr λx hx=>h x (jk _ hx)]
end HT
namespace T3
open PySem PySem.Spec PyProof.Rows L2
def ph (t:SetTable)(es:Array (Int×Gg))(hh:Int)(x:Gg):Array (Int×Gg)×SetTable :=
 if (!(layNew t es hh x).2.2.1&&(layNew t es hh x).2.1.tooFull)=true then((relayAll (layNew t es hh x).2.1 (layNew t es hh x).1 (SetTable.grown (layNew t es hh x).1.size)).1,(relayAll (layNew t es hh x).2.1 (layNew t es hh x).1 (SetTable.grown (layNew t es hh x).1.size)).2.1)
 else((layNew t es hh x).1,(layNew t es hh x).2.1)
def SX (h:Heap)(a:Gk)(es:Array (Int×Gg))(t:SetTable):Prop:=∃ o ep,h.get? a=Ga o/\o.ExactSet/\o.data=.set es ep t
variable {a C r:Gk}{es:Array (Int×Gg)}{h:Heap}{t:SetTable}{A:Around}{E:Gg->Gh->Prop}{Q:Bool->Gh->Prop}{k:Int}{prog P:Program}{s:Gh}{tk:Tok}{w:World}{α:Type}{led:Bool}{m ep i:Nat}{its:Array Gg}{X:Cx}{e b tg o ke value c:Expr}{p p2 pos:Pos}{f g fo:FV}{x:Str}{K:jb}{F H H0 H1 F':Hp}{d:D}{v:V}{kvs tab:List (Str×D)}{ws ws':List (gI×V)}{σ:St}{ψ:En}{body:List Stmt}{st:Stmt}{fc:FB}{ds:List D}
def SX.put{es':Array (Int×Gg)}{t':SetTable}(x:SX h a es t):SX (h.update a (Vu es' t')) a es' t':=by
 obtain⟨o,ep,ho,hex,hd⟩:=x;obtain⟨oc,odi,oda,osl⟩:=o;simp only at hd;subst hd;exact⟨_,_,kc _ ho rfl,hex,rfl⟩
def Xf(hS:SX s.heap a es t)(hf:t.fits es.size=true)(hel:ElemsOf (intKind prog w) es.toList)(hb:es.size+2<scanBound)
  (nf:es.toList.findIdx? (λe=>(intKind prog w).is k e.2)=Gb)
  (h:∀ h',uu a s.heap h'->SX h' a (ph t es ((intKind prog w).hash k) (.int k tk)).1 (ph t es ((intKind prog w).hash k) (.int k tk)).2->Q true { s with heap:=h' }) :
  wpAny (model prog w) A (setAddHashed a (.int k tk) ((intKind prog w).hash k)) Q E s:=by
 obtain⟨o,ep,ho,hex,hd⟩:=id hS;have hsc:(uW k tk).scannable=true:=rfl;have hperm:=layNew_perm t es ((intKind prog w).hash k) (.int k tk);have hfits:=layNew_fits t es ((intKind prog w).hash k) (.int k tk);have hsz:(layNew t es ((intKind prog w).hash k) (.int k tk)).1.size=es.size+1:=by
  rw[<- jP,hperm.length_eq,vx,je,jP];rfl
 have hgw:∀ (b:Bool) {s₁:Gh} {Q':Unit->Gh->Prop},Q' () s₁->wpAny (model prog w) A (match b with|true=>rule "set.scan.the-table-gave-way"|false=>pure ()) Q' E s₁ :=
  λb s₁ Q' hq=>by cases b<;>first|exact fq hq|exact wpAny_rule hq
 unfold setAddHashed setAddHashedIn;refine wpAny_holding (fk (wpAny_setState_of ho hd hf ?_));dsimp only;rw[byScan_of hsc (by omega) hel];simp only[↓reduceIte];unfold setAddByScan;refine fk ?_;refine fk (wpAny_rule ?_);refine fk (wpAny_setScan_of (knd:=intKind prog w) (intKind_is _ _ _ _) ho hd hf hel ?_);rw[nf];dsimp only;unfold ph at h;generalize hL:layNew t es ((intKind prog w).hash k) (.int k tk)=L at hperm hfits hsz h ⊢;obtain⟨es1,t1,wd,gave⟩:=L;dsimp only at hperm hfits hsz h ⊢;refine fk (hgw _ ?_);have hpk:plainKind (.int k tk)=true:=rfl;have hS1:SX (s.heap.update a (Vu es1 t1)) a es1 t1:=hS.put;have hsb1:=kj s.heap a (Vu es1 t1);obtain⟨o1,ep1,ho1,hex1,hd1⟩:=id hS1;have hz1:es1.size<=sizeLine:=fits_of_scanBound (by omega);have hp:=relayAll_perm t1 es1 (SetTable.grown es1.size);have hs2:(relayAll t1 es1 (SetTable.grown es1.size)).1.size=es1.size:=by rw[<- jP,hp.length_eq,jP]
 have hz2:(relayAll t1 es1 (SetTable.grown es1.size)).1.size<=sizeLine:=fits_of_scanBound (by omega);split
 .refine fk ?_;rw[hashByValue_scannable 8 hsc,hpk];refine fq ?_;simp only[↓reduceIte];refine fk (wpAny_storeSet_of ho hd ?_ hz1);split
  .rename_i c;rw[Ge c] at h;refine fk (hgw _ ?_);refine fk (wpAny_storeSet_of ho1 hd1 ?_ hz2);exact fq (fq (h _ (hsb1.trans (kj _ a _)) hS1.put))
  .rename_i c;rw[Gf c] at h;exact fq (fq (h _ hsb1 hS1))
 .refine fk (fq ?_);simp only[↓reduceIte];refine fk (wpAny_storeSet_of ho hd ?_ hz1);split
  .rename_i c;rw[Ge c] at h;refine fk (hgw _ ?_);refine fk (wpAny_storeSet_of ho1 hd1 ?_ hz2);exact fq (fq (h _ (hsb1.trans (kj _ a _)) hS1.put))
  .rename_i c;rw[Gf c] at h;exact fq (fq (h _ hsb1 hS1))
def rq (e:Int×Gg):Int×Gg:=(e.1,.int e.1 0)
def zBk {β:Type}(f:α->β)(xs:Array α)(p:Nat)(x:α):(SetTable.insertAt xs p x).map f=SetTable.insertAt (xs.map f) p (f x):=by
 apply Je.mp;rw[qk,SetTable.toList_insertAt,SetTable.toList_insertAt];simp
def ZE (es:Array (Int×Gg)):(es.map rq).map (·.1)=es.map (·.1):=by
 rw[Array.map_map];rfl
def zDt (t:SetTable)(es:Array (Int×Gg))(h:Int)(x:Gg):layNew t (es.map rq) h (.int h 0)=((layNew t es h x).1.map rq,(layNew t es h x).2):=by
 have e0:rq (h,x)=(h,.int h 0):=rfl;unfold layNew;cases t.freeSlot h with
 | none=>simp[e0]
 | some q =>
  obtain⟨slot,wd⟩:=q;dsimp only;have i1:=zBk rq es (t.put slot).2 (h,x);rw[e0] at i1;rw[<- i1,vF]
def zGc (order:Array Nat)(es:Array (Int×Gg)):order.filterMap ((es.map rq)[·]?)=(order.filterMap (es[·]?)).map rq:=by
 apply Je.mp;rw[qk,Jq,Jq,List.map_filterMap];refine HT.fm_congr λi _=>?_;rw[Array.getElem?_map]
def zDu (t:SetTable)(es:Array (Int×Gg))(n:Nat):relayAll t (es.map rq) n=((relayAll t es n).1.map rq,(relayAll t es n).2):=by
 unfold relayAll;rw[ZE];cases t.relaid (es.map (·.1)) n with
 | none=>simp
 | some q =>
  obtain⟨t',order⟩:=q;dsimp only;rw[zGc,vF,vF];split<;>rfl
def zDv (t:SetTable)(es:Array (Int×Gg))(h:Int)(x:Gg):ph t (es.map rq) h (.int h 0)=((ph t es h x).1.map rq,(ph t es h x).2):=by
 unfold ph;rw[zDt t es h x];dsimp only;rw[vF,zDu];split<;>rfl
def UM (p:Array (Int×Gg)×SetTable)(k:Nat):Array (Int×Gg)×SetTable:=ph p.2 p.1 (k:Int) (.int (k:Int) 0)
def hV (led:Bool)(m:Nat):Array (Int×Gg)×SetTable:=((jq 5).filter λk=>m.testBit k).foldl UM (#[],.fresh 0 0 led)
def Zk:∀ (led:Bool) (m:Fin 32) (k:Fin 5),m.val.testBit k.val=true\/UM (hV led m.val) k.val=hV led (m.val+2^k.val):=by nofun
def Hg:∀ (led:Bool) (m:Fin 32),(hV led m.val).2.plain=true/\(hV led m.val).2.led=led/\(hV led m.val).2.fits (hV led m.val).1.size=true/\(hV led m.val).1.size<=5/\(hV led m.val).1.toList=(((jq 5).filter λk=>m.val.testBit k).map λ(k:Nat)=>((k:Int),uW (k:Int) 0)):=by nofun
def zBl{j:Nat}(hS:SX s.heap a es t)(hf:t.fits es.size=true)(hel:ElemsOf (intKind prog w) es.toList)(hb:es.size+2<scanBound)
  (fd:es.toList.findIdx? (λe=>(intKind prog w).is k e.2)=Ga j) (h:Q false s):wpAny (model prog w) A (setAddHashed a (.int k tk) ((intKind prog w).hash k)) Q E s:=by
 obtain⟨o,ep,ho,hex,hd⟩:=id hS;have hsc:(uW k tk).scannable=true:=rfl;unfold setAddHashed setAddHashedIn;refine wpAny_holding (fk (wpAny_setState_of ho hd hf ?_));dsimp only;rw[byScan_of hsc (by omega) hel];simp only[↓reduceIte];unfold setAddByScan;refine fk ?_;refine fk (wpAny_rule ?_);refine fk (wpAny_setScan_of (knd:=intKind prog w) (intKind_is _ _ _ _) ho hd hf hel ?_);rw[fd];dsimp only;exact fq (fq h)
def CS (h:Heap)(a:Gk)(led:Bool)(m:Nat):Prop:=∃ es,SX h a es (hV led m).2/\es.map rq=(hV led m).1/\∀ e∈es.toList,∃ tk,e.2=.int e.1 tk
def CS.fst {h:Heap}{a:Gk}(hm:m<32)(e:es.map rq=(hV led m).1):es.toList.map (·.1)=((jq 5).filter λk=>m.testBit k).map λ(k:Nat)=>(k:Int):=by
 have f:=(Hg led ⟨m,hm⟩).2.2.2.2;have g:=congrArg (λx:Array (Int×Gg)=>x.toList.map (·.1)) e;dsimp only at f g;rw[f,qk,jE,jE] at g;exact g
def Rj (k:Fin 5):(intKind prog w).hash (k.val:Int)=(k.val:Int):=by
 match k with
 | 0=>rfl
 | 1=>rfl
 | 2=>rfl
 | 3=>rfl
 | 4=>rfl
def zDw{k:Nat}(hm:m<32)(hk:k<5)(c:CS s.heap a led m)(h:∀ h' b,uu a s.heap h'->CS h' a led (m ||| 2^k)->Q b { s with heap:=h' }) :
  wpAny (model prog w) A (setAddHashed a (.int (k:Int) tk) ((intKind prog w).hash (k:Int))) Q E s:=by
 obtain⟨es,hS,he,hv⟩:=c;have fs:=CS.fst (h:=s.heap) (a:=a) hm he;obtain⟨f1,f2,f3,f4,f5⟩:=Hg led ⟨m,hm⟩;dsimp only at f1 f2 f3 f4 f5;have hsz:es.size=(hV led m).1.size:=by rw[<- he,vF]
 have mem:∀ e∈es.toList,∃ j:Nat,j<5/\m.testBit j=true/\e.1=(j:Int):=λe hm2=>by
  have:e.1∈es.toList.map (·.1):=jr.mpr ⟨e,hm2,rfl⟩;rw[fs] at this;obtain⟨j,hj,q⟩:=jr.mp this;obtain⟨h1,h2⟩:=jY.mp hj;exact⟨j,jF.mp h1,h2,q.symm⟩
 have hel:ElemsOf (intKind prog w) es.toList:=λe hm2=>by
  obtain⟨j,hj,_,ej⟩:=mem e hm2;obtain⟨tk,et⟩:=hv e hm2;refine⟨⟨e.1,?_,?_⟩,?_⟩
  .rw[et];exact intKind_is _ _ _ _
  .rw[ej];exact(Rj ⟨j,hj⟩).symm
  .rw[et];rfl
 have hb:es.size+2<scanBound:=by rw[hsz];unfold scanBound;omega
 have hf:(hV led m).2.fits es.size=true:=by rw[hsz];exact f3
 have hk0:(intKind prog w).hash (k:Int)=(k:Int):=Rj ⟨k,hk⟩;cases hbit:m.testBit k with
 | true =>
  have:(k:Int)∈es.toList.map (·.1):=by
   rw[fs];exact jr.mpr ⟨k,jY.mpr ⟨jF.mpr hk,hbit⟩,rfl⟩
  obtain⟨e,he1,he2⟩:=jr.mp this;obtain⟨tk',et⟩:=hv e he1;have his:(intKind prog w).is (k:Int) e.2=true:=by rw[et,he2];exact intKind_is _ _ _ _
  cases fd:es.toList.findIdx? (λe=>(intKind prog w).is (k:Int) e.2) with
  | none=>have:=qR.mp fd e he1;rw[his] at this;cases this
  | some j =>
   have em:m ||| 2^k=m:=by
    have:=(by nofun:∀ (m:Fin 32) (k:Fin 5),m.val.testBit k.val=true->m.val ||| 2^k.val=m.val) ⟨m,hm⟩ ⟨k,hk⟩ hbit;exact this
   have e0:s={ s with heap:=s.heap }:=by cases s;rfl
   refine zBl hS hf hel hb fd ?_;rw[e0];exact h s.heap false (Heap.SameBut.refl a s.heap) (by rw[em];exact⟨es,hS,he,hv⟩)
 | false =>
  have nf:es.toList.findIdx? (λe=>(intKind prog w).is (k:Int) e.2)=Gb:=qR.mpr λe he1=>by
   obtain⟨j,hj,hbj,ej⟩:=mem e he1;obtain⟨tk',et⟩:=hv e he1;cases q:(intKind prog w).is (k:Int) e.2 with
   | false=>rfl
   | true =>
    rw[et] at q;have z:=(intKind prog w).inj _ _ _ q (intKind_is _ _ _ _);have:j=k:=by omega
    subst this;rw[hbj] at hbit;cases hbit
  have em:m ||| 2^k=m+2^k:=(by nofun:∀ (m:Fin 32) (k:Fin 5),m.val.testBit k.val=false->m.val ||| 2^k.val=m.val+2^k.val) ⟨m,hm⟩ ⟨k,hk⟩ hbit;have cs:=(Zk led ⟨m,hm⟩ ⟨k,hk⟩).resolve_left (by dsimp only;rw[hbit];decide);dsimp only at cs;have an:=zDv (hV led m).2 es (k:Int) (.int (k:Int) tk);rw[he] at an;have c2:((ph (hV led m).2 es (k:Int) (.int (k:Int) tk)).1.map rq,(ph (hV led m).2 es (k:Int) (.int (k:Int) tk)).2)=hV led (m+2^k):=by rwa[<- an]
  have perm:∀ e∈(ph (hV led m).2 es (k:Int) (.int (k:Int) tk)).1.toList,e∈es.toList\/e=((k:Int),.int (k:Int) tk):=λe he1=>by
   have p1:=layNew_perm (hV led m).2 es (k:Int) (.int (k:Int) tk);rw[vx] at p1;have m1:e∈(layNew (hV led m).2 es (k:Int) (.int (k:Int) tk)).1.toList:=by
    unfold ph at he1;split at he1
    .exact(relayAll_perm _ _ _).mem_iff.mp he1
    .exact he1
   rcases jM.mp (p1.mem_iff.mp m1) with z|z
   .exact .inl z
   .exact .inr (jn.mp z)
  refine Xf hS hf hel hb nf λh' hsb hS'=>h h' true hsb ?_;rw[hk0] at hS';rw[em];refine⟨_,by rwa[<- c2],by rw[<- c2],λe he1=>?_⟩;rcases perm e he1 with z|z
  .exact hv e z
  .rw[z];exact⟨tk,rfl⟩
def oJ (val:Nat->Nat):Nat->Nat
 | 0=>0
 | i+1=>oJ val i ||| 2^val i
def Kz {val:Nat->Nat}(h:∀ i,val i<5):∀ i,oJ val i<32
 | 0=>by show 0<32;decide
 | i+1=>by
  have:=(by nofun:∀ (m:Fin 32) (k:Fin 5),m.val ||| 2^k.val<32) ⟨oJ val i,Kz h i⟩ ⟨val i,h i⟩;exact this
section
variable {prog:Program}{w:World}{A:Around}{R:Result->Gh->Prop}{I:Gk}{fp wr:List Gk}{G:Array GenState->Array GenState->Prop}{n:Nat}{P:Nat->Gg->Prop}{St:Nat->Gh->Prop}
def CS.keep {h':Heap}(c:CS h a led m)(k:∀ o,h.get? a=Ga o->h'.get? a=Ga o):CS h' a led m:=by
 obtain⟨es,⟨o,ep,ho,hex,hd⟩,he,hv⟩:=c;exact⟨es,⟨o,ep,k o ho,hex,hd⟩,he,hv⟩
def zBm (W:WalksS prog w A.in1 I fp wr G n P St)(S:Gk)(nS:S∉fp)(val:Nat->Nat)(v5:∀ i,val i<5)(vl:∀ i v,P i v->∃ t,v=.int (val i:Int) t)(led:Bool) :
  ∀ (k i:Nat) (s:Gh),n-i=k->i<=n->St i s->CS s.heap S led (oJ val i)->(∀ z1,Moved (S::wr) G s z1->CS z1.heap S led (oJ val n)->R (.ok (.ret .none)) z1) ->
   codeAny (model prog w) A (.builtin "set.update.loop" ⟨[.ref S,.ref I],[]⟩) R s:=by
 have nW:S∉wr:=λh=>nS (W.sub _ h);have sb:∀ b∈wr,b∈S::wr:=λb hb=>jk _ hb;intro k;induction k with
 | zero =>
  intro i s ek li u0 c0 fin
  have ei:i=n:=by omega
  subst ei;refine codeAny_builtin (PyProof.Rows.F.entry_set_update_loop) ?_;rw[qt PyProof.Rows.F.plain_set_update_loop];show wpAny _ A.in1 (pyNext (.ref I) >>= _) _ _ s;refine fk (W.done s _ _ u0 λz1 mv=>?_);show wpAny _ A.in1 (ret jX) _ _ z1;exact fq (fin z1 (mv.mono sb) (c0.keep λo ho=>mv.heap S _ nW ho))
 | succ k ih =>
  intro i s ek li u0 c0 fin
  have l0:i<n:=by omega
  refine codeAny_builtin (PyProof.Rows.F.entry_set_update_loop) ?_;rw[qt PyProof.Rows.F.plain_set_update_loop];show wpAny _ A.in1 (pyNext (.ref I) >>= _) _ _ s;refine fk (W.item i s _ _ l0 u0 λv z1 hp0 u1 mv=>?_);obtain⟨t,rfl⟩:=vl i v hp0;have c1:CS z1.heap S led (oJ val i):=c0.keep λo ho=>mv.heap S _ nW ho;show wpAny _ A.in1 (holding [uW (val i:Int) t] (setAdd S (.int (val i:Int) t)) >>= _) _ _ z1;refine fk (wpAny_holding ?_);unfold setAdd;refine wpAny_holding ?_;refine fk ((intKind prog w).pyHash (k:=(val i:Int)) (intKind_is _ _ _ _) ?_);refine zDw (s:={ z1 with toks:=z1.toks+1 }) (Kz v5 i) (v5 i) c1 λh' b sbu c2=>?_;refine fq ⟨plainId_quiet PyProof.Rows.F.plain_set_update_loop _,ih (i+1) _ (by omega) l0 (W.frame _ z1 _ _ u1 (qp _) λb hb o e=>?_) c2 λz2 mv2 c3=>?_⟩
  .rwa[sbu.2 b (λh:b=S=>nS (by rw[<- h];exact hb))]
  .refine fin z2 (Moved.trans W.gtrans ((mv.mono sb).then_heap (qp _) λb o hb e=>?_) mv2) c3;rwa[sbu.2 b (λh:b=S=>hb (by rw[h];exact jf))]
end
abbrev lu (w:World):Bool:=!w.params.followText "set-order"
def YJ (x0:Gg){Q₁:Gg->Gh->Prop}(h:Q₁ (.ref s.heap.objs.size) { s with heap:=s.heap.push { cls:=.type "set",dict:=Gb,data:=.set #[] 0 (.fresh 0 0 (lu w)) } }) :
  codeAny (model prog w) A (.call (.builtin "set.__new__") ⟨[.type "set",x0],[]⟩) (wants Q₁ E) s:=by
 refine codeAny_of_tree ?_;show wpAny _ A.in1 (do checkBuiltinCall "set.__new__" ⟨[.type "set",x0],[]⟩;again (.builtin "set.__new__" ⟨[.type "set",x0],[]⟩)) _ _ s;refine fk (wpAny_of_eq (PySem.F.newCall_set_1 x0) (fq ⟨plainId_quiet PySem.F.plain_set_new _,codeAny_builtin PySem.F.entry_set_new ?_⟩));rw[qt PySem.F.plain_set_new];unfold Builtin.«set.__new__»;unfold Vv;have sb:=sub_set_self;obtain⟨h0,g0,d0,t0,o0⟩:=s;dsimp only
 wp_walk
 refine wpAny_askSetting (fq ?_);dsimp only;simp only[newObj];refine fk (wpAny_alloc (fq ?_));exact fq h
def Qe:∀ led:Bool,hV led 0=(#[],.fresh 0 0 led):=by nofun
variable {Q:Gg->Gh->Prop}{k:Str}
set_option maxHeartbeats 3200000 in
def zBo {l:Gk}{val:Nat->Nat}(hh:A.handled=Gb)(hl:s.heap.IsList l its)(v5:∀ i,val i<5)(vl:∀ (i:Nat) (v:Gg),its[i]?=Ga v->∃ t,v=.int (val i:Int) t)
  (h:∀ (h':Heap) (tk:Nat),CS h' s.heap.objs.size (lu w) (oJ val its.size)->(∀ b o,b<s.heap.objs.size->s.heap.get? b=Ga o->h'.get? b=Ga o)->Q (.ref s.heap.objs.size) { s with heap:=h',toks:=tk }) :
  wpAny (model prog w) A (call (.type "set") [.ref l]) Q E s:=by
 generalize hob:({ cls:=.type "set",dict:=Gb,data:=.set #[] 0 (.fresh 0 0 (lu w)) }:Obj)=ob;have obc:ob.cls=.type "set":=by rw[<- hob]
 have obf:ob.isFreed=false:=by rw[<- hob];rfl
 obtain⟨c,tl,m0⟩:=PySem.F.called_set.mro;have m1:=PySem.F.called_set.made;have m2:=PySem.F.called_set.sub;refine wpAny_call (codeAny_of_tree ?_);show wpAny _ _ (callAny (.type "set") _) _ _ _;refine fq ⟨Code.quiet_builtin _ (by nofun),codeAny_builtin (PySem.F.entry_type_call) ?_⟩;rw[Around.under_plain (weight_type_call_type "set" [.ref l] []) rfl];have m3:=PySem.F.called_set.notType;have m4:=PySem.F.called_set.canCreate;have m5:=PySem.F.typeCall_set_1 (.ref l)
 repeat (any_goals (first|assumption|wp_step))
 refine codeAny_mono (YJ (.ref l) (E:=E) (Q₁:=λobj z=>obj=.ref s.heap.objs.size/\z={ s with heap:=s.heap.push ob }) (by subst hob;exact⟨rfl,rfl⟩)) λr z hr=>?_;cases r with
 | error e=>exact hr
 | ok fl =>
  cases fl with
  | ret obj =>
   obtain⟨rfl,rfl⟩:=hr;have gS:(s.heap.push ob).get? s.heap.objs.size=Ga ob:=jA _ obf;have gT:Shared.TypeIs { s with heap:=s.heap.push ob } (.ref s.heap.objs.size) "set":=⟨_,gS,obc⟩;have n1:=PySem.F.called_set.init.lookup;have n2:=PySem.F.called_set.init.bind (.ref s.heap.objs.size)
   repeat (any_goals (first|assumption|wp_step))
   refine codeAny_mono (codeAny_call_builtin (R:=wants (λr z=>r=.none/\∃ h' tk,z={ s with heap:=h',toks:=tk }/\CS h' s.heap.objs.size (lu w) (oJ val its.size) /\
     (∀ b o,b<s.heap.objs.size->s.heap.get? b=Ga o->h'.get? b=Ga o)) E) PySem.F.called_set.init.plain PySem.F.entry_set_init (check_set_init_1 gT ?_)) λr2 z2 hr2=>?_
   .obtain⟨ol,e1,e2,nl,e3⟩:=hl;obtain⟨a1,a2,a3,a4⟩:=ol;simp only at e2 e3;subst e2;subst e3;subst hob;have g1:=jj (h:=s.heap) ({ cls:=.type "set",dict:=Gb,data:=.set #[] 0 (.fresh 0 0 (lu w)) }:Obj) e1;have q1:=PySem.F.sub_list_set;have q2:=PySem.F.sub_list_frozenset;have q3:(ue "list"==ue "dict")=false:=by decide
    have hl1:(s.heap.push ({ cls:=.type "set",dict:=Gb,data:=.set #[] 0 (.fresh 0 0 (lu w)) }:Obj)).IsList l its:=⟨_,g1,rfl,nl,rfl⟩;have lS:l<s.heap.objs.size:=jy e1;unfold Builtin.«set.__init__» noKeywords;unfold Vn;generalize ePI:pyIter=PI
    wp_walk
    subst ePI;refine wpAny_pyIter_list hl1 ?_;refine fk (wpAny_runValue ?_);have h3:A.in1.in1.in1.handled=Gb:=by simp[hh]
    have sz:=vA (h:=s.heap) (o:=({ cls:=.type "set",dict:=Gb,data:=.set #[] 0 (.fresh 0 0 (lu w)) }:Obj));generalize hH:s.heap.push ({ cls:=.type "set",dict:=Gb,data:=.set #[] 0 (.fresh 0 0 (lu w)) }:Obj)=H1 at *;have ne1:l≠H1.objs.size:=by rw[sz];exact jL (vy lS)
    have ne2:s.heap.objs.size∉[H1.objs.size,l]:=λz=>by
     rcases jo.mp z with z|z
     .rw[sz] at z;exact absurd z (jL (uY _))
     .exact absurd (jn.mp z) (uA lS)
    refine zBm ((Walks.list h3 _ l ne1 its).toS) s.heap.objs.size ne2 val v5 vl (lu w) (its.size-0) 0 _ (by omega) (kh _) ⟨⟨_,jA _ rfl,rfl,rfl⟩,hl1.push _⟩ ?b0 ?b1
    case b0=>exact⟨#[],⟨_,0,jj _ gS,⟨rfl,rfl,rfl⟩,by rw[show oJ val 0=0 from rfl,Qe]⟩,by rw[show oJ val 0=0 from rfl,Qe];simp,λe he=>by simp at he⟩
    case b1 =>
     intro z1 mv c1;obtain⟨h',g',d',tk',os'⟩:=z1;have eg:g'=s.gens:=mv.gens;have ed:d'=s.drawn:=mv.drawn;have eo:os'=s.os:=mv.os;subst eg;subst ed;subst eo;show wpAny _ _ _ _ _ _;refine fq ?_;show wpAny _ _ (ret jX) _ _ _;refine fq ⟨rfl,h',tk',rfl,c1,λb o lb eb=>?_⟩;refine mv.heap b o (λz=>?_) (jj _ (by rw[<- hH];exact jj _ eb));rcases jo.mp z with z|z
     .exact absurd z (jL lb)
     .exact absurd (jn.mp z) (by rw[sz];exact jL (vy lb))
   .cases r2 with
    | error e=>exact hr2
    | ok f2 =>
     cases f2 with
     | ret r =>
      obtain⟨rfl,h',tk,rfl,c1,k1⟩:=hr2
      repeat (any_goals (first|assumption|wp_step))
      exact h _ _ c1 k1
     | _=>exact hr2.elim
  | _=>exact hr.elim
def PR {α:Type}:∀ (l:List α) (i:Nat) (h:i<l.length),(l[i]::l.eraseIdx i).Perm l
 | a::r,0,h=>.refl _
 | a::r,i+1,h=>(List.Perm.swap _ _ _).trans ((PR r i (by simpa using h)).cons a)
def RJ {α:Type}(next:Nat->Nat):∀ (fuel k:Nat) (left:List α) (out:Array α),left.length=fuel->((pickOrder.go next fuel k left out).toList).Perm (out.toList++left)
 | 0,k,left,out,h=>by
  have:left=[]:=v9.mp h;subst this;unfold pickOrder.go;rw[kf]
 | fuel+1,k,left,out,h=>by
  have hp:0<left.length:=by omega
  have hi:next k%left.length<left.length:=Nat.mod_lt _ hp
  unfold pickOrder.go;rw[jg hi];dsimp only;refine(RJ next fuel (k+1) _ _ (by rw[List.length_eraseIdx_of_lt hi];omega)).trans ?_;rw[vx,j3];exact List.Perm.append_left _ (PR left _ hi)
def zvJ(next:Nat->Nat)(xs:Array α):((pickOrder next xs).toList).Perm xs.toList:=by
 unfold pickOrder;exact(RJ next xs.size 0 xs.toList #[] (by rw[jP])).trans (by simp)
def Cp:Nat->List (List Nat)
 | 0=>[[]]
 | n+1=>[]::((jq 5).flatMap λk=>((Cp n).filter λl=>!l.contains k).map (k::·))
def rG (l:List Nat):List Nat:=(jq 5).filter λk=>l.contains k
def XE:(Cp 5).all (λl=>(iU (l.map λ(k:Nat)=>jd (k:Int))).bind mL==Ga ((rG l).map λ(k:Nat)=>(k:Int)))=true:=by nofun
def Cd:Slot "set_iterator" "__next__" "set_iterator.__next__" :=
 .of (owner:="set_iterator") (n:="__next__") (by rw[typeLookup_type,builtinLookup_eq_fast];kernel_rfl) (by nofun) (by nofun) (by nofun) (by first|exact .inl (by nofun)|exact .inr (by nofun)) (by rw[isSubtype_type];kernel_rfl)
def SD:entryFor table "set_iterator.__next__"=Ga Builtin.«set_iterator.__next__»:=entryFor_of_tree (by kernel_rfl)
def Sd (a:Gg):argsOk "set_iterator.__next__" ⟨[a],[]⟩:=by unfold argsOk;kernel_rfl
def zqF:entryFor table "set.__iter__"=Ga Builtin.«frozenset.__iter__»:=entryFor_alias (id':="frozenset.__iter__") (by kernel_rfl) rfl (by nofun) (by kernel_rfl)
def zBp{o:Obj}(ho:s.heap.get? a=Ga o)(hex:o.ExactSet)(hd:o.data=.set es ep t)(hf:t.fits es.size=true)(hp:t.plain=true)
  (hQ:Q (.ref s.heap.objs.size) { s with heap:=s.heap.push { cls:=.type "set_iterator",data:=.fields #[.int 0 0,.int 0 0,.ref a,.int es.size 0,.int ep 0] } }):wpAny (model prog w) A (pyIter (.ref a)) Q E s:=by
 have ty:s.TypeIs (.ref a) "set":=⟨o,ho,hex.1⟩;refine wpAny_pyIter_slot ty JF (wpAny_call_entry JF ty zqF ?_ (PySem.F.args_set_iter_1 _));unfold Builtin.«frozenset.__iter__»;refine fk (fq ?_);refine fk ?_;unfold Vy;refine fk (wpAny_setEntries_of ho hd hf (fq ?_));refine fk ?_;unfold setDrawn setsByText;refine fk (wpAny_setState_of ho hd hf ?_);dsimp only;refine fk (fk (wpAny_askSetting (fq ?_)));refine fq ?_;have dr:∀ b:Bool,(b&&(!t.plain&&decide (es.size>1)))=false:=λb=>by rw[hp];cases b<;>rfl
 show wpAny _ _ (if (_&&(!t.plain&&decide (es.size>1)))=true then _ else _) _ _ _;rw[dr,Gf (by decide)];refine fk (fq ?_);refine fk (wpAny_setEpoch_of ho hd hf ?_);exact fk (wpAny_newObj_type (fq ⟨_,rfl,"set_iterator",_,⟨_,jA _ rfl,rfl⟩,Cd.lookup,hQ⟩))
section
variable {prog:Program}{w:World}{A:Around}{E:Gg->Gh->Prop}{s:Gh}
def oM (w:World)(a:Gk)(es:Array (Int×Gg))(ep:Nat)(t:SetTable)(slot given:Nat):Option (Gg×Nat) :=
 if w.params.followText "set-order"=true then((pickOrder (w.params.setOrder a ep) es)[given]?).map λe=>(e.2,slot)
 else match es[SetTable.below t.place slot]?,t.place[SetTable.below t.place slot]? with
  | some (_,x),Ga j=>Ga (x,j+1)
  | _,_=>Gb
variable {o:Obj}{slot:Nat}{it:Gk}{Q:Option Gg->Gh->Prop}
def Qj{given:Nat}{Q:Option (Gg×Nat)->Gh->Prop}(ho:s.heap.get? a=Ga o)(hd:o.data=.set es ep t)(hf:t.fits es.size=true)(hp:t.plain=true)(hl:t.led=lu w)
  (hQ:Q (oM w a es ep t slot given) s):wpAny (model prog w) A (setNext a slot given ep) Q E s:=by
 unfold setNext;refine fk (wpAny_setState_of ho hd hf ?_);dsimp only;unfold setsByText;refine fk (fk (wpAny_askSetting (fq ?_)));show wpAny _ _ (if w.params.followText "set-order"=true then _ else _) _ _ _;unfold oM at hQ;cases hb:w.params.followText "set-order" with
 | true =>
  rw[hb,Ge rfl] at hQ;rw[Ge rfl,Gf (by simp)];unfold setWalk setsByText;refine fk (fk (wpAny_setState_of ho hd hf ?_));dsimp only;refine fk (fk (wpAny_askSetting (fq ?_)));show wpAny _ _ (if w.params.followText "set-order"=true then _ else _) _ _ _;rw[hb,Ge rfl];refine fk (wpAny_askSetting (fq ?_));exact fq hQ
 | false =>
  rw[hb,Gf (by decide)] at hQ;rw[Gf (by decide)];have l1:t.led=true:=by rw[hl];show(!w.params.followText "set-order")=true;rw[hb];rfl
  show wpAny _ _ (if (!t.plain&&decide (es.size>1))=true then _ else _) _ _ _;rw[hp,Gf (by simp)];refine fk ?_;show wpAny _ _ (if (!t.led&&!es.isEmpty)=true then _ else _) _ _ _;rw[l1,Gf (by simp)];refine fq ?_;exact fq hQ
def pI (h:Heap)(it:Gk)(slot i:Nat)(a:Gk)(n ep:Nat):Prop:=∃ o,h.get? it=Ga o/\o.cls=.type "set_iterator"/\o.data=.fields #[.int (slot:Int) 0,.int (i:Int) 0,.ref a,.int (n:Int) 0,.int (ep:Int) 0]
def pI.at' {h':Heap}{n:Nat}(x:pI h it slot i a n ep)(k:∀ o,h.get? it=Ga o->h'.get? it=Ga o):pI h' it slot i a n ep:=let ⟨o,ho,r⟩:=x;⟨o,k _ ho,r⟩
def zyG{nx:Nat}{x:Gg}(hit:pI s.heap it slot i a es.size ep)(ho:s.heap.get? a=Ga o)(hd:o.data=.set es ep t)(hf:t.fits es.size=true)(hp:t.plain=true)(hl:t.led=lu w)
  (hn:oM w a es ep t slot i=Ga (x,nx)) (hQ:∀ h',pI h' it nx (i+1) a es.size ep->uu it s.heap h'->Q (Ga x) { s with heap:=h' }):wpAny (model prog w) A (pyNext (.ref it)) Q E s:=by
 obtain⟨oi,hoi,hc,hdi⟩:=id hit;have ty:s.TypeIs (.ref it) "set_iterator":=⟨oi,hoi,hc⟩;unfold pyNext;refine fk (wpAny_attempt (wpAny_callSpecial?_slot (name:=ja "__next__") ty Cd (wpAny_call_entry Cd ty SD ?_ (Sd _))));unfold Builtin.«set_iterator.__next__»;refine fk (fq ?_);refine fk (wpAny_fieldsOf hoi hdi ?_);show wpAny _ _ (setEntries a >>= _) _ _ s;refine fk (wpAny_setEntries_of ho hd hf ?_);rw[Gf (by simp)];show wpAny _ _ (setNext a (slot:Int).toNat (i:Int).toNat (ep:Int).toNat >>= _) _ _ s;rw[jN,jN,jN];refine fk (Qj ho hd hf hp hl ?_);rw[hn];dsimp only;refine fk (wpAny_setField hoi hdi (by simp) ?_);have g1:=kc (vt (·.setIfInBounds 0 (rawInt (nx:Int)))) hoi (qh (uJ hdi _));have d1:=uJ hdi (·.setIfInBounds 0 (rawInt (nx:Int)));have c1:(vt (·.setIfInBounds 0 (rawInt (nx:Int))) oi).cls=.type "set_iterator":=(qT ..).trans hc;have s1:=kj s.heap it (vt (·.setIfInBounds 0 (rawInt (nx:Int))));generalize s.heap.update it (vt (·.setIfInBounds 0 (rawInt (nx:Int))))=h1 at g1 s1;generalize vt (·.setIfInBounds 0 (rawInt (nx:Int))) oi=o1 at g1 d1 c1;refine fk (wpAny_setField (s:={ s with heap:=h1 }) g1 d1 (by simp) ?_);refine fq ⟨_,rfl,fq (hQ _ ⟨_,kc _ g1 (qh (uJ d1 _)),(qT ..).trans c1,?_⟩ (s1.trans (kj ..)))⟩;rw[uJ d1];simp[rawInt]
def zyH(hh:A.handled=Gb)(hit:pI s.heap it slot i a es.size ep)(ho:s.heap.get? a=Ga o)(hd:o.data=.set es ep t)(hf:t.fits es.size=true)(hp:t.plain=true)(hl:t.led=lu w)
  (hn:oM w a es ep t slot i=Gb) (hQ:∀ h',Heap.ExtBut it s.heap h'->Q Gb { s with heap:=h' }):wpAny (model prog w) A (pyNext (.ref it)) Q E s:=by
 obtain⟨oi,hoi,hc,hdi⟩:=id hit;have ty:s.TypeIs (.ref it) "set_iterator":=⟨oi,hoi,hc⟩;unfold pyNext;refine fk (wpAny_attempt (wpAny_callSpecial?_slot (name:=ja "__next__") ty Cd (wpAny_call_entry Cd ty SD ?_ (Sd _))));unfold Builtin.«set_iterator.__next__»;refine fk (fq ?_);refine fk (wpAny_fieldsOf hoi hdi ?_);show wpAny _ _ (setEntries a >>= _) _ _ s;refine fk (wpAny_setEntries_of ho hd hf ?_);rw[Gf (by simp)];show wpAny _ _ (setNext a (slot:Int).toNat (i:Int).toNat (ep:Int).toNat >>= _) _ _ s;rw[jN,jN,jN];refine fk (Qj ho hd hf hp hl ?_);rw[hn];dsimp only;refine fk (wpAny_setField hoi hdi (by simp) ?_);show wpAny _ _ (newExc (.type "StopIteration") [] >>= _) _ _ _;refine fk ?_;simp only[newExc,newTuple];refine fk (wpAny_newObj_type (fk (m:=firstArgMember _ _) (wpAny_of_eq (a:=jX) (by first|rfl|(simp only[firstArgMember];rfl)) (wpAny_newObj_type ?_ (by size_fits)))) (by size_fits));simp only[raiseNew];refine fk (wpAny_handled ?_);rw[show A.in1.handled=Gb from hh];refine fk (fq (wpAny_throw ?_));refine(fk (wpAny_isInstance (T:="StopIteration") (b:=true) ⟨_,jA _ rfl,rfl⟩ isSubtype_stop ?_));exact fq (hQ _ (((kj ..).extBut.push _).push _))
def TU:Slot "set_iterator" "__iter__" "set_iterator.__iter__" :=
 .of (owner:="set_iterator") (n:="__iter__") (by rw[typeLookup_type,builtinLookup_eq_fast];kernel_rfl) (by nofun) (by nofun) (by nofun) (by first|exact .inl (by nofun)|exact .inr (by nofun)) (by rw[isSubtype_type];kernel_rfl)
def zqG:entryFor table "set_iterator.__iter__"=Ga Builtin.«dict_keyiterator.__iter__»:=entryFor_alias (id':="dict_keyiterator.__iter__") (by kernel_rfl) rfl (by nofun) (by kernel_rfl)
def zrM (a:Gg):argsOk "set_iterator.__iter__" ⟨[a],[]⟩:=by unfold argsOk;kernel_rfl
def zyI{n:Nat}{Q:Gg->Gh->Prop}(hit:pI s.heap it slot i a n ep)(h:Q (.ref it) s):wpAny (model prog w) A (pyIter (.ref it)) Q E s:=by
 obtain⟨oi,hoi,hc,hdi⟩:=id hit;have ty:s.TypeIs (.ref it) "set_iterator":=⟨oi,hoi,hc⟩;refine wpAny_pyIter_slot ty TU (wpAny_call_entry TU ty zqG ?_ (zrM _));show wpAny _ _ (ret (.ref it)) _ _ s;exact fq ⟨_,rfl,"set_iterator",_,ty,Cd.lookup,h⟩
def zyJ {x:Gk}{Q:Bool->Gh->Prop}(hT:s.TypeIs (.ref x) "set")(h:Q false s):wpAny (model prog w) A (kG (.ref x)) Q E s:=by
 unfold kG;refine fk (wpAny_specialOf hT PySem.F.slot_set_len.lookup ?_);generalize hid:("set.__len__":String)=id0
 wp_delta
 rw[show splitId id0=Ga ("set","__len__") from by subst hid;decide +kernel];subst hid;refine fk (wpAny_isInstance (T:="set") (b:=true) hT (by rw[isSubtype_type];kernel_rfl) ?_);refine wpAny_ite_split (λhab=>absurd hab (by decide)) (λ_=>?_);refine wpAny_ite_split (λ_=>?_) (λhab=>absurd (by nofun) hab);refine fk (wpAny_typeOf hT ?_);exact fq h
def nX (w:World)(t:SetTable)(i:Nat):Nat:=if w.params.followText "set-order"=true then 0 else if i=0 then 0 else t.place.getD (i-1) 0+1
def lI (w:World)(a:Gk)(es:Array (Int×Gg))(ep:Nat):Array (Int×Gg):=if w.params.followText "set-order"=true then pickOrder (w.params.setOrder a ep) es else es
def UJ (w:World)(a:Gk)(es:Array (Int×Gg))(ep:Nat):(lI w a es ep).toList.Perm es.toList:=by
 unfold lI;split
 .exact zvJ _ _
 .exact .refl _
def Mq (w:World)(a:Gk)(es:Array (Int×Gg))(ep:Nat):(lI w a es ep).size=es.size:=by
 rw[<- jP,(UJ w a es ep).length_eq,jP]
def Cr (t:SetTable)(i:Nat):Nat:=if i=0 then 0 else t.place.getD (i-1) 0+1
def SH:∀ (led:Bool) (m:Fin 32) (i:Fin 6),i.val<=(hV led m.val).1.size->SetTable.below (hV led m.val).2.place (Cr (hV led m.val).2 i.val)=i.val/\(i.val<(hV led m.val).1.size->(hV led m.val).2.place[i.val]?=Ga ((hV led m.val).2.place.getD i.val 0))/\(hV led m.val).2.place.size=(hV led m.val).1.size:=by nofun
structure CJ (w:World)(a:Gk)(es:Array (Int×Gg))(ep:Nat)(t:SetTable):Prop where
 item:∀ i (hi:i<es.size),∃ e,(lI w a es ep)[i]?=Ga e/\oM w a es ep t (nX w t i) i=Ga (e.2,nX w t (i+1))
 done:oM w a es ep t (nX w t es.size) es.size=Gb
def zvL(hm:m<32)(he:es.size=(hV led m).1.size):CJ w a es ep (hV led m).2:=by
 have sz:=Mq w a es ep;cases hb:w.params.followText "set-order" with
 | true =>
  have wa:lI w a es ep=pickOrder (w.params.setOrder a ep) es:=by unfold lI;rw[hb,Ge rfl]
  have sa:∀ i,nX w (hV led m).2 i=0:=λi=>by unfold nX;rw[hb,Ge rfl]
  have nx:∀ s' i,oM w a es ep (hV led m).2 s' i=((lI w a es ep)[i]?).map λe=>(e.2,s'):=λs' i=>by unfold oM;rw[hb,Ge rfl,wa]
  refine⟨λi hi=>⟨(lI w a es ep)[i]'(by rwa[sz]),kQ (by rwa[sz]),?_⟩,?_⟩
  .rw[nx,sa,sa,kQ (by rwa[sz])];rfl
  .rw[nx,uB (by rw[sz];exact jw _)];rfl
 | false =>
  have wa:lI w a es ep=es:=by unfold lI;rw[hb,Gf (by decide)]
  have sa:∀ i,nX w (hV led m).2 i=Cr (hV led m).2 i:=λi=>by unfold nX Cr;rw[hb,Gf (by decide)]
  have nx:∀ s' i,oM w a es ep (hV led m).2 s' i=match es[SetTable.below (hV led m).2.place s']?,(hV led m).2.place[SetTable.below (hV led m).2.place s']? with
   | some (_,x),Ga j=>Ga (x,j+1)
   | _,_=>Gb:=λs' i=>by unfold oM;rw[hb,Gf (by decide)]
  have f4:=(Hg led ⟨m,hm⟩).2.2.2.1;dsimp only at f4;refine⟨λi hi=>⟨es[i],by rw[wa];exact kQ hi,?_⟩,?_⟩
  .obtain⟨b1,b2,b3⟩:=SH led ⟨m,hm⟩ ⟨i,by omega⟩ (by dsimp only;omega);dsimp only at b1 b2 b3;rw[nx,sa,sa,b1,b2 (by omega),kQ hi];rfl
  .obtain⟨b1,b2,b3⟩:=SH led ⟨m,hm⟩ ⟨es.size,by omega⟩ (by dsimp only;omega);dsimp only at b1 b2 b3;rw[nx,sa,b1,uB (jw _)]
def zvM (hh:A.handled=Gb)(I a:Gk)(hne:a≠I)(es:Array (Int×Gg))(ep:Nat)(t:SetTable)(hf:t.fits es.size=true)(hp:t.plain=true)(hl:t.led=lu w)(W:CJ w a es ep t) :
  Walks prog w A I [I,a] [I] es.size (λi v=>∃ e,(lI w a es ep)[i]?=Ga e/\v=e.2) (λi h=>pI h I (nX w t i) i a es.size ep/\∃ o,h.get? a=Ga o/\o.data=.set es ep t) where
 sub:=λb hb=>by simp at hb;simp[hb]
 frame:=λ_ _ _ st hk=>⟨st.1.at' λo e=>hk I (by simp) o e,let ⟨o,ho,r⟩:=st.2;⟨o,hk a (by simp) o ho,r⟩⟩
 item:=λi s Q E hi st hQ=>by
  obtain⟨e,e1,e2⟩:=W.item i hi;obtain⟨o,ho,hd⟩:=st.2;refine zyG st.1 ho hd hf hp hl e2 λh' hit' hs'=>?_;exact hQ _ h' s.toks ⟨e,e1,rfl⟩ ⟨hit',o,(hs'.2 a hne).trans ho,hd⟩ λb o hb eo=>hs'.extBut b o (λh=>hb (by simp[h])) eo
 done:=λs Q E st hQ=>by
  obtain⟨o,ho,hd⟩:=st.2;exact zyH hh st.1 ho hd hf hp hl W.done λh' he'=>hQ h' s.toks λb o hb eo=>he' b o (λh=>hb (by simp[h])) eo
 self:=λ_ _ _ _ st hQ=>zyI st.1 hQ
def Zr {d:Gk}{Q:List Gg->Gh->Prop}(hh:A.handled=Gb)(ho:s.heap.get? d=Ga o)(hex:o.ExactSet)(hd:o.data=.set es ep t)(hf:t.fits es.size=true)(hp:t.plain=true)(hl:t.led=lu w)(W:CJ w d es ep t)(hn:es.size<=sizeLine)
  (hQ:∀ h' tk acc,(∀ b o,s.heap.get? b=Ga o->h'.get? b=Ga o)->(∃ o,h'.get? s.heap.objs.size=Ga o)->ItemsOf (λi v=>∃ e,(lI w d es ep)[i]?=Ga e/\v=e.2) acc es.size->Q acc.toList { s with heap:=h',toks:=tk }) :
  wpAny (model prog w) A (collect (.ref d)) Q E s:=by
 have hlt:d<s.heap.objs.size:=jy ho;unfold collect;refine fk (wpAny_runValue (codeAny_builtin entry_proto_collect' ?_));show wpAny _ _ (do again (.builtin "list.__iadd__" ⟨[<- newList [],.ref d],[]⟩)) _ _ s;refine fk (wpAny_newList (fq ⟨Code.quiet_builtin _ (by nofun),codeAny_builtin entry_list_iadd' ?_⟩));show wpAny _ _ (km (.ref s.heap.objs.size) (.ref d) (.ref s.heap.objs.size)) _ _ { s with heap:=s.heap.push (seqObj "list" #[] 0) };have n1:(s.heap.push (seqObj "list" #[] 0)).get? s.heap.objs.size=Ga { cls:=.type "list",data:=.seq #[] 0 }:=jA _ rfl;have kp:∀ b o,s.heap.get? b=Ga o->(s.heap.push (seqObj "list" #[] 0)).get? b=Ga o:=λb o e=>jj _ e;generalize s.heap.push (seqObj "list" #[] 0)=h1 at n1 kp;have hd1:h1.get? d=Ga o:=kp d o ho;unfold km;refine fk (wpAny_typeOf (s:={ s with heap:=h1 }) (T:="set") ⟨o,hd1,hex.1⟩ ?_);rw[show ud (.ref s.heap.objs.size) (.ref d)=false from by simp[ud,uA hlt]];simp only[show(ue "set"==ue "list")=false by decide,show(ue "set"==ue "tuple")=false by decide,vp,kU,if_false];refine fk (zBp (s:={ s with heap:=h1 }) hd1 hex hd hf hp ?_);generalize hob:({ cls:=.type "set_iterator",data:=.fields #[.int 0 0,.int 0 0,.ref d,.int es.size 0,.int ep 0] }:Obj)=ob;have kp2:∀ b o,h1.get? b=Ga o->(h1.push ob).get? b=Ga o:=λb o e=>jj _ e;have s0:nX w t 0=0:=by unfold nX;split<;>simp
 have it0:pI (h1.push ob) h1.objs.size (nX w t 0) 0 d es.size ep:=⟨_,by subst hob;exact jA _ rfl,by subst hob;rfl,by subst hob;rw[s0];rfl⟩;have dI:d≠h1.objs.size:=jL (jy hd1);have sI:s.heap.objs.size≠h1.objs.size:=jL (jy n1);have hd2:=kp2 _ _ hd1;have n2:=kp2 _ _ n1;show wpAny _ _ _ _ _ { s with heap:=h1.push ob };generalize h1.push ob=h2 at kp2 it0 hd2 n2;refine fk (wpAny_holding (zyJ (s:={ s with heap:=h2 }) ⟨o,hd2,hex.1⟩ ?_));refine wpAny_ite_split (λ_=>?_) λz=>absurd (by decide) z;refine fk (wpAny_rule (fk ?_));show wpAny _ _ (updateSeq s.heap.objs.size (·.push .none) >>= λ_=>updateSeq s.heap.objs.size (·.pop)) _ _ _;refine fk (wpAny_updateSeq n2 rfl ?_);have n3:=kc (jW (·.push jX)) n2 rfl;refine wpAny_updateSeq (hz:=by seq_fits) n3 rfl ?_;have n4:=kc (jW (·.pop)) n3 rfl;have kp3:∀ b o,b≠s.heap.objs.size->h2.get? b=Ga o->((h2.update s.heap.objs.size (jW (·.push jX))).update s.heap.objs.size (jW (·.pop))).get? b=Ga o :=
  λb o hb e=>(kS _ _ (ur hb)).trans ((kS _ _ (ur hb)).trans e)
 have it4:=it0.at' λo e=>kp3 _ o (ur sI) e;have hd4:=kp3 _ _ (jL hlt) hd2;generalize (h2.update s.heap.objs.size (jW (·.push jX))).update s.heap.objs.size (jW (·.pop))=h4 at n4 kp3 it4 hd4;refine fq ⟨plainId_quiet PySem.F.plain_extend_loop _,?_⟩;have W:=(zvM (prog:=prog) (w:=w) (A:=A.in1) (show A.in1.handled=Gb from hh) h1.objs.size d dI es ep t hf hp hl W).toS;refine codeAny_extend_loopS W hn s.heap.objs.size ?_ _ es.size 0 { s with heap:=h4 } #[] _ rfl (kh _) ⟨it4,o,hd4,hd⟩ n4 (ItemsOf.nil _) λs' acc c m nn it=>?_
 .simp only[jo,j8,or_false,not_or];exact⟨sI,uA hlt⟩
 .show wpAny _ A (load s.heap.objs.size >>= _) _ _ s';refine fk (wpAny_load nn (fq ?_));rw[Moved.eq_with m] at nn ⊢;refine hQ s'.heap s'.toks acc (λb o e=>m.heap b o (λz=>?_) (kp3 _ _ (jL (jy e)) (kp2 _ _ (kp b o e)))) ⟨_,nn⟩ it;simp only[jo,j8,or_false] at z;rcases z with z|z
  .exact absurd (jy e) (by rw[z];exact kb _)
  .exact absurd (jy (kp b o e)) (by rw[z];exact kb _)
end
def Mr:D->Option Nat
 | .int i=>if 0<=i/\i<5 then Ga i.toNat else Gb
 | _=>Gb
def tM:List D->Option (List Nat)
 | []=>Ga []
 | d::r=>(Mr d).bind λk=>(tM r).bind λl=>Ga (k::l)
def sL (l:List Nat):List D:=(rG l).map λ(k:Nat)=>jd (k:Int)
def Pn (f:FL):FL:=λψ=>(f ψ).bind λds=>(tM ds).bind λl=>Ga (sL l)
def pj (l:List Nat):Nat:=oJ (λi=>l.getD i 0) l.length
def TC (val:Nat->Nat)(k:Nat):∀ n,(oJ val n).testBit k=(jq n).any λi=>val i==k
 | 0=>by show(0:Nat).testBit k=_;simp
 | n+1=>by
  show(oJ val n ||| 2^val n).testBit k=_;rw[Nat.testBit_or,TC val k n,Vo,List.any_append,Nat.testBit_two_pow];rw[vT,List.any_nil,vp]
  congr 1
def zyK (l:List Nat)(k:Nat):(pj l).testBit k=l.contains k:=by
 unfold pj;rw[TC];apply jQ.mpr;rw[u8,kK];constructor
 .rintro⟨i,hi,e⟩;have hi:=jF.mp hi;rw[beq_iff_eq,ji,jg hi] at e;rw[<- show l[i]=k from e];exact k0 hi
 .intro h;obtain⟨i,hi,e⟩:=List.mem_iff_getElem.mp h;refine⟨i,jF.mpr hi,?_⟩;rwa[beq_iff_eq,ji,jg hi]
def zBq (l:List Nat)(h:∀ k∈l,k<5):pj l<32:=by
 refine Kz (λi=>?_) _;rw[ji];cases q:l[i]? with
 | none=>show 0<5;decide
 | some k=>exact h k (j5 q)
def zvN (l:List Nat):((jq 5).filter λk=>(pj l).testBit k)=rG l:=by
 unfold rG
 congr 1
 funext k
 exact zyK l k
def MW:∀ (n:Nat) (l:List Nat),l.Nodup->(∀ x∈l,x<5)->l.length<=n->l∈Cp n
 | 0,l,_,_,h=>by
  have:l=[]:=v9.mp (by omega);subst this;exact jn.mpr rfl
 | n+1,[],_,_,_=>jf
 | n+1,k::l,hd,h5,hl=>by
  have hd2:=kO.mp hd;refine jk _ (Ve.mpr ⟨k,jF.mpr (h5 k jf),jr.mpr ⟨l,jY.mpr ⟨MW n l hd2.2 (λx hx=>h5 x (jk _ hx)) (by simp at hl;omega),?_⟩,rfl⟩⟩);rw[kX,<- vJ,kK];exact hd2.1
def sw {l:List Nat}(hd:l.Nodup)(h5:∀ x∈l,x<5)(hl:l.length<=5):iU (l.map λ(k:Nat)=>jd (k:Int))=Ga (sL l):=by
 have:=jR.mp XE l (MW 5 l hd h5 hl);rw[beq_iff_eq] at this;obtain⟨rs,e1,e2⟩:=ft this;rw[e1,GP e2,jE];rfl
def Xa (hc:X.calm=true):iH X (.type "set") (λvs H Q=>∃ (p:Gk) (l:List Nat),vs=[.ref p]/\hZ X.K H p (l.map λ(k:Nat)=>V.int (k:Int))/\(∀ k∈l,k<5)/\∀ a,H a=Gb->Q (.ref a) (fH H a (.ext λh=>CS h a (lu X.w) (pj l)))):=by
 intro ω s σ H vs us Q I r h;obtain⟨p,l,rfl,hl,h5,q⟩:=h;obtain⟨u,rfl,ru⟩:=mf r;cases ru;obtain⟨its,rv,pl,hz⟩:=I.list hl;have hlen:its.length=l.length:=by rw[<- rv.length,jc]
 refine zBo (its:=its.toArray) (val:=λi=>l.getD i 0) (I.ok.hd hc) pl.isList (λi=>?_) (λi v hv=>?_) λh' tk cs keep=>?_
 .rw[ji];cases q:l[i]? with
  | none=>show 0<5;decide
  | some k=>exact h5 k (j5 q)
 .have hi:i<l.length:=by
   rw[<- hlen];have:=(Array.getElem?_eq_some_iff.mp hv).1
   simpa using this
  have e1:(l.map λ(k:Nat)=>V.int (k:Int))[i]?=Ga (V.int (l[i]:Int)):=by rw[jz,jg hi];rfl
  obtain⟨u,e2,ru⟩:=rv.get e1;rw[qi,e2] at hv;cases hv;rwa[ji,jg hi]
 .have cs':CS h' s.heap.objs.size (lu X.w) (pj l):=by
   unfold pj;rwa[<- hlen,<- jv]
  have ex:∃ o,h'.get? s.heap.objs.size=Ga o:=by obtain⟨_,⟨o,_,ho,_⟩,_⟩:=cs;exact⟨o,ho⟩
  refine⟨.ref _,_,I.laid (t':=tk) (o:=.ext λh=>CS h s.heap.objs.size (lu X.w) (pj l)) (λb u hb=>keep b u (jy hb) hb) (jw _) ⟨cs',ex,λh1 h2 c k=>c.keep k⟩,rfl,q _ (I.hok.fresh (jw _))⟩
def ztS (hc:X.calm=true):iH X (.builtin "sorted") (λvs H Q=>∃ (F:Hp) (p:Gk) (m:Nat),vs=[.ref p]/\fw F H/\m<32/\H p=Ga (.ext λh=>CS h p (lu X.w) m)/\∀ a ys,H a=Gb->fL X.K F (((jq 5).filter λk=>m.testBit k).map λ(k:Nat)=>jd (k:Int)) ys->Q (.ref a) (fH H a (.lst ys))):=by
 intro ω s σ H vs us Q I r h;obtain⟨F,p,m,rfl,g,hm,hp,q⟩:=h;obtain⟨u,rfl,ru⟩:=mf r;cases ru;obtain⟨es,⟨o,ep,ho,hex,hd⟩,he,hv⟩:CS s.heap p (lu X.w) m:=(I.hok _ _ hp).1;obtain⟨f1,f2,f3,f4,f5⟩:=Hg (lu X.w) ⟨m,hm⟩;dsimp only at f1 f2 f3 f4 f5;have hsz:es.size=(hV (lu X.w) m).1.size:=by rw[<- he,vF]
 have fs:=CS.fst (h:=s.heap) (a:=p) hm he;have W:=zvL (w:=X.w) (a:=p) (ep:=ep) hm hsz;have wp:=UJ X.w p es ep;have key:∃ l:List Nat,l.Nodup/\(∀ x∈l,x<5)/\l.length<=5/\rG l=((jq 5).filter λk=>m.testBit k)/\fV (l.map λ(k:Nat)=>V.int (k:Int)) ((lI X.w p es ep).toList.map (·.2)):=by
  have pm:((lI X.w p es ep).toList.map λe=>e.1.toNat).Perm ((jq 5).filter λk=>m.testBit k):=by
   have:=(wp.map λe:Int×Gg=>e.1.toNat);refine this.trans ?_;have e2:es.toList.map (λe=>e.1.toNat)=(es.toList.map (·.1)).map Vz:=by rw[jE];rfl
   rw[e2,fs,jE];have:(Vz∘λ(k:Nat)=>(k:Int))=id:=by funext k;exact jN k
   rw[this,List.map_id]
  have nd:((jq 5).filter λk=>m.testBit k).Nodup:=(List.nodup_range).filter _;refine⟨(lI X.w p es ep).toList.map λe=>e.1.toNat,pm.nodup_iff.mpr nd,λx hx=>?_,?_,?_,?_⟩
  .exact jF.mp (jY.mp (pm.mem_iff.mp hx)).1
  .rw[jc,jP,Mq];omega
  .unfold rG;refine qf λk hk=>?_;apply jQ.mpr;rw[kK,pm.mem_iff,jY];exact⟨λz=>z.2,λz=>⟨hk,z⟩⟩
  .have hv2:∀ e∈(lI X.w p es ep).toList,∃ tk,e.2=.int (e.1.toNat:Int) tk:=λe hm2=>by
    have hm3:=wp.mem_iff.mp hm2;obtain⟨tk,et⟩:=hv e hm3;have:e.1∈es.toList.map (·.1):=jr.mpr ⟨e,hm3,rfl⟩;rw[fs] at this;obtain⟨j,_,ej⟩:=jr.mp this;refine⟨tk,?_⟩;rw[et,<- ej,jN]
   generalize (lI X.w p es ep).toList=L at hv2;induction L with
   | nil=>exact .nil
   | cons e L ih=>exact .cons (hv2 e jf) (ih λe h=>hv2 e (jk _ h))
 obtain⟨l,nd,h5,hl,hr,rv⟩:=key;have e:=sw nd h5 hl;have rr:fL X.K F (l.map λ(k:Nat)=>jd (k:Int)) (l.map λ(k:Nat)=>V.int (k:Int)):=by
  have:=HD (K:=X.K) (F:=F) (l.map λ(k:Nat)=>(k:Int));rw[jE,jE] at this;exact this
 refine zvF I g rv rr e (λA' Q' E' ha k=>Zr (by rw[ha];exact I.ok.hd hc) ho hex hd (by rw[hsz];exact f3) f1 f2 W (by rw[hsz,sizeLine_eq];omega) λh' tk acc k1 k2 it=>?_) λa ys ha ry=>q a ys ha (by unfold sL at ry;rw[hr] at ry;exact ry);have:acc.toList=(lI X.w p es ep).toList.map (·.2):=by
  refine List.ext_getElem? λi=>?_;rw[jz];by_cases hi:i<es.size
  .have ha:i<acc.size:=by rwa[it.1]
   obtain⟨en,e1,e2⟩:=it.2 i acc[i] (kQ ha);rw[kJ,kJ,kQ ha,e1,e2];rfl
  .rw[kJ,kJ,uB (by rw[it.1];omega),uB (by rw[Mq];omega)];rfl
 rw[this];exact k h' tk k1 k2
def ZS:bootBuiltins "set"=Ga (.type "set"):=by nofun
def Tn {K:jb}{F:Hp}:∀ {ds:List D} {xs:List V} {l:List Nat},tM ds=Ga l->fL K F ds xs->xs=l.map (λ(k:Nat)=>V.int (k:Int))/\∀ k∈l,k<5
 | [],_,_,e,.nil=>by cases e;exact⟨rfl,λk h=>by cases h⟩
 | d::r,_,_,e,.cons h t=>by
  obtain⟨k,e1,e⟩:=ft e;obtain⟨l,e2,e⟩:=ft e;cases e;obtain⟨i1,i2⟩:=Tn e2 t;obtain⟨i,rfl⟩:∃ i,d=.int i:=by cases d<;>first|exact⟨_,rfl⟩|(exact absurd e1 (by intro z;cases z))
  have e1':(if 0<=i/\i<5 then Ga i.toNat else Gb)=Ga k:=e1;split at e1'
  .rename_i c;cases e1';cases h;refine⟨?_,λk hk=>?_⟩
   .rw[jO,<- i1]
    congr 2
    omega
   .rcases jo.mp hk with z|z
    .omega
    .exact i2 k z
  .cases e1'
def zvP{f:FL}{pos2:Pos}(hc:X.calm=true)(hg:Gl X "sorted")(hm:X.mg "sorted"=Gb)(hg2:Gl X "set")(hm2:X.mg "set"=Gb)(ha:tX X e f)(hs:starEach [e] X.env=[(false,eval e X.env)]:=by rfl)
  (hs2:starEach [.Call (.Name "set" p2) [e] [] pos2] X.env=[(false,eval (.Call (.Name "set" p2) [e] [] pos2) X.env)]:=by rfl):PO X (.Call (.Name "sorted" p) [.Call (.Name "set" p2) [e] [] pos2] [] pos) (Pn f):=by
 refine ia (BZ (ztS hc) hg hm boot_sorted (Ae (Xa hc) hg2 hm2 ZS ha (hs:=hs)) (hs:=hs2)) λσ H Q=>?_;rintro⟨H0,F,ψ,rs,r,e,q⟩;obtain⟨ds,e1,e⟩:=ft e;obtain⟨l,e2,e⟩:=ft e;cases e;refine⟨H0,F,ψ,ds,r,e1,λb xs H1 F1 g1 f1 fh1 n1 hl rr=>?_⟩;obtain⟨rfl,h5⟩:=Tn e2 rr;refine⟨b,l,rfl,hl,h5,λa ha=>⟨F1,a,pj l,rfl,fh1.trans (fw.new ha),zBq l h5,fI,λa2 ys ha2 ry=>?_⟩⟩;have s1:fw H1 (fH H1 a (.ext λh=>CS h a (lu X.w) (pj l))):=fw.new ha;have s2:fw (fH H1 a (.ext λh=>CS h a (lu X.w) (pj l))) (fH (fH H1 a (.ext λh=>CS h a (lu X.w) (pj l))) a2 (.lst ys)):=fw.new ha2;rw[zvN] at ry;exact q a2 ys _ F1 (g1.trans (s1.trans s2)) f1 (fh1.trans (s1.trans s2)) n1 (g1.free (s1.free ha2)) (fh1.free (s1.free ha2)) fI ry
noncomputable def AK (f:FV):FS:=λψ=>(f ψ).bind λd=>Ga (.rc d ψ)
def XT(h:PV X e f):mo X (.Return (Ga e) pos) (AK f):=by
 refine nO (xy h) λE σ H=>?_;rintro⟨H0,F,ψ,o,r,e,p⟩;obtain⟨d,e1,e⟩:=ft e;cases e;exact⟨H0,F,ψ,d,r,e1,λv H' F' g f1 fh n rv=>p v σ H' F' f1 (n.dn r.h0) (r.grow g f1 fh n) rv⟩
abbrev FA:=En->Option (List Arg)
noncomputable section
def fx (d:D):FV:=λψ=>Ga d
def zDy (d:D)(ψ:En):fx d ψ=Ga d:=(rfl)
def fv (op:D->D->Option D)(f g:FV):FV:=λψ=>(f ψ).bind λx=>(g ψ).bind λy=>op x y
def zDz (op:D->D->Option D)(f g:FV)(ψ:En):fv op f g ψ=(f ψ).bind λx=>(g ψ).bind λy=>op x y:=(rfl)
def gi (op:D->Option D)(f:FV):FV:=λψ=>(f ψ).bind op
def zGd (op:D->Option D)(f:FV)(ψ:En):gi op f ψ=(f ψ).bind op:=(rfl)
def mR (op:List D->Option D)(f:FL):FV:=λψ=>(f ψ).bind op
def zDA (op:List D->Option D)(f:FL)(ψ:En):mR op f ψ=(f ψ).bind op:=(rfl)
def oE (f:FV):FB:=λψ=>(f ψ).bind zC
def Yo (f:FV)(ψ:En):oE f ψ=(f ψ).bind zC:=(rfl)
def gz (op:D->D->Option D)(f g:FV):FB:=λψ=>((f ψ).bind λx=>(g ψ).bind λy=>op x y).bind hJ
def zBr (op:D->D->Option D)(f g:FV)(ψ:En):gz op f g ψ=((f ψ).bind λx=>(g ψ).bind λy=>op x y).bind hJ:=(rfl)
def pJ (f:FB):FB:=λψ=>(f ψ).bind λc=>Ga (!c)
def zBs (f:FB)(ψ:En):pJ f ψ=(f ψ).bind λc=>Ga (!c):=(rfl)
def Eo (f g:FB):FB:=λψ=>(f ψ).bind λc=>if c then g ψ else Ga false
def Zq (f g:FB)(ψ:En):Eo f g ψ=(f ψ).bind λc=>if c then g ψ else Ga false:=(rfl)
def oF (f g:FB):FB:=λψ=>(f ψ).bind λc=>if c then Ga true else g ψ
def zDC (f g:FB)(ψ:En):oF f g ψ=(f ψ).bind λc=>if c then Ga true else g ψ:=(rfl)
def yS (f g:FV):FV:=λψ=>((f ψ).bind hJ).bind λc=>if c then g ψ else Ga (.bool false)
def zBu (f g:FV)(ψ:En):yS f g ψ=((f ψ).bind hJ).bind λc=>if c then g ψ else Ga (.bool false):=(rfl)
def Iy (f g:FV):FV:=λψ=>((f ψ).bind hJ).bind λc=>if c then Ga (.bool true) else g ψ
def zDD (f g:FV)(ψ:En):Iy f g ψ=((f ψ).bind hJ).bind λc=>if c then Ga (.bool true) else g ψ:=(rfl)
def SM (f:FV):FV:=λψ=>((f ψ).bind hJ).bind λc=>Ga (.bool (!c))
def zBv (f:FV)(ψ:En):SM f ψ=((f ψ).bind hJ).bind λc=>Ga (.bool (!c)):=(rfl)
def Fo (c:FB)(f g:FV):FV:=λψ=>(c ψ).bind λk=>if k then f ψ else g ψ
def Zi (c:FB)(f g:FV)(ψ:En):Fo c f g ψ=(c ψ).bind λk=>if k then f ψ else g ψ:=(rfl)
def Ej (k k':D->D->Option D)(f g h:FV):FV:=λψ=>(f ψ).bind λx=>(g ψ).bind λy=>((k x y).bind hJ).bind λt=>if t then(h ψ).bind λz=>k' y z else Ga (.bool false)
def zvR (k k':D->D->Option D)(f g h:FV)(ψ:En):Ej k k' f g h ψ=(f ψ).bind λx=>(g ψ).bind λy=>((k x y).bind hJ).bind λt=>if t then(h ψ).bind λz=>k' y z else Ga (.bool false):=(rfl)
def Ei (k k':D->D->Option D)(f g h:FV):FB:=λψ=>((f ψ).bind λx=>(g ψ).bind λy=>((k x y).bind hJ).bind λt=>if t then(h ψ).bind λz=>k' y z else Ga (.bool false)).bind hJ
def Yz (k k':D->D->Option D)(f g h:FV)(ψ:En):Ei k k' f g h ψ=((f ψ).bind λx=>(g ψ).bind λy=>((k x y).bind hJ).bind λt=>if t then(h ψ).bind λz=>k' y z else Ga (.bool false)).bind hJ:=(rfl)
def gc :FL:=λψ=>Ga []
def zBw  (ψ:En):gc ψ=Ga []:=(rfl)
def fE (f:FV)(g:FL):FL:=λψ=>(f ψ).bind λd=>(g ψ).bind λds=>Ga (d::ds)
def YW (f:FV)(g:FL)(ψ:En):fE f g ψ=(f ψ).bind λd=>(g ψ).bind λds=>Ga (d::ds):=(rfl)
def tt (g:FL):FV:=λψ=>(g ψ).bind λds=>Ga (.tuple ds)
def YY (g:FL)(ψ:En):tt g ψ=(g ψ).bind λds=>Ga (.tuple ds):=(rfl)
def mP (g:FL):FV:=λψ=>(g ψ).bind λds=>Ga (.list ds)
def zBy (g:FL)(ψ:En):mP g ψ=(g ψ).bind λds=>Ga (.list ds):=(rfl)
def fT (fm:List D->Option D)(g:FL):FV:=λψ=>(g ψ).bind fm
def zyN (fm:List D->Option D)(g:FL)(ψ:En):fT fm g ψ=(g ψ).bind fm:=(rfl)
def MB (fm:List D->Option (List D))(g:FL):FL:=λψ=>(g ψ).bind fm
def zyO (fm:List D->Option (List D))(g:FL)(ψ:En):MB fm g ψ=(g ψ).bind fm:=(rfl)
def yn (f:FV):FL:=λψ=>(f ψ).bind BS
def zDG (f:FV)(ψ:En):yn f ψ=(f ψ).bind BS:=(rfl)
def Di (f:FV):FL:=λψ=>(f ψ).bind toS
def zBz (f:FV)(ψ:En):Di f ψ=(f ψ).bind toS:=(rfl)
def nJ (op:D->Option (List D))(f:FV):FL:=λψ=>(f ψ).bind op
def Yl (op:D->Option (List D))(f:FV)(ψ:En):nJ op f ψ=(f ψ).bind op:=(rfl)
def BC (op:D->D->Option (List D))(f g:FV):FL:=λψ=>(f ψ).bind λx=>(g ψ).bind λy=>op x y
def zBB (op:D->D->Option (List D))(f g:FV)(ψ:En):BC op f g ψ=(f ψ).bind λx=>(g ψ).bind λy=>op x y:=(rfl)
def Uu (f:FL):FL:=λψ=>(f ψ).bind iU
def zyP (f:FL)(ψ:En):Uu f ψ=(f ψ).bind iU:=(rfl)
def ym :FP:=λψ=>Ga Gb
def zDH  (ψ:En):ym ψ=Ga Gb:=(rfl)
def ze (f:FV):FP:=λψ=>(f ψ).bind GX
def zyQ (f:FV)(ψ:En):ze f ψ=(f ψ).bind GX:=(rfl)
def gA :FS:=λψ=>Ga (.nx ψ)
def zDI  (ψ:En):gA ψ=Ga (.nx ψ):=(rfl)
def pX :FS:=λψ=>Gb
def zBC  (ψ:En):pX ψ=Gb:=(rfl)
noncomputable def fK (g k:FS):FS:=λψ=>mK (g ψ) k
def zBD (g k:FS)(ψ:En):fK g k ψ=mK (g ψ) k:=(rfl)
noncomputable def im (f:FV):FS:=λψ=>(f ψ).bind λd=>Ga (.rt d)
def ZA (f:FV)(ψ:En):im f ψ=(f ψ).bind λd=>Ga (.rt d):=(rfl)
def Qn (f:FL):FS:=λψ=>(f ψ).bind λd=>Ga (.ro d)
def zBF (f:FL)(ψ:En):Qn f ψ=(f ψ).bind λd=>Ga (.ro d):=(rfl)
def gP (c:FB)(g k:FS):FS:=λψ=>(c (frz ψ)).bind λt=>if t then g ψ else k ψ
def zDK (c:FB)(g k:FS)(ψ:En):gP c g k ψ=(c (frz ψ)).bind λt=>if t then g ψ else k ψ:=(rfl)
def gR (i:Nat)(f:FV):FS:=λψ=>(f ψ).bind λd=>Ga (.nx (ψ.set i (.val d)))
def zBG (i:Nat)(f:FV)(ψ:En):gR i f ψ=(f ψ).bind λd=>Ga (.nx (ψ.set i (.val d))):=(rfl)
def nh (i:Nat)(f:FL):FS:=λψ=>(f ψ).bind λd=>Ga (.nx (ψ.set i (.own d)))
def XI (i:Nat)(f:FL)(ψ:En):nh i f ψ=(f ψ).bind λd=>Ga (.nx (ψ.set i (.own d))):=(rfl)
def oS (i:Nat)(g:FS):FS:=λψ=>(g ψ).bind λo=>Ga (Ap i o)
def zBI (i:Nat)(g:FS)(ψ:En):oS i g ψ=(g ψ).bind λo=>Ga (Ap i o):=(rfl)
def UG (i:Nat)(g:FS):FS:=λψ=>g (frzAt i ψ)
def ZF (i:Nat)(g:FS)(ψ:En):UG i g ψ=g (frzAt i ψ):=(rfl)
def rV (i:Nat)(f:FV):FS:=λψ=>(go i ψ).bind λds=>(f ψ).bind λd=>if ds.length<1000000 then Ga (.nx (ψ.set i (.own (ds++[d])))) else Gb
def zBK (i:Nat)(f:FV)(ψ:En):rV i f ψ=(go i ψ).bind λds=>(f ψ).bind λd=>if ds.length<1000000 then Ga (.nx (ψ.set i (.own (ds++[d])))) else Gb:=(rfl)
def sd (f:FL)(t:FT)(g:FS):FS:=λψ=>(f ψ).bind λds=>gk t g ds ψ
def zBL (f:FL)(t:FT)(g:FS)(ψ:En):sd f t g ψ=(f ψ).bind λds=>gk t g ds ψ:=(rfl)
def iE (i:Nat):FT:=λd ψ=>Ga (ψ.set i (.val d))
def Iw:sn:=λds ψ=>match ds with|[]=>Ga ψ|_=>Gb
def zK (t:FT)(u:sn):sn:=λds ψ=>match ds with|d::r=>(t d ψ).bind λenv1=>u r env1|[]=>Gb
def rN (u:sn):FT:=λd ψ=>(BJ d).bind λds=>u ds ψ
def ZO (i:Nat)(d:D)(ψ:En):iE i d ψ=Ga (ψ.set i (.val d)):=(rfl)
def zyR (ψ:En):Iw [] ψ=Ga ψ:=(rfl)
def Ys (t:FT)(u:sn)(d:D)(r:List D)(ψ:En):zK t u (d::r) ψ=(t d ψ).bind λenv1=>u r env1:=(rfl)
def Zl (u:sn)(d:D)(ψ:En):rN u d ψ=(BJ d).bind λds=>u ds ψ:=(rfl)
def XR (d:D)(k:FS):mK (Ga (.rt d)) k=Ga (.rt d):=(rfl)
def XN (e:En)(k:FS):mK (Ga (.nx e)) k=k e:=(rfl)
def ztW:frz []=[]:=(rfl)
def zrO (s:Sl)(e:En):frz (s::e)=nG s::frz e:=(rfl)
def Xl:nG .no=.no:=(rfl)
def Xj (d:D):nG (.val d)=.val d:=(rfl)
def zvW (d:List D):nG (.own d)=.val (.list d):=(rfl)
def zDO (d:D)(e:En):gv 0 (.val d::e)=Ga d:=(rfl)
def zDP (x:Sl)(e:En):nY (x::e)[0]?=nY (Ga x):=(rfl)
def Zt (a0:Sl)(d:D)(e:En):gv 1 (a0::.val d::e)=Ga d:=(rfl)
def zDR (a0:Sl)(d:List D)(e:En):go 1 (a0::.own d::e)=Ga d:=(rfl)
def zDS (a0:Sl)(d:List D)(e:En):gl 1 (a0::.own d::e)=Ga d:=(rfl)
def Zc (a0:Sl)(x s:Sl)(e:En):List.set (a0::x::e) 1 s=a0::s::e:=(rfl)
def zDT (a0:Sl)(d:List D)(e:En):frzAt 1 (a0::.own d::e)=a0::.val (.list d)::e:=(rfl)
def YF (a0:Sl)(x:Sl)(e:En):nY (a0::x::e)[1]?=nY (Ga x):=(rfl)
def zDV (a0 a1:Sl)(d:D)(e:En):gv 2 (a0::a1::.val d::e)=Ga d:=(rfl)
def zBN (a0 a1:Sl)(x s:Sl)(e:En):List.set (a0::a1::x::e) 2 s=a0::a1::s::e:=(rfl)
def zDW (a0 a1:Sl)(d:List D)(e:En):frzAt 2 (a0::a1::.own d::e)=a0::a1::.val (.list d)::e:=(rfl)
def Zd (a0 a1:Sl)(x:Sl)(e:En):nY (a0::a1::x::e)[2]?=nY (Ga x):=(rfl)
def zDY (a0 a1 a2:Sl)(d:D)(e:En):gv 3 (a0::a1::a2::.val d::e)=Ga d:=(rfl)
def zDZ (a0 a1 a2:Sl)(d:List D)(e:En):go 3 (a0::a1::a2::.own d::e)=Ga d:=(rfl)
def zD0 (a0 a1 a2:Sl)(d:List D)(e:En):gl 3 (a0::a1::a2::.own d::e)=Ga d:=(rfl)
def zBO (a0 a1 a2:Sl)(x s:Sl)(e:En):List.set (a0::a1::a2::x::e) 3 s=a0::a1::a2::s::e:=(rfl)
def zD1 (a0 a1 a2:Sl)(d:List D)(e:En):frzAt 3 (a0::a1::a2::.own d::e)=a0::a1::a2::.val (.list d)::e:=(rfl)
def YI (a0 a1 a2:Sl)(x:Sl)(e:En):nY (a0::a1::a2::x::e)[3]?=nY (Ga x):=(rfl)
def zD3 (a0 a1 a2 a3:Sl)(d:D)(e:En):gv 4 (a0::a1::a2::a3::.val d::e)=Ga d:=(rfl)
def ZI (a0 a1 a2 a3:Sl)(d:List D)(e:En):go 4 (a0::a1::a2::a3::.own d::e)=Ga d:=(rfl)
def zD5 (a0 a1 a2 a3:Sl)(d:List D)(e:En):gl 4 (a0::a1::a2::a3::.own d::e)=Ga d:=(rfl)
def zBP (a0 a1 a2 a3:Sl)(x s:Sl)(e:En):List.set (a0::a1::a2::a3::x::e) 4 s=a0::a1::a2::a3::s::e:=(rfl)
def ZZ (a0 a1 a2 a3:Sl)(d:List D)(e:En):frzAt 4 (a0::a1::a2::a3::.own d::e)=a0::a1::a2::a3::.val (.list d)::e:=(rfl)
def zD7 (a0 a1 a2 a3:Sl)(x:Sl)(e:En):nY (a0::a1::a2::a3::x::e)[4]?=nY (Ga x):=(rfl)
def zD8 (a0 a1 a2 a3 a4:Sl)(d:D)(e:En):gv 5 (a0::a1::a2::a3::a4::.val d::e)=Ga d:=(rfl)
def zBQ (a0 a1 a2 a3 a4:Sl)(x s:Sl)(e:En):List.set (a0::a1::a2::a3::a4::x::e) 5 s=a0::a1::a2::a3::a4::s::e:=(rfl)
def zD9 (a0 a1 a2 a3 a4:Sl)(d:List D)(e:En):frzAt 5 (a0::a1::a2::a3::a4::.own d::e)=a0::a1::a2::a3::a4::.val (.list d)::e:=(rfl)
def zEa (a0 a1 a2 a3 a4:Sl)(x:Sl)(e:En):nY (a0::a1::a2::a3::a4::x::e)[5]?=nY (Ga x):=(rfl)
def zEb (a0 a1 a2 a3 a4 a5:Sl)(d:D)(e:En):gv 6 (a0::a1::a2::a3::a4::a5::.val d::e)=Ga d:=(rfl)
def zBR (a0 a1 a2 a3 a4 a5:Sl)(x s:Sl)(e:En):List.set (a0::a1::a2::a3::a4::a5::x::e) 6 s=a0::a1::a2::a3::a4::a5::s::e:=(rfl)
def zEc (a0 a1 a2 a3 a4 a5:Sl)(x:Sl)(e:En):nY (a0::a1::a2::a3::a4::a5::x::e)[6]?=nY (Ga x):=(rfl)
def zEd (a0 a1 a2 a3 a4 a5 a6:Sl)(d:D)(e:En):gv 7 (a0::a1::a2::a3::a4::a5::a6::.val d::e)=Ga d:=(rfl)
def zBS (a0 a1 a2 a3 a4 a5 a6:Sl)(x s:Sl)(e:En):List.set (a0::a1::a2::a3::a4::a5::a6::x::e) 7 s=a0::a1::a2::a3::a4::a5::a6::s::e:=(rfl)
def zEe (a0 a1 a2 a3 a4 a5 a6:Sl)(d:List D)(e:En):frzAt 7 (a0::a1::a2::a3::a4::a5::a6::.own d::e)=a0::a1::a2::a3::a4::a5::a6::.val (.list d)::e:=(rfl)
def zEf (a0 a1 a2 a3 a4 a5 a6 a7:Sl)(d:D)(e:En):gv 8 (a0::a1::a2::a3::a4::a5::a6::a7::.val d::e)=Ga d:=(rfl)
def zBT (a0 a1 a2 a3 a4 a5 a6 a7:Sl)(x s:Sl)(e:En):List.set (a0::a1::a2::a3::a4::a5::a6::a7::x::e) 8 s=a0::a1::a2::a3::a4::a5::a6::a7::s::e:=(rfl)
def Zp (a0 a1 a2 a3 a4 a5 a6 a7 a8:Sl)(d:D)(e:En):gv 9 (a0::a1::a2::a3::a4::a5::a6::a7::a8::.val d::e)=Ga d:=(rfl)
def zBU (a0 a1 a2 a3 a4 a5 a6 a7 a8:Sl)(x s:Sl)(e:En):List.set (a0::a1::a2::a3::a4::a5::a6::a7::a8::x::e) 9 s=a0::a1::a2::a3::a4::a5::a6::a7::a8::s::e:=(rfl)
def zEh (a0 a1 a2 a3 a4 a5 a6 a7 a8:Sl)(d:List D)(e:En):frzAt 9 (a0::a1::a2::a3::a4::a5::a6::a7::a8::.own d::e)=a0::a1::a2::a3::a4::a5::a6::a7::a8::.val (.list d)::e:=(rfl)
def ztX (e:En):ls [] e=[]:=(rfl)
def zrP (i:Nat)(ix:List Nat)(e:En):ls (i::ix) e=nY e[i]?::ls ix e:=(rfl)
def ztY (d:D):nY (Ga (.val d))=.val d:=(rfl)
def zEi (i:Nat)(e:En):Ap i (.nx e)=.nx (frzAt i e):=(rfl)
def zBV (d:D):fY (Ga (.rt d))=Ga d:=(rfl)
def Zx (d:List D):fY (Ga (.ro d))=Ga (.list d):=(rfl)
def zEj (b:Bool):hJ (.bool b)=Ga b:=(rfl)
def Yd (b:Bool):zC (.bool b)=Ga b:=(rfl)
def zEk (d:List D):BS (.list d)=Ga d:=(rfl)
def zEl (d:List D):BJ (.tuple d)=Ga d:=(rfl)
def Nq (d:List D):toS (.tuple d)=Ga d:=(rfl)
def zEm (i:Int):GX (.int i)=Ga (Ga i):=(rfl)
def zEn (i j:Int):fy (.int i) (.int j)=Ga (.int (i+j)):=(rfl)
def zEo (i j:Int):iZ (.int i) (.int j)=Ga (.int (i-j)):=(rfl)
def zEp (i:Int):xf (.int i)=Ga (.int (-i)):=(rfl)
def zGe (i j:Int):mq (.int i) (.int j)=Ga (.bool (decide (i<j))):=(rfl)
def zGf (i j:Int):lQ (.int i) (.int j)=Ga (.bool (decide (i<=j))):=(rfl)
def zGg (i j:Int):sU (.int i) (.int j)=Ga (.bool (decide (j<i))):=(rfl)
def zGh (i j:Int):Kp (.int i) (.int j)=Ga (.bool (decide (j<=i))):=(rfl)
def zEq (i j:Int):gw (.int i) (.int j)=Ga (.bool (decide (i=j))):=by rw[xS];rfl
def zEr (i j:Int):gN (.int i) (.int j)=Ga (.bool (decide (¬i=j))):=by rw[Ik];by_cases h:i=j<;>simp[h]
def zEs (d:List D)(i:Int):gf (.tuple d) (.int i)=atI d i:=(rfl)
def WQ (d:List D)(i:Int):gf (.list d) (.int i)=atI d i:=(rfl)
def zyV (x0 x1:D):atI [x0,x1] 0=Ga x0:=(rfl)
def zyW (x0 x1:D):atI [x0,x1] 1=Ga x1:=(rfl)
def Yy (d:List D):gZ (.list d)=Ga (.int d.length):=(rfl)
def zBX (d:List D):sC d=Ga (.tuple d):=(rfl)
def zm0 (x:List D):pi "tuple" (.tuple x)=Ga (.bool true):=(rfl)
def ztZ(a b:α):(if false=true then a else b)=b:=Gf jH
def pz (I:En->Prop)(o:Option oj):Prop:=∃ e,o=Ga (.nx e)/\I e
variable {g:FS}{t:FT}
def MG(I:En->Prop)(h0:I ψ)(st:∀ d∈ds,∀ ψ,I ψ->pz I ((t d ψ).bind g)):pz I (gk t g ds ψ):=by
 refine TJ I h0 λd hd e he=>?_;obtain⟨e2,h1,h2⟩:=st d hd e he;obtain⟨e1,x1,x2⟩:=qa.mp h1;exact⟨e1,e2,x1,x2,h2⟩
def Rl {t:FT}{g:FS}{f:Nat->D}(I:Nat->En->Prop)(n:Nat)(st:∀ k,k<n->∀ ψ,I k ψ->pz (I (k+1)) ((t (f k) ψ).bind g)):∀ (m a:Nat) (ψ:En),a+m=n->I a ψ->pz (I n) (gk t g ((vd a m).map f) ψ)
 | 0,a,ψ,e,h=>by
  obtain rfl:a=n:=by omega
  exact⟨ψ,rfl,h⟩
 | m+1,a,ψ,e,h=>by
  obtain⟨e2,h1,h2⟩:=st a (by omega) ψ h;obtain⟨e1,x1,x2⟩:=qa.mp h1;obtain⟨z,y1,y2⟩:=Rl I n st m (a+1) e2 (by omega) h2;refine⟨z,?_,y2⟩;rw[vK,jO];unfold gk;rwa[x1,jh,x2]
def Sv {α:Type}{t:FT}{g:FS}(f:α->D)(I:List α->En->Prop)(as:List α)(st:∀ pre a suf,as=pre++a::suf->∀ ψ,I pre ψ->pz (I (pre++[a])) ((t (f a) ψ).bind g)):∀ (suf pre:List α) (ψ:En),as=pre++suf->I pre ψ->pz (I as) (gk t g (suf.map f) ψ)
 | [],pre,ψ,e,h=>⟨ψ,rfl,by rwa[e,kf]⟩
 | a::r,pre,ψ,e,h=>by
  obtain⟨e2,h1,h2⟩:=st pre a r e ψ h;obtain⟨e1,x1,x2⟩:=qa.mp h1;obtain⟨z,y1,y2⟩:=Sv f I as st r (pre++[a]) e2 (by rw[e,j3];rfl) h2;refine⟨z,?_,y2⟩;rw[jO];unfold gk;rwa[x1,jh,x2]
def Lo(f:α->D)(I:List α->En->Prop)(as:List α)(h0:I [] ψ)(st:∀ pre a suf,as=pre++a::suf->∀ ψ,I pre ψ->pz (I (pre++[a])) ((t (f a) ψ).bind g)):pz (I as) (gk t g (as.map f) ψ):=Sv f I as st as [] ψ rfl h0
def nR (fi:FL)(fc:FB)(fe:FV)(ix:List Nat)(ψ:En):gh fi fc fe ix ψ=(fi ψ).bind λds=>if ds.length<=1000000 then gd fc fe (ls ix ψ) ds else Gb:=(rfl)
end
noncomputable section
def Ke (f:FV)(g h:FP):FV:=λψ=>(f ψ).bind λx=>(g ψ).bind λl=>(h ψ).bind λu=>AR x l u
def zEu (f:FV)(g h:FP)(ψ:En):Ke f g h ψ=(f ψ).bind λx=>(g ψ).bind λl=>(h ψ).bind λu=>AR x l u:=(rfl)
def SW (f:FL):FL:=λψ=>(f ψ).bind λds=>(tM ds).bind λl=>Ga (sL l)
def zyX (f:FL)(ψ:En):SW f ψ=(f ψ).bind λds=>(tM ds).bind λl=>Ga (sL l):=(rfl)
end
noncomputable section
noncomputable def GQ (f:FV):FS:=λψ=>(f ψ).bind λd=>Ga (.rc d ψ)
def PH (f:FV)(ψ:En):GQ f ψ=(f ψ).bind λd=>Ga (.rc d ψ):=(rfl)
def UV (d:D)(e:En)(k:FS):mK (Ga (.rc d e)) k=Ga (.rc d e):=(rfl)
end
abbrev sg (x:Str):List Nat:=x.cps.toList
def gr (l:List Nat):Str:=⟨l.toArray⟩
def lg (l:List Nat):sg (gr l)=l:=rfl
def mM (x:Str):gr (sg x)=x:=by cases x;rfl
def sQ {y:Str}(h:sg x=sg y):x=y:=by rw[<- mM x,<- mM y,h]
def one (c:Nat):D:=.str ⟨#[c]⟩
def Qc{f:Gg}{r r':List V->Hp->VK->Prop}(h:iH X f r)(h':iH X f r'):iH X f (λvs H Q=>r vs H Q\/r' vs H Q):=λω s σ H xs us Q I rv q=>q.elim (h ω s σ H xs us Q I rv) (h' ω s σ H xs us Q I rv)
def ig:D->Option D
 | .str x=>if x.length<=sizeLine then Ga (.int x.length) else Gb
 | d=>gZ d
def wQ(hg:Gl X "len")(hm:X.mg "len"=Gb)(ha:PV X e f)(hs:starEach [e] X.env=[(false,eval e X.env)]:=by rfl):PV X (.Call (.Name "len" p) [e] [] pos) (un ig f):=by
 refine ia (BZ (Qc Ao vk) hg hm Vr ha (hs:=hs)) λσ H Q=>?_;rintro⟨H0,F,ψ,d,r,e,q⟩;obtain⟨d',e1,e⟩:=ft e;refine⟨H0,F,ψ,d',r,e1,λv H1 F1 g1 f1 fh1 n1 rv=>?_⟩;cases rv<;>first|(cases e;done)|skip
 .rename_i x;have e':(if x.length<=sizeLine then Ga (jd x.length) else Gb)=Ga d:=e;split at e'
  .rename_i hz;cases e';exact .inl ⟨x,rfl,hz,q _ H1 F1 g1 f1 fh1 n1 (.int _)⟩
  .cases e'
 .rename_i p xs ds h1 h2;cases e;exact .inr ⟨p,xs,rfl,.inr (lV fh1 h1),q _ H1 F1 g1 f1 fh1 n1 (by rw[h2.length];exact .int _)⟩
 .rename_i p xs ds h1 h2;cases e;exact .inr ⟨p,xs,rfl,.inl (fh1.seq h1),q _ H1 F1 g1 f1 fh1 n1 (by rw[h2.length];exact .int _)⟩
def gb:D->D->Option D
 | .str x,.int i=>if x.length<=sizeLine then(atI (sg x) i).map one else Gb
 | a,b=>gf a b
variable {a:Expr}{es:List Expr}{t:FT}{E:rO}
def iK(ha:PV X a f)(hb:PV X b g)(hs:wz b:=by exact λ_ _=>rfl):PV X (.Subscript a b pos) (fG gb f g):=by
 refine ia (De EG ha hb hs) λσ H Q h=>?_;obtain⟨H0,F,ψ,d,r,e,q⟩:=h;obtain⟨x,e1,e2⟩:=ft e;obtain⟨y,e3,e4⟩:=ft e2;by_cases hx:∃ s,x=.str s
 .obtain⟨s,rfl⟩:=hx;obtain⟨i,rfl⟩:∃ i,y=.int i:=by cases y<;>first|exact⟨_,rfl⟩|(exact absurd e4 (by intro z;cases z))
  have e5:(if s.length<=sizeLine then(atI (sg s) i).map one else Gb)=Ga d:=e4;split at e5;rotate_left
  .cases e5
  rename_i hz;obtain⟨c,e6,rfl⟩:=vj.mp e5;refine⟨H0,F,ψ,.str s,r,e1,λv H1 F1 g1 f1 fh1 n1 rv=>⟨H0,F1,ψ,.int i,r.grow g1 f1 fh1 n1,e3,λw H2 F2 g2 f2 fh2 n2 rw_=>?_⟩⟩;cases rv;cases rw_;exact .inr (.inr ⟨s,i,c,rfl,rfl,hz,e6,q _ H2 F2 (g1.trans g2) (f1.trans f2) fh2 (n1.trans n2 g1) (.str _)⟩)
 .have e5:gf x y=Ga d:=by
   rw[<- e4];unfold gb;split
   .exact absurd ⟨_,rfl⟩ hx
   .rfl
  exact DW RE ⟨H0,F,ψ,d,r,by show(f ψ).bind _=_;rw[e1];show(g ψ).bind _=_;rwa[e3],q⟩
def mm (len dflt:Nat):Option Int->Nat
 | none=>dflt
 | some i=>(max 0 (min (if i<0 then i+(len:Int) else i) (len:Int))).toNat
def mX (x:Str)(lo hi:Option Int):Str:=gr (((sg x).drop (mm x.length 0 lo)).take (mm x.length x.length hi-mm x.length 0 lo))
def Hk (len:Nat)(o:Option Int):mm len len o<=len/\mm len 0 o<=len:=by
 cases o with
 | none=>exact⟨jw _,kh _⟩
 | some i=>unfold mm;dsimp only;split<;>omega
def Ru (len dd:Nat)(o:Option Int):(match o with|none=>(dd:Int)|some i=>max 0 (min (if i<0 then i+(len:Int) else i) (len:Int)))=((mm len dd o:Nat):Int):=by
 cases o with
 | none=>rfl
 | some i=>show max 0 (min (if i<0 then i+(len:Int) else i) (len:Int))=(((max 0 (min (if i<0 then i+(len:Int) else i) (len:Int))).toNat:Nat):Int);omega
def RU (len:Nat)(lo hi:Option Int):kY lo hi 1 len=(jq (mm len len hi-mm len 0 lo)).map λk=>mm len 0 lo+k:=by
 have key:kY lo hi 1 len=sliceRange ((mm len 0 lo:Nat):Int) ((mm len len hi:Nat):Int) 1:=by
  rw[<- Ru len 0 lo,<- Ru len len hi];cases lo<;>cases hi<;>rfl
 rw[key];generalize mm len 0 lo=a;generalize mm len len hi=b;unfold sliceRange;simp only[show((1:Int)>0)=True from by simp,if_true];by_cases hlt:(a:Int)<b
 .have e3:(((b:Int)-a+1-1)/1).toNat=b-a:=by first|omega|(simp;done)|(simp;omega)
  simp only[hlt,if_true,e3];refine kL λk _=>?_;omega
 .have:b-a=0:=by omega
  simp[hlt,this]
def zvZ (x:Str)(lo hi:Option Int):(kY lo hi 1 x.length).filterMap (x.cps[·]?)=sg (mX x lo hi):=by
 have l1:=(Hk x.length lo).2;have l2:=(Hk x.length hi).1;rw[RU];have h:=StrLaws.picks x.cps.toList (mm x.length x.length hi-mm x.length 0 lo);by_cases c:mm x.length 0 lo<=mm x.length x.length hi
 .have:=h (mm x.length 0 lo) (by simp[JT] at l1 l2 ⊢;omega);show _=((sg x).drop _).take _
  simpa using this
 .unfold mX;rw[show mm x.length x.length hi-mm x.length 0 lo=0 by omega];rfl
def zyY{lo hi:Option Int}(h:(kY lo hi 1 x.length).length=x.length):mX x lo hi=x:=by
 have l1:=(Hk x.length lo).2;have l2:=(Hk x.length hi).1;rw[RU,jc,jV] at h;unfold mX;have hl:(sg x).length=x.length:=by simp[JT]
 by_cases c:x.length=0
 .have:sg x=[]:=v9.mp (by omega);rw[this];rw[<- mM x,this];simp
 .rw[show mm x.length 0 lo=0 by omega,qe,uh (by omega),mM]
def zyZ (x:Str)(lo hi:Option Int):(mX x lo hi).length<=x.length:=by
 show(((sg x).drop _).take _).toArray.size<=x.length;rw[jv,vI,uZ];have hl:(sg x).length=x.length:=by simp[JT]
 omega
def VJ:V->Option Int->Option Int->Hp->VK->Prop:=λx lo hi H Q=>∃ z,x=.str z/\z.length<=sizeLine/\Q (.str (mX z lo hi)) H
def zEv:xT X VJ:=by
 intro ω s σ H x v vl vu lo hi sl Q I rx hs pl pu h;obtain⟨z,rfl,hz,q⟩:=h;obtain⟨t,rfl⟩:=rx;obtain⟨l,el,el2⟩:∃ l:Option (Int×Tok),vl=partValue l/\l.map (·.1)=lo:=by
  cases pl with
  | none=>exact⟨Gb,rfl,rfl⟩
  | int i t=>exact⟨Ga (i,t),rfl,rfl⟩
 obtain⟨u,eu,eu2⟩:∃ l:Option (Int×Tok),vu=partValue l/\l.map (·.1)=hi:=by
  cases pu with
  | none=>exact⟨Gb,rfl,rfl⟩
  | int i t=>exact⟨Ga (i,t),rfl,rfl⟩
 subst el;subst eu;have hs':s.heap.IsSlice sl l u Gb:=hs;have hT:s.TypeIs (.str z t) "str":=typeIs_str s z t;refine⟨"str",_,slot_str_getitem.lookup,hT,?_⟩;unfold getItem
 try with_reducible refine wpAny_holding ?_
 first|refine fk (fq ?_)|skip
 refine fk (wpAny_callSpecial?_slot (name:=ja "__getitem__") hT slot_str_getitem (call_meets slot_str_getitem hT PySem.F.entry_str_getitem (PySem.F.args_str_getitem_2 _ _) (meets_str_getitem_slice z t sl l u Gb rfl) ⟨hs',?_⟩));unfold sliceMade slicePicked;rw[el2,eu2];show Made.post (if ((1:Int)==1&&(kY lo hi 1 z.length).length==z.length)=true then Made.val (.str z t) else Made.str ⟨((kY lo hi 1 z.length).filterMap (z.cps[·]?)).toArray⟩) _ s;rw[zvZ];split
 .rename_i c;rw[jl,beq_iff_eq,beq_iff_eq] at c;rw[zyY c.2] at q;exact fq ⟨.str z,H,I,⟨t,rfl⟩,q⟩
 .refine⟨?_,fq ⟨.str (mX z lo hi),H,I.tok _,⟨_,by show qI ⟨(sg (mX z lo hi)).toArray⟩ _=_;rw[show(⟨(sg (mX z lo hi)).toArray⟩:Str)=mX z lo hi from mM _]⟩,q⟩⟩;exact jI (zyZ z lo hi) hz
def og:D->Option Int->Option Int->Option D
 | .str x,lo,hi=>if x.length<=sizeLine then Ga (.str (mX x lo hi)) else Gb
 | d,lo,hi=>dSl d lo hi
def Ot (f:FV)(g h:FP):FV:=λψ=>(f ψ).bind λx=>(g ψ).bind λl=>(h ψ).bind λu=>og x l u
def BG{lo hi:Option Expr}{g h:FP}(ha:PV X a f)(hl:Bg X lo g)(hh:Bg X hi h):PV X (.Subscript a (.Slice lo hi Gb p2) pos) (Ot f g h):=by
 refine ia (zw ((Cj.or EJ).or zEv) ha hl hh) λσ H Q=>?_;rintro⟨H0,F,ψ,d,r,e,q⟩;obtain⟨x,e1,e4⟩:=ft e;obtain⟨l,e2,e5⟩:=ft e4;obtain⟨u,e3,e6⟩:=ft e5;clear e e4 e5;refine⟨H0,F,ψ,x,r,e1,λv H1 F1 g1 f1 fh1 n1 rv=>⟨H0,F1,ψ,l,r.grow g1 f1 fh1 n1,e2,λH2 F2 g2 f2 fh2 n2=>⟨H0,F2,ψ,u,(r.grow g1 f1 fh1 n1).grow g2 f2 fh2 n2,e3,λH3 F3 g3 f3 fh3 n3=>?_⟩⟩⟩;have rv3:=rv.mono (f2.trans f3);cases rv3<;>first|(cases e6;done)|skip
 case str x =>
  have e7:(if x.length<=sizeLine then Ga (jp (mX x l u)) else Gb)=Ga d:=e6;split at e7
  .rename_i hz;cases e7;exact .inr ⟨x,rfl,hz,q _ _ _ ((g1.trans g2).trans g3) ((f1.trans f2).trans f3) fh3 ((n1.trans n2 g1).trans n3 (g1.trans g2)) (.str _)⟩
  .cases e7
 case lst a xs ds h1 h2 =>
  cases e6;refine kC (kC ⟨a,xs,rfl,fh3.seq h1,λp hp=>?_⟩);obtain⟨s1,s2,s3,s4⟩:=rE (o:=.lst (pe xs l u)) fh3 hp;exact q _ _ _ (((g1.trans g2).trans g3).trans s1) (((f1.trans f2).trans f3).trans s2) s3 (((n1.trans n2 g1).trans n3 (g1.trans g2)).trans s4 ((g1.trans g2).trans g3)) (.lst (hZ.of fI) ((h2.cut l u).mono s2))
 case tup a xs ds h1 h2 =>
  have e7:(if HT.sIx ds.length 0 l=0/\HT.sIx ds.length ds.length u=ds.length then Gb else Ga (uC (cutD ds l u)))=Ga d:=e6;split at e7
  .cases e7
  .rename_i hw;cases e7;refine kC (j7 ⟨a,xs,rfl,lV fh3 h1,by rwa[<- h2.length],λp hp=>?_⟩);obtain⟨s1,s2,s3,s4⟩:=rE (o:=.tup (pe xs l u)) fh3 hp;exact q _ _ _ (((g1.trans g2).trans g3).trans s1) (((f1.trans f2).trans f3).trans s2) s3 (((n1.trans n2 g1).trans n3 (g1.trans g2)).trans s4 ((g1.trans g2).trans g3)) (.tup (la.of fI) ((h2.cut l u).mono s2))
def Ag (y x:Str):Bool:=!(jT x y 0 x.length 1).isEmpty
def rM:D->D->Option D
 | .str y,.str x=>Ga (.bool (Ag y x))
 | a,b=>rY a b
def mJ:D->D->Option D
 | .str y,.str x=>Ga (.bool (!Ag y x))
 | a,b=>xg a b
def XZ:∀ a b d,rM a b=Ga d->∃ k,d=.bool k:=λa b d h=>by
 unfold rM at h;split at h
 .cases h;exact⟨_,rfl⟩
 .exact UL _ _ _ h
def zy0:∀ a b d,mJ a b=Ga d->∃ k,d=.bool k:=λa b d h=>by
 unfold mJ at h;split at h
 .cases h;exact⟨_,rfl⟩
 .exact Uk _ _ _ h
def zEw (hu:X.A.units+100<cLine):ir X (compareOp .In) (sK X.K rM):=by
 intro ω s σ H x y v u Q I rx ry h;obtain⟨F,a,b,d,g,ra,rb,e,q⟩:=h;by_cases c:∃ p w,a=.str p/\b=.str w
 .obtain⟨p,w,rfl,rfl⟩:=c;cases ra;cases rb;cases e;exact Dk ω s σ H _ _ v u Q I rx ry ⟨p,w,rfl,rfl,q _ rfl⟩
 .have e':rY a b=Ga d:=by
   rw[<- e];unfold rM;split
   .exact absurd ⟨_,_,rfl,rfl⟩ c
   .rfl
  exact QL hu ω s σ H x y v u Q I rx ry ⟨F,a,b,d,g,ra,rb,e',q⟩
def zBZ (hu:X.A.units+100<cLine):ir X (compareOp .NotIn) (sK X.K mJ):=by
 intro ω s σ H x y v u Q I rx ry h;obtain⟨F,a,b,d,g,ra,rb,e,q⟩:=h;by_cases c:∃ p w,a=.str p/\b=.str w
 .obtain⟨p,w,rfl,rfl⟩:=c;cases ra;cases rb;cases e;exact zY ω s σ H _ _ v u Q I rx ry ⟨p,w,rfl,rfl,q _ rfl⟩
 .have e':xg a b=Ga d:=by
   rw[<- e];unfold mJ;split
   .exact absurd ⟨_,_,rfl,rfl⟩ c
   .rfl
  exact TV hu ω s σ H x y v u Q I rx ry ⟨F,a,b,d,g,ra,rb,e',q⟩
def Ss(hu:X.A.units+100<cLine)(ha:PV X a f)(hb:PV X b g)(hm:behindInMarks .In b=false:=by first|rfl|with_unfolding_all rfl):PV X (.Compare a [.In] [b] pos) (fG rM f g):=Ay (zEw hu) (tD XZ) ha hb hm
def Ny(hu:X.A.units+100<cLine)(ha:PV X a f)(hb:PV X b g)(hm:behindInMarks .NotIn b=false:=by first|rfl|with_unfolding_all rfl):PB X (.Compare a [.NotIn] [b] pos) (gJ mJ f g):=tw (zBZ hu) (tD zy0) ha hb hm
def Hs (x:Str):It:=⟨λi _=>i<x.cps.size,λi H v H'=>H'=H/\∃ c,x.cps[i]?=Ga c/\v=.str ⟨#[c]⟩,λi _=>x.cps.size<=i⟩
def Qs(it:Gk)(x:Str)(t:Tok)(n:String)(hn:n="str_ascii_iterator"\/n="str_iterator"):tz P w K tg (Hs x) [it] it (λi h=>h.IsStrIter it n x t i) where
 mem:=by simp
 obj:=λi h st b hb=>by
  cases jn.mp hb;obtain⟨o,e,c,dd⟩:=st;exact⟨o,e,λv z=>by rw[dd] at z;cases z⟩
 keep:=λi h h' st k=>let ⟨o,ho,r⟩:=st;⟨o,k it (by simp) o ho,r⟩
 item:=by
  intro X hP hw hK hc i ω s σ H E I hf st hg;subst hP hw hK;have hg:i<x.cps.size:=hg;obtain⟨f0,f1,f2,f3,f4,f5⟩:=hf it (by simp);have fin:∀ h',h'.IsStrIter it n x t (i+1)->uu it s.heap h'->∃ u,Ga (qI ⟨#[x.cps[i]]⟩ s.toks)=Ga u/\wpAny (model X.prog X.w) X.A (letOwnedTupleGo tg (.ref it) u) (λ_ s2=>∃ y H',fB X ω σ H' s2/\gq y u/\(Hs x).yld i H y H'/\s2.heap.IsStrIter it n x t (i+1)/\∀ b∈[it],H' b=Gb) E { s with heap:=h',toks:=s.toks+1 }:=λh' st' sb=>by
   have I1:fB X ω σ H { s with heap:=h',toks:=s.toks+1 }:=I.turned (t':=s.toks+1) (λb o hb e=>(sb.2 b hb).trans e) f0 f1 f3 f4 f5;obtain⟨o,e,c,d⟩:=id st';exact⟨_,rfl,xE (s:={ s with heap:=h',toks:=s.toks+1 }) e c d (by rcases hn with rfl|rfl<;>decide) ⟨.str ⟨#[x.cps[i]]⟩,H,I1,⟨_,rfl⟩,⟨rfl,_,by simp[hg],rfl⟩,st',λb hb=>(hf b hb).1⟩⟩
  rcases hn with rfl|rfl
  .exact wpAny_pyNext_ascii_item st (c:=x.cps[i]) (by simp[hg]) λh' st' sb=>fin h' st' sb
  .exact wpAny_pyNext_wide_item st (c:=x.cps[i]) (by simp[hg]) λh' st' sb=>fin h' st' sb
 done:=by
  intro X hP hw hK hc i ω s σ H E I hf st hg;subst hP hw hK;have hg:x.cps.size<=i:=hg;obtain⟨f0,f1,f2,f3,f4,f5⟩:=hf it (by simp);rcases hn with rfl|rfl
  .exact wpAny_pyNext_ascii_end (I.ok.hd hc) st (by simp[hg]) λh' eb=>⟨rfl,I.turned (t':=s.toks) (λb o hb e=>eb b o hb e) f0 f1 f3 f4 f5⟩
  .exact wpAny_pyNext_wide_end (I.ok.hd hc) st (by simp[hg]) λh' eb=>⟨rfl,I.turned (t':=s.toks) (λb o hb e=>eb b o hb e) f0 f1 f3 f4 f5⟩
 self:=λA i s Q E st h=>by
  rcases hn with rfl|rfl
  .exact wpAny_pyIter_striter_ascii st h
  .exact wpAny_pyIter_striter_wide st h
def Zn(x:Str):lW K (Hs x) F ((sg x).map one):=by
 intro H g i;refine⟨λhi=>?_,λd hd=>?_⟩
 .rw[jc] at hi;show x.cps.size<=i
  simpa using hi
 .rw[jz] at hd;obtain⟨c,hc,rfl⟩:=vj.mp hd;have hi:i<x.cps.size:=by
   have:=(ju.mp hc).1
   simpa using this
  refine⟨hi,λy H' yl=>?_⟩;obtain⟨rfl,c',hc',rfl⟩:=yl;have:c'=c:=by
   rw[kJ] at hc;rw[hc] at hc';cases hc';rfl
  subst this;exact⟨.refl _,F,.refl _,g,.refl _ _,.str _⟩
def lq:D->Option (List D)
 | .str x=>Ga ((sg x).map one)
 | d=>toS d
def sN {l:Expr}(h:PV X l f):wO X tg l (iJ lq f):=by
 intro ω s σ H R I hw;obtain⟨H0,F,ψ,ds,r,e0,q⟩:=hw;obtain⟨d,e1,e2⟩:=ft e0;by_cases hx:∃ x,d=.str x
 .obtain⟨x,rfl⟩:=hx;cases e2;refine gn (h ω s σ H (λy H1=>y=.str x/\R (Hs x) H1) I ⟨H0,F,ψ,.str x,r,e1,λv H1 F1 g1 f1 fh1 n1 rv=>?_⟩) λv s1 ⟨y,H1,I1,r1,e,hR⟩=>?_
  .cases rv;exact⟨rfl,q _ H1 F1 g1 f1 fh1 n1 λF3 f3=>Zn x⟩
  .subst e;obtain⟨t,rfl⟩:=r1;cases ha:x.cps.all (·<128)
   .refine wpAny_pyIter_wide ha ⟨s1.heap.objs.size,[s1.heap.objs.size],_,_,H1,rfl,I1.kept (t':=s1.toks) λb o e=>jj _ e,Qs _ x t _ (.inr rfl),⟨_,jA _ rfl,rfl,rfl⟩,λb hb=>?_,hR⟩;cases jn.mp hb;exact I1.fpOk (jw _) I1.fresh
   .refine wpAny_pyIter_ascii ha ⟨s1.heap.objs.size,[s1.heap.objs.size],_,_,H1,rfl,I1.kept (t':=s1.toks) λb o e=>jj _ e,Qs _ x t _ (.inl rfl),⟨_,jA _ rfl,rfl,rfl⟩,λb hb=>?_,hR⟩;cases jn.mp hb;exact I1.fpOk (jw _) I1.fresh
 .have e3:toS d=Ga ds:=by
   rw[<- e2];unfold lq;split
   .exact absurd ⟨_,rfl⟩ hx
   .rfl
  exact oX h ω s σ H R I ⟨H0,F,ψ,ds,r,by show(f ψ).bind toS=_;rwa[e1],q⟩
def zv1:yN X "str.startswith" (λx vs H Q=>∃ a b,x=.str a/\vs=[.str b]/\Q (.bl (uw a b)) H):=by
 intro ω s σ H x vs v us Q I rx rv h;obtain⟨a,b,rfl,rfl,q⟩:=h;obtain⟨t,rfl⟩:=rx;obtain⟨u,rfl,ru⟩:=rv.one;obtain⟨t2,rfl⟩:=ru;exact SC.startswith ⟨.bl _,H,I,rfl,q⟩
def nP:D->D->Option D
 | .str x,.str y=>Ga (.bool (uw x y))
 | _,_=>Gb
def UR(ho:PV X o fo)(h:PV X e f)(hbase:attributeBase o "startswith" X.env (eval o X.env)=eval o X.env:=by rfl)
  (hst:starEach [e] X.env=[(false,eval e X.env)]:=by rfl) (hline:(p.endLine==p2.line)=true:=by rfl):PV X (.Call (.Attribute o "startswith" p) [e] [] p2) (fG nP fo f):=by
 refine ia (wv vm PySem.F.slot_str_startswith PySem.F.type_str_startswith zv1 ho (io h lH hst) hbase (by rw[hst];rfl) hline hst rfl) λσ H Q=>?_;rintro⟨H0,F,ψ,d,r,e,q⟩;obtain⟨x,e1,e'⟩:=ft e;obtain⟨y,e2,e⟩:=ft e';clear e';refine⟨H0,F,ψ,x,r,e1,λv H1 F1 g1 f1 fh1 n1 rv=>?_⟩;cases rv<;>first|(cases e;done)|skip
 rename_i a;refine⟨rfl,H0,F1,ψ,y,r.grow g1 f1 fh1 n1,e2,λw H2 F2 g2 f2 fh2 n2 rw_=>?_⟩;cases rw_<;>first|(cases e;done)|skip
 rename_i b;cases e;exact⟨a,b,rfl,rfl,q _ H2 F2 (g1.trans g2) (f1.trans f2) fh2 (n1.trans n2 g1) (.bl _)⟩
def mw:List D->Option (List Str)
 | []=>Ga []
 | .str x::r=>(mw r).bind λl=>Ga (x::l)
 | _=>Gb
def Kk {K:jb}{F:Hp}:∀ {ds:List D} {xs:List V} {l:List Str},mw ds=Ga l->fL K F ds xs->xs=l.map V.str
 | [],_,_,e,.nil=>by cases e;rfl
 | d::r,_,_,e,.cons h t=>by
  cases d<;>first|(cases e;done)|skip
  obtain⟨l,e1,e2⟩:=ft e;cases e2;cases h;rw[Kk e1 t];rfl
def NJ:∀ {l:List Str} {us:List Gg},fV (l.map V.str) us->∃ lt:List (Str×Tok),us=strValues lt/\lt.map (·.1)=l
 | [],_,.nil=>⟨[],rfl,rfl⟩
 | x::l,_,.cons h t=>by
  obtain⟨tk,rfl⟩:=h;obtain⟨lt,rfl,e⟩:=NJ t;exact⟨(x,tk)::lt,rfl,by rw[jO,e]⟩
def zB0:yN X "str.join" (λx vs H Q=>∃ a p l,x=.str a/\vs=[.ref p]/\hZ X.K H p (l.map V.str)/\JoinOk a l=true/\Q (.str (ug a l)) H):=by
 intro ω s σ H x vs v us Q I rx rv h;obtain⟨a,p,l,rfl,rfl,hl,hok,q⟩:=h;obtain⟨t,rfl⟩:=rx;obtain⟨u,rfl,ru⟩:=rv.one;cases ru;obtain⟨its,rv2,pl,hz⟩:=I.list hl;obtain⟨lt,rfl,e⟩:=NJ rv2;exact SC.join pl.isList e hok λt' k=>⟨.str _,H,I.tok _,⟨_,rfl⟩,q⟩
def mF (a:D)(ds:List D):Option D:=match a with
 | .str x=>(mw ds).bind λl=>if JoinOk x l=true then Ga (.str (ug x l)) else Gb
 | _=>Gb
def Pb (f:FV)(g:FL):FV:=λψ=>(f ψ).bind λa=>(g ψ).bind λds=>mF a ds
def BR{f:FL}(ho:PV X o fo)(h:tX X e f)(hbase:attributeBase o "join" X.env (eval o X.env)=eval o X.env:=by rfl)
  (hst:starEach [e] X.env=[(false,eval e X.env)]:=by rfl) (hline:(p.endLine==p2.line)=true:=by rfl):PV X (.Call (.Attribute o "join" p) [e] [] p2) (Pb fo f):=by
 refine ia (wv vm PySem.F.slot_str_join PySem.F.type_str_join zB0 ho (io h lH hst) hbase (by rw[hst];rfl) hline hst rfl) λσ H Q=>?_;rintro⟨H0,F,ψ,d,r,e,q⟩;obtain⟨x,e1,e'⟩:=ft e;obtain⟨ds,e2,e⟩:=ft e';clear e';refine⟨H0,F,ψ,x,r,e1,λv H1 F1 g1 f1 fh1 n1 rv=>?_⟩;cases rv<;>first|(cases e;done)|skip
 rename_i a;obtain⟨l,e3,e4⟩:=ft (show(mw ds).bind (λl=>if JoinOk a l=true then Ga (jp (ug a l)) else Gb)=Ga d from e);split at e4;rotate_left
 .cases e4
 rename_i hok;cases e4;refine⟨rfl,H0,F1,ψ,ds,r.grow g1 f1 fh1 n1,e2,λb xs H2 F2 g2 f2 fh2 n2 hl rr=>?_⟩;have:=Kk e3 rr;subst this;exact⟨a,b,l,rfl,rfl,hl,hok,q _ H2 F2 (g1.trans g2) (f1.trans f2) fh2 (n1.trans n2 g1) (.str _)⟩
def zv2:iH X (.type "int") (λxs H Q=>∃ x n,xs=[.str x]/\intText? x=Ga n/\x.length<=640/\Q (.int n) H):=by
 intro ω s σ H xs us Q I r h;obtain⟨x,n,rfl,hn,hl,q⟩:=h;obtain⟨u,rfl,ru⟩:=mf r;obtain⟨t,rfl⟩:=ru;exact PySem.W.KIN.call_text hn hl ⟨.int n,H,I.tok _,⟨_,rfl⟩,q⟩
def oO:D->Option D
 | .str x=>if x.length<=640 then(intText? x).map jd else Gb
 | d=>rK d
def EB(hg:Gl X "int")(hm:X.mg "int"=Gb)(ha:PV X e f)(hs:starEach [e] X.env=[(false,eval e X.env)]:=by rfl):PV X (.Call (.Name "int" p) [e] [] pos) (un oO f):=by
 refine ia (Ae (Qc zv2 yZ) hg hm boot_int ha (hs:=hs)) λσ H Q=>?_;rintro⟨H0,F,ψ,d,r,e,q⟩;obtain⟨d',e1,e⟩:=ft e;refine⟨H0,F,ψ,d',r,e1,λv H1 F1 g1 f1 fh1 n1 rv=>?_⟩;cases rv<;>first|(cases e;done)|skip
 .rename_i b;cases e;exact .inr (.inr ⟨b,rfl,q _ H1 F1 g1 f1 fh1 n1 (.int _)⟩)
 .rename_i i;cases e;exact .inr (.inl ⟨i,rfl,q _ H1 F1 g1 f1 fh1 n1 (.int _)⟩)
 .rename_i x;have e':(if x.length<=640 then(intText? x).map jd else Gb)=Ga d:=e;split at e'
  .rename_i hz;obtain⟨n,hn,rfl⟩:=vj.mp e';exact .inl ⟨x,n,rfl,hn,hz,q _ H1 F1 g1 f1 fh1 n1 (.int _)⟩
  .cases e'
def Uy {y:Str}(hm:∃ t,X.mg x=Ga (.str y t))(hg:Gl X x:=by rfl)(hd:(x==("__debug__":Str))=false:=by decide):PV X (.Name x p) (fU (.str y)):=by
 obtain⟨t,hm⟩:=hm;exact UD (v:=.str y) hm ⟨t,rfl⟩ (λ_ _=>.str _) hg hd
def sB (acc:Str)(l:List Str):Str:=l.foldl (λa y=>a++y) acc
def zB1 (x y:Str):(x++y).length=x.length+y.length:=strLen_append x y
def TN:∀ (l:List Str) (acc:Str),acc.length<=(sB acc l).length
 | [],_=>jw _
 | y::r,acc=>jI (by rw[zB1];omega) (TN r (acc++y))
def PJ (X:Cx)(es:List Expr)(g:FL):Prop:=∀ (ω:List (Gk×Obj)) (s:Gh) (σ:St) (H:Hp) (Q:VK) (acc:Str),fB X ω σ H s ->
 (∃ H0 F ψ ds l,RS X.K H0 F H ψ σ/\g ψ=Ga ds/\mw ds=Ga l/\(sB acc l).length<=sizeLine/\∀ H' F',fw H H'->fw F F'->fw F' H'->gu F F' H->Q (.str (sB acc l)) H') ->
 wpAny (model X.prog X.w) X.A (joinParts acc (evalEach es X.env)) (EP X ω σ Q) X.xe s
def Px:PJ X [] (λ_=>Ga []):=by
 intro ω s σ H Q acc I h;obtain⟨H0,F,ψ,ds,l,r,e1,e2,hz,q⟩:=h;cases e1;cases e2;exact joinParts_nil ⟨.str acc,H,I.tok _,⟨_,rfl⟩,q H F (fw.refl _) (fw.refl _) r.fh (gu.refl _ _)⟩ hz
def yU{g:FL}(ha:PV X e f)(hr:PJ X es g):PJ X (e::es) (λψ=>(f ψ).bind λd=>(g ψ).bind λds=>Ga (d::ds)):=by
 intro ω s σ H Q acc I h;obtain⟨H0,F,ψ,ds,l,r,e1,e2,hz,q⟩:=h;obtain⟨d,e3,e1⟩:=ft e1;obtain⟨ds',e4,e1⟩:=ft e1;cases e1;cases d<;>first|(cases e2;done)|skip
 rename_i y _e;obtain⟨l',e5,e2⟩:=ft (show(mw ds').bind (λl=>Ga (y::l))=Ga l from e2);cases e2;show wpAny (model X.prog X.w) X.A (joinParts acc (eval e X.env::evalEach es X.env)) _ _ _;refine joinParts_cons (wpAny_mono (ha ω s σ H (λv H1=>∃ F1,fw H H1/\fw F F1/\fw F1 H1/\gu F F1 H/\v=.str y) I ⟨H0,F,ψ,.str y,r,e3,λv H1 F1 g1 f1 fh1 n1 rv=>⟨F1,g1,f1,fh1,n1,by cases rv;rfl⟩⟩) (λu s1 z=>?_) λ_ _ z=>z);obtain⟨v,H1,I1,rx,F1,g1,f1,fh1,n1,rfl⟩:=z;obtain⟨t,rfl⟩:=rx;refine⟨jI (TN l' (acc++y)) hz,?_⟩;exact hr ω s1 σ H1 Q (acc++y) I1 ⟨H0,F1,ψ,ds',l',r.grow g1 f1 fh1 n1,e4,e5,hz,λH2 F2 g2 f2 fh2 n2=>q H2 F2 (g1.trans g2) (f1.trans f2) fh2 (n1.trans n2 g1)⟩
def wc (ds:List D):Option D:=(mw ds).bind λl=>if (sB vH l).length<=sizeLine then Ga (.str (sB vH l)) else Gb
def QX {e1 e2:Expr}{g:FL}(h:PJ X (e1::e2::es) g):PV X (.JoinedStr (e1::e2::es) pos) (AA wc g):=by
 intro ω s σ H Q I hw;obtain⟨H0,F,ψ,d,r,e,q⟩:=hw;obtain⟨ds,a1,a2⟩:=ft e;obtain⟨l,a3,a4⟩:=ft a2;split at a4
 .rename_i hz;cases a4;refine JoinedStr_many ?_;exact h ω s σ H Q vH I ⟨H0,F,ψ,ds,l,r,a1,a3,hz,λH' F' g1 f1 fh1 n1=>q _ H' F' g1 f1 fh1 n1 (.str _)⟩
 .cases a4
def pL:D->Option D
 | .int i=>if i.natAbs.log2<1920 then Ga (.str (toString i)) else Gb
 | .str x=>if x.length<=sizeLine then Ga (.str x) else Gb
 | _=>Gb
def Dn(ha:PV X e f):PV X (.FormattedValue e (-1) Gb pos) (un pL f):=by
 intro ω s σ H Q I hw;obtain⟨H0,F,ψ,d,r,e,q⟩:=hw;obtain⟨d',e1,e2⟩:=ft e;refine FormattedValue_plain (wpAny_mono (ha ω s σ H (λv H1=>∃ F1,fw H H1/\fw F F1/\fw F1 H1/\gu F F1 H/\gG X.K F1 d' v) I ⟨H0,F,ψ,d',r,e1,λv H1 F1 g1 f1 fh1 n1 rv=>⟨F1,g1,f1,fh1,n1,rv⟩⟩) (λu s1 z=>?_) λ_ _ z=>z);obtain⟨v,H1,I1,rx,F1,g1,f1,fh1,n1,rv⟩:=z;cases rv<;>first|(cases e2;done)|skip
 .rename_i i;have e':(if i.natAbs.log2<1920 then Ga (jp (toString i)) else Gb)=Ga d:=e2;split at e'
  .rename_i hz;cases e';obtain⟨t,rfl⟩:=rx;exact formatField_int_small hz ⟨.str _,H1,I1.tok _,⟨_,rfl⟩,q _ H1 F1 g1 f1 fh1 n1 (.str _)⟩
  .cases e'
 .rename_i x;have e':(if x.length<=sizeLine then Ga (jp x) else Gb)=Ga d:=e2;split at e'
  .rename_i hz;cases e';obtain⟨t,rfl⟩:=rx;exact formatField_str (λt' tk=>⟨.str x,H1,I1.tok _,⟨_,rfl⟩,q _ H1 F1 g1 f1 fh1 n1 (.str _)⟩) hz
  .cases e'
def KO:∀ l:List (Str×Tok),fV ((l.map (·.1)).map V.str) (strValues l)
 | []=>.nil
 | (x,t)::r=>.cons ⟨t,rfl⟩ (KO r)
def tK (x y:Str):Bool:=decide (x.length<=sizeLine)&&(!(y.length==0)&&(decide ((um x y).length<=sizeLine)&&decide ((uv x (jT x y 0 x.length (x.length+1)) y.length).length<=sizeLine)))
def zy1:yN X "str.split" (λx vs H Q=>∃ a b,x=.str a/\vs=[.str b]/\tK a b=true/\∀ p,H p=Gb->Q (.ref p) (fH H p (.lst ((um a b).map V.str)))):=by
 intro ω s σ H x vs v us Q I rx rv h;obtain⟨a,b,rfl,rfl,hok,q⟩:=h;obtain⟨t,rfl⟩:=rx;obtain⟨u,rfl,ru⟩:=rv.one;obtain⟨t2,rfl⟩:=ru;unfold tK at hok;rw[jl,jl,jl,decide_eq_true_eq,decide_eq_true_eq,decide_eq_true_eq,kX] at hok;obtain⟨z1,z2,z3,z4⟩:=hok;have hf:H s.heap.objs.size=Gb:=I.hok.fresh (jw _);have fin:∀ (l:List (Str×Tok)) (k:Nat),l.map (·.1)=um a b->EP X ω σ Q (.ref s.heap.objs.size) { s with toks:=k,heap:=s.heap.push { cls:=.type "list",data:=.seq (strValues l).toArray } }:=by
  intro l k e;have z3':((um a b).map V.str).length<=sizeLine:=by rwa[jc]
  have vv:fV ((um a b).map V.str) (strValues l):=by rw[<- e];exact KO l
  exact⟨.ref s.heap.objs.size,fH H s.heap.objs.size (.lst ((um a b).map V.str)),I.laid (t':=k) (λb u e=>jj _ e) (jw _) ⟨z3',strValues l,0,vv,jA _ rfl⟩,rfl,q _ hf⟩
 cases h1:(decide (a.length<b.length)||decide (k7 a<k7 b))
 .cases hf:(jT a b 0 a.length (a.length+1)).isEmpty
  .refine call_meets ui (typeIs_str _ _ _) u9 (vV _ _) (meets_str_split_sep a b t t2 h1 z2 hf z1 z4) ?_;show wants _ _ _ { s with toks:=_,heap:=s.heap.push { cls:=.type "list",data:=.seq (strsFrom s.toks (uv a (jT a b 0 a.length (a.length+1)) b.length)).toArray } };rw[strsFrom_eq];exact fin (numbered s.toks _) _ ((numbered_texts _ _).trans ((Gf (ne_true_of_eq_false h1)).trans (Gf (ne_true_of_eq_false hf))).symm)
  .exact call_meets ui (typeIs_str _ _ _) u9 (vV _ _) (meets_str_split_not_found a b t t2 h1 z2 hf)
    (fin [(a,t)] s.toks ((Gf (ne_true_of_eq_false h1)).trans (Ge hf)).symm)
 .exact call_meets ui (typeIs_str _ _ _) u9 (vV _ _) (meets_str_split_cannot_occur a b t t2 h1)
   (fin [(a,t)] s.toks (Ge h1).symm)
def wY:D->D->Option (List D)
 | .str x,.str y=>if tK x y=true then Ga ((um x y).map jp) else Gb
 | _,_=>Gb
def Ip {K:jb}{F:Hp}:∀ l:List Str,fL K F (l.map jp) (l.map V.str)
 | []=>.nil
 | x::r=>.cons (.str _) (Ip r)
def Te(ho:PV X o fo)(h:PV X e f)(hbase:attributeBase o "split" X.env (eval o X.env)=eval o X.env:=by rfl)
  (hst:starEach [e] X.env=[(false,eval e X.env)]:=by rfl) (hline:(p.endLine==p2.line)=true:=by rfl):PO X (.Call (.Attribute o "split" p) [e] [] p2) (rP wY fo f):=by
 refine ia (wv vm ui Jr zy1 ho (io h lH hst) hbase (by rw[hst];rfl) hline hst rfl) λσ H Q=>?_;rintro⟨H0,F,ψ,d,r,e,q⟩;obtain⟨x,e1,e'⟩:=ft e;obtain⟨y,e2,e⟩:=ft e';clear e';refine⟨H0,F,ψ,x,r,e1,λv H1 F1 g1 f1 fh1 n1 rv=>?_⟩;cases rv<;>first|(cases e;done)|skip
 rename_i a;refine⟨rfl,H0,F1,ψ,y,r.grow g1 f1 fh1 n1,e2,λw H2 F2 g2 f2 fh2 n2 rw_=>?_⟩;cases rw_<;>first|(cases e;done)|skip
 rename_i b;have e':(if tK a b=true then Ga ((um a b).map jp) else Gb)=Ga d:=e;split at e';rotate_left
 .cases e'
 rename_i hok;cases e';refine⟨a,b,rfl,rfl,hok,λp hp=>?_⟩;have s2:fw H2 (fH H2 p (.lst ((um a b).map V.str))):=fw.new hp;exact q p _ _ F2 ((g1.trans g2).trans s2) (f1.trans f2) (fh2.trans s2) (n1.trans n2 g1) ((g1.trans g2).free hp) (fh2.free hp) fI (Ip _)
def Qz {b:Str}:∀ {l:List Str} {j:Nat},j<l.idxOf b->∀ (h2:j<l.length),(l[j]==b)=false
 | [],j,h,h2=>absurd h2 (Jw _)
 | a::r,j,h,h2=>by
  rw[List.idxOf_cons] at h;cases e:a==b with
  | true=>rw[e] at h;exact absurd h (Jw _)
  | false =>
   rw[e] at h;cases j with
   | zero=>exact e
   | succ k=>exact Qz (Js h) (Js h2)
def Yv:yN X "list.index" (λx vs H Q=>∃ (p:Gk) (l:List Str) (b:Str),x=.ref p/\vs=[.str b]/\hZ X.K H p (l.map V.str)/\l.idxOf b<l.length/\Q (.int (l.idxOf b:Nat)) H):=by
 intro ω s σ H x vs v us Q I rx rv h;obtain⟨p,l,b,rfl,rfl,hl,hj,q⟩:=h;cases rx;obtain⟨u,rfl,ru⟩:=rv.one;obtain⟨t,rfl⟩:=ru;obtain⟨its,rv2,pl,hz⟩:=I.list hl;obtain⟨lt,rfl,e⟩:=NJ rv2;obtain⟨⟨cls,dd,data,sl⟩,ho,hc,n,hd⟩:=id pl.isList;simp only at hc hd;subst hc hd;have hlen:(strValues lt).length=l.length:=by rw[<- e];unfold strValues;rw[jc,jc]
 have hat:∀ j (h1:j<(strValues lt).length) (h2:j<l.length),∃ tk,(strValues lt)[j]=.str l[j] tk:=by
  intro j h1 h2;subst e;refine⟨(lt[j]'(by rw[jc] at h2;exact h2)).2,?_⟩;rw[Vf];exact Vf (λp:Str×Tok=>qI p.1 p.2)
 have z:l.length<=sizeLine:=by rw[jc] at hz;exact hz
 have zs:sizeLine<2^63-1:=by decide
 refine call_meets Jg ⟨_,ho,rfl⟩ PySem.F.entry_list_index (PySem.F.args_list_index_2 _ _)
  (SeqAt.list_indexAt p (strValues lt).toArray n dd sl (.str b t) (λv=>match v with|.str a _=>a==b|_=>false) (l.idxOf b) (by rwa[jv,hlen]) (by omega) ?_ ?_) ⟨ho,λy hy=>?_,⟨.int _,H,I.tok _,⟨_,rfl⟩,q⟩⟩
 .obtain⟨tk,e2⟩:=hat (l.idxOf b) (by rwa[hlen]) hj;show(match (strValues lt)[l.idxOf b]'_ with|.str a _=>a==b|_=>false)=true;rw[e2]
  simpa using List.getElem_idxOf hj
 .intro j hjs hlt;have h2:j<l.length:=qd hlt hj;obtain⟨tk,e2⟩:=hat j (by rwa[hlen]) h2;show(match (strValues lt)[j]'_ with|.str a _=>a==b|_=>false)=false;rw[e2];exact Qz hlt h2
 .have hy':y∈strValues lt:=by simpa using hy
  unfold strValues at hy';obtain⟨⟨a,tk⟩,_,rfl⟩:=jr.mp hy';exact SeqAt.EqAt.str_str a tk b t
def xz:D->D->Option D
 | .list ds,.str b=>(mw ds).bind λl=>if l.idxOf b<l.length then Ga (.int (l.idxOf b:Nat)) else Gb
 | _,_=>Gb
def zB2(ho:PV X o fo)(h:PV X e f)(hbase:attributeBase o "index" X.env (eval o X.env)=eval o X.env:=by rfl)
  (hst:starEach [e] X.env=[(false,eval e X.env)]:=by rfl) (hline:(p.endLine==p2.line)=true:=by rfl):PV X (.Call (.Attribute o "index" p) [e] [] p2) (fG xz fo f):=by
 refine ia (wv Jd Jg PySem.F.type_list_index Yv ho (io h lH hst) hbase (by rw[hst];rfl) hline hst rfl) λσ H Q=>?_;rintro⟨H0,F,ψ,d,r,e,q⟩;obtain⟨x,e1,e'⟩:=ft e;obtain⟨y,e2,e⟩:=ft e';clear e';refine⟨H0,F,ψ,x,r,e1,λv H1 F1 g1 f1 fh1 n1 rv=>?_⟩;cases rv<;>first|(cases e;done)|skip
 rename_i a xs ds sq rr;refine⟨.inl ⟨rfl,xs,fh1.seq sq⟩,H0,F1,ψ,y,r.grow g1 f1 fh1 n1,e2,λw H2 F2 g2 f2 fh2 n2 rw_=>?_⟩;cases rw_<;>first|(cases e;done)|skip
 rename_i b;obtain⟨l,e3,e4⟩:=ft (show(mw ds).bind (λl=>if l.idxOf b<l.length then Ga (jd (l.idxOf b:Nat)) else Gb)=Ga d from e);split at e4;rotate_left
 .cases e4
 rename_i hj;cases e4;have:=Kk e3 rr;subst this;exact⟨a,l,b,rfl,rfl,g2.seq (fh1.seq sq),hj,q _ H2 F2 (g1.trans g2) (f1.trans f2) fh2 (n1.trans n2 g1) (.int _)⟩
def zB3:ir X (binaryOp .Add) (λx y H Q=>∃ (p p2:Gk) (xs xs2:List V),x=.ref p/\y=.ref p2/\hZ X.K H p xs/\hZ X.K H p2 xs2/\xs.length+xs2.length<=sizeLine/\∀ l,H l=Gb->Q (.ref l) (fH H l (.lst (xs++xs2)))):=by
 intro ω s σ H x y v u Q I rx ry h;obtain⟨p,p2,xs,xs2,rfl,rfl,h1,h2,c,q⟩:=h;cases rx;cases ry;obtain⟨its,r,pl,hz⟩:=I.list h1;obtain⟨its2,r2,pl2,hz2⟩:=I.list h2;obtain⟨o,n,e1,c1,d1,k1⟩:=pl;obtain⟨o2,n2,e2,c2,d2,k2⟩:=pl2;have l3:=r.length;have l4:=r2.length;obtain⟨oc,od,oda,osl⟩:=o;obtain⟨oc2,od2,oda2,osl2⟩:=o2;simp only at c1 d1 k1 c2 d2 k2;subst c1 d1 k1 c2 d2 k2;refine concat_meets ⟨_,e1,rfl⟩ ⟨_,e2,rfl⟩ noFill_list_add seq_list_add JC Jl (Jc _ _)
  (list_addW p p2 its.toArray its2.toArray n n2 _ _ _ _ (by rw[jv,jv];omega)) ⟨e1,e2,?_⟩
 have ea:its.toArray++its2.toArray=(its++its2).toArray:=by simp
 rw[ea];exact⟨.ref _,_,I.lnew (t':=s.toks) (r.append r2) (by rw[je];omega),rfl,q _ I.fresh⟩
def Ct:D->D->Option (List D)
 | .list xs,.list ys=>if xs.length+ys.length<=sizeLine then Ga (xs++ys) else Gb
 | _,_=>Gb
def XC(ha:PV X a f)(hb:PV X b g):PO X (.BinOp a .Add b pos) (rP Ct f g):=by
 refine ia (zo zB3 ha hb) λσ H Q=>?_;rintro⟨H0,F,ψ,rs,r,e,q⟩;obtain⟨d1,e1,e3⟩:=ft e;obtain⟨d2,e2,e4⟩:=ft e3;clear e e3;refine⟨H0,F,ψ,d1,r,e1,λv H1 F1 g1 f1 fh1 n1 rv=>⟨H0,F1,ψ,d2,r.grow g1 f1 fh1 n1,e2,λv2 H2 F2 g2 f2 fh2 n2 rv2=>?_⟩⟩;cases rv<;>first|(cases e4;done)|skip
 rename_i p xs ds h1 q1;cases rv2<;>first|(cases e4;done)|skip
 rename_i p2 xs2 ds2 h2 q2;have e5:(if ds.length+ds2.length<=sizeLine then Ga (ds++ds2) else Gb)=Ga rs:=e4;split at e5
 .rename_i c;cases e5;refine⟨p,p2,xs,xs2,rfl,rfl,g2.seq (fh1.seq h1),fh2.seq h2,by rwa[<- q1.length,<- q2.length],λl hl=>?_⟩;have s2:fw H2 (fH H2 l (.lst (xs++xs2))):=fw.new hl;exact q l _ _ F2 ((g1.trans g2).trans s2) (f1.trans f2) (fh2.trans s2) (n1.trans n2 g1) ((g1.trans g2).free hl) (fh2.free hl) fI ((q1.mono f2).append q2)
 .cases e5
noncomputable section
def yE (f:FV)(g h:FP):FV:=λψ=>(f ψ).bind λx=>(g ψ).bind λl=>(h ψ).bind λu=>og x l u
def zEy (f:FV)(g h:FP)(ψ:En):yE f g h ψ=(f ψ).bind λx=>(g ψ).bind λl=>(h ψ).bind λu=>og x l u:=(rfl)
def sY (f:FV)(g:FL):FV:=λψ=>(f ψ).bind λa=>(g ψ).bind λds=>mF a ds
def zy3 (f:FV)(g:FL)(ψ:En):sY f g ψ=(f ψ).bind λa=>(g ψ).bind λds=>mF a ds:=(rfl)
def Oo (d:List D)(i:Int):gb (.list d) (.int i)=atI d i:=(rfl)
def zEz (d:List D):lq (.list d)=Ga d:=(rfl)
def RA (d:List D)(i:Int):gb (.tuple d) (.int i)=atI d i:=(rfl)
def zEA (x:Str):lq (.str x)=Ga ((sg x).map one):=(rfl)
def ZN (x y:Str):rM (.str x) (.str y)=Ga (.bool (Ag x y)):=(rfl)
def Zu (x y:Str):nP (.str x) (.str y)=Ga (.bool (uw x y)):=(rfl)
def LO (d:List D)(l h:Option Int):og (.list d) l h=Ga (.list (cutD d l h)):=(rfl)
def Hr {y:Str}(hx:kM x=true)(hy:kM y=true):gN (.str x) (.str y)=Ga (.bool (!decide (x=y))):=by
 show(if (kM x&&kM y&&true)=true then Ga (jS (!(x==y))) else Gb)=_;rw[hx,hy,Ge (by decide)];by_cases h:x=y
 .subst h;rw[Gc rfl,beq_self_eq_true]
 .rw[Gd h,beq_eq_false_iff_ne.mpr h]
end
def rS (x y:Str)(k:Int):List Str:=uv x (jT x y 0 x.length (limitOf x k)) y.length
def wx (x y:Str)(k:Int):Bool:=decide (x.length<=sizeLine)&&(!(y.length==0)&&(!(decide (x.length<y.length)||decide (k7 x<k7 y))&&(!(jT x y 0 x.length (limitOf x k)).isEmpty&&(decide ((rS x y k).length<=sizeLine)&&!(decide (k < -(2^63:Int))||decide (k≥2^63))))))
def zv8:yN X "str.split" (λx vs H Q=>∃ a b k,x=.str a/\vs=[.str b,.int k]/\wx a b k=true/\∀ p,H p=Gb->Q (.ref p) (fH H p (.lst ((rS a b k).map V.str)))):=by
 intro ω s σ H x vs v us Q I rx rv h;obtain⟨a,b,k,rfl,rfl,hok,q⟩:=h;obtain⟨t,rfl⟩:=rx;cases rv with
 | cons r1 r2 =>
  cases r2 with
  | cons r2 r3 =>
   cases r3;obtain⟨t1,rfl⟩:=r1;obtain⟨t2,rfl⟩:=r2;unfold wx at hok;simp only[jl,kX,decide_eq_true_eq] at hok;obtain⟨z1,z2,z3,z4,z5,z6⟩:=hok;have hf:H s.heap.objs.size=Gb:=I.hok.fresh (jw _);refine call_meets ui (typeIs_str _ _ _) u9 (PySem.F.args_str_split_3 _ _ _) (meets_str_split_sep_max a b k t t1 t2 z6 z3 z2 z4 z1 z5) ?_;show wants _ _ _ { s with toks:=_,heap:=s.heap.push { cls:=.type "list",data:=.seq (strsFrom s.toks (rS a b k)).toArray } };rw[strsFrom_eq];have z5':((rS a b k).map V.str).length<=sizeLine:=by rwa[jc]
   have vv:fV ((rS a b k).map V.str) (strValues (numbered s.toks (rS a b k))):=by have z:=KO (numbered s.toks (rS a b k));rw[numbered_texts] at z;exact z
   exact⟨.ref s.heap.objs.size,fH H s.heap.objs.size (.lst ((rS a b k).map V.str)),I.laid (λb u e=>jj _ e) (jw _) ⟨z5',_,0,vv,jA _ rfl⟩,rfl,q _ hf⟩
def zB:D->D->D->Option (List D)
 | .str x,.str y,.int k=>if wx x y k=true then Ga ((rS x y k).map jp) else Gb
 | _,_,_=>Gb
def Eb (g:D->D->D->Option (List D))(f1 f2 f3:FV):FL:=λψ=>(f1 ψ).bind λa=>(f2 ψ).bind λb=>(f3 ψ).bind λc=>g a b c
def zy5 {e3:Expr}{f3:FV}(ho:PV X o fo)(h:PV X e f)(h3:PV X e3 f3)(hbase:attributeBase o "split" X.env (eval o X.env)=eval o X.env:=by rfl)
  (hst:starEach [e,e3] X.env=(false,eval e X.env)::starEach [e3] X.env:=by rfl) (hst2:starEach [e3] X.env=[(false,eval e3 X.env)]:=by rfl) (hfew:((backTo p2 (starEach [e,e3] X.env)).all (λx=>!x.1)&&(backToKw p2 (keywordEach [] X.env)).all (λx=>x.1.isSome)
   && decide ([e,e3].length+([]:List Keyword).length+(if ([]:List Keyword).isEmpty then 0 else 1)<30))=true:=by rfl) (hline:(p.endLine==p2.line)=true:=by rfl) (hplain:(backTo p2 (starEach [e3] X.env)).any (·.1)=false:=by rfl):PO X (.Call (.Attribute o "split" p) [e,e3] [] p2) (Eb zB fo f f3):=by
 refine ia (wv vm ui Jr zv8 ho (io h (io h3 lH hst2) hst) hbase hfew hline hst hplain) λσ H Q=>?_;rintro⟨H0,F,ψ,d,r,e,q⟩;obtain⟨x,e1,e'⟩:=ft e;obtain⟨y,e2,e''⟩:=ft e';obtain⟨z,e3,e⟩:=ft e'';clear e' e'';refine⟨H0,F,ψ,x,r,e1,λv H1 F1 g1 f1 fh1 n1 rv=>?_⟩;cases rv<;>first|(cases e;done)|skip
 rename_i a;have r1:=r.grow g1 f1 fh1 n1;refine⟨rfl,H0,F1,ψ,y,r1,e2,λw H2 F2 g2 f2 fh2 n2 rw_=>?_⟩;cases rw_<;>first|(cases e;done)|skip
 rename_i b;refine⟨H0,F2,ψ,z,r1.grow g2 f2 fh2 n2,e3,λw3 H3 F3 g3 f3 fh3 n3 rw3=>?_⟩;cases rw3<;>first|(cases e;done)|skip
 rename_i k;have e':(if wx a b k=true then Ga ((rS a b k).map jp) else Gb)=Ga d:=e;split at e';rotate_left
 .cases e'
 rename_i hok;cases e';refine⟨a,b,k,rfl,rfl,hok,λp hp=>?_⟩;have s2:fw H3 (fH H3 p (.lst ((rS a b k).map V.str))):=fw.new hp;have gg:=(g1.trans g2).trans g3;exact q p _ _ F3 (gg.trans s2) ((f1.trans f2).trans f3) (fh3.trans s2) ((n1.trans n2 g1).trans n3 (g1.trans g2)) (gg.free hp) (fh3.free hp) fI (Ip _)
def atT (kvs:List (Str×D))(k:Str):Option D:=(kvs.find? λp=>decide (p.1=k)).map (·.2)
def gK (kvs:List (Str×D))(k:Str)(d:D):List (Str×D):=if (kvs.any λp=>decide (p.1=k))=true then kvs.map (λp=>if p.1=k then(p.1,d) else p) else kvs++[(k,d)]
def gD.length {K:jb}{F:Hp}:∀ {l:List (Str×D)} {m:List (gI×V)},gD K F l m->m.length=l.length
 | _,_,.nil=>rfl
 | _,_,.cons _ t=>congrArg J0 t.length
def gD.at {K:jb}{F:Hp}(k:Str):∀ {l:List (Str×D)} {m:List (gI×V)},gD K F l m->(atT l k=Gb/\pY m (Sum.inr k:gI)=Gb)\/∃ d v,atT l k=Ga d/\pY m (Sum.inr k:gI)=Ga v/\gG K F d v
 | _,_,.nil=>.inl ⟨rfl,rfl⟩
 | (j,d)::l,(_,v)::m,.cons h t=>by
  by_cases c:j=k
  .subst c;exact .inr ⟨d,v,by unfold atT;rw[uj (p:=λ(p:Str×D)=>decide (p.1=j)) (Gc rfl)];rfl,Ah rfl,h⟩
  .rw[AS (λz=>c (Sum.inr.inj z))];unfold atT;rw[uD (p:=λ(p:Str×D)=>decide (p.1=k)) (by simpa using c)];exact t.at k
def gD.any {K:jb}{F:Hp}(k:Str):∀ {l:List (Str×D)} {m:List (gI×V)},gD K F l m->(m.any λkv=>decide (kv.1=(Sum.inr k:gI)))=l.any λp=>decide (p.1=k)
 | _,_,.nil=>rfl
 | (j,d)::l,(_,v)::m,.cons h t=>by rw[vT,vT,t.any k,Ev]
def gD.maps {K:jb}{F:Hp}{k:Str}{d:D}{v:V}(q:gG K F d v):∀ {l:List (Str×D)} {m:List (gI×V)},gD K F l m->gD K F (l.map λp=>if p.1=k then(p.1,d) else p) (m.map λkv=>if kv.1=(Sum.inr k:gI) then(kv.1,v) else kv)
 | _,_,.nil=>.nil
 | (j,e)::l,(_,u)::m,.cons h t=>by
  rw[jO,jO];by_cases c:j=k
  .subst c;rw[Ge rfl,Ge rfl];exact .cons q (t.maps q)
  .rw[Gf c,Gf (λz=>c (Sum.inr.inj z))];exact .cons h (t.maps q)
def gD.snoc {K:jb}{F:Hp}{k:Str}{d:D}{v:V}(q:gG K F d v):∀ {l:List (Str×D)} {m:List (gI×V)},gD K F l m->gD K F (l++[(k,d)]) (m++[((Sum.inr k:gI),v)])
 | _,_,.nil=>.cons q .nil
 | _,_,.cons h t=>.cons h (t.snoc q)
def gD.put{l:List (Str×D)}{m:List (gI×V)}(r:gD K F l m)(q:gG K F d v):gD K F (gK l k d) (sE m (Sum.inr k:gI) v):=by
 unfold gK sE;rw[r.any k];split
 .exact r.maps q
 .exact r.snoc q
def FO:List (D×D)->Option (List (Str×D))
 | []=>Ga []
 | (.str k,d)::r=>(FO r).bind λl=>Ga ((k,d)::l)
 | _=>Gb
def Cf:D->Option (List (Str×D))
 | .dict ((.none,.none)::(.none,.none)::l)=>FO l
 | _=>Gb
def Rh:∀ kvs:List (Str×D),FO (kvs.map λp=>(jp p.1,p.2))=Ga kvs
 | []=>rfl
 | (k,d)::r=>by
  show(FO (r.map λp=>(jp p.1,p.2))).bind _=_;rw[Rh r];rfl
def Uo (kvs:List (Str×D)):Cf (lP kvs)=Ga kvs:=Rh kvs
def gG.str_dict(r:gG K F d v)(e:Cf d=Ga kvs):∃ a ws,v=.ref a/\Rd F a (.dK ws)/\gD K F kvs ws:=by
 cases r with
 | @dcs a kvs' ws h r =>
  have e':Cf (lP kvs')=Ga kvs:=e;rw[Uo] at e';cases e';exact⟨a,ws,rfl,h,r⟩
 | @dic a ks as ep hs h ok r =>
  cases ks with
  | nil=>cases e
  | cons k r=>cases k<;>cases e
 | _=>cases e
def iQ (d:D):D->Option D
 | .str k=>(Cf d).bind λkvs=>atT kvs k
 | _=>Gb
def AH(hu:X.A.units+100<cLine)(ha:PV X a f)(hb:PV X b g)(hs:zJ b:=by exact λ_ _=>rfl):PV X (.Subscript a b pos) (fG iQ f g):=by
 refine ia (AY (by omega) ha hb hs) λσ H Q=>?_;rintro⟨H0,F,ψ,d,r,e,q⟩;obtain⟨x,e1,e⟩:=ft e;obtain⟨y,e2,e⟩:=ft e;obtain⟨k,rfl⟩:∃ k:Str,y=.str k:=by cases y<;>first|(cases e;done)|exact⟨_,rfl⟩
 obtain⟨kvs,e3,e4⟩:=ft (show(Cf x).bind (λkvs=>atT kvs k)=Ga d from e);refine⟨H0,F,ψ,x,r,e1,λv H1 F1 g1 f1 fh1 n1 rv=>?_⟩;refine⟨H0,F1,ψ,.str k,r.grow g1 f1 fh1 n1,e2,λv2 H2 F2 g2 f2 fh2 n2 rv2=>?_⟩;cases rv2;obtain⟨a,ws,rfl,fa,rr⟩:=(rv.mono f2).str_dict e3;rcases rr.at k with ⟨z1,z2⟩|⟨d',v',z1,z2,z3⟩
 .rw[z1] at e4;cases e4
 .rw[z1] at e4;cases e4;exact⟨a,v',rfl,⟨ws,Sum.inr k,Rd.mono fh2 fa,rfl,z2.symm⟩,q v' H2 F2 (g1.trans g2) (f1.trans f2) fh2 (n1.trans n2 g1) z3⟩
def QE (i:Nat){pos':Pos}(hN:X.N.Nodup)(hi:X.N[i]?=Ga x:=by rfl)(hx:tP X.env.scope x:=by first|exact kC rfl|exact j7 rfl)
  (hs:swapsWith (.Dict [] [] p) (Ga (.Name x pos')) pos.line X.env=pure false:=by rfl) (hf:X.fn x=true\/X.env.scope.names.lookup x=Ga .local:=by first|exact .inl rfl|exact .inr rfl) :
  mo X (.Assign [.Name x pos'] (.Dict [] [] p) pos) (λψ=>Ga (.nx (ψ.set i (.dks [])))):=by
 intro ω s σ H D I hw;refine sZ hN hi hx zE hs hf ω s σ H D I ?_;obtain⟨H0,F,ψ,o,r,e,p⟩:=hw;cases e;have hl:i<σ.length:=by rw[I.len];exact(ju.mp hi).1
 intro a ha;exact p _ _ F (.refl _) (.refl _ _) ((r.later (fw.new ha)).putG hl ⟨a,[],rfl,fI,r.fh.free ha,r.h0.free ha,.nil⟩ λj s o _ ej=>r.ne_free ha j s o ej)
def om (i:Nat)(f g:FV):FS:=λψ=>(g ψ).bind λv=>(f ψ).bind λk=>match ψ[i]?,k with
 | some (.dks kvs),.str n=>if kvs.length<1000 then Ga (.nx (ψ.set i (.dks (gK kvs n v)))) else Gb
 | _,_=>Gb
def QJ (i:Nat)(hu:X.A.units+100<cLine)(hk:PV X ke f)(hval:PV X value g)(hN:X.N[i]?=Ga x:=by rfl)(hv:oz X.env.scope x:=by first|exact kC rfl|exact j7 (kC rfl)|exact j7 (j7 rfl))
  (hd:(x==("__debug__":Str))=false:=by decide) (hcd:(x==("__classdict__":Str))=false:=by decide)
  (hs:swapsWith value (Ga (.Subscript (.Name x p) ke p2)) pos.line X.env=pure false:=by rfl) :
  mo X (.Assign [.Subscript (.Name x p) ke p2] value pos) (om i f g):=by
 refine nO (Ci (by omega) (lE (pos:=p) hN hv hd hcd) hk hval hs) λE σ H=>?_;rintro⟨H0,F,ψ,o,r,e,p⟩;obtain⟨v,e0,e⟩:=ft e;obtain⟨k,e1,e2⟩:=ft e;clear e;split at e2;rotate_left
 .cases e2
 rename_i kvs n z;split at e2;rotate_left
 .cases e2
 rename_i c;cases e2;refine⟨H0,F,ψ,v,r,e0,λvv H1 F1 g1 f1 fh1 n1 rv=>?_⟩;have r1:=r.grow g1 f1 fh1 n1;obtain⟨u,x3,a,ws,x4,ha1,fa,h0a,rr⟩:=r1.sl i _ z;subst x4;refine⟨.ref a,x3,H0,F1,ψ,.str n,r1,e1,λkk H2 F2 g2 f2 fh2 n2 rk=>?_⟩;cases rk;have r2:=r1.grow g2 f2 fh2 n2;obtain⟨u,x5,a',ws',x6,ha2,fa2,h0a2,nL⟩:=r2.sl i _ z;subst x6;rw[x3] at x5;cases x5;refine⟨a,_,rfl,yG.k9 (k:=Sum.inr n) ha2 (by rw[nL.length];exact jx c (by rw[sizeLine_eq];decide)),?_⟩;exact p σ _ F2 (f1.trans f2) (((n1.dn r.h0).up (n2.dn r1.h0))) (r2.chgG z rfl x3 ⟨a,_,rfl,fI,fa2,h0a2,nL.put (rv.mono f2)⟩)
abbrev su (o:Obj)(ws:List (gI×V)):HO:=.frz o (.dK ws)
variable {o:Obj}{g:FS}
def fw.upD{a:Gk}(s:fw F H)(fa:F a=Gb)(m:∀ o u,H a≠Ga (.frz o u)):fw (fH F a (su o ws)) (fH H a (su o ws)):=λb u h=>by
 by_cases hb:b=a
 .subst hb;rw[fI] at h ⊢;cases h;exact rfl
 .rw[fJ hb] at h ⊢;exact s b u h
def RS.frzD(r:RS K H0 F H ψ σ){a:Gk}(e:ψ[i]?=Ga (.dks kvs))(u:σ[i]?=Ga (Ga (.ref a)))(ha:H a=Ga (.dK ws))(fa:F a=Gb)(h0a:H0 a=Gb)(rr:gD K F kvs ws) :
  fw F (fH F a (su o ws))/\gu F (fH F a (su o ws)) H0/\RS K H0 (fH F a (su o ws)) (fH H a (su o ws)) (ψ.set i (.val (lP kvs))) σ:=by
 have hl:i<ψ.length:=(ju.mp e).1;have nf:∀ x v,H a≠Ga (.frz x v):=λx v z=>by rw[ha] at z;cases z
 have sF:fw F (fH F a (su o ws)):=fw.new fa;refine⟨sF,λb x h n=>?_,⟨r.h0.put h0a nf,fw.upD r.fh fa nf,λj s ej=>?_,λj k b s t o1 o2 x1 x2 x3 x4=>?_⟩⟩
 .by_cases hb:b=a
  .subst hb;exact h0a
  .rw[fJ hb,n] at h;cases h
 .by_cases h:i=j
  .subst h;rw[jG hl] at ej;cases ej;exact⟨_,u,_,rfl,.dcs (.inr ⟨o,fI⟩) (rr.mono sF)⟩
  .rw[jJ h] at ej;obtain⟨w,z1,q2⟩:=r.sl j s ej;refine⟨w,z1,q2.to sF λb ob2 ow z2 hb fb _=>?_⟩;subst z2;have ne:b≠a:=λz=>by subst z;exact h (r.ap i j b _ _ rfl ow e ej u z1)
   rw[fJ ne,fJ ne];exact⟨hb,fb⟩
 .have f1:∀ (j:Nat) (s:Sl),lY s=true->(ψ.set i (.val (lP kvs)))[j]?=Ga s->ψ[j]?=Ga s:=λj s o h=>by
   by_cases hj:i=j
   .subst hj;rw[jG hl] at h;cases h;cases o
   .rw[jJ hj] at h;exact h
  exact r.ap j k b _ _ o1 o2 (f1 j _ o1 x1) (f1 k _ o2 x2) x3 x4
def Rx (d:Gk)(o:Obj)(ws:List (gI×V)):It :=
 ⟨λi H=>H d=Ga (su o ws)/\(∀ p∈ws,∃ x,p.1=Sum.inr x)/\i<ws.length,λi H v H'=>H'=H/\∃ k v',ws[i]?=Ga (Sum.inr k,v')/\v=.str k,λi H=>H d=Ga (su o ws)/\ws.length<=i⟩
def Qo {P:Program}{w:World}:∀ {es:List DictEntry} {vs:List (gI×Gg)} {ws:List (gI×V)} {i:Nat} {k:Str} {v:V},Pairs (iW P w) es vs->KV ws vs->ws[i]?=Ga (Sum.inr k,v)->∃ e t,es[i]?=Ga e/\e.key=.str k t
 | _,_,_,i,_,_,.nil,r,h=>by cases r;simp at h
 | _,_,_,0,_,_,.cons h1 _ _,r,h=>by
  cases r with
  | cons a t =>
   cases h;obtain⟨x,t,e1,e2⟩|⟨x,t,e1,e2⟩:=iI h1
   .rw[<- a.1] at e1;cases e1
   .rw[<- a.1] at e1;cases e1;exact⟨_,t,rfl,e2⟩
 | _,_,_,i+1,_,_,.cons _ _ t,r,h=>by
  cases r with
  | cons a r=>exact Qo (i:=i) t r h
def Ih{d:Gk}(ok:lJ P w H h)(e:H d=Ga (su o ws)):∃ es ep,o.data=.dict es ep/\nD h d es ep/\es.size=ws.length/\∀ (i:Nat) (k:Str) (v:V),ws[i]?=Ga (Sum.inr k,v)->∃ (en:DictEntry) (t:Tok),es[i]?=Ga en/\en.key=.str k t:=by
 obtain⟨g1,_,_,vs,rel,o',es,ep,g2,c,dd,_,pr,_⟩:=(show iy P w H h d (.frz o (.dK ws)) from ok d _ e);rw[g1] at g2;cases g2;refine⟨es,ep,dd,⟨o,g1,c,dd⟩,?_,λi k v z=>?_⟩
 .rw[<- jP,pr.length];exact rel.length.symm
 .obtain⟨en,t,e1,e2⟩:=Qo (i:=i) pr rel z;exact⟨en,t,by rwa[<- kJ],e2⟩
def zwE(d it:Gk)(o:Obj)(ws:List (gI×V)){es0:Array DictEntry}(hd:o.data=.dict es0 ep):tz P w K tg (Rx d o ws) [it] it (λi h=>h.IsKeyIter it d i ws.length ep) where
 mem:=by simp
 obj:=λi h st b hb=>by
  cases jn.mp hb;obtain⟨o,e,c,dd⟩:=st;exact⟨o,e,λv z=>by rw[dd] at z;cases z⟩
 keep:=λi h h' st k=>st.at λo e=>k it (by simp) o e
 item:=by
  intro X hP hw hK hc i ω s σ H E I hf st hg;subst hP hw hK;obtain⟨hq,ht,hi⟩:=hg;obtain⟨f0,f1,f2,f3,f4,f5⟩:=hf it (by simp);obtain⟨es,ep',d1,dr,sz,gt⟩:=Ih I.hok hq;rw[hd] at d1;cases d1;obtain⟨k,hk⟩:∃ k v,ws[i]?=Ga (Sum.inr k,v):=by
   obtain⟨x,hx⟩:=ht _ (k0 hi);refine⟨x,(ws[i]).2,?_⟩;rw[jg hi];exact congrArg Ga (Prod.ext hx rfl)
  obtain⟨v,hk⟩:=hk;obtain⟨e,t,e1,e2⟩:=gt i k v hk;refine SB (es:=es0) (ep:=ep) (e:=e) (by rwa[sz]) dr e1 λh' st' sb=>?_;rw[sz] at st';rw[e2];have I1:fB X ω σ H { s with heap:=h' }:=I.turned (t':=s.toks) (λb o hb e=>(sb.2 b hb).trans e) f0 f1 f3 f4 f5;obtain⟨o,x1,x2,x3⟩:=id st';exact⟨_,rfl,xE (s:={ s with heap:=h' }) x1 x2 x3 (by decide) ⟨.str k,H,I1,⟨t,rfl⟩,⟨rfl,k,v,hk,rfl⟩,st',λb hb=>(hf b hb).1⟩⟩
 done:=by
  intro X hP hw hK hc i ω s σ H E I hf st hg;subst hP hw hK;obtain⟨hq,hi⟩:=hg;obtain⟨f0,f1,f2,f3,f4,f5⟩:=hf it (by simp);obtain⟨es,ep',d1,dr,sz,gt⟩:=Ih I.hok hq;rw[hd] at d1;cases d1;exact QH (es:=es0) (ep:=ep) (I.ok.hd hc) (by rwa[sz]) dr (by rwa[sz]) λh' eb=>⟨rfl,I.turned (t':=s.toks) (λb o hb e=>eb b o hb e) f0 f1 f3 f4 f5⟩
 self:=λ_ _ _ _ _ st h=>wpAny_pyIter_keyiter st h
def gD.get {K:jb}{F:Hp}:∀ {l:List (Str×D)} {m:List (gI×V)} {i:Nat} {k:Str} {d:D},gD K F l m->l[i]?=Ga (k,d)->∃ v,m[i]?=Ga (Sum.inr k,v)
 | _,_,i,_,_,.nil,h=>by simp at h
 | _,_,0,_,_,.cons _ _,h=>by cases h;exact⟨_,rfl⟩
 | _,_,i+1,_,_,.cons _ t,h=>t.get (i:=i) h
def gD.keys {K:jb}{F:Hp}:∀ {l:List (Str×D)} {m:List (gI×V)},gD K F l m->∀ p∈m,∃ x,p.1=Sum.inr x
 | _,_,.nil,p,h=>by simp at h
 | _,_,.cons _ t,p,h=>by
  rcases jo.mp h with rfl|h
  .exact⟨_,rfl⟩
  .exact t.keys p h
def zrV{d:Gk}(h:F d=Ga (su o ws))(r:gD K F kvs ws):lW K (Rx d o ws) F (kvs.map λp=>.str p.1):=by
 intro H g i;have hl:=r.length;refine⟨λhi=>⟨g _ _ h,by rw[jc] at hi;omega⟩,λx hx=>?_⟩;have hi:i<(kvs.map λp=>jp p.1).length:=(ju.mp hx).1;rw[jc] at hi;refine⟨⟨g _ _ h,r.keys,by omega⟩,λv H' y=>?_⟩;obtain⟨rfl,k,v',e1,rfl⟩:=y;rw[jz,jg hi] at hx;cases hx;obtain⟨v2,e2⟩:=r.get (i:=i) (k:=kvs[i].1) (d:=kvs[i].2) (jg hi);rw[e2] at e1;cases e1;exact⟨.refl _,F,.refl _,g,.refl _ _,.str _⟩
def ZD (K:jb)(i:Nat):TI:=λσ H R=>∃ H0 F ψ kvs,RS K H0 F H ψ σ/\ψ[i]?=Ga (.dks kvs)/\∀ J H' F',fw F F'->gu F F' H0->RS K H0 F' H' (ψ.set i (.val (lP kvs))) σ->(∀ F2,fw F' F2->lW K J F2 (kvs.map λp=>.str p.1))->R J H'
def zGj (i:Nat)(hN:X.N[i]?=Ga x:=by rfl)(hv:oz X.env.scope x:=by first|exact kC rfl|exact j7 (kC rfl)|exact j7 (j7 rfl))(hd:(x==("__debug__":Str))=false:=by decide)
  (hcd:(x==("__classdict__":Str))=false:=by decide):PI X tg (.Name x p) (ZD X.K i):=by
 intro ω s σ H R I hw;obtain⟨H0,F,ψ,kvs,r,e,q⟩:=hw;obtain⟨u,x3,a,ws,x4,ha,fa,h0a,rr⟩:=r.sl i _ e;subst x4;refine gn (lE hN hv hd hcd ω s σ H (λv H1=>v=.ref a/\H1=H) I ⟨.ref a,x3,rfl,rfl⟩) λu s1 ⟨v,H1,I1,rx,ev,eH⟩=>?_;subst ev;subst eH;cases rx;obtain⟨_,sm,vs,rel,o,es0,ep0,go,cd,dd,kk,pr,nd⟩:=wm I1.hok (.inl ha);obtain⟨sF,nF,r2⟩:=r.frzD (o:=o) e x3 ha fa h0a rr;have I2:fB X ω σ (fH H1 a (su o ws)) s1:=by
  have z:=yF (t':=s1.toks) (h':=s1.heap) (ob:=su o ws) I1 (by rw[ha];trivial) ⟨rfl,λ_ _=>rfl⟩ ⟨o,go⟩ ⟨go,(show iy X.prog X.w _ s1.heap a (.dK ws) from I1.hok a _ ha)⟩;exact z
 obtain⟨es,ep,d1,dr,sz,gt⟩:=Ih I2.hok fI;refine Tz (es:=es) (ep:=ep) sm dr ⟨s1.heap.objs.size,[s1.heap.objs.size],_,_,_,rfl,I2.kept (t':=s1.toks) λb o e=>jj _ e,zwE a _ o ws d1,⟨_,jA _ rfl,rfl,by rw[sz];rfl⟩,λb hb=>?_,q _ _ _ sF nF r2 λF3 f3=>zrV (f3 _ _ fI) ((rr.mono sF).mono f3)⟩;cases jn.mp hb;exact I2.fpOk (jw _) I2.fresh
def xm (i:Nat)(t:FT)(g:FS):FS:=λψ=>match ψ[i]? with
 | some (.dks kvs)=>gk t g (kvs.map λp=>.str p.1) (ψ.set i (.val (lP kvs)))
 | _=>Gb
def zEB (i:Nat)(hp:PassesOwn (model X.prog X.w) X.A X.env X.xe)(hc:X.calm=true)(hg:sP X tg t)(hb:mV X body g)
  (hN:X.N[i]?=Ga x:=by rfl) (hv:oz X.env.scope x:=by first|exact kC rfl|exact j7 (kC rfl)|exact j7 (j7 rfl)) (hd:(x==("__debug__":Str))=false:=by decide)
  (hcd:(x==("__classdict__":Str))=false:=by decide)
  (hs:∀ y,foldedSetIterable (.Name x p) X.env y=pure y:=by intro _;rfl):mo X (.For tg (.Name x p) body [] pos) (xm i t g):=by
 refine nO (AG hp hc (zGj i hN hv hd hcd) hg hb hs) λE σ H=>?_;rintro⟨H0,F,ψ,o,r,e,p⟩;unfold xm at e;split at e;rotate_left
 .cases e
 rename_i kvs z;refine⟨H0,F,ψ,kvs,r,z,λJ H1 F1 f1 n1 r1 Y=>?_⟩;generalize (kvs.map λp=>(jp p.1:D))=ds at e Y;generalize ψ.set i (.val (lP kvs))=env1 at e r1;have p1:=p.mono f1 n1;refine⟨λi m σ H=>i+m=ds.length/\∃ F2 ψ,RS X.K H0 F2 H ψ σ/\fw F1 F2/\gu F1 F2 H0/\gk t g (ds.drop i) ψ=Ga o,⟨ds.length,by omega,F1,env1,r1,.refl _,.refl _ _,e⟩,?_⟩;rintro i m σ' H' ⟨hm,F2,mZ,r2,f2,n2,e2⟩;have p2:=p1.mono f2 n2;obtain⟨yd,yg⟩:=Y F2 f2 H' r2.fh i;by_cases hlt:i<ds.length
 .obtain⟨go,yy⟩:=yg ds[i] (by simp[hlt]);rw[uN hlt] at e2;unfold gk at e2;obtain⟨e3,x1,x2⟩:=ft e2;obtain⟨o1,x3,x4⟩:=ft x2;refine .inr ⟨go,λσ3 H3=>i+1+(m-1)=ds.length/\∃ F3 ψ,RS X.K H0 F3 H3 ψ σ3/\fw F1 F3/\gu F1 F3 H0/\gk t g (ds.drop (i+1)) ψ=Ga o,λσ3 H3 h3=>⟨m-1,by omega,h3⟩,λx Hx yl=>?_⟩;obtain⟨gx,F4,f4,fh4,n4,rx⟩:=yy x Hx yl;have r4:=r2.grow gx f4 fh4 n4;refine⟨H0,F4,mZ,ds[i],e3,r4,rx,x1,λσ5 r5=>⟨H0,F4,e3,o1,r5,x3,?_⟩⟩;have p4:=p2.mono f4 (n4.dn r2.h0);cases o1 with
  | nx e5=>exact λσ6 H6 F6 f6 n6 r6=>⟨by omega,F6,e5,r6,f2.trans (f4.trans f6),n2.up ((n4.dn r2.h0).up n6),x4⟩
  | ct e5=>exact λσ6 H6 F6 f6 n6 r6=>⟨by omega,F6,e5,r6,f2.trans (f4.trans f6),n2.up ((n4.dn r2.h0).up n6),x4⟩
  | bk e5=>cases x4;exact p4
  | rt d=>cases x4;exact p4
  | ro d=>cases x4;exact p4
  | rc a d=>cases x4;exact p4
 .rw[vh (by omega)] at e2;cases e2;exact .inl ⟨yd (by omega),p2 σ' H' F2 (.refl _) (.refl _ _) r2⟩
structure GDk (P:Program)(w:World)(K:jb)(mg:Str->Option Gg)(x:Str)(tab:List (Str×D)):Prop where
 e:∃ (a:Gk) (ws:List (gI×V)),mg x=Ga (.ref a)/\(a==sysModules)=false/\(∀ h:Heap,K.In h->∃ vs,KV ws vs/\h.DictOf (iW P w) a vs)/\∀ F,gD K F tab ws
def sH (tab:List (Str×D))(f:FV):FV:=λψ=>(f ψ).bind λk=>match k with
 | .str n=>atT tab n
 | _=>Gb
def wn (tab:List (Str×D))(f:FV):FB:=λψ=>(f ψ).bind λk=>match k with
 | .str n=>Ga (!(atT tab n).isSome)
 | _=>Gb
def IZ(G:GDk X.prog X.w X.K X.mg x tab)(hb:PV X b f)(hg:Gl X x:=by rfl)(hd:(x==("__debug__":Str))=false:=by decide)(hs:zJ b:=by exact λ_ _=>rfl) :
  PV X (.Subscript (.Name x p) b pos) (sH tab f):=by
 intro ω s σ H Q I hw;obtain⟨H0,F,ψ,d,r,e,q⟩:=hw;obtain⟨y,e2,e⟩:=ft e;obtain⟨k,rfl⟩:∃ k:Str,y=.str k:=by cases y<;>first|(cases e;done)|exact⟨_,rfl⟩
 obtain⟨a,ws,m,sm,dd,rep⟩:=G.e;refine Bo qP.lookup hs (sf I hg m ?_ hd);refine gn (hb ω s σ H (λv2 H2=>∃ F2,fw H H2/\fw F F2/\fw F2 H2/\gu F F2 H/\gG X.K F2 (.str k) v2) I ⟨H0,F,ψ,.str k,r,e2,λv2 H2 F2 g2 f2 fh2 n2 rv2=>⟨F2,g2,f2,fh2,n2,rv2⟩⟩) λu2 s2 ⟨v2,H2,I2,rx2,F2,g2,f2,fh2,n2,rv2⟩=>?_;cases rv2;obtain⟨vs,rel,dd⟩:=dd _ I2.kIn;have e4:atT tab k=Ga d:=e;rcases(rep F2).at k with ⟨z1,z2⟩|⟨d',v',z1,z2,z3⟩
 .rw[z1] at e4;cases e4
 .rw[z1] at e4;cases e4;obtain⟨w',hw,rw'⟩:=oa.some_of (v:=v') (o:=valueAt vs (Sum.inr k)) (by rw[<- z2];exact rel.val _);exact⟨dd.typeIs,wpAny_getItem_of (ye (k:=Sum.inr k) rx2) dd.mapOf hw ⟨v',H2,I2.tok _,rw',q v' H2 F2 g2 f2 fh2 n2 z3⟩⟩
def zEC(G:GDk X.prog X.w X.K X.mg x tab)(hb:PV X b f)(hg:Gl X x:=by rfl)(hd:(x==("__debug__":Str))=false:=by decide)
  (hm:behindInMarks .NotIn (.Name x p)=false:=by first|rfl|with_unfolding_all rfl):PB X (.Compare b [.NotIn] [.Name x p] pos) (wn tab f):=by
 have pc:PC X .NotIn b (.Name x p) (λσ H Q=>∃ H0 F ψ k,RS X.K H0 F H ψ σ/\f ψ=Ga (.str k)/\∀ H',fw H H'->Q (.bl (!(atT tab k).isSome)) H'):=by
  intro ω s σ H Q I hw;obtain⟨H0,F,ψ,k,r,e2,q⟩:=hw;obtain⟨a,ws,m,sm,dd,rep⟩:=G.e;refine gn (hb ω s σ H (λv2 H2=>∃ F2,fw H H2/\fw F F2/\fw F2 H2/\gu F F2 H/\gG X.K F2 (.str k) v2) I ⟨H0,F,ψ,.str k,r,e2,λv2 H2 F2 g2 f2 fh2 n2 rv2=>⟨F2,g2,f2,fh2,n2,rv2⟩⟩) λu2 s2 ⟨v2,H2,I2,rx2,F2,g2,f2,fh2,n2,rv2⟩=>sf I2 hg m ?_ hd;cases rv2;obtain⟨vs,rel,dd⟩:=dd _ I2.kIn;refine wpAny_notIn_of (ye (k:=Sum.inr k) rx2) sm dd.mapOf ?_;have ez:(valueAt vs (Sum.inr k:gI)).isSome=(atT tab k).isSome:=by
   rw[<- (rel.val _).isSome_eq];rcases(rep F2).at k with ⟨z1,z2⟩|⟨d',v',z1,z2,z3⟩<;>rw[z1,z2]<;>rfl
  rw[ez];exact⟨.bl _,H2,I2.tok _,rfl,q H2 g2⟩
 refine xH (Ez pc hm) λσ H Q=>?_;rintro⟨H0,F,ψ,b,r,e,q⟩;obtain⟨y,e2,e⟩:=ft e;obtain⟨k,rfl⟩:∃ k:Str,y=.str k:=by cases y<;>first|(cases e;done)|exact⟨_,rfl⟩
 cases e;exact⟨H0,F,ψ,k,r,e2,λH' g=>⟨_,rfl,q H' g⟩⟩
def GW (i:Nat)(f:FV):FV:=λψ=>(f ψ).bind λk=>match ψ[i]?,k with
 | some (.dsk _ _ _ kvs),.str n=>atT kvs n
 | _,_=>Gb
def GC (i:Nat)(f:FV):FB:=λψ=>(f ψ).bind λk=>match ψ[i]?,k with
 | some (.dsk _ _ _ kvs),.str n=>Ga (!(atT kvs n).isSome)
 | _,_=>Gb
structure DkC (K:jb)(C:Gk):Prop where
 cl:sM K C
 na:pU K C "runs"
def RS.dsk(r:RS K H0 F H ψ σ){p q:Gk}(e:ψ[i]?=Ga (.dsk C p q kvs)) :
  σ[i]?=Ga (Ga (.ref p))/\∃ dx ws,H p=Ga (.ins C dx [("runs",.ref q)])/\H q=Ga (.dK ws)/\gD K F kvs ws:=by
 obtain⟨u,e1,e2,dx,ws,h1,h2,rr⟩:=r.sl i _ e;subst e2;exact⟨e1,dx,ws,r.h0 _ _ h1,r.h0 _ _ h2,rr⟩
open Classical in
noncomputable def BO (i:Nat)(C:Gk)(f:FV):FV:=λψ=>match ψ[i]? with
 | some (.dsk C' _ _ _)=>if C'=C then f ψ else Gb
 | _=>Gb
def zED (i:Nat)(hu:X.A.units+100<cLine)(T:DkC X.K C)(hk:PV X ke f)(hN:X.N[i]?=Ga x:=by rfl)(hv:oz X.env.scope x:=by first|exact kC rfl|exact j7 (kC rfl)|exact j7 (j7 rfl))(hd:(x==("__debug__":Str))=false:=by decide)
  (hcd:(x==("__classdict__":Str))=false:=by decide) (hba:attributeBase (.Name x p) "runs" X.env (eval (.Name x p) X.env)=eval (.Name x p) X.env:=by rfl) (hs:zJ ke:=by exact λ_ _=>rfl) :
  PV X (.Subscript (.Attribute (.Name x p) "runs" p2) ke pos) (BO i C (GW i f)):=by
 refine ia (AY (by omega) (zW (lE hN hv hd hcd) hba) hk hs) λσ H Q=>?_;rintro⟨H0,F,ψ,d,r,e,q⟩;unfold BO at e;split at e;rotate_left
 .cases e
 rename_i C' p' r' kvs z;split at e;rotate_left
 .cases e
 rename_i ec;subst ec;obtain⟨y,e2,e⟩:=ft e;obtain⟨k,rfl⟩:∃ k:Str,y=.str k:=by
  rw[z] at e;cases y<;>first|(cases e;done)|exact⟨_,rfl⟩
 rw[z] at e;have e4:atT kvs k=Ga d:=e;obtain⟨s1,dx,ws,h1,h2,rr⟩:=r.dsk z;refine⟨.ref p',s1,p',C',dx,_,.ref r',rfl,h1,T.cl,T.na,rfl,H0,F,ψ,.str k,r,e2,λv2 H2 F2 g2 f2 fh2 n2 rv2=>?_⟩;cases rv2;rcases(rr.mono f2).at k with ⟨z1,z2⟩|⟨d',v',z1,z2,z3⟩
 .rw[z1] at e4;cases e4
 .rw[z1] at e4;cases e4;exact⟨r',v',rfl,⟨ws,Sum.inr k,.inl (g2 _ _ h2),rfl,z2.symm⟩,q v' H2 F2 g2 f2 fh2 n2 z3⟩
open Classical in
noncomputable def yf (i:Nat)(C:Gk)(f:FB):FB:=λψ=>match ψ[i]? with
 | some (.dsk C' _ _ _)=>if C'=C then f ψ else Gb
 | _=>Gb
def zEE (i:Nat)(hu:X.A.units+100<cLine)(T:DkC X.K C)(hk:PV X ke f)(hN:X.N[i]?=Ga x:=by rfl)(hv:oz X.env.scope x:=by first|exact kC rfl|exact j7 (kC rfl)|exact j7 (j7 rfl))(hd:(x==("__debug__":Str))=false:=by decide)
  (hcd:(x==("__classdict__":Str))=false:=by decide) (hba:attributeBase (.Name x p) "runs" X.env (eval (.Name x p) X.env)=eval (.Name x p) X.env:=by rfl) (hm:behindInMarks .NotIn (.Attribute (.Name x p) "runs" p2)=false:=by first|rfl|with_unfolding_all rfl) :
  PB X (.Compare ke [.NotIn] [.Attribute (.Name x p) "runs" p2] pos) (yf i C (GC i f)):=by
 refine xH (Ez (EI (by omega) hk (zW (lE hN hv hd hcd) hba)) hm) λσ H Q=>?_;rintro⟨H0,F,ψ,b,r,e,q⟩;unfold yf at e;split at e;rotate_left
 .cases e
 rename_i C' p' r' kvs z;split at e;rotate_left
 .cases e
 rename_i ec;subst ec;obtain⟨y,e2,e⟩:=ft e;obtain⟨k,rfl⟩:∃ k:Str,y=.str k:=by
  rw[z] at e;cases y<;>first|(cases e;done)|exact⟨_,rfl⟩
 rw[z] at e;cases e;refine⟨H0,F,ψ,.str k,r,e2,λv2 H2 F2 g2 f2 fh2 n2 rv2=>?_⟩;cases rv2;obtain⟨s1,dx,ws,h1,h2,rr⟩:=(r.grow g2 f2 fh2 n2).dsk z;refine⟨.ref p',s1,p',C',dx,_,.ref r',rfl,h1,T.cl,T.na,rfl,r',pY ws (Sum.inr k:gI),rfl,⟨ws,Sum.inr k,.inl h2,rfl,rfl⟩,_,rfl,?_⟩;have ez:(pY ws (Sum.inr k:gI)).isSome=(atT kvs k).isSome:=by rcases rr.at k with ⟨z1,z2⟩|⟨d',v',z1,z2,z3⟩<;>rw[z1,z2]<;>rfl
 rw[ez];exact q H2 g2
def CD (K:jb)(C:Gk)(fm:Sl->List D->Option D):Sp:=λvs H Q _=>∃ (F:Hp) (p dx r:Gk) (ws:List (gI×V)) (kvs:List (Str×D)) (us:List V) (ds:List D) (d:D),vs=.ref p::us/\H p=Ga (.ins C dx [("runs",.ref r)])/\H r=Ga (.dK ws)/\gD K F kvs ws/\fw F H/\fL K F ds us/\fm (.dsk C p r kvs) ds=Ga d/\∀ v H' F',fw H H'->fw F F'->fw F' H'->gu F F' H->gG K F' d v->Q v H'
def startD (n:Nat)(s:Sl)(ds:List D):En:=s::(ds.map .val++jB (n-(ds.length+1)) .no)
def RS.startD {K:jb}{F H:Hp}{N:List Str}{us:List V}{ds:List D}{C p dx r:Gk}{ws:List (gI×V)}{kvs:List (Str×D)}(hN:us.length+1<=N.length)(g:fw F H)(rr:fL K F ds us)(h1:H p=Ga (.ins C dx [("runs",.ref r)]))(h2:H r=Ga (.dK ws))(rk:gD K F kvs ws) :
  RS K H F H (T3.startD N.length (.dsk C p r kvs) ds) (L2.start N (.ref p::us)):=by
 have hl:=rr.length;have no:∀ (i:Nat) (s:Sl),lY s=true->(T3.startD N.length (.dsk C p r kvs) ds)[i]?=Ga s->False:=λi s o e=>by
  unfold T3.startD at e;cases i with
  | zero=>cases e;cases o
  | succ i =>
   rw[va] at e;by_cases hi:i<ds.length
   .rw[ki (by simpa using hi),jz,jg hi] at e;cases e;cases o
   .rw[jZ (by simpa using hi),ka] at e;split at e<;>cases e;cases o
 refine⟨.refl _,g,λi s e=>?_,λi j a s t o1 o2 e1=>(no i s o1 e1).elim⟩;unfold T3.startD at e;unfold L2.start;cases i with
 | zero=>cases e;exact⟨_,rfl,rfl,dx,ws,h1,h2,rk⟩
 | succ i =>
  rw[va] at e;rw[jO,ul,va];by_cases hi:i<ds.length
  .rw[ki (by simpa using hi),jz,jg hi] at e;cases e;obtain⟨v,e1,e2⟩:=rr.get (jg hi);exact⟨Ga v,by rw[ki (by rw[jc];omega),jz,e1];rfl,v,rfl,e2⟩
  .rw[jZ (by simpa using hi),ka] at e;split at e;rotate_left
   .cases e
   rename_i hlt;cases e;rw[jc] at hlt;refine⟨Gb,?_,trivial⟩;rw[jZ (by rw[jc];omega),jc,ka,Ge];simp only[jC];omega
def CQ:oj->Option D
 | .rt d=>Ga d
 | _=>Gb
def zG (np n:Nat)(g:FS):Sl->List D->Option D:=λs ds=>if ds.length+1=np then(g (startD n s ds)).bind CQ else Gb
section
variable {P:Program}{w:World}{K:jb}{mg:Str->Option Gg}{base:Heap}{x qual:Str}{st:Stmt}{f C:Gk}{fd:Gj}{N ps:List Str}{k:Nat}{g:FS}
def Iz (F:rF K x qual st f fd)(S:fF N ps (defScope st))(hpn:ps.length<=N.length)
  (hb:∀ (cdv:Gg) (A:Around) (outer:List Env) (s:Gh) (H:Hp) (E:XK),ic k (A.deeper (envOfC qual (defScope st) s.heap.objs.size f cdv))->mV (nU CX0 P w K mg base N qual (defScope st) f cdv A outer s H E).nox (defBody st) g) :
  fM P w K mg base CX0 (k+1) f fd ps (CD K C (zG ps.length N.length g)):=by
 have hrd:∀ {s:Sl} {ds:List D} {d:D},zG ps.length N.length g s ds=Ga d->ds.length+1=ps.length/\g (startD N.length s ds)=Ga (.rt d):=λ{s ds d} h=>by
  unfold zG at h;split at h;rotate_left
  .cases h
  rename_i c;obtain⟨o,e1,e2⟩:=ft h;cases o<;>first|(cases e2;done)|skip
  cases e2;exact⟨c,e1⟩
 refine F.ok S (λvs H Q E h=>?_) (λcdv A outer s H vs Q E hr h=>?_)
 .obtain⟨F0,p,dx,r,ws,kvs,us,ds,d,rfl,_,_,_,_,rr,e,_⟩:=h;obtain⟨c,_⟩:=hrd e;rwa[jC,<- rr.length]
 .obtain⟨F0,p,dx,r,ws,kvs,us,ds,d,rfl,h1,h2,rk,g0,rr,e,q⟩:=h;obtain⟨c,e1⟩:=hrd e;refine⟨_,hb cdv A outer s H E hr,H,F0,_,.rt d,RS.startD (by rwa[<- rr.length,c]) g0 rr h1 h2 rk,e1,λv H' F' g f fh n rv=>q v H' F' g f fh n rv⟩
end
section
variable {X:Cx}{k:Nat}{f C:Gk}{fd:Gj}{ps:List Str}{x m:Str}{p apos pos:Pos}{e:Expr}{es:List Expr}{ga:FL}
open Classical in
noncomputable def gE (i:Nat)(C:Gk)(fm:Sl->List D->Option D)(ga:FL):FV:=λψ=>match ψ[i]? with
 | some (.dsk C' p r kvs)=>if C'=C then(ga ψ).bind (fm (.dsk C' p r kvs)) else Gb
 | _=>Gb
def Bj (i:Nat){pl:Sem Bool}{fm:Sl->List D->Option D}(c:sM X.K C)(hm:yj X.K C m f)(hl:([("runs",V.ref 0)]:List (Str×V)).lookup m=Gb)(F:fM X.prog X.w X.K X.mg X.base CX0 k f fd ps (CD X.K C fm))(hr:ic k X.A)(hb:ma X.K fd ps [])(ha:PL X (e::es) ga)
  (hN:X.N[i]?=Ga x:=by rfl) (hv:oz X.env.scope x:=by first|exact kC rfl|exact j7 (kC rfl)|exact j7 (j7 rfl)) (hd:(x==("__debug__":Str))=false:=by decide)
  (hcd:(x==("__classdict__":Str))=false:=by decide)
  (hst:starEach (e::es) X.env=(false,eval e X.env)::starEach es X.env:=by rfl) (hpl:(backTo pos (starEach es X.env)).any (·.1)=false:=by rfl)
  (ht:eval (.Call (.Attribute (.Name x p) m apos) (e::es) [] pos) X.env=(do
   let ov <- eval (.Name x p) X.env
   standAt apos.atName
   let (f,first) <- holding [ov] (getMethod ov m pl)
   callWith pos f first (backTo pos (starEach (e::es) X.env)) (backToKw pos (keywordEach [] X.env))):=by rfl) :
  PV X (.Call (.Attribute (.Name x p) m apos) (e::es) [] pos) (gE i C fm ga):=by
 refine ia (Bn (pl:=pl) (lE hN hv hd hcd) c hm F hr hb .nil wt ha.pa hst hpl ht) λσ H Q=>?_;clear F;rintro⟨H0,F,ψ,d,r,e,q⟩;unfold gE at e;split at e;rotate_left
 .cases e
 rename_i C' p' r' kvs z;split at e;rotate_left
 .cases e
 rename_i ec;subst ec;obtain⟨ds,e1,e2⟩:=ft e;obtain⟨s1,dx,ws,h1,h2,rr⟩:=r.dsk z;refine⟨.ref p',s1,p',dx,_,rfl,h1,?_,H0,F,ψ,ds,r,e1,λvs H1 F1 g1 f1 fh1 n1 rv=>?_⟩
 .have:∀ v:V,([("runs",v)]:List (Str×V)).lookup m=Gb:=λv=>by
   revert hl;unfold uE;cases m=="runs"
   .exact id
   .intro z;cases z
  exact this _
 .refine⟨F1,p',dx,r',ws,kvs,vs,ds,d,by rw[kf],g1 _ _ h1,g1 _ _ h2,rr.mono f1,fh1,rv,e2,λv H2 F2 g2 f2 fh2 n2 rv2=>?_⟩;exact q v H2 F2 (g1.trans g2) (f1.trans f2) fh2 (n1.trans n2 g1) rv2
end
def nQ (r:Gk)(H0 H1:Hp):Prop:=(∀ b,b≠r->H1 b=H0 b)/\∃ ws,H1 r=Ga (.dK ws)
def nQ.refl(h:H r=Ga (.dK ws)):nQ r H H:=⟨λ_ _=>rfl,ws,h⟩
def nQ.trans {r:Gk}{H0 H1 H2:Hp}(a:nQ r H0 H1)(b:nQ r H1 H2):nQ r H0 H2:=⟨λc h=>(b.1 c h).trans (a.1 c h),b.2⟩
def nQ.non(a:nQ r H0 H1)(h0:∃ ws,H0 r=Ga (.dK ws)){b:Gk}(h:H1 b=Gb):H0 b=Gb:=by
 by_cases hb:b=r
 .subst hb;obtain⟨ws,z⟩:=a.2;rw[z] at h;cases h
 .rwa[<- a.1 b hb]
def gu.chg(n:gu F F' H1)(c:nQ r H0 H1)(h0:∃ ws,H0 r=Ga (.dK ws)):gu F F' H0:=λb o e f=>c.non h0 (n b o e f)
structure US (K:jb)(r:Gk)(H0 F H:Hp)(ψ:En)(σ:St):Prop where
 rs:RS K H0 F H ψ σ
 fr:F r=Gb
 hr:∃ ws,H0 r=Ga (.dK ws)
def US.to{H':Hp}{env':En}{σ':St}(u:US K r H0 F H ψ σ)(n:gu F F' H0)(r':RS K H0 F' H' env' σ'):US K r H0 F' H' env' σ':=by
 refine⟨r',?_,u.hr⟩;cases z:F' r with
 | none=>rfl
 | some o =>
  obtain⟨ws,h⟩:=u.hr;rw[n r o z u.fr] at h;cases h
def xZ (K:jb)(r:Gk)(H0 F:Hp)(E:rO):oj->Prop
 | .nx ψ=>∀ σ' H' F' H1,nQ r H0 H1->fw F F'->gu F F' H0->US K r H1 F' H' ψ σ'->E.nx σ' H'
 | .rc d ψ=>∀ v σ' H' F' H1,nQ r H0 H1->fw F F'->gu F F' H0->US K r H1 F' H' ψ σ'->gG K F' d v->E.rt v H'
 | .rt d=>∀ v H' F' H1,nQ r H0 H1->fw H1 H'->fw F F'->fw F' H'->gu F F' H0->gG K F' d v->E.rt v H'
 | .ct ψ=>∀ σ' H' F' H1,nQ r H0 H1->fw F F'->gu F F' H0->US K r H1 F' H' ψ σ'->E.ct σ' H'
 | .bk ψ=>∀ σ' H' F' H1,nQ r H0 H1->fw F F'->gu F F' H0->US K r H1 F' H' ψ σ'->E.bk σ' H'
 | _=>False
variable {o:oj}
def xZ.mono{F1:Hp}(c:nQ r H0 H1)(h0:∃ ws,H0 r=Ga (.dK ws))(f:fw F F1)(n:gu F F1 H0)(p:xZ K r H0 F E o):xZ K r H1 F1 E o:=by
 cases o with
 | nx ψ=>exact λσ' H' F' H2 c2 f2 n2 u=>p σ' H' F' H2 (c.trans c2) (f.trans f2) (n.up (n2.chg c h0)) u
 | rc d ψ=>exact λv σ' H' F' H2 c2 f2 n2 u rv=>p v σ' H' F' H2 (c.trans c2) (f.trans f2) (n.up (n2.chg c h0)) u rv
 | rt d=>exact λv H' F' H2 c2 g f2 fh n2 rv=>p v H' F' H2 (c.trans c2) g (f.trans f2) fh (n.up (n2.chg c h0)) rv
 | ct ψ=>exact λσ' H' F' H2 c2 f2 n2 u=>p σ' H' F' H2 (c.trans c2) (f.trans f2) (n.up (n2.chg c h0)) u
 | bk e=>exact λσ' H' F' H2 c2 f2 n2 u=>p σ' H' F' H2 (c.trans c2) (f.trans f2) (n.up (n2.chg c h0)) u
 | ro e=>exact p.elim
def tU (K:jb)(r:Gk)(g:FS):TS:=λE σ H=>∃ H0 F ψ o,US K r H0 F H ψ σ/\g ψ=Ga o/\xZ K r H0 F E o
abbrev PU (X:Cx)(r:Gk)(st:Stmt)(g:FS):Prop:=PS X st (tU X.K r g)
abbrev rl (X:Cx)(r:Gk)(st:List Stmt)(g:FS):Prop:=nV X st (tU X.K r g)
def US.post(u:US K r H0 F H ψ σ)(p:xZ K r H0 F E o):yA K H0 F E o:=by
 obtain⟨ws,h⟩:=u.hr;cases o with
 | nx ψ=>exact λσ' H' F' f n r'=>p σ' H' F' H0 (.refl h) f n (u.to n r')
 | rc d ψ=>exact λv σ' H' F' f n r' rv=>p v σ' H' F' H0 (.refl h) f n (u.to n r') rv
 | rt d=>exact λv H' F' g f fh n rv=>p v H' F' H0 (.refl h) g f fh n rv
 | ct ψ=>exact λσ' H' F' f n r'=>p σ' H' F' H0 (.refl h) f n (u.to n r')
 | bk e=>exact λσ' H' F' f n r'=>p σ' H' F' H0 (.refl h) f n (u.to n r')
 | ro e=>exact p.elim
def mS(h:mo X st g):PU X r st g:=by
 refine nO h λE σ H=>?_;rintro⟨H0,F,ψ,o,u,e,p⟩;exact⟨H0,F,ψ,o,u.rs,e,u.post p⟩
def Bl:rl X r [] (λψ=>Ga (.nx ψ)):=by
 refine Gs iq λE σ H=>?_;rintro⟨H0,F,ψ,o,u,e,p⟩;exact⟨H0,F,ψ,o,u.rs,e,u.post p⟩
def tN(h:PU X r st g):rl X r [st] g:=yu h
def nM{rest:List Stmt}{k:FS}(h1:PU X r st g)(h2:rl X r rest k):rl X r (st::rest) (λψ=>mK (g ψ) k):=by
 refine Gs (xh h1 h2) λE σ H=>?_;rintro⟨H0,F,ψ,o,u,e,p⟩;obtain⟨o1,e1,e2⟩:=ft e;refine⟨H0,F,ψ,o1,u,e1,?_⟩;cases o1 with
 | nx env1=>exact λσ' H' F' H1 c f n u'=>⟨H1,F',env1,o,u',e2,p.mono c u.hr f n⟩
 | rt d=>cases e2;exact p
 | ro d=>cases e2;exact p
 | rc a d=>cases e2;exact p
 | bk d=>cases e2;exact p
 | ct d=>cases e2;exact p
def CL{a b:List Stmt}{k:FS}(hc:PB X c fc)(ha:rl X r a g)(hb:rl X r b k):PU X r (.If c a b pos) (λψ=>(fc (frz ψ)).bind λt=>if t then g ψ else k ψ):=by
 refine nO (Cy hc ha hb) λE σ H=>?_;rintro⟨H0,F,ψ,o,u,e,p⟩;obtain⟨t,e1,e⟩:=ft e;refine⟨H0,H,frz ψ,t,u.rs.frz,e1,λH' g'=>?_⟩;have u':US X.K r H0 F H' ψ σ:=u.to (.refl _ _) (u.rs.later g');cases t with
 | true=>exact oK ⟨H0,F,ψ,o,u',e,p⟩
 | false=>exact oG ⟨H0,F,ψ,o,u',e,p⟩
def BX(h:PV X e f):PU X r (.Return (Ga e) pos) (AK f):=mS (XT h)
variable {st:List Stmt}
def zy6(hn:∀ ψ,g ψ=Gb):rl X r st g:=λω s σ H D I h=>by
 obtain⟨H0,F,ψ,o,u,e,p⟩:=h;rw[hn] at e;cases e
def US.putNo{p:Gk}(u:US K r H0 F H ψ σ)(e:ψ[i]?=Ga (.dsk C p r kvs))(uq:∀ j C' p' r' l,ψ[j]?=Ga (.dsk C' p' r' l)->j=i) :
  US K r (fH H0 r (.dK ws')) F (fH H r (.dK ws')) (ψ.set i .no) σ:=by
 obtain⟨ws,h0⟩:=u.hr;have hl:i<ψ.length:=(ju.mp e).1;have hH:H r=Ga (.dK ws):=u.rs.h0 _ _ h0;have nf:∀ x v,H r≠Ga (.frz x v):=λx v z=>by rw[hH] at z;cases z
 have nf0:∀ x v,H0 r≠Ga (.frz x v):=λx v z=>by rw[h0] at z;cases z
 have s0:fw (fH H0 r (.dK ws')) (fH H r (.dK ws')):=by
  have:fH H0 r (.dK ws)=H0:=by
   funext b
   by_cases c:b=r
   .subst c;rw[fI,h0]
   .rw[fJ c]
  exact fw.swp (o:=.dK ws) (by rw[this];exact u.rs.h0) trivial trivial
 obtain⟨v0,e1,e2,dx,ws1,h1,h2,rr⟩:=u.rs.sl i _ e;refine⟨⟨s0,u.rs.fh.put u.fr nf,λj s ej=>?_,λj k b s t o1 o2 x1 x2 x3 x4=>?_⟩,u.fr,ws',fI⟩
 .by_cases h:i=j
  .subst h;rw[jG hl] at ej;cases ej;exact⟨_,e1,trivial⟩
  .rw[jJ h] at ej;obtain⟨w,z1,q2⟩:=u.rs.sl j s ej;refine⟨w,z1,?_⟩;have nr:∀ b:Gk,H0 b=Gb->b≠r:=λb z y=>by subst y;rw[h0] at z;cases z
   cases s with
   | no=>trivial
   | val d=>exact q2
   | own ds=>obtain⟨b,xs,e2,hb,fb,h0b,rr⟩:=q2;have n:=nr b h0b;exact⟨b,xs,e2,by rwa[fJ n],fb,by rwa[fJ n],rr⟩
   | dic ks=>obtain⟨b,as,ep,e2,hb,fb,h0b,rr⟩:=q2;have n:=nr b h0b;exact⟨b,as,ep,e2,by rwa[fJ n],fb,by rwa[fJ n],rr⟩
   | dks kvs=>obtain⟨b,ws,e2,hb,fb,h0b,rr⟩:=q2;have n:=nr b h0b;exact⟨b,ws,e2,by rwa[fJ n],fb,by rwa[fJ n],rr⟩
   | dsk C' p' r' l=>exact absurd (uq j _ _ _ _ ej) (ur h)
 .have f1:∀ (j:Nat) (s:Sl),lY s=true->(ψ.set i .no)[j]?=Ga s->ψ[j]?=Ga s:=λj s o h=>by
   by_cases hj:i=j
   .subst hj;rw[jG hl] at h;cases h;cases o
   .rw[jJ hj] at h;exact h
  exact u.rs.ap j k b _ _ o1 o2 (f1 j _ o1 x1) (f1 k _ o2 x2) x3 x4
def RS.fill{s:Sl}(r':RS K H0 F H (ψ.set i .no) σ)(hl:i<ψ.length)(o:lY s=false)(q:∀ u,σ[i]?=Ga u->oP K H0 F H s u):RS K H0 F H (ψ.set i s) σ:=by
 have e0:(ψ.set i .no)[i]?=Ga .no:=jG hl;have f1:∀ (j:Nat) (t:Sl),lY t=true->(ψ.set i s)[j]?=Ga t->(ψ.set i .no)[j]?=Ga t:=λj t ot h=>by
  by_cases hj:i=j
  .subst hj;rw[jG hl] at h;cases h;rw[o] at ot;cases ot
  .rw[jJ hj] at h ⊢;exact h
 refine⟨r'.h0,r'.fh,λj t ej=>?_,λj k b s t o1 o2 x1 x2 x3 x4=>r'.ap j k b _ _ o1 o2 (f1 j _ o1 x1) (f1 k _ o2 x2) x3 x4⟩;by_cases hj:i=j
 .subst hj;rw[jG hl] at ej;cases ej;obtain⟨u,e1,_⟩:=r'.sl i _ e0;exact⟨u,e1,q u e1⟩
 .rw[jJ hj] at ej;exact r'.sl j t (by rwa[jJ hj])
def US.put{p:Gk}{kvs':List (Str×D)}(u:US K r H0 F H ψ σ)(e:ψ[i]?=Ga (.dsk C p r kvs))(uq:∀ j C' p' r' l,ψ[j]?=Ga (.dsk C' p' r' l)->j=i){H':Hp}(g:fw (fH H r (.dK ws')) H')(f:fw F F')(fh:fw F' H')(n:gu F F' H)(q:gD K F' kvs' ws') :
  US K r (fH H0 r (.dK ws')) F' H' (ψ.set i (.dsk C p r kvs')) σ:=by
 have u1:=u.putNo (ws':=ws') e uq;obtain⟨ws,h0⟩:=u.hr;obtain⟨v0,e1,e2,dx,ws1,h1,h2,rr⟩:=u.rs.sl i _ e;have npr:p≠r:=λz=>by rw[z,h0] at h1;cases h1
 have hH:H r=Ga (.dK ws):=u.rs.h0 _ _ h0;have n':gu F F' (fH H r (.dK ws')):=λb o x y=>by
  have z:=n b o x y;have nb:b≠r:=λw=>by subst w;rw[hH] at z;cases z
  rwa[fJ nb]
 have r2:=u1.rs.grow g f fh n';have u2:=u1.to (n'.dn u1.rs.h0) r2;refine⟨r2.fill (ju.mp e).1 rfl λw z=>?_,u2.fr,u2.hr⟩;rw[e1] at z;cases z;exact⟨e2,dx,ws',by rwa[fJ npr],fI,q⟩
def tj (i:Nat)(ψ:En):Prop:=∀ j C p r l,ψ[j]?=Ga (.dsk C p r l)->j=i
open Classical in
noncomputable def yq (r:Gk)(i:Nat)(C:Gk)(f g:FV):FS:=λψ=>(g ψ).bind λv=>(f ψ).bind λk=>match ψ[i]?,k with
 | some (.dsk C' p r' kvs),.str n=>if C'=C/\r'=r/\kvs.length<1000/\tj i ψ then Ga (.nx (ψ.set i (.dsk C' p r' (gK kvs n v)))) else Gb
 | _,_=>Gb
def zGk (i:Nat){g:FV}{p3:Pos}(hu:X.A.units+100<cLine)(T:DkC X.K C)(hk:PV X ke f)(hval:PV X value g)(hN:X.N[i]?=Ga x:=by rfl)(hv:oz X.env.scope x:=by first|exact kC rfl|exact j7 (kC rfl)|exact j7 (j7 rfl))
  (hd:(x==("__debug__":Str))=false:=by decide) (hcd:(x==("__classdict__":Str))=false:=by decide) (hba:attributeBase (.Name x p) "runs" X.env (eval (.Name x p) X.env)=eval (.Name x p) X.env:=by rfl)
  (hs:swapsWith value (Ga (.Subscript (.Attribute (.Name x p) "runs" p2) ke p3)) pos.line X.env=pure false:=by rfl) :
  PU X r (.Assign [.Subscript (.Attribute (.Name x p) "runs" p2) ke p3] value pos) (yq r i C f g):=by
 refine nO (Ci (by omega) (zW (lE (pos:=p) hN hv hd hcd) hba) hk hval hs) λE σ H=>?_;rintro⟨H0,F,ψ,o,u,e,pp⟩;obtain⟨v,e0,e⟩:=ft e;obtain⟨k,e1,e2⟩:=ft e;clear e;split at e2;rotate_left
 .cases e2
 rename_i C' p' r' kvs n z;split at e2;rotate_left
 .cases e2
 rename_i c;cases e2;obtain⟨c1,c2,c3,c4⟩:=c;subst c1 c2;refine⟨H0,F,ψ,v,u.rs,e0,λvv H1 F1 g1 f1 fh1 n1 rv=>?_⟩;have u1:=u.to (n1.dn u.rs.h0) (u.rs.grow g1 f1 fh1 n1);obtain⟨s1,dx,ws,h1,h2,rr⟩:=u1.rs.dsk z;refine⟨.ref p',s1,p',C',dx,_,.ref r',rfl,h1,T.cl,T.na,rfl,H0,F1,ψ,.str n,u1.rs,e1,λv2 H2 F2 g2 f2 fh2 n2 rv2=>?_⟩;cases rv2;have u2:=u1.to (n2.dn u1.rs.h0) (u1.rs.grow g2 f2 fh2 n2);obtain⟨s2,dx2,ws2,h3,h4,nL⟩:=u2.rs.dsk z;refine⟨r',_,rfl,yG.k9 (k:=Sum.inr n) h4 (by rw[nL.length];exact jx c3 (by rw[sizeLine_eq];decide)),?_⟩;have u3:=u2.put z c4 (.refl _) (.refl _) (u2.rs.fh.put u2.fr λx v w=>by rw[h4] at w;cases w) (.refl _ _) (nL.put (k:=n) (rv.mono f2));exact pp σ _ F2 _ ⟨λb hb=>fJ hb,_,fI⟩ (f1.trans f2) ((n1.dn u.rs.h0).up (n2.dn u1.rs.h0)) u3
abbrev Aq:=En->Option (D×En)
abbrev yc:=En->Option (Bool×En)
def tDU (K:jb)(r:Gk)(f:Aq):TE:=λσ H Q=>∃ H0 F ψ d env',US K r H0 F H ψ σ/\f ψ=Ga (d,env')/\∀ v H' F' H1,nQ r H0 H1->fw F F'->gu F F' H0->US K r H1 F' H' env' σ->gG K F' d v->Q v H'
abbrev Gz (X:Cx)(r:Gk)(e:Expr)(f:Aq):Prop:=PE X e (tDU X.K r f)
def tTU (K:jb)(r:Gk)(f:yc):TT:=λσ H Q=>∃ H0 F ψ b env',US K r H0 F H ψ σ/\f ψ=Ga (b,env')/\∀ H' F' H1,nQ r H0 H1->fw F F'->gu F F' H0->US K r H1 F' H' env' σ->Q b H'
abbrev Em (X:Cx)(r:Gk)(e:Expr)(f:yc):Prop:=PT X e (tTU X.K r f)
def Bx (f:Aq)(g:FV):yc:=λψ=>(f ψ).bind λp=>(g p.2).bind λy=>(gN p.1 y).bind λd=>(hJ d).bind λb=>Ga (b,p.2)
def Ye{f:Aq}{g:FV}(hu:X.A.units+100<cLine)(ha:Gz X r a f)(hb:PV X b g)(hm:behindInMarks .NotEq b=false:=by first|exact Al _|rfl|with_unfolding_all rfl):Em X r (.Compare a [.NotEq] [b] pos) (Bx f g):=by
 refine xH (Bs (Kj hu) ha hb hm) λσ H Q=>?_;rintro⟨H0,F,ψ,b,env',u,e,q⟩;obtain⟨⟨x,env1⟩,e1,e⟩:=ft e;obtain⟨y,e2,e⟩:=ft e;obtain⟨d,e3,e⟩:=ft e;obtain⟨t,e4,e⟩:=ft e;cases e;cases xI e4;refine⟨H0,F,ψ,x,env1,u,e1,λv H1 F1 K1 c1 f1 n1 u1 rv=>?_⟩;refine⟨K1,F1,env1,y,u1.rs,e2,λv2 H2 F2 g2 f2 fh2 n2 rv2=>?_⟩;refine⟨F2,x,y,_,fh2,rv.mono f2,rv2,e3,λk ek=>?_⟩;cases ek;exact⟨_,rfl,q H2 F2 K1 c1 (f1.trans f2) (n1.up ((n2.dn u1.rs.h0).chg c1 u.hr)) (u1.to (n2.dn u1.rs.h0) (u1.rs.grow g2 f2 fh2 n2))⟩
def Bi (f:yc)(g:FB):yc:=λψ=>(f ψ).bind λp=>if p.1=true then Ga (true,p.2) else(g p.2).bind λb=>Ga (b,p.2)
def zGm{f:yc}{g:FB}(ha:Em X r a f)(hb:PB X b g):Em X r (.BoolOp .Or [a,b] pos) (Bi f g):=by
 refine xH (PW.pt (GL ha (DQ hb))) λσ H Q=>?_;rintro⟨H0,F,ψ,t,env',u,e,q⟩;obtain⟨⟨c,env1⟩,e1,e⟩:=ft e;refine⟨H0,F,ψ,c,env1,u,e1,λH1 F1 K1 c1 f1 n1 u1=>?_⟩;cases c with
 | true=>cases e;exact oK (q H1 F1 K1 c1 f1 n1 u1)
 | false =>
  obtain⟨b,e2,e⟩:=ft (show(g env1).bind (λb=>Ga (b,env1))=Ga (t,env') from e);cases e;exact oG ⟨K1,F1,_,_,u1.rs,e2,λH2 g2=>q H2 F1 K1 c1 f1 n1 (u1.to (.refl _ _) (u1.rs.later g2))⟩
def sD (f:Aq):yc:=λψ=>(f ψ).bind λp=>(hJ p.1).bind λb=>Ga (!b,p.2)
def ZV{f:Aq}(ha:Gz X r a f)(he:∀ whole,isTrue a X.env whole=(do let v <- whole;standAt a.pos;holding [v] (truthy v)):=by intro _;rfl):Em X r (.UnaryOp .Not a pos) (sD f):=by
 refine xH (DZ (Ox ha he)) λσ H Q=>?_;rintro⟨H0,F,ψ,t,env',u,e,q⟩;obtain⟨⟨d,env1⟩,e1,e⟩:=ft e;obtain⟨b,e2,e⟩:=ft e;cases e;cases xI e2;refine⟨H0,F,ψ,_,env1,u,e1,λv H1 F1 K1 c1 f1 n1 u1 rv=>?_⟩;cases rv;exact⟨b,rfl,q H1 F1 K1 c1 f1 n1 u1⟩
def rz (f:yc)(g k:FS):FS:=λψ=>(f ψ).bind λp=>if p.1=true then g p.2 else k p.2
def Sf{a b:List Stmt}{f:yc}{k:FS}(hc:Em X r c f)(ha:rl X r a g)(hb:rl X r b k):PU X r (.If c a b pos) (rz f g k):=by
 refine nO (Cy hc ha hb) λE σ H=>?_;rintro⟨H0,F,ψ,o,u,e,p⟩;obtain⟨⟨t,env1⟩,e1,e⟩:=ft e;refine⟨H0,F,ψ,t,env1,u,e1,λH' F' H1 c1 f1 n1 u1=>?_⟩;cases t with
 | true=>exact oK ⟨H1,F',env1,o,u1,e,p.mono c1 u.hr f1 n1⟩
 | false=>exact oG ⟨H1,F',env1,o,u1,e,p.mono c1 u.hr f1 n1⟩
def Iq {iter:Expr}{f:FL}(hp:PassesOwn (model X.prog X.w) X.A X.env X.xe)(hc:X.calm=true)(hi:wO X tg iter f)(hg:sP X tg t)(hb:rl X r body g)
  (hs:∀ x,foldedSetIterable iter X.env x=pure x:=by intro _;rfl):PU X r (.For tg iter body [] pos) (λψ=>(f ψ).bind λds=>gk t g ds ψ):=by
 refine nO (AG hp hc hi hg hb hs) λE σ H=>?_;rintro⟨H0,F,ψ,o,u,e,p⟩;obtain⟨ds,e1,e⟩:=ft e;refine⟨H0,F,ψ,ds,u.rs,e1,λJ H1 F1 g1 f1 fh1 n1 Y=>?_⟩;obtain⟨ws0,hr0⟩:=u.hr;have p1:=p.mono (.refl hr0) u.hr f1 (n1.dn u.rs.h0);have u1:=u.to (n1.dn u.rs.h0) (u.rs.grow g1 f1 fh1 n1);refine⟨λi m σ H=>i+m=ds.length/\∃ H2 F2 ψ,US X.K r H2 F2 H ψ σ/\nQ r H0 H2/\fw F1 F2/\gu F1 F2 H0/\gk t g (ds.drop i) ψ=Ga o,⟨ds.length,by omega,H0,F1,ψ,u1,.refl hr0,.refl _,.refl _ _,e⟩,?_⟩;rintro i m σ' H' ⟨hm,H2,F2,mZ,u2,c2,f2,n2,e2⟩;have p2:=p1.mono c2 u.hr f2 n2;obtain⟨yd,yg⟩:=Y F2 f2 H' u2.rs.fh i;by_cases hlt:i<ds.length
 .obtain⟨go,yy⟩:=yg ds[i] (by simp[hlt]);rw[uN hlt] at e2;unfold gk at e2;obtain⟨e3,x1,x2⟩:=ft e2;obtain⟨o1,x3,x4⟩:=ft x2;refine .inr ⟨go,λσ3 H3=>i+1+(m-1)=ds.length/\∃ H5 F3 ψ,US X.K r H5 F3 H3 ψ σ3/\nQ r H0 H5/\fw F1 F3/\gu F1 F3 H0/\gk t g (ds.drop (i+1)) ψ=Ga o,λσ3 H3 h3=>⟨m-1,by omega,h3⟩,λx Hx yl=>?_⟩;obtain⟨gx,F4,f4,fh4,n4,rx⟩:=yy x Hx yl;have n40:=n4.dn u2.rs.h0;have u4:=u2.to n40 (u2.rs.grow gx f4 fh4 n4);obtain⟨ws2,hr2⟩:=u2.hr;refine⟨H2,F4,mZ,ds[i],e3,u4.rs,rx,x1,λσ5 r5=>⟨H2,F4,e3,o1,u4.to (.refl _ _) r5,x3,?_⟩⟩;have p4:=p2.mono (.refl hr2) u2.hr f4 n40;have nn:=n2.up (n40.chg c2 u.hr);cases o1 with
  | nx e5=>exact λσ6 H6 F6 H7 c6 f6 n6 u6=>⟨by omega,H7,F6,e5,u6,c2.trans c6,f2.trans (f4.trans f6),nn.up (n6.chg c2 u.hr),x4⟩
  | ct e5=>exact λσ6 H6 F6 H7 c6 f6 n6 u6=>⟨by omega,H7,F6,e5,u6,c2.trans c6,f2.trans (f4.trans f6),nn.up (n6.chg c2 u.hr),x4⟩
  | bk e5=>cases x4;exact p4
  | rt d=>cases x4;exact p4
  | ro d=>cases x4;exact p4
  | rc a d=>cases x4;exact p4
 .rw[vh (by omega)] at e2;cases e2;obtain⟨ws2,hr2⟩:=u2.hr;exact .inl ⟨yd (by omega),p2 σ' H' F2 H2 (.refl hr2) (.refl _) (.refl _ _) u2⟩
def yK (K:jb)(C:Gk)(fm:Sl->List D->Option (D×List (Str×D))):Sp:=λvs H Q _=>∃ (F:Hp) (p dx r:Gk) (ws:List (gI×V)) (kvs kvs':List (Str×D)) (us:List V) (ds:List D) (d:D),vs=.ref p::us/\H p=Ga (.ins C dx [("runs",.ref r)])/\H r=Ga (.dK ws)/\F r=Gb/\gD K F kvs ws/\fw F H/\fL K F ds us/\fm (.dsk C p r kvs) ds=Ga (d,kvs') /\
 ∀ v H' F' ws',fw (fH H r (.dK ws')) H'->gD K F' kvs' ws'->fw F F'->fw F' H'->gu F F' H->gG K F' d v->Q v H'
open Classical in
noncomputable def yv (C p r:Gk)(o:oj):Option (D×List (Str×D)):=match o with
 | .rc d ψ=>match (ψ[0]?:Option Sl) with
  | some (.dsk C' p' r' kvs')=>if C'=C/\p'=p/\r'=r then Ga (d,kvs') else Gb
  | _=>Gb
 | _=>Gb
open Classical in
noncomputable def zO (np n:Nat)(g:Gk->FS):Sl->List D->Option (D×List (Str×D)):=λs ds=>match s with
 | .dsk C p r kvs=>if ds.length+1=np then(g r (startD n (.dsk C p r kvs) ds)).bind (yv C p r) else Gb
 | _=>Gb
section
variable {P:Program}{w:World}{K:jb}{mg:Str->Option Gg}{base:Heap}{x qual:Str}{st:Stmt}{f C:Gk}{fd:Gj}{N ps:List Str}{k:Nat}{g:Gk->FS}
def SQ (F:rF K x qual st f fd)(S:fF N ps (defScope st))(hpn:ps.length<=N.length)
  (hb:∀ (r:Gk) (cdv:Gg) (A:Around) (outer:List Env) (s:Gh) (H:Hp) (E:XK),ic k (A.deeper (envOfC qual (defScope st) s.heap.objs.size f cdv))->rl (nU CX0 P w K mg base N qual (defScope st) f cdv A outer s H E).nox r (defBody st) (g r)) :
  fM P w K mg base CX0 (k+1) f fd ps (yK K C (zO ps.length N.length g)):=by
 have hrd:∀ {C p r:Gk} {kvs kvs':List (Str×D)} {ds:List D} {d:D},zO ps.length N.length g (.dsk C p r kvs) ds=Ga (d,kvs')->ds.length+1=ps.length/\∃ ψ,g r (startD N.length (.dsk C p r kvs) ds)=Ga (.rc d ψ)/\ψ[0]?=Ga (.dsk C p r kvs'):=λ{C p r kvs kvs' ds d} h=>by
  unfold zO at h;dsimp only at h;split at h;rotate_left
  .cases h
  rename_i c;obtain⟨o,e1,e2⟩:=ft h;unfold yv at e2;split at e2;rotate_left
  .cases e2
  rename_i d' ψ;split at e2;rotate_left
  .cases e2
  rename_i C' p' r' l z;split at e2;rotate_left
  .cases e2
  rename_i cc;obtain⟨c1,c2,c3⟩:=cc;subst c1 c2 c3;cases e2;exact⟨c,ψ,e1,z⟩
 refine F.ok S (λvs H Q E h=>?_) (λcdv A outer s H vs Q E hr h=>?_)
 .obtain⟨F0,p,dx,r,ws,kvs,kvs',us,ds,d,rfl,_,_,_,_,_,rr,e,_⟩:=h;obtain⟨c,_⟩:=hrd e;rwa[jC,<- rr.length]
 .obtain⟨F0,p,dx,r,ws,kvs,kvs',us,ds,d,rfl,h1,h2,fr,rk,g0,rr,e,q⟩:=h;obtain⟨c,ψ,e1,e3⟩:=hrd e;refine⟨_,hb r cdv A outer s H E hr,H,F0,_,_,⟨RS.startD (by rwa[<- rr.length,c]) g0 rr h1 h2 rk,fr,ws,h2⟩,e1,λv σ' H' F' H1 c1 f1 n1 u1 rv=>?_⟩;obtain⟨v0,y1,y2,dx',ws',h3,h4,rk'⟩:=u1.rs.sl 0 _ e3;have eH:fH H r (.dK ws')=H1:=by
   funext b
   by_cases hb:b=r
   .subst hb;rw[fI,h4]
   .rw[fJ hb,c1.1 b hb]
  exact q v H' F' ws' (by rw[eH];exact u1.rs.h0) rk' f1 u1.rs.fh n1 rv
end
section
variable {X:Cx}{k:Nat}{f C r:Gk}{fd:Gj}{ps:List Str}{x y m:Str}{p p2 apos pos:Pos}{e:Expr}{es:List Expr}{ga:FL}
open Classical in
noncomputable def lh (r:Gk)(i:Nat)(C:Gk)(fm:Sl->List D->Option (D×List (Str×D)))(ga:FL):Aq:=λψ=>match ψ[i]? with
 | some (.dsk C' p r' kvs)=>if C'=C/\r'=r/\tj i ψ then(ga ψ).bind λds=>(fm (.dsk C' p r' kvs) ds).bind λq=>Ga (q.1,ψ.set i (.dsk C' p r' q.2)) else Gb
 | _=>Gb
variable {fm:Sl->List D->Option (D×List (Str×D))}
def Up{env':En}(h:lh r i C fm ga ψ=Ga (d,env')):∃ p kvs kvs' ds,ψ[i]?=Ga (.dsk C p r kvs)/\tj i ψ/\ga ψ=Ga ds/\fm (.dsk C p r kvs) ds=Ga (d,kvs')/\env'=ψ.set i (.dsk C p r kvs'):=by
 unfold lh at h;split at h;rotate_left
 .cases h
 rename_i C' p r' kvs z;split at h;rotate_left
 .cases h
 rename_i c;obtain⟨c1,c2,c3⟩:=c;subst c1 c2;obtain⟨ds,e1,h⟩:=ft h;obtain⟨⟨d',l⟩,e2,h⟩:=ft h;cases h;exact⟨p,kvs,l,ds,z,c3,e1,e2,rfl⟩
def Uf{p:Gk}{kvs':List (Str×D)}{Q:VK}{vs:List V}{E:XK}{F1:Hp}(u:US X.K r H0 F H ψ σ)(z:ψ[i]?=Ga (.dsk C p r kvs))(c:tj i ψ)
  (g1:fw H H1) (f1:fw F F1) (fh1:fw F1 H1) (n1:gu F F1 H) (rv:fL X.K F1 ds vs) (e2:fm (.dsk C p r kvs) ds=Ga (d,kvs'))
  (q:∀ v H' F' H1,nQ r H0 H1->fw F F'->gu F F' H0->US X.K r H1 F' H' (ψ.set i (.dsk C p r kvs')) σ->gG X.K F' d v->Q v H'):yK X.K C fm (.ref p::vs) H1 Q E:=by
 have u1:=u.to (n1.dn u.rs.h0) (u.rs.grow g1 f1 fh1 n1);obtain⟨s1,dx,ws,h1,h2,rr⟩:=u1.rs.dsk z;refine⟨F1,p,dx,r,ws,kvs,kvs',vs,ds,d,rfl,h1,h2,u1.fr,rr,fh1,rv,e2,λv H2 F2 ws' g2 rk f2 fh2 n2 rv2=>?_⟩;exact q v H2 F2 _ ⟨λb hb=>fJ hb,_,fI⟩ (f1.trans f2) ((n1.dn u.rs.h0).up (n2.dn u1.rs.h0)) (u1.put z c g2 f2 fh2 n2 rk) rv2
def zB7 (i:Nat){pl:Sem Bool}(c:sM X.K C)(hm:yj X.K C m f)(hl:([("runs",V.ref 0)]:List (Str×V)).lookup m=Gb)(F:fM X.prog X.w X.K X.mg X.base CX0 k f fd ps (yK X.K C fm))(hr:ic k X.A)(hb:ma X.K fd ps [])(ha:PL X (e::es) ga)
  (hN:X.N[i]?=Ga x:=by rfl) (hv:oz X.env.scope x:=by first|exact kC rfl|exact j7 (kC rfl)|exact j7 (j7 rfl)) (hd:(x==("__debug__":Str))=false:=by decide)
  (hcd:(x==("__classdict__":Str))=false:=by decide)
  (hst:starEach (e::es) X.env=(false,eval e X.env)::starEach es X.env:=by rfl) (hpl:(backTo pos (starEach es X.env)).any (·.1)=false:=by rfl)
  (ht:eval (.Call (.Attribute (.Name x p) m apos) (e::es) [] pos) X.env=(do
   let ov <- eval (.Name x p) X.env
   standAt apos.atName
   let (f,first) <- holding [ov] (getMethod ov m pl)
   callWith pos f first (backTo pos (starEach (e::es) X.env)) (backToKw pos (keywordEach [] X.env))):=by rfl) :
  Gz X r (.Call (.Attribute (.Name x p) m apos) (e::es) [] pos) (lh r i C fm ga):=by
 refine ia (Bn (pl:=pl) (lE hN hv hd hcd) c hm F hr hb .nil wt ha.pa hst hpl ht) λσ H Q=>?_;clear F;rintro⟨H0,F,ψ,d,env',u,e,q⟩;obtain⟨p',kvs,kvs',ds,z,cc,e1,e2,rfl⟩:=Up e;obtain⟨s1,dx,ws,h1,h2,rr⟩:=u.rs.dsk z;refine⟨.ref p',s1,p',dx,_,rfl,h1,?_,H0,F,ψ,ds,u.rs,e1,λvs H1 F1 g1 f1 fh1 n1 rv=>?_⟩
 .have:∀ v:V,([("runs",v)]:List (Str×V)).lookup m=Gb:=λv=>by
   revert hl;unfold uE;cases m=="runs"
   .exact id
   .intro z;cases z
  exact this _
 .show yK X.K C fm (.ref p'::(vs++[])) H1 Q _;rw[kf];exact Uf u z cc g1 f1 fh1 n1 rv e2 q
def zB8 (i:Nat)(F:fM X.prog X.w X.K X.mg X.base CX0 k f fd ps (yK X.K C fm))(hr:ic k X.A)(hm:X.mg y=Ga (.ref f))(hk:uc X.K (.ref f)=true)(hb:ma X.K fd ps [])(ha:PL X es ga)(hg:Gl X y:=by rfl)
  (hN:X.N[i]?=Ga x:=by rfl) (hv:oz X.env.scope x:=by first|exact kC rfl|exact j7 (kC rfl)|exact j7 (j7 rfl)) (hd:(x==("__debug__":Str))=false:=by decide)
  (hcd:(x==("__classdict__":Str))=false:=by decide)
  (hdb:(y==("__debug__":Str))=false:=by decide) (hst:starEach (.Name x p::es) X.env=(false,eval (.Name x p) X.env)::starEach es X.env:=by rfl) (hpl:(backTo pos (starEach es X.env)).any (·.1)=false:=by rfl) :
  Gz X r (.Call (.Name y p2) (.Name x p::es) [] pos) (lh r i C fm ga):=by
 refine ia (yC F hr hg hm hk hb .nil wt (io (lE hN hv hd hcd) ha.pa hst) hdb hst hpl) λσ H Q=>?_;clear F;rintro⟨H0,F,ψ,d,env',u,e,q⟩;obtain⟨p',kvs,kvs',ds,z,cc,e1,e2,rfl⟩:=Up e;obtain⟨s1,dx,ws,h1,h2,rr⟩:=u.rs.dsk z;refine⟨.ref p',s1,H0,F,ψ,ds,u.rs,e1,λvs H1 F1 g1 f1 fh1 n1 rv=>?_⟩;show yK X.K C fm ((.ref p'::vs)++[]) H1 Q _;rw[kf];exact Uf u z cc g1 f1 fh1 n1 rv e2 q
end
def MS (C:Gk):Sp:=λvs H Q _=>∃ p dx,vs=[.ref p]/\H p=Ga (.ins C dx [])/\∀ r,H r=Gb->Q .non (fH (fH H r (.dK [])) p (.ins C dx [("runs",.ref r)]))
section
variable {P:Program}{w:World}{K:jb}{mg:Str->Option Gg}{base:Heap}{x qual:Str}{st:Stmt}{f C:Gk}{fd:Gj}{k:Nat}
def okI {p1 p3 p4:Pos}(F:rF K x qual st f fd)(S:fF ["self"] ["self"] (defScope st))(T:DkC K C)(hbd:defBody st=[.Assign [.Attribute (.Name "self" p1) "runs" p2] (.Dict [] [] p3) p4])
  (hs:∀ X:Cx,swapsWith (.Dict [] [] p3) (Ga (.Attribute (.Name "self" p1) "runs" p2)) p4.line X.env=pure false) (hv:oz (defScope st) "self") :
  fM P w K mg base CX0 (k+1) f fd ["self"] (MS C):=by
 refine F.ok S (λvs H Q E h=>by obtain⟨p,dx,rfl,_⟩:=h;rfl) (λcdv A outer s H vs Q E hr h=>?_);obtain⟨p,dx,rfl,h1,q⟩:=h;rw[hbd];refine⟨_,yu (Lm (lE (i:=0) rfl hv) zE (hs _)),λr hr=>?_⟩;have n:p≠r:=iz h1 hr;exact⟨.ref p,rfl,p,C,dx,[],rfl,by rwa[fJ n],T.cl,T.na,by decide,q r hr⟩
end
def zQ:Sl->Prop
 | .val _=>True
 | .no=>True
 | _=>False
open Classical in
noncomputable def tf (i:Nat)(C:Gk)(k:Gk->FS):FS:=λψ=>if h:∃ d,(∀ s∈ψ,zQ s)/\∀ p r,k r (ψ.set i (.dsk C p r []))=Ga (.rt d) then Ga (.rt h.choose) else Gb
section
variable {X:Cx}{k:Nat}{f C:Gk}{fd:Gj}{x y:Str}{p pos pos' p2:Pos}
def zGn (i:Nat){rest:List Stmt}{g:Gk->FS}(M:Mk X.K C f)(Fi:fM X.prog X.w X.K X.mg X.base CX0 k f fd ["self"] (MS C))(hr:ic (k+1) X.A)(hm:X.mg y=Ga (.ref C))(hb:ma X.K fd ["self"] [])(hrest:∀ r,rl X r rest (g r))(hN:X.N.Nodup)(hg:Gl X y:=by rfl)(hi:X.N[i]?=Ga x:=by rfl)(hx:tP X.env.scope x:=by first|exact kC rfl|exact j7 rfl)
  (hs:swapsWith (.Call (.Name y p) [] [] p2) (Ga (.Name x pos')) pos.line X.env=pure false:=by rfl) (hf:X.fn x=true\/X.env.scope.names.lookup x=Ga .local:=by first|exact .inl rfl|exact .inr rfl) (hdb:(y==("__debug__":Str))=false:=by decide) :
  mV X (.Assign [.Name x pos'] (.Call (.Name y p) [] [] p2) pos::rest) (tf i C g):=by
 have hq:nV X (.Assign [.Name x pos'] (.Call (.Name y p) [] [] p2) pos::rest) (λE σ H=>∃ H0 F ψ o,RS X.K H0 F H ψ σ/\tf i C g ψ=Ga o/\i<σ.length/\yA X.K H0 F E o):=by
  intro ω s σ H D I hw;obtain⟨H0,F,ψ,o,rs,e,hl,pp⟩:=hw;unfold tf at e;split at e;rotate_left
  .cases e
  rename_i hc;cases e;obtain⟨hpl,hk⟩:=hc.choose_spec;generalize hc.choose=d at hk pp;have main:∀ (a dx b:Gk) (H2:Hp),H a=Gb->H dx=Gb->dx≠a->b≠a->b≠dx->H b=Gb->H2=fH (fH (fH (fH H dx (.own a)) a (.ins C dx [])) b (.dK [])) a (.ins C dx [("runs",.ref b)])->tU X.K b (g b) D (σ.set i (Ga (.ref a))) H2:=by
   intro a dx b H2 ha hdx n1 n2 n3 hb2 eH;have hbH:H2 b=Ga (.dK []):=by rw[eH,fJ n2,fI]
   have haH:H2 a=Ga (.ins C dx [("runs",.ref b)]):=by rw[eH,fI]
   have sm:fw H H2:=by
    rw[eH];have m1:fw H (fH H dx (.own a)):=fw.new hdx;have m2:fw (fH H dx (.own a)) (fH (fH H dx (.own a)) a (.ins C dx [])):=fw.new (by rwa[fJ (ur n1)]);have m3:fw (fH (fH H dx (.own a)) a (.ins C dx [])) (fH (fH (fH H dx (.own a)) a (.ins C dx [])) b (.dK [])):=fw.new (by rwa[fJ n2,fJ n3]);exact((m1.trans m2).trans m3).put ha (λo u z=>by rw[fJ (ur n2),fI] at z;cases z)
   refine⟨H2,F,ψ.set i (.dsk C a b []),.rt d,⟨⟨.refl _,rs.fh.trans sm,λj s ej=>?_,λj k c s t o1 o2 x1 x2=>?_⟩,rs.fh.free hb2,[],hbH⟩,hk a b,?_⟩
   .by_cases h:i=j
    .subst h;refine⟨_,jG hl,?_⟩;by_cases hle:i<ψ.length
     .rw[jG hle] at ej;cases ej;exact⟨rfl,dx,[],haH,hbH,.nil⟩
     .rw[kI (by simpa using hle)] at ej;cases ej
    .rw[jJ h] at ej ⊢;obtain⟨u,e1,q⟩:=rs.sl j s ej;refine⟨u,e1,?_⟩;have:=hpl s (j5 ej);cases s<;>first|(exact this.elim)|trivial|exact q
   .exfalso;by_cases h:i=j
    .subst h;by_cases hle:i<ψ.length
     .rw[jG hle] at x1;cases x1;cases o1
     .rw[kI (by simpa using hle)] at x1;cases x1
    .rw[jJ h] at x1;have:=hpl s (j5 x1);cases s<;>first|(exact this.elim)|cases o1
   .intro v H' F' H1 c1 g1 f1 fh1 n rv;refine pp v H' F' (λc o hc=>?_) f1 fh1 (λc o hc hn=>(rs.h0.trans sm).free (n c o hc hn)) rv;have hcb:c≠b:=iz hc (rs.h0.free hb2);have s2:fw H0 H2:=rs.h0.trans sm;exact g1 c _ (by rw[c1.1 c hcb];exact s2 c o hc)
  have h1:PS X (.Assign [.Name x pos'] (.Call (.Name y p) [] [] p2) pos) (λE σ' H'=>σ'=σ/\H'=H/\∀ a dx b H2,H a=Gb->H dx=Gb->dx≠a->b≠a->b≠dx->H b=Gb->H2=fH (fH (fH (fH H dx (.own a)) a (.ins C dx [])) b (.dK [])) a (.ins C dx [("runs",.ref b)])->E.nx (σ.set i (Ga (.ref a))) H2):=by
   intro pins2 s2 σ2 H2 D2 I2 hw;obtain⟨e1,e2,hw⟩:=hw;subst e1 e2;refine sZ hN hi hx (EY M Fi hr hg hm hb .nil wt hdb) hs hf pins2 s2 _ _ D2 I2 ?_;intro a dx ha hdx n1;refine⟨a,dx,rfl,fI,λb hb=>⟨rfl,?_⟩⟩;have n2:b≠a:=λz=>by subst z;rw[fI] at hb;cases hb
   rw[fJ n2] at hb;have n3:b≠dx:=λz=>by subst z;rw[fI] at hb;cases hb
   rw[fJ n3] at hb;exact hw a dx b _ ha hdx n1 n2 n3 hb rfl
  have h2:nV X rest (λE σ' H'=>∃ b,tU X.K b (g b) E σ' H'):=λω s σ' H' D I hw=>by
   obtain⟨b,hw⟩:=hw;exact hrest b ω s σ' H' D I hw
  exact xh h1 h2 ω s σ H D I ⟨rfl,rfl,λa dx b H2 ha hdx n1 n2 n3 hb2 eH=>⟨b,main a dx b H2 ha hdx n1 n2 n3 hb2 eH⟩⟩
 intro ω s σ H D I hw;obtain⟨H0,F,ψ,o,rs,e,pp⟩:=hw;exact hq ω s σ H D I ⟨H0,F,ψ,o,rs,e,by rw[I.len];exact(ju.mp hi).1,pp⟩
end
structure Ha (K:jb)(C:Gk)(x qual:Str)(st:Stmt)(ps:List Str)(f:Gk)(fd:Gj):Prop where
 F:rF K x qual st f fd
 m:yj K C x f
 b:ma K fd ps []
def yx (i:Nat):FS:=λψ=>Ga (.nx (ψ.set i (.dks [])))
def XD:mV X st pf:=λω s σ H D I h=>by
 obtain⟨H0,F,ψ,o,u,e,p⟩:=h;cases e
structure MthW (K:jb)(C:Gk)(x qual:Str)(st:Stmt)(cd:Gg)(a:Gk)(fd:Gj):Prop where
 e:∃ (od an:Option Gk) (sl:Array (Option Gg)) (oc kV dc pm ct:Gg),K.lookup a=Ga ⟨oc,od,.func fd,sl⟩/\fd=kZ x qual (defArgs st) (defBody st) (defScope st) .none kV dc pm an cd ct/\vB K cd qual=true
 at_:ub K (.ref C) x=Ga (Ga (.ref a))
 fn:Ji K (.ref a)=true
 kp:uc K (.ref a)=true
def Os{qual:Str}{st:Stmt}{ps:List Str}{f:Gk}{cd:Gg}{fd:Gj}(w:MthW K C x qual st cd f fd)
  (hb:∀ (kV doc pm:Gg) (an:Option Gk) (cdv ct:Gg) (us:List Gg),us.length=ps.length->bindArgs (kZ x qual (defArgs st) (defBody st) (defScope st) .none kV doc pm an cdv ct) ⟨us,[]⟩=pure (ps.zip us):=by first|(exact λ_ _ _ _ _ _ us hl=>(match us,hl with|[_],_=>rfl))|(exact λ_ _ _ _ _ _ us hl=>(match us,hl with|[_,_],_=>rfl))):Ha K C x qual st ps f fd:=by
 obtain⟨od,an,sl,oc,kV,dc,pm,ct,e1,rfl,e3⟩:=w.e;have F:=Eu (st:=st) e1 e3 w.kp;exact⟨F,⟨w.at_,w.fn,w.kp⟩,F.binds hb⟩
def oN(f:En->Option α):En->Option α
 | .val (.tuple [a,b,c])::base=>f (.val a::.val b::.val c::base)
 | _=>Gb
def QS{f:En->Option α}{base:En}{r:α}(h:oN f (.val d::base)=Ga r):∃ a b c,d=.tuple [a,b,c]/\f (.val a::.val b::.val c::base)=Ga r:=by
 unfold oN at h;split at h
 .rename_i z;cases z;exact⟨_,_,_,rfl,h⟩
 .cases h
abbrev eP:=iB 2
abbrev Kf:FT:=Du (ny (iB 0) (ny (iB 1) (ny eP zt)))
def Sc:D->Option En
 | .tuple [a,b,c]=>Ga [.val a,.val b,.val c]
 | _=>Gb
def zrX{J:It}{F1:Hp}{rs:List D}{fe:FV}{ix:List Nat}{tc:TT}{D0:Gk}{Qv:Hp->Prop}{g:TG}
  (hg:∀ v σ H Q,tG K Kf v σ H Q->g v σ H Q)
  (htc:∀ σ H Q,tT K fc σ H Q->tc σ H Q) (nd:ix.Nodup) (r:RS K H0 F1 H1 ψ σ) (Y:∀ F2,fw F1 F2->lW K J F2 ds) (e:gd (oN fc) (oN fe) (ls ix ψ) ds=Ga rs) (hz:ds.length<=1000000) (hD:H1 D0=Gb)
  (q:∀ xs H' F',fw H1 H'->fw F1 F'->fw F' H'->gu F1 F' H1->F' D0=Gb->H' D0=Ga (.lst xs)->fL K F' rs xs->Qv H') :
  zr J g tc (tV K fe) D0 (tY 3 ix σ) (fH H1 D0 (.lst [])) Qv :=
 UQ (sp:=Sc) (k:=2) (λd l e=>by
  unfold Sc at e;split at e
  .cases e;exact⟨rfl,λsx base h=>by match sx,h with|[s,t,u],_=>rfl⟩
  .cases e) (λd base b h=>by obtain⟨a,b,c,rfl,h⟩:=QS h;exact⟨_,rfl,h⟩) (λd l base y e h=>by obtain⟨a,b,c,rfl,h⟩:=QS h;cases e;exact h) hg htc nd r Y e hz hD q
section
variable {X:Cx}{elt iter tg:Expr}{x xb xc:Str}{px pxb pt pos:Pos}{tk:Nat}{ifs:List Expr}{scope:Scope}{fr:List Str}{ix:List Nat}{fi:FL}{fc:FB}{fe:FV}
structure CU (X:Cx)(scope:Scope)(tg:Expr)(x xb xc:Str)(fr:List Str)(ifs:List Expr)(elt:Expr)(fc:FB)(fe:FV):Prop where
 h:∀ cl C s H fp ω,sP (iG X scope cl C (x::xb::xc::fr) s H fp ω) tg Kf /\
  NY (iG X scope cl C (x::xb::xc::fr) s H fp ω) ifs (xd X.K ifs fc)/\PV (iG X scope cl C (x::xb::xc::fr) s H fp ω) elt fe
 hn:ifs=[]->fc=λ_=>Ga true
def Pc{pxc:Pos}(hc:X.calm=true)(nd:(x::xb::xc::fr).Nodup)(hl:scope.names.lookup x=Ga .local)(hl2:scope.names.lookup xb=Ga .local)(hl3:scope.names.lookup xc=Ga .local)(ht:∀ cl C s H fp ω,PB (iG X scope cl C (x::xb::xc::fr) s H fp ω) c fc)(he:∀ cl C s H fp ω,PV (iG X scope cl C (x::xb::xc::fr) s H fp ω) elt fe):CU X scope (.Tuple [.Name x px,.Name xb pxb,.Name xc pxc] tk pt) x xb xc fr [c] elt fc fe :=
 ⟨λcl C s H fp ω=>⟨BK hc (pE (BA 0 nd rfl (.inl (lookup_relabel_local hl)) (.inr (lookup_relabel_local hl))) (pE (BA 1 nd rfl (.inl (lookup_relabel_local hl2)) (.inr (lookup_relabel_local hl2))) (pE (BA 2 nd rfl (.inl (lookup_relabel_local hl3)) (.inr (lookup_relabel_local hl3))) Bq))),ht cl C s H fp ω,he cl C s H fp ω⟩,λz=>by cases z⟩
def CU.tc (B:CU X scope tg x xb xc fr ifs elt fc fe):∀ σ H Q,tT X.K fc σ H Q->xd X.K ifs fc σ H Q:=by
 intro σ H Q h;cases ifs with
 | nil =>
  obtain⟨H0,F,ψ,b,r,e,q⟩:=h;rw[B.hn rfl] at e;cases e;exact q H (.refl _)
 | cons c r=>exact h
def zB9 (hc:X.calm=true)(S:se X.N X.env.scope scope x fr ix)(hi:wO X tg iter fi)(B:CU X scope tg x xb xc fr ifs elt fc fe)(hs:∀ v,foldedSetIterable iter X.env v=pure v:=by intro _;rfl) :
  PO X (.ListComp elt [⟨tg,iter,ifs,0⟩] scope pos) (gh fi (oN fc) (oN fe) ix):=by
 intro ω s σ H Q I hw;obtain⟨cl,hclos,hl1,hl2⟩:=Ky I S;obtain⟨H0,F,ψ,rs,r,e,q⟩:=hw;obtain⟨ds,e1,e⟩:=ft e;split at e;rotate_left
 .cases e
 rename_i hz;rw[eval_ListComp];refine wpAny_comprehension_free (use:=Gb) rfl hs hclos S.kind S.locs (wpAny_mono (hi ω s σ H (λJ H1=>∃ F1,fw H H1/\fw F F1/\fw F1 H1/\gu F F1 H/\∀ F2,fw F1 F2->lW X.K J F2 ds) I ⟨H0,F,ψ,ds,r,e1,λJ H1 F1 g1 f1 fh1 n1 Y=>⟨F1,g1,f1,fh1,n1,Y⟩⟩)
  (λxv s1 h1=>wpAny_mono h1 (λitv s2 h2=>?_) λ_ _ z=>z) λ_ _ z=>z)
 obtain⟨it,fp,tn,J,H2,eit,I2,T,st2,f2,F1,g1,f1,fh1,n1,Y⟩:=h2;subst eit;refine Nd (nb:=[x,xb,xc]) (g:=tG X.K Kf) (te:=tV X.K fe) (tc:=xd X.K ifs fc) (RR:=λacc C=>compPost (model X.prog X.w) X.A X.xe Gb (EP X ω σ Q) acc C) (Qv:=λD0 H'=>Q (.ref D0) H') S hl1 hl2 I2 T st2 f2 hc (λC s' H'=>B.h cl C s' H' fp ω) (λD0 hD=>?_) λD0 C s' H' I' hC hn hf hq=>?_
 .exact zrX (λ_ _ _ _ h=>h) B.tc S.apart (r.grow g1 f1 fh1 n1) Y e hz hD λxs H' F' g2 f2' fh2 n2 fd hd rr=>q D0 xs H' F' (g1.trans g2) (f1.trans f2') fh2 (n1.trans n2 g1) (g1.free hD) fd hd rr
 .obtain⟨m,hm⟩:=hn;refine⟨m,hm,λh' sb=>?_⟩;have nC:∀ p o,s2.heap.get? p=Ga o->p≠C:=λp o e=>jL (jx (jy e) hC);refine⟨.ref D0,H',?_,rfl,hq⟩;refine I'.turned (it:=C) (t':=s'.toks) (λb o hb e=>sb.extBut b o hb e) hf (uA (jx I2.lt hC)) (.inr (jI I2.sz hC)) (λy c ec z=>?_) λp hp z=>?_
  .obtain⟨v,qv⟩:=I2.cell y c ec;exact absurd (jx qv.lt (by rwa[z])) (kb _)
  .exact nC _ _ (I2.pin p hp).1 z
end
def xj (x:Str)(n:Int):Str:=if n<1 then vH else if (n==1||x.length==0)=true then x else⟨(jB n.toNat x.cps).foldl (·++·) #[]⟩
def pO:D->D->Option D
 | .str x,.int n=>if 0<=n/\n<=100/\x.length=1/\(xj x n).length<=1000 then Ga (.str (xj x n)) else Gb
 | _,_=>Gb
def zEI:ir X (binaryOp .Mult) (λx y H Q=>∃ (a:Str) (n:Int),x=.str a/\y=.int n/\(0<=n/\n<=100/\a.length=1/\(xj a n).length<=1000)/\Q (.str (xj a n)) H):=by
 intro ω s σ H x y v u Q I rx ry h;obtain⟨a,n,rfl,rfl,⟨h1,h2,h3,h4⟩,q⟩:=h;obtain⟨t,rfl⟩:=rx;obtain⟨t',rfl⟩:=ry;refine PySem.P.mul_str ?_ (λz _=>?_) (λz _=>?_) ?_
 .rw[Gd (by omega),Gd (by omega)];rfl
 .rw[h3];have:=Int.le_ediv_of_mul_le (c:=n) (a:=1) (b:=2^63-1) (by omega) (by omega);show ¬((1:Nat):Int)>_;omega
 .rw[h3];unfold qD;rw[sizeLine_eq];exact Gd (by omega)
 .unfold xj at q h4;split
  .rename_i c;rw[Ge c] at q;exact⟨by decide,⟨.str _,H,I.tok _,⟨_,rfl⟩,q⟩⟩
  .rename_i c;rw[Gf c] at q h4;split
   .rename_i c2;rw[Ge c2] at q;exact⟨.str _,H,I.tok _,⟨_,rfl⟩,q⟩
   .rename_i c2;rw[Gf c2] at q h4;exact⟨vf (tS h4),⟨.str _,H,I.tok _,⟨_,rfl⟩,q⟩⟩
def RO{g:FV}(ha:PV X a f)(hb:PV X b g):PV X (.BinOp a .Mult b pos) (fG pO f g):=by
 refine ia (zo zEI ha hb) λσ H Q=>?_;rintro⟨H0,F,ψ,d,r,e,q⟩;obtain⟨x,e1,e⟩:=ft e;obtain⟨y,e2,e⟩:=ft e;obtain⟨x,rfl⟩:∃ s:Str,x=.str s:=by cases x<;>first|(cases e;done)|exact⟨_,rfl⟩
 obtain⟨n,rfl⟩:∃ s:Int,y=.int s:=by cases y<;>first|(cases e;done)|exact⟨_,rfl⟩
 have e':(if 0<=n/\n<=100/\x.length=1/\(xj x n).length<=1000 then Ga (jp (xj x n)) else Gb)=Ga d:=e;split at e';rotate_left
 .cases e'
 rename_i c;cases e';refine⟨H0,F,ψ,_,r,e1,λv H1 F1 g1 f1 fh1 n1 rv=>⟨H0,F1,ψ,_,r.grow g1 f1 fh1 n1,e2,λv2 H2 F2 g2 f2 fh2 n2 rv2=>?_⟩⟩;cases rv;cases rv2;exact⟨x,n,rfl,rfl,c,q _ H2 F2 (g1.trans g2) (f1.trans f2) fh2 (n1.trans n2 g1) (.str _)⟩
structure GE (K:jb)(w:World)(e:DictEntry)(k:Str)(d:D):Prop where
 h:∃ (t:Tok) (v:V),e.key=.str k t/\e.hash=JI w.params k/\gq v e.val/\∀ F,gG K F d v
variable {t:Tok}
def geN_{u:Tok}{i:Int}:GE K w ⟨JI w.params k,.str k t,.int i u⟩ k (.int i):=⟨t,.int i,rfl,rfl,⟨u,rfl⟩,λ_=>.int i⟩
def zjL{b:Gk}{n:Nat}{dc:Option Gk}{sl:Array (Option Gg)}{xs:List V}(lk:K.lookup b=Ga ⟨.type "tuple",dc,.seq its n,sl⟩)(hz:its.size<=sizeLine)(hv:fV xs its.toList)(hr:∀ F,fL K F ds xs):GE K w ⟨JI w.params k,.str k t,.ref b⟩ k (.tuple ds) :=
 ⟨t,.ref b,rfl,rfl,rfl,λF=>.tup (.inr ⟨_,its,n,lk,rfl,rfl,hz,hv⟩) (hr F)⟩
inductive BQ (K:jb)(w:World):List DictEntry->List (Str×D)->Prop where
 | nil:BQ K w [] []
 | cons {e:DictEntry} {k:Str} {d:D} {es:List DictEntry} {l:List (Str×D)} (h:GE K w e k d) (t:BQ K w es l):BQ K w (e::es) ((k,d)::l)
def BQ.all {P:Program}{K:jb}{w:World}:∀ {es:List DictEntry} {l:List (Str×D)},BQ K w es l->∃ (ws:List (gI×V)) (vs:List (gI×Gg)),KV ws vs/\Pairs (iW P w) es vs/\(∀ e∈es,∃ k,(iW P w).is k e.key=true/\e.hash=(iW P w).hash k)/\vs.map (·.1)=l.map (λp=>(Sum.inr p.1:gI))/\∀ F,gD K F l ws
 | _,_,.nil=>⟨[],[],.nil,.nil,λ_ h=>by simp at h,rfl,λ_=>.nil⟩
 | e::es,(k,d)::l,.cons h t=>by
  obtain⟨ws,vs,h1,h2,h3,h4,h5⟩:=t.all (P:=P);obtain⟨tk,v,a1,a2,a3,a4⟩:=h.h;have hk:(iW P w).is (Sum.inr k) e.key=true:=by rw[a1];exact zg k tk
  refine⟨(Sum.inr k,v)::ws,(Sum.inr k,e.val)::vs,.cons ⟨rfl,a3⟩ h1,.cons hk rfl h2,λx hx=>?_,by rw[jO,jO,h4],λF=>.cons (a4 F) (h5 F)⟩;rcases jo.mp hx with rfl|hx
  .exact⟨Sum.inr k,hk,a2⟩
  .exact h3 x hx
def zEK{mg:Str->Option Gg}{a:Gk}{es:Array DictEntry}(m:mg x=Ga (.ref a))(hs:(a==sysModules)=false)(lk:K.lookup a=Ga ⟨.type "dict",Gb,.dict es ep,#[]⟩)(ge:BQ K w es.toList tab)(nd:(tab.map (·.1)).Nodup):GDk P w K mg x tab:=by
 obtain⟨ws,vs,h1,h2,h3,h4,h5⟩:=ge.all (P:=P);refine⟨a,ws,m,hs,λh X=>⟨vs,h1,_,es,ep,X a _ lk,⟨rfl,rfl,rfl⟩,rfl,λe he=>h3 e (vz.mpr he),h2,?_⟩,h5⟩;rw[h4];have:(tab.map (·.1)).map (Sum.inr:Str->gI)=tab.map λp=>(Sum.inr p.1:gI):=by rw[jE];rfl
 rw[<- this];exact List.Pairwise.map Sum.inr (λa b hab h=>hab (Sum.inr.inj h)) nd
end T3
set_option maxHeartbeats 4000000
namespace T3
open PySem PySem.Spec PyProof.Rows L2
def fO {N P:List Str}{sc:Scope}(h:sc.kind=.function/\sc.isCoroutine=false/\sc.isGenerator=false/\N.Nodup/\N.take P.length=P/\(∀ x∈P,sc.names.lookup x=Ga .local\/sc.names.lookup x=Ga .cell)/\∀ y∈sc.names,y.2≠.free):fF N P sc:=⟨h.1,h.2.1,h.2.2.1,h.2.2.2.1,h.2.2.2.2.1,h.2.2.2.2.2.1,h.2.2.2.2.2.2⟩
def cO {N P N':List Str}{osc osc' scope:Scope}{x:Str}{fr:List Str}{ix:List Nat}(_:fF N P osc)(h:scope.kind=.function/\(∀ y∈scope.names,y.2≠.cell)/\(∀ y∈scope.names,y.2=.local->scope.names.lookup y.1=Ga .local)/\scope.names.lookup x=Ga .local/\(∀ y∈scope.names,y.2=.free->osc.names.lookup y.1=Ga .cell\/osc.names.lookup y.1=Ga .free)/\(∀ y∈fr,scope.names.lookup y=Ga .free)/\fr.length=ix.length/\(∀ p∈ix.zip fr,N[p.1]?=Ga p.2)/\ix.Nodup)(e1:N=N':=by rfl)(e2:osc=osc':=by rfl):se N' osc' scope x fr ix:=by
 subst e1 e2;obtain⟨h1,h2,h3,h4,h5,h6,h7,h8,h9⟩:=h;exact⟨h1,h2,h3,h4,h5,h6,h7,λj i y a b=>h8 (i,y) (j5 (List.getElem?_zip_eq_some.mpr ⟨a,b⟩)),h9⟩
variable {K:jb}{P:Program}{base:Heap}{f:Gk}{k:Nat}{mg:Str->Option Gg}{ps:List Str}{w:World}
def cV{fd:Gj}{fm fm':List D->Option D}(h:fM P w K mg base CX0 k f fd ps (spV K fm'))(e:fm'=fm):fM P w K mg base CX0 k f fd ps (spV K fm):=e▸h
def cW{fd:Gj}{fm fm':List D->Option (List D)}(h:fM P w K mg base CX0 k f fd ps (zD K fm'))(e:fm'=fm):fM P w K mg base CX0 k f fd ps (zD K fm):=e▸h
section
variable {X:Cx}{k j:Nat}{f:Gk}{fd:Gj}{ps:List Str}{x:Str}{st:Stmt}{p pos:Pos}{e:Expr}{es:List Expr}{g:FL}
def vc {fm:List D->Option D}(F:fM X.prog X.w X.K X.mg X.base CX0 k f fd ps (spV X.K fm))(W:Fn X.K X.mg x st ps f fd)(hr:ic j X.A)(ha:PL X (e::es) g)(hk:k<=j:=by decide)(hg:Gl X x:=by rfl)
  (hdb:(x==("__debug__":Str))=false:=by decide) (he:starEach (e::es) X.env=(false,eval e X.env)::starEach es X.env:=by rfl) (hpl:(backTo pos (starEach es X.env)).any (·.1)=false:=by rfl) :
  PV X (.Call (.Name x p) (e::es) [] pos) (λψ=>(g ψ).bind fm):=zDd F (hr.mono hk) W.m W.F.kp W.b ha hg hdb he hpl
end
end T3
noncomputable section
namespace Law
noncomputable section
open PySem PySem.Spec PyProof.Rows L2 T3
abbrev Kh:Stmt:=top 1
abbrev Nb:Stmt:=top 2
abbrev Ie:Stmt:=top 3
abbrev IJ:Stmt:=top 4
abbrev IL:Stmt:=top 5
abbrev NA:Stmt:=top 18
abbrev Lc:Stmt:=top 19
abbrev Mx:Stmt:=top 20
abbrev NK:Stmt:=top 21
abbrev MT:Stmt:=top 22
abbrev Nr:Stmt:=top 23
abbrev IB:Stmt:=top 24
abbrev OD:Stmt:=top 25
abbrev Oj:Stmt:=top 29
abbrev NV:Stmt:=top 30
abbrev LJ:Stmt:=top 31
abbrev Mu:Stmt:=top 32
abbrev Nv:Stmt:=top 34
abbrev LB:Stmt:=top 35
abbrev LX:Stmt:=top 36
abbrev Oe:Stmt:=top 37
abbrev Na:Stmt:=top 38
abbrev Mo:Stmt:=top 40
abbrev NR:Stmt:=top 41
abbrev Mh:Stmt:=top 42
abbrev Ob:Stmt:=top 55
abbrev IT:Stmt:=top 56
abbrev NF:Stmt:=top 57
abbrev LR:Stmt:=top 58
abbrev NG:Stmt:=top 59
abbrev MC:Stmt:=top 93
abbrev ON:Stmt:=top 94
abbrev NN:Stmt:=top 95
abbrev Ni:Stmt:=top 96
abbrev Ks:Stmt:=top 97
abbrev IQ:Stmt:=top 98
abbrev Io:Stmt:=top 99
abbrev IW:Stmt:=top 106
abbrev Nj:Stmt:=top 107
abbrev LV:Stmt:=top 109
abbrev Mb:Stmt:=top 111
abbrev IP:Stmt:=top 112
abbrev ML:Stmt:=top 113
abbrev KB:Stmt:=top 127
abbrev No:Stmt:=top 128
abbrev Kc:Stmt:=top 133
abbrev Hf:Stmt:=inClass (top 134) 0
abbrev GT:Stmt:=inClass (top 134) 2
abbrev AI:Stmt:=inClass (top 134) 1
abbrev Ku:Stmt:=top 136
abbrev OI:Stmt:=top 137
abbrev KT:Stmt:=top 138
abbrev Mc:Stmt:=top 139
abbrev MH:Stmt:=top 140
abbrev KW:Stmt:=top 141
abbrev LU:Stmt:=top 142
abbrev Ic:Stmt:=top 143
abbrev Oy:Stmt:=top 144
abbrev MD:Stmt:=top 145
abbrev OB:Stmt:=top 146
abbrev NX:Stmt:=top 147
abbrev Mf:Stmt:=top 148
abbrev Oa:Stmt:=top 149
abbrev KU:Stmt:=top 150
abbrev Og:Stmt:=top 151
abbrev BW:Stmt:=top 152
abbrev Ov:Stmt:=top 153
def nu:List (Str×D):=[((ja "run"),.tuple [.str (ja "name"),.str (ja "text")]),((ja "show"),.tuple [.str (ja "name")]),((ja "waste"),.tuple [.str (ja "name")]),((ja "close"),.tuple [.str (ja "name"),.str (ja "bound")]),((ja "know"),.tuple [.str (ja "name"),.str (ja "hand"),.str (ja "rounds")]),((ja "choose"),.tuple [.str (ja "name"),.str (ja "rule"),.str (ja "bound"),.str (ja "rounds")]),((ja "alike"),.tuple [.str (ja "name"),.str (ja "other"),.str (ja "rounds")]),((ja "chain"),.tuple [.str (ja "name"),.str (ja "bound"),.str (ja "rounds"),.str (ja "number")]),((ja "break"),.tuple [.str (ja "name"),.str (ja "rule"),.str (ja "bound"),.str (ja "rounds")])]
def Ht:List (Str×D):=[((ja "hand"),.int 4),((ja "bound"),.int 3),((ja "rounds"),.int 4)]
structure UN where
 a36:Gk
 d36:Gj
 a60:Gk
 d60:Gj
 a39:Gk
 d39:Gj
 a52:Gk
 d52:Gj
 a40:Gk
 d_q40:Gj
 a32:Gk
 d32:Gj
 a_q5:Gk
 d_q5:Gj
 a49:Gk
 d49:Gj
 a53:Gk
 d53:Gj
 a25:Gk
 d25:Gj
 a58:Gk
 d58:Gj
 a13:Gk
 d13:Gj
 a54:Gk
 d54:Gj
 a63:Gk
 d63:Gj
 a24:Gk
 d24:Gj
 a61:Gk
 d61:Gj
 a64:Gk
 d64:Gj
 a11:Gk
 d11:Gj
 a_q2:Gk
 d_q2:Gj
 a51:Gk
 d51:Gj
 a38:Gk
 d38:Gj
 a26:Gk
 d26:Gj
 a43:Gk
 d43:Gj
 a27:Gk
 d27:Gj
 a62:Gk
 d62:Gj
 a31:Gk
 d31:Gj
 a_q3:Gk
 d_q3:Gj
 a29:Gk
 d29:Gj
 a47:Gk
 d47:Gj
 a_q1:Gk
 d_q1:Gj
 a28:Gk
 d28:Gj
 a44:Gk
 d44:Gj
 a_q7:Gk
 d_q7:Gj
 a_q8:Gk
 d_q8:Gj
 a_q4:Gk
 d_q4:Gj
 a20:Gk
 d_q20:Gj
 a42:Gk
 d42:Gj
 a56:Gk
 d56:Gj
 a23:Gk
 d23:Gj
 a12:Gk
 d12:Gj
 a22:Gk
 d22:Gj
 a37:Gk
 d37:Gj
 a46:Gk
 d46:Gj
 a30:Gk
 d30:Gj
 a65:Gk
 d65:Gj
 a59:Gk
 d59:Gj
 a17:Gk
 d17:Gj
 a_q9:Gk
 d_q9:Gj
 a48:Gk
 d48:Gj
 a_q6:Gk
 d_q6:Gj
 a21:Gk
 d21:Gj
 a55:Gk
 d55:Gj
 a14:Gk
 d14:Gj
 a10:Gk
 d10:Gj
 a33:Gk
 d33:Gj
 a57:Gk
 d57:Gj
 a50:Gk
 d50:Gj
 a45:Gk
 d45:Gj
 a16:Gk
 d16:Gj
 a19:Gk
 d19:Gj
 a41:Gk
 d41:Gj
 a15:Gk
 d15:Gj
 a34:Gk
 d34:Gj
 a_q0:Gk
 d_q0:Gj
 a18:Gk
 d18:Gj
 a35:Gk
 d35:Gj
 a66:Gk
 d66:Gj
 C:Gk
structure Txt (P:Program)(w:World)(K:jb)(mg:Str->Option Gg)(t:UN):Prop where
 dk:DkC K t.C
 mkD:Mk K t.C t.a17
 mgC:mg "Desk"=Ga (.ref t.C)
 q17:Ha K t.C "__init__" "Desk.__init__" Hf ["self"] t.a17 t.d17
 q9:Ha K t.C "run_by" "Desk.run_by" GT ["self","name"] t.a_q9 t.d_q9
 q48:Ha K t.C "say" "Desk.say" AI ["self","row"] t.a48 t.d48
 g_FORMS:GDk P w K mg "FORMS" nu
 g_MOST:GDk P w K mg "MOST" Ht
 q36:Fn K mg "is_whole" Kh ["thing"] t.a36 t.d36
 q60:Fn K mg "bit_of" Nb ["hand"] t.a60 t.d60
 q39:Fn K mg "has_hand" Ie ["mask","hand"] t.a39 t.d39
 q52:Fn K mg "mask_of" IJ ["hands"] t.a52 t.d52
 q40:Fn K mg "hands_in" IL ["mask"] t.a40 t.d_q40
 q32:Fn K mg "is_number" NA ["thing"] t.a32 t.d32
 q5:Fn K mg "are_numbers" Lc ["thing"] t.a_q5 t.d_q5
 q49:Fn K mg "is_reach" Mx ["mask","hand","many"] t.a49 t.d49
 q53:Fn K mg "is_fall" NK ["thing","many"] t.a53 t.d53
 q25:Fn K mg "are_falls" MT ["thing","many"] t.a25 t.d25
 q58:Fn K mg "is_run" Nr ["thing"] t.a58 t.d58
 q13:Fn K mg "many_hands" IB ["run"] t.a13 t.d13
 q54:Fn K mg "fall_of" OD ["run","hand"] t.a54 t.d54
 q63:Fn K mg "is_up" Oj ["run","hand","rounds"] t.a63 t.d63
 q24:Fn K mg "who_is_up" NV ["run","rounds"] t.a24 t.d24
 q61:Fn K mg "comes" LJ ["run","by","to","at"] t.a61 t.d61
 q64:Fn K mg "keeps" Mu ["run","bound"] t.a64 t.d64
 q11:Fn K mg "view_behind" Nv ["run","views","hand","at"] t.a11 t.d11
 q2:Fn K mg "views_behind" LB ["run","views","at"] t.a_q2 t.d_q2
 q51:Fn K mg "views_of" LX ["run","rounds"] t.a51 t.d51
 q38:Fn K mg "own_part" Oe ["view"] t.a38 t.d38
 q26:Fn K mg "rounds_of" Na ["view"] t.a26 t.d26
 q43:Fn K mg "parts_of" Mo ["views"] t.a43 t.d43
 q27:Fn K mg "layers_of" NR ["view"] t.a27 t.d27
 q62:Fn K mg "known" Mh ["view"] t.a62 t.d62
 q31:Fn K mg "all_heard" Ob ["fall","up"] t.a31 t.d31
 q3:Fn K mg "is_found_out" IT ["fall","up","rounds"] t.a_q3 t.d_q3
 q29:Fn K mg "found_out" NF ["run","rounds"] t.a29 t.d29
 q47:Fn K mg "waste_of" LR ["run"] t.a47 t.d47
 q1:Fn K mg "closing_round" NG ["run","bound"] t.a_q1 t.d_q1
 q28:Fn K mg "show_fall" MC ["fall"] t.a28 t.d28
 q44:Fn K mg "show_run" ON ["run"] t.a44 t.d44
 q7:Fn K mg "are_figures" NN ["text"] t.a_q7 t.d_q7
 q8:Fn K mg "read_number" Ni ["text"] t.a_q8 t.d_q8
 q4:Fn K mg "is_fall_text" Ks ["word"] t.a_q4 t.d_q4
 q20:Fn K mg "read_fall" IQ ["word"] t.a20 t.d_q20
 q42:Fn K mg "read_run" Io ["text"] t.a42 t.d42
 q56:Fn K mg "is_name" IW ["word"] t.a56 t.d56
 q23:Fn K mg "read_name" Nj ["word"] t.a23 t.d23
 q12:Fn K mg "read_figure" LV ["word","most"] t.a12 t.d12
 q22:Fn K mg "read_word" Mb ["kind","word"] t.a22 t.d22
 q37:Fn K mg "words_of" IP ["row"] t.a37 t.d37
 q46:Fn K mg "read_row" ML ["row"] t.a46 t.d46
 q30:Fn K mg "show_pair" KB ["pair"] t.a30 t.d30
 q65:Fn K mg "know" No ["run","hand","rounds"] t.a65 t.d65
 q59:Fn K mg "answer" Kc ["word","run","asked"] t.a59 t.d59
 q6:Fn K mg "_law_cell_at" Ku ["script","k"] t.a_q6 t.d_q6
 q21:Fn K mg "_law_mixed" OI ["number","k"] t.a21 t.d21
 q55:Fn K mg "_law_bit" KT ["hand"] t.a55 t.d55
 q14:Fn K mg "_law_number" Mc ["cell"] t.a14 t.d14
 q10:Fn K mg "_law_reached" MH ["mixed","hand","many"] t.a10 t.d10
 q33:Fn K mg "_law_falls" KW ["many","cell","most"] t.a33 t.d33
 q57:Fn K mg "_law_run" LU ["cells","many","most"] t.a57 t.d57
 q50:Fn K mg "_law_next" Ic ["run","cell"] t.a50 t.d50
 q45:Fn K mg "_law_runs" Oy ["script"] t.a45 t.d45
 q16:Fn K mg "_law_table" MD ["run"] t.a16 t.d16
 q19:Fn K mg "_law_comes" OB ["table","by","to","at"] t.a19 t.d19
 q41:Fn K mg "_law_text" NX ["run"] t.a41 t.d41
 q15:Fn K mg "_law_names" Mf ["cell"] t.a15 t.d15
 q34:Fn K mg "_law_waste" Oa ["run"] t.a34 t.d34
 q0:Fn K mg "_law_heard_behind" KU ["run","rounds"] t.a_q0 t.d_q0
 q18:Fn K mg "_law_knows" Og ["run","hand","rounds"] t.a18 t.d18
 q35:Fn K mg "_law_right" BW ["desk","name","run","cell"] t.a35 t.d35
 q66:Fn K mg "law" Ov ["script"] t.a66 t.d66
 b_all:mg "all"=Gb
 b_bool:mg "bool"=Gb
 b_enumerate:mg "enumerate"=Gb
 b_int:mg "int"=Gb
 b_isinstance:mg "isinstance"=Gb
 b_len:mg "len"=Gb
 b_list:mg "list"=Gb
 b_max:mg "max"=Gb
 b_range:mg "range"=Gb
 b_reversed:mg "reversed"=Gb
 b_set:mg "set"=Gb
 b_sorted:mg "sorted"=Gb
 b_str:mg "str"=Gb
 b_tuple:mg "tuple"=Gb
 c_LAST_ROUND:∃ t,mg "LAST_ROUND"=Ga (.int 5 t)
 c_LEAST_HANDS:∃ t,mg "LEAST_HANDS"=Ga (.int 2 t)
 c_MOST_FIGURES:∃ t,mg "MOST_FIGURES"=Ga (.int 60 t)
 c_MOST_HANDS:∃ t,mg "MOST_HANDS"=Ga (.int 5 t)
 c_MOST_LETTERS:∃ t,mg "MOST_LETTERS"=Ga (.int 8 t)
 c_FIGURES:∃ t,mg "FIGURES"=Ga (.str (ja "0123456789") t)
 c_LETTERS:∃ t,mg "LETTERS"=Ga (.str (ja "abcdefghijklmnopqrstuvwxyz") t)
variable {P:Program}{w:World}{K:jb}{mg:Str->Option Gg}{base:Heap}{t:UN}
def zo6:fF ["thing"] ["thing"] (defScope Kh):=fO (by nofun)
abbrev eQ:=gv 0
def zqN:FS:=gY (yI (un (pi "int") eQ) (Fs (un (pi "bool") eQ)))
def wB:List D->Option D:=gp 1 1 zqN
def My (T:Txt P w K mg t):fM P w K mg base CX0 1 t.a36 t.d36 ["thing"] (spV K wB) :=
 gU T.q36.F zo6 λ_ _ _ _ _ _ hr=>fQ (gm (wG (zx (T:="int") (by decide) rfl T.b_isinstance rfl T.b_int boot_int (fu 0)) (rj (LC (zx (T:="bool") (by decide) rfl T.b_isinstance rfl T.b_bool boot_bool (fu 0))))))
def GO:fF ["hand","bit","step"] ["hand"] (defScope Nb):=fO (by nofun)
abbrev eS:=gv 1
abbrev eE:=fU (.int 1)
abbrev eF:=fU (.int 2)
abbrev bL:=gC 1 (fG iT eS eF)
abbrev dB:=iJ gO eQ
def Ll:FS:=fX (gC 1 eE) (fX (mj dB eP bL) (gY eS))
def xN:List D->Option D:=gp 1 3 Ll
def Le (T:Txt P w K mg t):fM P w K mg base CX0 1 t.a60 t.d60 ["hand"] (spV K xN) :=
 gU T.q60.F GO λ_ _ _ _ _ _ hr=>fS (gQ 1 fC GO.nd) (fS (oV PassesOwn.never rfl (nN rfl T.b_range (fu 0)) (lK 2 GO.nd) (fQ (gQ 1 (xq (fu 1) fC) GO.nd))) (fQ (gm (fu 1))))
def zo7:fF ["mask","hand"] ["mask","hand"] (defScope Ie):=fO (by nofun)
abbrev dw:=fz eS (gj)
abbrev eG:=fU (.int 0)
def zqO:FS:=gY (fG gN (fG NI eQ (fR xN dw)) eG)
def rH:List D->Option D:=gp 2 2 zqO
def GF (T:Txt P w K mg t):fM P w K mg base CX0 2 t.a39 t.d39 ["mask","hand"] (spV K rH) :=
 gU T.q39.F zo7 λ_ _ _ _ _ _ hr=>fQ (gm (WF (gL hr) (zC8 (fu 0) (vc (Le T) T.q60 hr (fA (fu 1) fP))) fC))
def Hh:fF ["hands","mask","hand"] ["hands"] (defScope IJ):=fO (by nofun)
abbrev eT:=gv 2
abbrev dy:=fz eT (gj)
def IC:FS:=fX (gC 1 eG) (fX (mj (pR eQ) eP (gC 1 (fG Go eS (fR xN dy)))) (gY eS))
def wR:List D->Option D:=gp 1 3 IC
def UU (T:Txt P w K mg t):fM P w K mg base CX0 2 t.a52 t.d52 ["hands"] (spV K wR) :=
 gU T.q52.F Hh λ_ _ _ _ _ _ hr=>fS (gQ 1 fC Hh.nd) (fS (oV PassesOwn.never rfl (oX (fu 0)) (lK 2 Hh.nd) (fQ (gQ 1 (zF1 (fu 1) (vc (Le T) T.q60 hr (fA (fu 2) fP))) Hh.nd))) (fQ (gm (fu 1))))
def RT:fF ["mask"] ["mask"] (defScope IL):=fO (by nofun)
abbrev dz:=fz eQ (gj)
abbrev bZ:=fz eS dz
abbrev cT:=iJ gO (un Db eQ)
def NC:FS:=Fx (gh cT (lO (fR rH bZ)) eQ [0])
def rp:List D->Option (List D):=AQ 1 1 NC
def TD (T:Txt P w K mg t):fM P w K mg base CX0 3 t.a40 t.d_q40 ["mask"] (zD K rp) :=
 Qp T.q40.F RT λ_ _ _ _ _ _ hr=>fQ (VC (mO rfl (cO RT (fr:=["mask"]) (by nofun)) (nN rfl T.b_range (XS (fu 0))) (tJ (by nofun) rfl (λcl C s H fp ω=>nw (vc (GF T) T.q39 hr (fA (fu 1) (fA (fu 0) fP)))) (λcl C s H fp ω=>fu 0))))
def zm1:fF ["thing"] ["thing"] (defScope NA):=fO (by nofun)
abbrev dC:=fE eQ (gc)
abbrev dQ:=fx (.int 10)
abbrev dS:=fx (.int 60)
def Kd:FS:=im (yS (fT wB dC) (Ej mq mq (gi xf (fv lj dQ dS)) eQ (fv lj dQ dS)))
def Ck:List D->Option D:=gp 1 1 Kd
def Yx (T:Txt P w K mg t):fM P w K mg base CX0 2 t.a32 t.d32 ["thing"] (spV K Ck) :=
 cV (gU T.q32.F zm1 λ_ _ _ _ _ _ hr=>fQ (gm (wG (vc (My T) T.q36 hr (fA (fu 0) fP)) (rj (Gm wq wq (mn λ_ _ _=>.bl _) (mn λ_ _ _=>.bl _) (TZ (Ai fC fC)) (fu 0) (Ai fC fC)))))) rfl
def UT:fF ["thing"] ["thing"] (defScope Lc):=fO (by nofun)
abbrev dW:=fx (.int 2)
abbrev dX:=fx (.int 5)
abbrev db:=im (fx (.bool false))
abbrev dM:=gi gZ eQ
abbrev eL:=Di eQ
def Nc:FS:=fK (gP (oF (pJ (oE (gi (pi "tuple") eQ))) (pJ (Ei lQ lQ dW dM dX))) db gA) (im (mR mH (gh eL (λ_=>Ga true) (fT Ck dC) [])))
def Bm:List D->Option D:=gp 1 1 Nc
def zk7 (T:Txt P w K mg t):fM P w K mg base CX0 3 t.a_q5 t.d_q5 ["thing"] (spV K Bm) :=
 cV (gU T.q5.F UT λ_ _ _ _ _ _ hr=>fS (gW (mD.b9 (mG (oZ (nw (zx (T:="tuple") (by decide) rfl T.b_isinstance rfl T.b_tuple boot_tuple (fu 0)))) (pM (oZ (GA mE mE (mn λ_ _ _=>.bl _) (mn λ_ _ _=>.bl _) (Bz T.c_LEAST_HANDS) (oo rfl T.b_len (fu 0)) (Bz T.c_MOST_HANDS)))))) (fQ (gm (mr))) iq) (fQ (gm (Cg rfl rfl T.b_all (PO.sh (mO rfl (cO UT (fr:=[]) (by nofun)) (oX (fu 0)) (iX (by nofun) rfl (λcl C s H fp ω=>vc (Yx T) T.q32 hr (fA (fu 0) fP))))))))) rfl
def zo8:fF ["mask","hand","many"] ["mask","hand","many"] (defScope Mx):=fO (by nofun)
abbrev dY:=fx (.int 0)
abbrev dE:=fE eS (gc)
abbrev cI:=fE eQ dE
abbrev dD:=fE eT (gc)
def La:FS:=im (yS (Ej lQ mq dY eQ (fT xN dD)) (SM (fT rH cI)))
def zy:List D->Option D:=gp 3 3 La
def ZU (T:Txt P w K mg t):fM P w K mg base CX0 3 t.a49 t.d49 ["mask","hand","many"] (spV K zy) :=
 cV (gU T.q49.F zo8 λ_ _ _ _ _ _ hr=>fQ (gm (wG (Gm mE wq (mn λ_ _ _=>.bl _) (mn λ_ _ _=>.bl _) fC (fu 0) (vc (Le T) T.q60 hr (fA (fu 2) fP))) (rj (LC (vc (GF T) T.q39 hr (fA (fu 0) (fA (fu 1) fP)))))))) rfl
def QK:fF ["thing","many"] ["thing","many"] (defScope NK):=fO (by nofun)
abbrev ee:=fx (.int 1)
abbrev dZ:=fx (.int 3)
abbrev cz:=fv gf eQ dY
abbrev cA:=fv gf eQ ee
def Ln:FS:=fK (gP (oF (pJ (oE (gi (pi "tuple") eQ))) (gz gN dM dZ)) db gA) (fK (gP (pJ (oE (mR mH (gh eL (λ_=>Ga true) (fT wB dC) [])))) db gA) (fK (gP (oF (pJ (Ei lQ mq dY cz eS)) (pJ (Ei lQ lQ ee cA dX))) db gA) (im (fT zy (fE (fv gf eQ dW) (fE cz dE))))))
def zT:List D->Option D:=gp 2 2 Ln
def zqP (T:Txt P w K mg t):fM P w K mg base CX0 4 t.a53 t.d53 ["thing","many"] (spV K zT) :=
 cV (gU T.q53.F QK λ_ _ _ _ _ _ hr=>fS (gW (mD.b9 (mG (oZ (nw (zx (T:="tuple") (by decide) rfl T.b_isinstance rfl T.b_tuple boot_tuple (fu 0)))) (pM (oC (gL hr) (oo rfl T.b_len (fu 0)) fC)))) (fQ (gm (mr))) iq) (fS (gW (oZ (nw (Cg rfl rfl T.b_all (PO.sh (mO rfl (cO QK (fr:=[]) (by nofun)) (oX (fu 0)) (iX (by nofun) rfl (λcl C s H fp ω=>vc (My T) T.q36 hr (fA (fu 0) fP)))))))) (fQ (gm (mr))) iq) (fS (gW (mD.b9 (mG (oZ (GA mE wq (mn λ_ _ _=>.bl _) (mn λ_ _ _=>.bl _) fC (gB (fu 0) fC) (fu 1))) (pM (oZ (GA mE mE (mn λ_ _ _=>.bl _) (mn λ_ _ _=>.bl _) fC (gB (fu 0) fC) (Bz T.c_LAST_ROUND)))))) (fQ (gm (mr))) iq) (fQ (gm (vc (ZU T) T.q49 hr (fA (gB (fu 0) fC) (fA (gB (fu 0) fC) (fA (fu 1) fP))))))))) rfl
def Hd:fF ["thing","many","hands"] ["thing","many"] (defScope MT):=fO (by nofun)
def Ly:FS:=fK (gP (oF (pJ (oE (gi (pi "tuple") eQ))) (pJ (oE (mR mH (gh eL (λ_=>Ga true) (fT zT cI) [1]))))) db gA) (fK (oS 2 (nh 2 (gh eL (λ_=>Ga true) cz []))) (im (fv gw eT (mP (SW (yn eT))))))
def BL:List D->Option D:=gp 2 3 Ly
def zm3 (T:Txt P w K mg t):fM P w K mg base CX0 5 t.a25 t.d25 ["thing","many"] (spV K BL) :=
 cV (gU T.q25.F Hd λ_ _ _ _ _ _ hr=>fS (gW (mD.b9 (mG (oZ (nw (zx (T:="tuple") (by decide) rfl T.b_isinstance rfl T.b_tuple boot_tuple (fu 0)))) (pM (oZ (nw (Cg rfl rfl T.b_all (PO.sh (mO rfl (cO Hd (fr:=["many"]) (by nofun)) (oX (fu 0)) (iX (by nofun) rfl (λcl C s H fp ω=>vc (zqP T) T.q53 hr (fA (fu 0) (fA (fu 1) fP)))))))))))) (fQ (gm (mr))) iq) (fS (wK 2 (we 2 rfl (cO Hd (fr:=[]) (by nofun)) (oX (fu 0)) (iX (by nofun) rfl (λcl C s H fp ω=>gB (fu 0) fC)) Hd.nd)) (fQ (gm (Aw (gL hr) (fu 2) (PO.v9 (zvP rfl rfl T.b_sorted rfl T.b_set (PV.sh (fu 2))))))))) rfl
def WV:fF ["thing"] ["thing"] (defScope Nr):=fO (by nofun)
abbrev bB:=gi gZ cz
def MR:FS:=fK (gP (oF (pJ (oE (gi (pi "tuple") eQ))) (gz gN dM dW)) db gA) (im (yS (fT Bm (fE cz gc)) (fT BL (fE cA (fE bB gc)))))
def yR:List D->Option D:=gp 1 1 MR
def XJ (T:Txt P w K mg t):fM P w K mg base CX0 6 t.a58 t.d58 ["thing"] (spV K yR) :=
 cV (gU T.q58.F WV λ_ _ _ _ _ _ hr=>fS (gW (mD.b9 (mG (oZ (nw (zx (T:="tuple") (by decide) rfl T.b_isinstance rfl T.b_tuple boot_tuple (fu 0)))) (pM (oC (gL hr) (oo rfl T.b_len (fu 0)) fC)))) (fQ (gm (mr))) iq) (fQ (gm (wG (vc (zk7 T) T.q5 hr (fA (gB (fu 0) fC) fP)) (rj (vc (zm3 T) T.q25 hr (fA (gB (fu 0) fC) (fA (oo rfl T.b_len (gB (fu 0) fC)) fP)))))))) rfl
def XF:fF ["run"] ["run"] (defScope IB):=fO (by nofun)
abbrev cJ:=fG gf eQ eG
abbrev bM:=un gZ cJ
def zm4:FS:=gY bM
def Bt:List D->Option D:=gp 1 1 zm4
def Lv (T:Txt P w K mg t):fM P w K mg base CX0 1 t.a13 t.d13 ["run"] (spV K Bt) :=
 gU T.q13.F XF λ_ _ _ _ _ _ hr=>fQ (gm (oo rfl T.b_len (gB (fu 0) fC)))
def PK:fF ["run","hand","fall"] ["run","hand"] (defScope OD):=fO (by nofun)
abbrev eN:=fU .none
abbrev cL:=fG gf eT eG
abbrev ay:=lG (gJ gw cL eS) (gY eT) (lD)
abbrev cK:=fG gf eQ eE
abbrev bW:=pR cK
def Lj:FS:=fX (mj bW eP ay) (gY eN)
def IE:List D->Option D:=gp 2 3 Lj
def TW (T:Txt P w K mg t):fM P w K mg base CX0 1 t.a54 t.d54 ["run","hand"] (spV K IE) :=
 gU T.q54.F PK λ_ _ _ _ _ _ hr=>fS (oV PassesOwn.never rfl (oX (gB (fu 0) fC)) (lK 2 PK.nd) (fQ (gW (ly (gL hr) (gB (fu 2) fC) (fu 1)) (fQ (gm (fu 2))) iq))) (fQ (gm BH))
def Re:fF ["run","hand","rounds","fall"] ["run","hand","rounds"] (defScope Oj):=fO (by nofun)
abbrev eU:=gv 3
abbrev cb:=fz eQ dw
abbrev bo:=fR IE cb
def Nk:FS:=fX (gC 3 bo) (gY (Ex (fG Ab eU eN) (fG sU (fG gf eU eE) eT)))
def BF:List D->Option D:=gp 3 4 Nk
def PD (T:Txt P w K mg t):fM P w K mg base CX0 2 t.a63 t.d63 ["run","hand","rounds"] (spV K BF) :=
 gU T.q63.F Re λ_ _ _ _ _ _ hr=>fS (gQ 3 (vc (TW T) T.q54 hr (fA (fu 0) (fA (fu 1) fP))) Re.nd) (fQ (gm (CP (Wu (fu 3) BH) (rj (Df (gB (fu 3) fC) (fu 2))))))
def Td:fF ["run","rounds"] ["run","rounds"] (defScope NV):=fO (by nofun)
abbrev aL:=fR BF (fz eT cb)
abbrev cB:=fR Bt dz
abbrev bv:=iJ gO cB
def Oc:FS:=Fx (gh bv (lO aL) eQ [1,0])
def wM:List D->Option (List D):=AQ 2 2 Oc
def Ij (T:Txt P w K mg t):fM P w K mg base CX0 3 t.a24 t.d24 ["run","rounds"] (zD K wM) :=
 Qp T.q24.F Td λ_ _ _ _ _ _ hr=>fQ (VC (mO rfl (cO Td (fr:=["rounds","run"]) (by nofun)) (nN rfl T.b_range (vc (Lv T) T.q13 hr (fA (fu 0) fP))) (tJ (by nofun) rfl (λcl C s H fp ω=>nw (vc (PD T) T.q63 hr (fA (fu 2) (fA (fu 0) (fA (fu 1) fP))))) (λcl C s H fp ω=>fu 0))))
def TY:fF ["run","by","to","at","fall"] ["run","by","to","at"] (defScope LJ):=fO (by nofun)
abbrev eV:=gv 4
abbrev bg:=fz eQ (fz eT (fz eU gj))
abbrev aG:=lO (fR BF bg)
abbrev aN:=fz (fG gf eV eF) dy
abbrev cM:=fG gf eV eE
abbrev de:=gY (fU (.bool false))
abbrev dF:=fU (.bool true)
def Ml:FS:=fX (lG (sW (gJ gw eS eT) (rJ aG)) de lD) (fX (gC 4 bo) (fX (lG (sW (gJ Ab eV eN) (gJ sU cM eU)) (gY dF) lD) (gY (yI (fG gw cM eU) (fR rH aN)))))
def EF:List D->Option D:=gp 4 5 Ml
def ZM (T:Txt P w K mg t):fM P w K mg base CX0 3 t.a61 t.d61 ["run","by","to","at"] (spV K EF) :=
 gU T.q61.F TY λ_ _ _ _ _ _ hr=>fS (gW (mD.b9 (mG (ly (gL hr) (fu 1) (fu 2)) (pM (oZ (nw (vc (PD T) T.q63 hr (fA (fu 0) (fA (fu 2) (fA (fu 3) fP))))))))) (fQ (gm (mr))) iq) (fS (gQ 4 (vc (TW T) T.q54 hr (fA (fu 0) (fA (fu 1) fP))) TY.nd) (fS (gW (mD.b9 (mG (WL (fu 4) BH) (pM (Od (gB (fu 4) fC) (fu 3))))) (fQ (gm (mr))) iq) (fQ (gm (wG (Aw (gL hr) (gB (fu 4) fC) (fu 3)) (rj (vc (GF T) T.q39 hr (fA (gB (fu 4) fC) (fA (fu 2) fP)))))))))
def zt3:fF ["run","bound"] ["run","bound"] (defScope Mu):=fO (by nofun)
abbrev aP:=fG iZ cB eF
abbrev bN:=un gZ cK
def Kb:FS:=fX (lG (rJ (lO (fR wB dw))) de lD) (gY (yI (AN lQ lQ eG eS aP) (fG lQ bN eS)))
def KY:List D->Option D:=gp 2 2 Kb
def zt4 (T:Txt P w K mg t):fM P w K mg base CX0 2 t.a64 t.d64 ["run","bound"] (spV K KY) :=
 gU T.q64.F zt3 λ_ _ _ _ _ _ hr=>fS (gW (oZ (nw (vc (My T) T.q36 hr (fA (fu 1) fP)))) (fQ (gm (mr))) iq) (fQ (gm (wG (Gm mE mE (mn λ_ _ _=>.bl _) (mn λ_ _ _=>.bl _) fC (fu 1) (pC (vc (Lv T) T.q13 hr (fA (fu 0) fP)) fC)) (rj (WG (oo rfl T.b_len (gB (fu 0) fC)) (fu 1))))))
def KC:fF ["run","views","hand","at","parts"] ["run","views","hand","at"] (defScope Nv):=fO (by nofun)
abbrev bh:=fz eQ (fz eT dw)
abbrev au:=fR EF (fz eU bh)
abbrev ae:=xu (sW (gJ gw eQ eT) (lO au)) (fG gf eV eQ) eN
abbrev cZ:=iJ gO (un gZ eS)
def IV:FS:=fX (zv 4 (rQ 4 (gh cZ (λ_=>Ga true) ae [3,2,0,1]))) (gY (yw (fz eT (fz (AA sC (Ad eV)) gj))))
def Gu:List D->Option D:=gp 4 5 IV
def zk8 (T:Txt P w K mg t):fM P w K mg base CX0 4 t.a11 t.d11 ["run","views","hand","at"] (spV K Gu) :=
 gU T.q11.F KC λ_ _ _ _ _ _ hr=>fS (wK 4 (we 4 rfl (cO KC (fr:=["at","hand","run","views"]) (by nofun)) (nN rfl T.b_range (oo rfl T.b_len (fu 1))) (iX (by nofun) rfl (λcl C s H fp ω=>Cw (mD.b9 (mG (ly (gL hr) (fu 0) (fu 2)) (pM (nw (vc (ZM T) T.q61 hr (fA (fu 3) (fA (fu 0) (fA (fu 2) (fA (fu 1) fP))))))))) (gB (fu 4) (fu 0)) BH)) KC.nd)) (fQ (gm (wD (fA (fu 2) (fA (Cc rfl T.b_tuple (PV.sh (fu 4))) fP)))))
def Mm:fF ["run","views","at","up"] ["run","views","at"] (defScope LB):=fO (by nofun)
abbrev ag:=xu (gJ rY eQ eU) (fR Gu (fz eT (fz eV cb))) eN
def Of:FS:=fX (gC 3 (iP (rn wM (fz eQ dy)))) (gY (iP (gh cZ (λ_=>Ga true) ag [2,0,3,1])))
def FQ:List D->Option D:=gp 3 4 Of
def zkI (T:Txt P w K mg t):fM P w K mg base CX0 5 t.a_q2 t.d_q2 ["run","views","at"] (spV K FQ) :=
 gU T.q2.F Mm λ_ _ _ _ _ _ hr=>fS (gQ 3 (PO.v9 (Ea (Ij T) (hr.mono (by decide)) T.q24.m T.q24.F.kp T.q24.b (fA (fu 0) (fA (fu 2) fP)))) Mm.nd) (fQ (gm (PO.v9 (mO rfl (cO Mm (fr:=["at","run","up","views"]) (by nofun)) (nN rfl T.b_range (oo rfl T.b_len (fu 1))) (iX (by nofun) rfl (λcl C s H fp ω=>Cw (NL (gL hr) (fu 0) (fu 3)) (vc (zk8 T) T.q11 hr (fA (fu 2) (fA (fu 4) (fA (fu 0) (fA (fu 1) fP))))) BH))))))
def DX:fF ["run","rounds","views","at"] ["run","rounds"] (defScope LX):=fO (by nofun)
abbrev cF:=fG fy eS eE
abbrev aq:=yw (fz eQ (fz (fG gf (fG gf eS eG) eQ) gj))
abbrev aA:=gC 2 (fR FQ bg)
abbrev aQ:=rP mU eE cF
def KI:FS:=fX (zv 2 (rQ 2 (gh bv (λ_=>Ga true) aq [0]))) (fX (mj aQ (iB 3) aA) (gY eT))
def DR:List D->Option D:=gp 2 4 KI
def zpA (T:Txt P w K mg t):fM P w K mg base CX0 6 t.a51 t.d51 ["run","rounds"] (spV K DR) :=
 gU T.q51.F DX λ_ _ _ _ _ _ hr=>fS (wK 2 (we 2 rfl (cO DX (fr:=["run"]) (by nofun)) (nN rfl T.b_range (vc (Lv T) T.q13 hr (fA (fu 0) fP))) (iX (by nofun) rfl (λcl C s H fp ω=>wD (fA (fu 0) (fA (gB (gB (fu 1) fC) (fu 0)) fP)))) DX.nd)) (fS (oV PassesOwn.never rfl (EU rfl T.b_range fC (ij (fu 1) fC)) (lK 3 DX.nd) (fQ (gQ 2 (vc (zkI T) T.q2 hr (fA (fu 0) (fA (fu 2) (fA (fu 3) fP)))) DX.nd))) (fQ (gm (fu 2))))
def zpB:fF ["view"] ["view"] (defScope Oe):=fO (by nofun)
def Kg:FS:=gY (fG gf cK cJ)
def Ek:List D->Option D:=gp 1 1 Kg
def zpC (T:Txt P w K mg t):fM P w K mg base CX0 1 t.a38 t.d38 ["view"] (spV K Ek) :=
 gU T.q38.F zpB λ_ _ _ _ _ _ hr=>fQ (gm (gB (gB (fu 0) fC) (gB (fu 0) fC)))
def Hc:fF ["view","rounds"] ["view"] (defScope Na):=fO (by nofun)
abbrev bE:=gC 0 (fR Ek dz)
abbrev bO:=gC 1 cF
abbrev am:=fX bE bO
def Mg:FS:=fX (gC 1 eG) (fX (nk (lO (un (pi "tuple") cK)) am 100) (gY eS))
def FF:List D->Option D:=gp 1 2 Mg
def ZT (T:Txt P w K mg t):fM P w K mg base CX0 2 t.a26 t.d26 ["view"] (spV K FF) :=
 gU T.q26.F Hc λ_ _ _ _ _ _ hr=>fS (gQ 1 fC Hc.nd) (fS (zBb 100 PassesOwn.never (nw (zx (T:="tuple") (by decide) rfl T.b_isinstance rfl T.b_tuple boot_tuple (gB (fu 0) fC))) (fS (gQ 0 (vc (zpC T) T.q38 hr (fA (fu 0) fP)) Hc.nd) (fQ (gQ 1 (ij (fu 1) fC) Hc.nd)))) (fQ (gm (fu 1))))
def Hn:fF ["views","parts","view","part"] ["views"] (defScope Mo):=fO (by nofun)
abbrev cN:=fG gf eT eE
abbrev bX:=pR cN
abbrev cP:=gJ wk eU eN
def OL:FS:=fX (MX 1) (fX (mj (pR eQ) eP (mj bX (iB 3) (lG cP (zR 1 eU) lD))) (zA 1 (gY (iP (iJ wl eS)))))
def FI:List D->Option D:=gp 1 4 OL
def zpD (T:Txt P w K mg t):fM P w K mg base CX0 1 t.a43 t.d43 ["views"] (spV K FI) :=
 gU T.q43.F Hn λ_ _ _ _ _ _ hr=>fS (zx8 1 Hn.nd) (fS (oV PassesOwn.never rfl (oX (fu 0)) (lK 2 Hn.nd) (fQ (oV PassesOwn.never rfl (oX (gB (fu 2) fC)) (lK 3 Hn.nd) (fQ (gW (zDe (fu 3) BH) (fQ (Xr 1 (gL hr) (fu 3))) iq))))) (fQ (Dy 1 (gm (PO.v9 (zBh rfl rfl T.b_list (fu 1)))))))
def Op:fF ["view","layers","step"] ["view"] (defScope NR):=fO (by nofun)
abbrev aJ:=fR FI (fz (Lh (gl 1) (un xf eE)) gj)
abbrev cD:=fR FF dz
abbrev da:=iP dz
def Ma:FS:=fX (rQ 1 (fz da gj)) (fX (mj (iJ gO cD) eP (zI 1 aJ)) (gY (iP (Lw (gl 1)))))
def Bw:List D->Option D:=gp 1 3 Ma
def Zb (T:Txt P w K mg t):fM P w K mg base CX0 3 t.a27 t.d27 ["view"] (spV K Bw) :=
 gU T.q27.F Op λ_ _ _ _ _ _ hr=>fS (As 1 (pB (fA (PO.v9 (pB (fA (fu 0) fP))) fP)) Op.nd) (fS (oV PassesOwn.never rfl (nN rfl T.b_range (vc (ZT T) T.q26 hr (fA (fu 0) fP))) (lK 2 Op.nd) (fQ (Be 1 (vc (zpD T) T.q43 hr (fA (zF2 (DL 1) (TZ fC)) fP))))) (fQ (gm (PO.v9 (zu6 rfl rfl T.b_list rfl T.b_reversed (DL 1))))))
def zt5:fF ["view"] ["view"] (defScope Mh):=fO (by nofun)
abbrev cE:=fR Bw dz
abbrev aU:=fG gf cE eG
abbrev aK:=Ad aU
def Ii:FS:=gY (iP (Hy aK))
def Ey:List D->Option D:=gp 1 1 Ii
def YQ (T:Txt P w K mg t):fM P w K mg base CX0 4 t.a62 t.d62 ["view"] (spV K Ey) :=
 gU T.q62.F zt5 λ_ _ _ _ _ _ hr=>fQ (gm (PO.v9 (QD rfl T.b_sorted (PV.sh (gB (vc (Zb T) T.q27 hr (fA (fu 0) fP)) fC)))))
def Rk:fF ["fall","up"] ["fall","up"] (defScope Ob):=fO (by nofun)
abbrev aO:=fz (fG gf eS eF) dz
def Ix:FS:=gY (AA mH (gh (pR eS) (λ_=>Ga true) (fR rH aO) [0]))
def Ee:List D->Option D:=gp 2 2 Ix
def zm7 (T:Txt P w K mg t):fM P w K mg base CX0 3 t.a31 t.d31 ["fall","up"] (spV K Ee) :=
 gU T.q31.F Rk λ_ _ _ _ _ _ hr=>fQ (gm (Cg rfl rfl T.b_all (PO.sh (mO rfl (cO Rk (fr:=["fall"]) (by nofun)) (oX (fu 1)) (iX (by nofun) rfl (λcl C s H fp ω=>vc (GF T) T.q39 hr (fA (gB (fu 1) fC) (fA (fu 0) fP))))))))
def zkJ:fF ["fall","up","rounds"] ["fall","up","rounds"] (defScope IT):=fO (by nofun)
abbrev bp:=fR Ee cb
def Mp:FS:=gY (Ex (fG mq cK eT) (yI (fG gw cK eT) (Fs bp)))
def EW:List D->Option D:=gp 3 3 Mp
def zkK (T:Txt P w K mg t):fM P w K mg base CX0 4 t.a_q3 t.d_q3 ["fall","up","rounds"] (spV K EW) :=
 gU T.q3.F zkJ λ_ _ _ _ _ _ hr=>fQ (gm (CP (LP (gB (fu 0) fC) (fu 2)) (rj (wG (Aw (gL hr) (gB (fu 0) fC) (fu 2)) (rj (LC (vc (zm7 T) T.q31 hr (fA (fu 0) (fA (fu 1) fP)))))))))
def OE:fF ["run","rounds","up"] ["run","rounds"] (defScope NF):=fO (by nofun)
abbrev aH:=lO (fR EW bh)
def Nt:FS:=fX (gC 2 (iP (rn wM cb))) (fX (lG (gJ gw (un gZ eT) eG) (gY eG) lD) (gY (fR wR (fz (iP (gh bW aH cJ [1,2])) gj))))
def BI:List D->Option D:=gp 2 3 Nt
def zm8 (T:Txt P w K mg t):fM P w K mg base CX0 5 t.a29 t.d29 ["run","rounds"] (spV K BI) :=
 gU T.q29.F OE λ_ _ _ _ _ _ hr=>fS (gQ 2 (PO.v9 (Ea (Ij T) (hr.mono (by decide)) T.q24.m T.q24.F.kp T.q24.b (fA (fu 0) (fA (fu 1) fP)))) OE.nd) (fS (gW (ly (gL hr) (oo rfl T.b_len (fu 2)) fC) (fQ (gm fC)) iq) (fQ (gm (vc (UU T) T.q52 hr (fA (PO.v9 (mO rfl (cO OE (fr:=["rounds","up"]) (by nofun)) (oX (gB (fu 0) fC)) (tJ (by nofun) rfl (λcl C s H fp ω=>nw (vc (zkK T) T.q3 hr (fA (fu 0) (fA (fu 2) (fA (fu 1) fP))))) (λcl C s H fp ω=>gB (fu 0) fC)))) fP)))))
def UO:fF ["run"] ["run"] (defScope LR):=fO (by nofun)
abbrev eI:=fU (.int 5)
abbrev aI:=rP mU eE (fG fy eI eE)
abbrev aM:=fz (fR BI bZ) (gj)
abbrev cU:=fz eG (gj)
abbrev ce:=iP cU
def MM:FS:=gY (AA Cv (Ad (fG fy ce (iP (gh aI (λ_=>Ga true) (fG iZ (un gZ (iP (rn rp aM))) eQ) [0])))))
def wH:List D->Option D:=gp 1 1 MM
def UX (T:Txt P w K mg t):fM P w K mg base CX0 6 t.a47 t.d47 ["run"] (spV K wH) :=
 gU T.q47.F UO λ_ _ _ _ _ _ hr=>fQ (gm (Yg rfl rfl T.b_max (PV.sh (ij (PO.v9 (pB (fA fC fP))) (PO.v9 (mO rfl (cO UO (fr:=["run"]) (by nofun)) (EU rfl T.b_range fC (ij (Bz T.c_LAST_ROUND) fC)) (iX (by nofun) rfl (λcl C s H fp ω=>pC (oo rfl T.b_len (PO.v9 (Ea (TD T) (hr.mono (by decide)) T.q40.m T.q40.F.kp T.q40.b (fA (vc (zm8 T) T.q29 hr (fA (fu 1) (fA (fu 0) fP))) fP)))) (fu 0)))))))))
def zjQ:fF ["run","bound"] ["run","bound"] (defScope NG):=fO (by nofun)
def MU:FS:=fX (lG (rJ (lO (fR KY cb))) (pf) lD) (gY (fG iZ cF (fR wH dz)))
def zk:List D->Option D:=gp 2 2 MU
def YV (T:Txt P w K mg t):fM P w K mg base CX0 7 t.a_q1 t.d_q1 ["run","bound"] (spV K zk) :=
 gU T.q1.F zjQ λ_ _ _ _ _ _ hr=>fS (gW (oZ (nw (vc (zt4 T) T.q64 hr (fA (fu 0) (fA (fu 1) fP))))) (fQ pD) iq) (fQ (gm (pC (ij (fu 1) fC) (vc (UX T) T.q47 hr (fA (fu 0) fP)))))
def DV:fF ["fall","hand","at","reached"] ["fall"] (defScope MC):=fO (by nofun)
abbrev ck:=fv gb eQ dY
abbrev cn:=fv gb eQ ee
abbrev bF:=gR 1 ck
abbrev bG:=gR 2 cn
abbrev cp:=fv gb eQ dW
abbrev cX:=fE (gi pL eU) (gc)
abbrev dN:=gi pL eS
abbrev dO:=gi pL eT
def Np:FS:=fK bF (fK bG (fK (gR 3 (sY (fx (.str (ja ""))) (gh (nJ lq (mP (MB rp (fE cp gc)))) (λ_=>Ga true) (gi fN eQ) []))) (im (mR wc (fE dN (fE (fx (.str (ja "@"))) (fE dO (fE (fx (.str (ja ">"))) cX))))))))
def tW:List D->Option D:=gp 1 4 Np
def Xb (T:Txt P w K mg t):fM P w K mg base CX0 4 t.a28 t.d28 ["fall"] (spV K tW) :=
 cV (gU T.q28.F DV λ_ _ _ _ _ _ hr=>fS (gQ 1 (iK (fu 0) fC) DV.nd) (fS (gQ 2 (iK (fu 0) fC) DV.nd) (fS (gQ 3 (BR gX (PO.sh (mO rfl (cO DV (fr:=[]) (by nofun)) (sN (PO.v9 (Ea (TD T) (hr.mono (by decide)) T.q40.m T.q40.F.kp T.q40.b (fA (iK (fu 0) fC) fP)))) (iX (by nofun) rfl (λcl C s H fp ω=>pd rfl T.b_str (fu 0)))))) DV.nd) (fQ (gm (QX (yU (Dn (fu 1)) (yU gX (yU (Dn (fu 2)) (yU gX (yU (Dn (fu 3)) Px))))))))))) rfl
def FR:fF ["run","numbers"] ["run"] (defScope ON):=fO (by nofun)
abbrev bw:=nJ lq ck
abbrev bx:=nJ lq cn
def Md:FS:=fK (oS 1 (nh 1 (gh bw (λ_=>Ga true) (gi fN eQ) []))) (im (sY (fx (.str (ja " "))) (yn (fv fy (fv fy eS (mP (fE (fx (.str (ja "/"))) gc))) (mP (gh bx (λ_=>Ga true) (fT tW dC) []))))))
def pA:List D->Option D:=gp 1 2 Md
def RH (T:Txt P w K mg t):fM P w K mg base CX0 5 t.a44 t.d44 ["run"] (spV K pA) :=
 cV (gU T.q44.F FR λ_ _ _ _ _ _ hr=>fS (wK 1 (we 1 rfl (cO FR (fr:=[]) (by nofun)) (sN (iK (fu 0) fC)) (iX (by nofun) rfl (λcl C s H fp ω=>pd rfl T.b_str (fu 0))) FR.nd)) (fQ (gm (BR gX (PV.sh (ij (ij (fu 1) (PO.v9 (pB (fA gX fP)))) (PO.v9 (mO rfl (cO FR (fr:=[]) (by nofun)) (sN (iK (fu 0) fC)) (iX (by nofun) rfl (λcl C s H fp ω=>vc (Xb T) T.q28 hr (fA (fu 0) fP))))))))))) rfl
def Tu:fF ["text"] ["text"] (defScope NN):=fO (by nofun)
def Mz:FS:=im (mR mH (gh (nJ lq eQ) (λ_=>Ga true) (fv rM eQ (fx (.str (ja "0123456789")))) []))
def rR:List D->Option D:=gp 1 1 Mz
def QO (T:Txt P w K mg t):fM P w K mg base CX0 1 t.a_q7 t.d_q7 ["text"] (spV K rR) :=
 cV (gU T.q7.F Tu λ_ _ _ _ _ _ hr=>fQ (gm (Cg rfl rfl T.b_all (PO.sh (mO rfl (cO Tu (fr:=[]) (by nofun)) (sN (fu 0)) (iX (by nofun) rfl (λcl C s H fp ω=>Ss (gL hr) (fu 0) (Uy T.c_FIGURES)))))))) rfl
def Nh:fF ["text","figures","number"] ["text"] (defScope Ni):=fO (by nofun)
abbrev aB:=rJ (KQ lQ lQ eE (un ig eS) (fU (.int 60)))
abbrev bP:=Ot eQ (Co eE) (Mw)
abbrev dP:=un oO eQ
def KH:FS:=fX (gC 1 (xu (lO (fG nP eQ (fU (.str (ja "-"))))) bP eQ)) (fX (lG (sW aB (rJ (lO (fR rR dw)))) (pf) lD) (fX (gC 2 dP) (fX (lG (gJ gN (un fN eT) eQ) (pf) lD) (gY eT))))
def yQ:List D->Option D:=gp 1 3 KH
def zk9 (T:Txt P w K mg t):fM P w K mg base CX0 2 t.a_q8 t.d_q8 ["text"] (spV K yQ) :=
 gU T.q8.F Nh λ_ _ _ _ _ _ hr=>fS (gQ 1 (Cw (nw (UR (fu 0) gX)) (BG (fu 0) (zi fC) Bc) (fu 0)) Nh.nd) (fS (gW (mD.b9 (mG (oZ (GA mE mE (mn λ_ _ _=>.bl _) (mn λ_ _ _=>.bl _) fC (wQ rfl T.b_len (fu 1)) (Bz T.c_MOST_FIGURES))) (pM (oZ (nw (vc (QO T) T.q7 hr (fA (fu 1) fP))))))) (fQ pD) iq) (fS (gQ 2 (EB rfl T.b_int (fu 0)) Nh.nd) (fS (gW (oC (gL hr) (pd rfl T.b_str (fu 2)) (fu 0)) (fQ pD) iq) (fQ (gm (fu 2))))))
def zkL:fF ["word"] ["word"] (defScope Ks):=fO (by nofun)
abbrev eh:=fx (.int 4)
abbrev bH:=yE eQ (ze eh) (ym)
def MA:FS:=fK (gP (oF (gz mq (gi ig eQ) eh) (oF (gz gN cn (fx (.str (ja "@")))) (gz gN (fv gb eQ dZ) (fx (.str (ja ">")))))) db gA) (im (fT rR (fE (fv fy (fv fy ck cp) bH) gc)))
def BV:List D->Option D:=gp 1 1 MA
def zkM (T:Txt P w K mg t):fM P w K mg base CX0 2 t.a_q4 t.d_q4 ["word"] (spV K BV) :=
 cV (gU T.q4.F zkL λ_ _ _ _ _ _ hr=>fS (gW (mD.b9 (mG (AB (wQ rfl T.b_len (fu 0)) fC) (mG (oC (gL hr) (iK (fu 0) fC) gX) (pM (oC (gL hr) (iK (fu 0) fC) gX))))) (fQ (gm (mr))) iq) (fQ (gm (vc (QO T) T.q7 hr (fA (ij (ij (iK (fu 0) fC) (iK (fu 0) fC)) (BG (fu 0) (zi fC) Bc)) fP))))) rfl
def Sq:fF ["word"] ["word"] (defScope IQ):=fO (by nofun)
abbrev dG:=gi oO eQ
def Nl:FS:=fK (gP (pJ (oE (fT BV dC))) pX gA) (im (tt (fE (gi oO ck) (fE (gi oO cp) (fE (fT wR (fE (mP (gh (nJ lq bH) (λ_=>Ga true) dG [])) gc)) gc)))))
def xG:List D->Option D:=gp 1 1 Nl
def znA (T:Txt P w K mg t):fM P w K mg base CX0 3 t.a20 t.d_q20 ["word"] (spV K xG) :=
 cV (gU T.q20.F Sq λ_ _ _ _ _ _ hr=>fS (gW (oZ (nw (vc (zkM T) T.q4 hr (fA (fu 0) fP)))) (fQ pD) iq) (fQ (gm (wD (fA (EB rfl T.b_int (iK (fu 0) fC)) (fA (EB rfl T.b_int (iK (fu 0) fC)) (fA (vc (UU T) T.q52 hr (fA (PO.v9 (mO rfl (cO Sq (fr:=[]) (by nofun)) (sN (BG (fu 0) (zi fC) Bc)) (iX (by nofun) rfl (λcl C s H fp ω=>EB rfl T.b_int (fu 0))))) fP)) fP))))))) rfl
def zf:fF ["text","words","middle","numbers","falls","run"] ["text"] (defScope Io):=fO (by nofun)
abbrev eW:=gv 5
def Mv:FS:=fK (gR 1 (mP (BC wY eQ (fx (.str (ja " ")))))) (fK (gP (gz mJ (fx (.str (ja "/"))) eS) pX gA) (fK (gR 2 (fv xz eS (fx (.str (ja "/"))))) (fK (oS 3 (nh 3 (gh (nJ lq (yE eS ym (ze eT))) (λ_=>Ga true) (fT yQ dC) []))) (fK (oS 4 (nh 4 (gh (nJ lq (yE eS (ze (fv fy eT ee)) ym)) (λ_=>Ga true) (fT xG dC) []))) (fK (gR 5 (tt (fE (mR sC (yn eU)) (fE (mR sC (yn eV)) gc)))) (fK (gP (oF (pJ (oE (fT yR (fE eW gc)))) (gz gN (fT pA (fE eW gc)) eQ)) pX gA) (im eW)))))))
def tm:List D->Option D:=gp 1 6 Mv
def zpE (T:Txt P w K mg t):fM P w K mg base CX0 7 t.a42 t.d42 ["text"] (spV K tm) :=
 cV (gU T.q42.F zf λ_ _ _ _ _ _ hr=>fS (gQ 1 (PO.v9 (Te (fu 0) gX)) zf.nd) (fS (gW (Ny (gL hr) gX (fu 1)) (fQ pD) iq) (fS (gQ 2 (zB2 (fu 1) gX) zf.nd) (fS (wK 3 (we 3 rfl (cO zf (fr:=[]) (by nofun)) (sN (BG (fu 1) Bc (zi (fu 2)))) (iX (by nofun) rfl (λcl C s H fp ω=>vc (zk9 T) T.q8 hr (fA (fu 0) fP))) zf.nd)) (fS (wK 4 (we 4 rfl (cO zf (fr:=[]) (by nofun)) (sN (BG (fu 1) (zi (ij (fu 2) fC)) Bc)) (iX (by nofun) rfl (λcl C s H fp ω=>vc (znA T) T.q20 hr (fA (fu 0) fP))) zf.nd)) (fS (gQ 5 (wD (fA (Cc rfl T.b_tuple (PV.sh (fu 3))) (fA (Cc rfl T.b_tuple (PV.sh (fu 4))) fP))) zf.nd) (fS (gW (mD.b9 (mG (oZ (nw (vc (XJ T) T.q58 hr (fA (fu 5) fP)))) (pM (oC (gL hr) (vc (RH T) T.q44 hr (fA (fu 5) fP)) (fu 0))))) (fQ pD) iq) (fQ (gm (fu 5)))))))))) rfl
def Ud:fF ["word"] ["word"] (defScope IW):=fO (by nofun)
abbrev eA:=fx (.int 8)
def NO:FS:=im (yS (Ej lQ lQ ee (gi ig eQ) eA) (mR mH (gh (nJ lq eQ) (λ_=>Ga true) (fv rM eQ (fx (.str (ja "abcdefghijklmnopqrstuvwxyz")))) [])))
def DP:List D->Option D:=gp 1 1 NO
def Xy (T:Txt P w K mg t):fM P w K mg base CX0 1 t.a56 t.d56 ["word"] (spV K DP) :=
 cV (gU T.q56.F Ud λ_ _ _ _ _ _ hr=>fQ (gm (wG (Gm mE mE (mn λ_ _ _=>.bl _) (mn λ_ _ _=>.bl _) fC (wQ rfl T.b_len (fu 0)) (Bz T.c_MOST_LETTERS)) (rj (Cg rfl rfl T.b_all (PO.sh (mO rfl (cO Ud (fr:=[]) (by nofun)) (sN (fu 0)) (iX (by nofun) rfl (λcl C s H fp ω=>Ss (gL hr) (fu 0) (Uy T.c_LETTERS)))))))))) rfl
def znB:fF ["word"] ["word"] (defScope Nj):=fO (by nofun)
def KR:FS:=fK (gP (pJ (oE (fT DP dC))) pX gA) (im eQ)
def AZ:List D->Option D:=gp 1 1 KR
def WZ (T:Txt P w K mg t):fM P w K mg base CX0 2 t.a23 t.d23 ["word"] (spV K AZ) :=
 cV (gU T.q23.F znB λ_ _ _ _ _ _ hr=>fS (gW (oZ (nw (vc (Xy T) T.q56 hr (fA (fu 0) fP)))) (fQ pD) iq) (fQ (gm (fu 0)))) rfl
def TL:fF ["word","most"] ["word","most"] (defScope LV):=fO (by nofun)
def zmF:FS:=fX (lG (gJ mJ eQ (iP (gh (iJ gO cF) (λ_=>Ga true) (un fN eQ) []))) (pf) lD) (gY dP)
def Ho:List D->Option D:=gp 2 2 zmF
def zlA (T:Txt P w K mg t):fM P w K mg base CX0 1 t.a12 t.d12 ["word","most"] (spV K Ho) :=
 gU T.q12.F TL λ_ _ _ _ _ _ hr=>fS (gW (Ny (gL hr) (fu 0) (PO.v9 (mO rfl (cO TL (fr:=[]) (by nofun)) (nN rfl T.b_range (ij (fu 1) fC)) (iX (by nofun) rfl (λcl C s H fp ω=>pd rfl T.b_str (fu 0)))))) (fQ pD) iq) (fQ (gm (EB rfl T.b_int (fu 0))))
def znD:fF ["kind","word"] ["kind","word"] (defScope Mb):=fO (by nofun)
def GD:FS:=fK (gP (oF (gz gw eQ (fx (.str (ja "name")))) (gz gw eQ (fx (.str (ja "other"))))) (im (fT AZ dE)) gA) (fK (gP (gz gw eQ (fx (.str (ja "rule")))) pX gA) (fK (gP (gz gw eQ (fx (.str (ja "number")))) pX gA) (fK (gP (gz gw eQ (fx (.str (ja "text")))) (im eS) gA) (im (fT Ho (fE eS (fE (sH Ht eQ) gc)))))))
def oq:List D->Option D:=gp 2 2 GD
def znE (T:Txt P w K mg t):fM P w K mg base CX0 3 t.a22 t.d22 ["kind","word"] (spV K oq) :=
 cV (gU T.q22.F znD λ_ _ _ _ _ _ hr=>fS (gW (mD.b9 (mG (ly (gL hr) (fu 0) gX) (pM (ly (gL hr) (fu 0) gX)))) (fQ (gm (vc (WZ T) T.q23 hr (fA (fu 1) fP)))) iq) (fS (gW (ly (gL hr) (fu 0) gX) (fQ pD) iq) (fS (gW (ly (gL hr) (fu 0) gX) (fQ pD) iq) (fS (gW (ly (gL hr) (fu 0) gX) (fQ (gm (fu 1))) iq) (fQ (gm (vc (zlA T) T.q12 hr (fA (fu 1) (fA (IZ T.g_MOST (fu 0)) fP))))))))) rfl
def SR:fF ["row","words"] ["row"] (defScope IP):=fO (by nofun)
abbrev cq:=fv gb eS dY
def He:FS:=fK (gR 1 (Fo (oE (fv nP eQ (fx (.str (ja "run "))))) (mP (Eb zB eQ (fx (.str (ja " "))) dW)) (mP (BC wY eQ (fx (.str (ja " "))))))) (fK (gP (oF (wn nu cq) (gz gN (gi ig eS) (fv fy (gi ig (sH nu cq)) ee))) pX gA) (im eS))
def sX:List D->Option D:=gp 1 2 He
def zpF (T:Txt P w K mg t):fM P w K mg base CX0 1 t.a37 t.d37 ["row"] (spV K sX) :=
 cV (gU T.q37.F SR λ_ _ _ _ _ _ hr=>fS (gQ 1 (Cw (nw (UR (fu 0) gX)) (PO.v9 (zy5 (fu 0) gX fC)) (PO.v9 (Te (fu 0) gX))) SR.nd) (fS (gW (mD.b9 (mG (zEC T.g_FORMS (iK (fu 1) fC)) (pM (oC (gL hr) (wQ rfl T.b_len (fu 1)) (ij (wQ rfl T.b_len (IZ T.g_FORMS (iK (fu 1) fC))) fC))))) (fQ pD) iq) (fQ (gm (fu 1))))) rfl
def Dm:fF ["row","words","kinds","asked","place"] ["row"] (defScope ML):=fO (by nofun)
abbrev dj:=fv gb eT eV
abbrev cr:=fv fy eV ee
abbrev al:=fE dj (fE (fv gb eS cr) gc)
abbrev eO:=iE 4
def IG:FS:=fK (gR 1 (fT sX dC)) (fK (gR 2 (sH nu cq)) (fK (yx 3) (fK (sd (nJ gO (gi ig eT)) eO (om 3 dj (fT oq al))) (UG 3 (im (tt (fE cq (fE eU gc))))))))
def oe:List D->Option D:=gp 1 5 IG
def Rm (T:Txt P w K mg t):fM P w K mg base CX0 4 t.a46 t.d46 ["row"] (spV K oe) :=
 cV (gU T.q46.F Dm λ_ _ _ _ _ _ hr=>fS (gQ 1 (vc (zpF T) T.q37 hr (fA (fu 0) fP)) Dm.nd) (fS (gQ 2 (IZ T.g_FORMS (iK (fu 1) fC)) Dm.nd) (fS (QE 3 Dm.nd) (fS (oV PassesOwn.never rfl (nN rfl T.b_range (wQ rfl T.b_len (fu 2))) (lK 4 Dm.nd) (fQ (QJ 3 (gL hr) (iK (fu 2) (fu 4)) (vc (znE T) T.q22 hr (fA (iK (fu 2) (fu 4)) (fA (iK (fu 1) (ij (fu 4) fC)) fP)))))) (fQ (Dy 3 (gm (wD (fA (iK (fu 1) fC) (fA (fu 3) fP)))))))))) rfl
def Me:fF ["pair","first","second"] ["pair"] (defScope KB):=fO (by nofun)
def OM:FS:=fK bF (fK bG (im (mR wc (fE dN (fE (fx (.str (ja ":"))) (fE dO gc))))))
def yW:List D->Option D:=gp 1 3 OM
def Xq (T:Txt P w K mg t):fM P w K mg base CX0 1 t.a30 t.d30 ["pair"] (spV K yW) :=
 cV (gU T.q30.F Me λ_ _ _ _ _ _ hr=>fS (gQ 1 (iK (fu 0) fC) Me.nd) (fS (gQ 2 (iK (fu 0) fC) Me.nd) (fQ (gm (QX (yU (Dn (fu 1)) (yU gX (yU (Dn (fu 2)) Px)))))))) rfl
def UA:fF ["run","hand","rounds"] ["run","hand","rounds"] (defScope No):=fO (by nofun)
abbrev cQ:=fE eQ dD
def HA:FS:=fK (gP (gz mJ eS (mP (MB wM cQ))) (im (fx (.str (ja "gone")))) gA) (im (sY (fx (.str (ja " "))) (gh (nJ lq (fT Ey (fE (fv gb (fT DR cQ) eS) gc))) (λ_=>Ga true) (fT yW dC) [])))
def wj:List D->Option D:=gp 3 3 HA
def zwG (T:Txt P w K mg t):fM P w K mg base CX0 7 t.a65 t.d65 ["run","hand","rounds"] (spV K wj) :=
 cV (gU T.q65.F UA λ_ _ _ _ _ _ hr=>fS (gW (Ny (gL hr) (fu 1) (PO.v9 (Ea (Ij T) (hr.mono (by decide)) T.q24.m T.q24.F.kp T.q24.b (fA (fu 0) (fA (fu 2) fP))))) (fQ (gm gX)) iq) (fQ (gm (BR gX (PO.sh (mO rfl (cO UA (fr:=[]) (by nofun)) (sN (vc (YQ T) T.q62 hr (fA (iK (vc (zpA T) T.q51 hr (fA (fu 0) (fA (fu 2) fP))) (fu 1)) fP))) (iX (by nofun) rfl (λcl C s H fp ω=>vc (Xq T) T.q30 hr (fA (fu 0) fP))))))))) rfl
def zr1:fF ["word","run","asked"] ["word","run","asked"] (defScope Kc):=fO (by nofun)
def Bb:FS:=fK (gP (gz gw eQ (fx (.str (ja "show")))) (im (fT pA dE)) gA) (fK (gP (gz gw eQ (fx (.str (ja "waste")))) (im (gi fN (fT wH dE))) gA) (fK (gP (gz gw eQ (fx (.str (ja "close")))) (im (gi fN (fT zk (fE eS (fE (fv iQ eT (fx (.str (ja "bound")))) gc))))) gA) (fK (gP (gz gw eQ (fx (.str (ja "know")))) (im (fT wj (fE eS (fE (fv iQ eT (fx (.str (ja "hand")))) (fE (fv iQ eT (fx (.str (ja "rounds")))) gc))))) gA) (fK (gP (gz gw eQ (fx (.str (ja "choose")))) pX gA) (fK (gP (gz gw eQ (fx (.str (ja "chain")))) pX gA) pX)))))
def wW:List D->Option D:=gp 3 3 Bb
def zr2 (T:Txt P w K mg t):fM P w K mg base CX0 8 t.a59 t.d59 ["word","run","asked"] (spV K wW) :=
 cV (gU T.q59.F zr1 λ_ _ _ _ _ _ hr=>fS (gW (ly (gL hr) (fu 0) gX) (fQ (gm (vc (RH T) T.q44 hr (fA (fu 1) fP)))) iq) (fS (gW (ly (gL hr) (fu 0) gX) (fQ (gm (pd rfl T.b_str (vc (UX T) T.q47 hr (fA (fu 1) fP))))) iq) (fS (gW (ly (gL hr) (fu 0) gX) (fQ (gm (pd rfl T.b_str (vc (YV T) T.q1 hr (fA (fu 1) (fA (AH (gL hr) (fu 2) gX) fP)))))) iq) (fS (gW (ly (gL hr) (fu 0) gX) (fQ (gm (vc (zwG T) T.q65 hr (fA (fu 1) (fA (AH (gL hr) (fu 2) gX) (fA (AH (gL hr) (fu 2) gX) fP)))))) iq) (fS (gW (ly (gL hr) (fu 0) gX) (fQ pD) iq) (fS (gW (ly (gL hr) (fu 0) gX) (fQ pD) iq) (fQ pD))))))) rfl
def znG:fF ["self"] ["self"] (defScope Hf):=fO (by nofun)
def znH (T:Txt P w K mg t):fM P w K mg base CX0 1 t.a17 t.d17 ["self"] (MS t.C):=okI T.q17.F znG T.dk rfl (λ_=>rfl) (kC rfl)
def zlB:fF ["self","name"] ["self","name"] (defScope GT):=fO (by nofun)
abbrev dT:=GC 0 eS
abbrev dU:=GW 0 eS
def zmG (C:Gk):FS:=fX (lG (yf 0 C dT) (pf) lD) (gY (BO 0 C dU))
def zS (C:Gk):Sl->List D->Option D:=zG 2 2 (zmG C)
def zlC (T:Txt P w K mg t):fM P w K mg base CX0 1 t.a_q9 t.d_q9 ["self","name"] (CD K t.C (zS t.C)) :=
 Iz T.q9.F zlB (by decide) λ_ _ _ _ _ _ hr=>fS (gW (zEE 0 (gL hr) T.dk (fu 1)) (fQ pD) iq) (fQ (gm (zED 0 (gL hr) T.dk (fu 1))))
def xL:fF ["self","row","read","word","asked","run"] ["self","row"] (defScope AI):=fO (by nofun)
abbrev cG:=fG gb eT eG
abbrev bQ:=gC 3 cG
abbrev cH:=fG gb eT eE
abbrev bR:=gC 4 cH
def zqS (C:Gk):FS:=fX (gC 2 (fR oe dw)) (fX bQ (fX bR (fX (lG (gJ gw eU (fU (.str (ja "run")))) (pf) lD) (fX (gC 5 (gE 0 C (zS C) (fz (fG iQ eV (fU (.str (ja "name")))) gj))) (fX (lG (gJ gw eU (fU (.str (ja "alike")))) (pf) lD) (gY (fR wW (fz eU (fz eW (fz eV gj))))))))))
def iu (C:Gk):Sl->List D->Option D:=zG 2 6 (zqS C)
def Dr (T:Txt P w K mg t):fM P w K mg base CX0 9 t.a48 t.d48 ["self","row"] (CD K t.C (iu t.C)) :=
 Iz T.q48.F xL (by decide) λ_ _ _ _ _ _ hr=>fS (gQ 2 (vc (Rm T) T.q46 hr (fA (fu 1) fP)) xL.nd) (fS (gQ 3 (iK (fu 2) fC) xL.nd) (fS (gQ 4 (iK (fu 2) fC) xL.nd) (fS (gW (ly (gL hr) (fu 3) gX) XD iq) (fS (gQ 5 (Bj 0 T.dk.cl T.q9.m (by decide) (zlC T) (hr.mono (by decide)) T.q9.b (fA (AH (gL hr) (fu 4) gX) fP)) xL.nd) (fS (gW (ly (gL hr) (fu 3) gX) (fQ pD) iq) (fQ (gm (vc (zr2 T) T.q59 hr (fA (fu 3) (fA (fu 5) (fA (fu 4) fP)))))))))))
def RM (C r:Gk):FS:=fX (gC 2 (fR oe dw)) (fX bQ (fX bR (fX (lG (gJ gw eU (fU (.str (ja "run")))) (fX (yq r 0 C (fG iQ eV (fU (.str (ja "name")))) (fR tm (fz (fG iQ eV (fU (.str (ja "text")))) gj))) (AK (fU (.str (ja "ok"))))) lD) (pf))))
def xF (C:Gk):Sl->List D->Option (D×List (Str×D)):=zO 2 6 (RM C)
variable {A:Around}{E:XK}{H:Hp}{cdv:Gg}{outer:List Env}{s:Gh}{h:Heap}
def zpG (T:Txt P w K mg t)(r:Gk)(hr:ic (8) (A.deeper (envOfC "Desk.say" (defScope AI) s.heap.objs.size t.a48 cdv))) :
  rl (nU CX0 P w K mg base ["self","row","read","word","asked","run"] "Desk.say" (defScope AI) t.a48 cdv A outer s H E).nox r (defBody AI) (RM t.C r) :=
 nM (mS (gQ 2 (vc (Rm T) T.q46 hr (fA (fu 1) fP)) xL.nd)) (nM (mS (gQ 3 (iK (fu 2) fC) xL.nd)) (nM (mS (gQ 4 (iK (fu 2) fC) xL.nd)) (nM (CL (ly (gL hr) (fu 3) gX) (nM (zGk 0 (gL hr) T.dk (AH (gL hr) (fu 4) gX) (vc (zpE T) T.q42 hr (fA (AH (gL hr) (fu 4) gX) fP))) (tN (BX gX))) Bl) (zy6 (λ_=>rfl)))))
def zpH (T:Txt P w K mg t):fM P w K mg base CX0 9 t.a48 t.d48 ["self","row"] (yK K t.C (xF t.C)) :=
 SQ T.q48.F xL (by decide) λr cdv A outer s H E hr=>zpG T r hr
def Xu:fF ["script","k"] ["script","k"] (defScope Ku):=fO (by nofun)
def KF:FS:=fX (lG (gJ mq eS (un gZ eQ)) (gY (fG gf eQ eS)) lD) (gY eG)
def mz:List D->Option D:=gp 2 2 KF
def Dx (T:Txt P w K mg t):fM P w K mg base CX0 1 t.a_q6 t.d_q6 ["script","k"] (spV K mz) :=
 gU T.q6.F Xu λ_ _ _ _ _ _ hr=>fS (gW (AB (fu 1) (oo rfl T.b_len (fu 0))) (fQ (gm (gB (fu 0) (fu 1)))) iq) (fQ (gm fC))
def Sa:fF ["number","k","mixed"] ["number","k"] (defScope OI):=fO (by nofun)
abbrev aZ:=fG iT (fG iT eS eS) (fU (.int 7919))
abbrev dH:=fU (.int 48271)
abbrev eB:=fU (.int 10)
abbrev eC:=fU (.int 64)
def Kw:FS:=fX (gC 2 (fG fW (fG fy (fG fy (fG iT (fG fW eQ (fG lj eB eC)) dH) aZ) (fU (.int 11))) (fU (.int 2147483647)))) (gY (fG fW (fG iT eT eT) (fU (.int 2147483629))))
def tH:List D->Option D:=gp 2 3 Kw
def znI (T:Txt P w K mg t):fM P w K mg base CX0 1 t.a21 t.d21 ["number","k"] (spV K tH) :=
 gU T.q21.F Sa λ_ _ _ _ _ _ hr=>fS (gQ 2 (ml (ij (ij (xq (ml (fu 0) (Ai fC fC)) fC) (xq (xq (fu 1) (fu 1)) fC)) fC) fC) Sa.nd) (fQ (gm (ml (xq (fu 2) (fu 2)) fC)))
def zqT:fF ["hand"] ["hand"] (defScope KT):=fO (by nofun)
def zr3:FS:=gY (fG gf (iP (fz eE (fz eF (fz (fU (.int 4)) (fz (fU (.int 8)) (fz (fU (.int 16)) gj)))))) eQ)
def lz:List D->Option D:=gp 1 1 zr3
def Aj (T:Txt P w K mg t):fM P w K mg base CX0 1 t.a55 t.d55 ["hand"] (spV K lz) :=
 gU T.q55.F zqT λ_ _ _ _ _ _ hr=>fQ (gm (gB (PO.v9 (pB (fA fC (fA fC (fA fC (fA fC (fA fC fP))))))) (fu 0)))
def zmH:fF ["cell"] ["cell"] (defScope Mc):=fO (by nofun)
abbrev cu:=fv gy eQ dZ
def Kq:FS:=fK (gP (gz gw (fv fW eQ dZ) dY) (im (fv iZ (fv fW cu eh) ee)) gA) (im (fv fy (fv iZ (fv fW cu (fv iZ (fv iT dW (fv lj dQ dS)) ee)) (fv lj dQ dS)) ee))
def sV:List D->Option D:=gp 1 1 Kq
def zmI (T:Txt P w K mg t):fM P w K mg base CX0 1 t.a14 t.d14 ["cell"] (spV K sV) :=
 cV (gU T.q14.F zmH λ_ _ _ _ _ _ hr=>fS (gW (ly (gL hr) (ml (fu 0) fC) fC) (fQ (gm (pC (ml (ou (fu 0) fC) fC) fC))) iq) (fQ (gm (ij (pC (ml (ou (fu 0) fC) (pC (xq fC (Ai fC fC)) fC)) (Ai fC fC)) fC)))) rfl
def Rz:fF ["mixed","hand","many","reached"] ["mixed","hand","many"] (defScope MH):=fO (by nofun)
abbrev br:=fE (fv iZ eT ee) (gc)
abbrev cv:=fv gy eQ eh
def Nw:FS:=fK (gR 3 (fv fW (fv gf (mP (fE (fv iZ (fv iT dW (fT lz br)) ee) (fE dY (fE cv (fE cv gc))))) (fv fW eQ eh)) (fv iT dW (fT lz br)))) (fK (gP (gz gw (fv fW (fv gy eU (fT lz dE)) dW) ee) (im (fv iZ eU (fT lz dE))) gA) (im eU))
def pZ:List D->Option D:=gp 3 4 Nw
def UY (T:Txt P w K mg t):fM P w K mg base CX0 2 t.a10 t.d10 ["mixed","hand","many"] (spV K pZ) :=
 cV (gU T.q10.F Rz λ_ _ _ _ _ _ hr=>fS (gQ 3 (ml (gB (PO.v9 (pB (fA (pC (xq fC (vc (Aj T) T.q55 hr (fA (pC (fu 2) fC) fP))) fC) (fA fC (fA (ou (fu 0) fC) (fA (ou (fu 0) fC) fP)))))) (ml (fu 0) fC)) (xq fC (vc (Aj T) T.q55 hr (fA (pC (fu 2) fC) fP)))) Rz.nd) (fS (gW (ly (gL hr) (ml (ou (fu 3) (vc (Aj T) T.q55 hr (fA (fu 1) fP))) fC) fC) (fQ (gm (pC (fu 3) (vc (Aj T) T.q55 hr (fA (fu 1) fP))))) iq) (fQ (gm (fu 3))))) rfl
def Eg:fF ["many","cell","most","falls","hand","mixed","at"] ["many","cell","most"] (defScope KW):=fO (by nofun)
abbrev aF:=fE dZ (fE eh (fE dX gc))
abbrev aa:=gR 6 (fv gf (mP (fE ee (fE ee (fE dW (fE dW (fE dZ aF)))))) (fv fW (fv gy eW dX) eA))
abbrev ak:=Eo (gz mq (fv fW eW dX) dZ) (gz mq (gi gZ eU) eT)
abbrev eX:=gv 6
abbrev az:=fE (fv gy eW (fx (.int 40))) (fE eV dC)
abbrev aR:=fE eS (fE cr gc)
def IK:FS:=fK (nh 3 gc) (fK (sd (nJ gO eQ) eO (fK (gR 5 (fT tH aR)) (gP ak (fK aa (rV 3 (tt (fE eV (fE eX (fE (fT pZ az) gc)))))) gA))) (im (mR sC (gl 3))))
def zF:List D->Option D:=gp 3 7 IK
def znJ (T:Txt P w K mg t):fM P w K mg base CX0 3 t.a33 t.d33 ["many","cell","most"] (spV K zF) :=
 cV (gU T.q33.F Eg λ_ _ _ _ _ _ hr=>fS (As 3 (pB fP) Eg.nd) (fS (oV PassesOwn.never rfl (nN rfl T.b_range (fu 0)) (lK 4 Eg.nd) (fS (gQ 5 (vc (znI T) T.q21 hr (fA (fu 1) (fA (ij (fu 4) fC) fP))) Eg.nd) (fQ (gW (mD.b9 (zF0 (AB (ml (fu 5) fC) fC) (zC6 (AB (oo rfl T.b_len (fu 3)) (fu 2))))) (fS (gQ 6 (gB (PO.v9 (pB (fA fC (fA fC (fA fC (fA fC (fA fC (fA fC (fA fC (fA fC fP)))))))))) (ml (ou (fu 5) fC) fC)) Eg.nd) (fQ (Be 3 (wD (fA (fu 4) (fA (fu 6) (fA (vc (UY T) T.q10 hr (fA (ou (fu 5) fC) (fA (fu 4) (fA (fu 0) fP)))) fP))))))) iq)))) (fQ (gm (Cc rfl T.b_tuple (DL 3)))))) rfl
def LL:fF ["cells","many","most","numbers"] ["cells","many","most"] (defScope LU):=fO (by nofun)
abbrev cf:=fE (fv gf eS eQ) (gc)
def NE:FS:=fK (gR 3 (mR sC (gh (nJ gO eS) (λ_=>Ga true) (fT sV cf) [0]))) (im (tt (fE eU (fE (fT zF (fE eS (fE (fv gf eQ eS) dD))) gc))))
def Ax:List D->Option D:=gp 3 4 NE
def zqU (T:Txt P w K mg t):fM P w K mg base CX0 4 t.a57 t.d57 ["cells","many","most"] (spV K Ax) :=
 cV (gU T.q57.F LL λ_ _ _ _ _ _ hr=>fS (gQ 3 (Cc rfl T.b_tuple (PO.sh (mO rfl (cO LL (fr:=["cells"]) (by nofun)) (nN rfl T.b_range (fu 1)) (iX (by nofun) rfl (λcl C s H fp ω=>vc (zmI T) T.q14 hr (fA (gB (fu 1) (fu 0)) fP)))))) LL.nd) (fQ (gm (wD (fA (fu 3) (fA (vc (znJ T) T.q33 hr (fA (fu 1) (fA (gB (fu 0) (fu 1)) (fA (fu 2) fP)))) fP)))))) rfl
def Ce:fF ["run","cell","many","hand","rest","at"] ["run","cell"] (defScope Ic):=fO (by nofun)
abbrev bV:=Di cA
abbrev bi:=gz gN cz eS
def Hq:FS:=fK (gR 2 bB) (fK (gR 3 (fv fW eS eT)) (fK (nh 4 (gh bV bi eQ [3])) (fK (gP (gz sU (fv fW (fv gy eS dX) eh) dY) (fK (gR 5 (fv gf (mP (fE ee (fE ee (fE dW (fE dW aF))))) (fv fW (fv gy eS (fx (.int 20))) (fx (.int 7))))) (rV 4 (tt (fE eU (fE eW (fE (fT pZ (fE (fv fW (fv gy eS (fx (.int 140))) (fv lj dQ (fx (.int 9)))) (fE eU dD))) gc)))))) gA) (im (tt (fE cz (fE (mR sC (Uu (gl 4))) gc)))))))
def sS:List D->Option D:=gp 2 6 Hq
def zpI (T:Txt P w K mg t):fM P w K mg base CX0 3 t.a50 t.d50 ["run","cell"] (spV K sS) :=
 cV (gU T.q50.F Ce λ_ _ _ _ _ _ hr=>fS (gQ 2 (oo rfl T.b_len (gB (fu 0) fC)) Ce.nd) (fS (gQ 3 (ml (fu 1) (fu 2)) Ce.nd) (fS (we 4 rfl (cO Ce (fr:=["hand"]) (by nofun)) (oX (gB (fu 0) fC)) (tJ (by nofun) rfl (λcl C s H fp ω=>oC (gL hr) (gB (fu 0) fC) (fu 1)) (λcl C s H fp ω=>fu 0)) Ce.nd) (fS (gW (Od (ml (ou (fu 1) fC) fC) fC) (fS (gQ 5 (gB (PO.v9 (pB (fA fC (fA fC (fA fC (fA fC (fA fC (fA fC (fA fC fP))))))))) (ml (ou (fu 1) fC) fC)) Ce.nd) (fQ (Be 4 (wD (fA (fu 3) (fA (fu 5) (fA (vc (UY T) T.q10 hr (fA (ml (ou (fu 1) fC) (Ai fC fC)) (fA (fu 3) (fA (fu 2) fP)))) fP))))))) iq) (fQ (gm (wD (fA (gB (fu 0) fC) (fA (Cc rfl T.b_tuple (PO.sh (QD rfl T.b_sorted (DL 4)))) fP))))))))) rfl
def AD:fF ["script","many","run","runs","cell"] ["script"] (defScope Oy):=fO (by nofun)
abbrev aS:=fE eS (fE (fv fy ee eQ) gc)
abbrev eD:=fx (.int 6)
abbrev bT:=fE eQ (fE dY gc)
abbrev cR:=fE eT (fE eV gc)
abbrev eJ:=rV 3 eT
def LW:FS:=fK (gR 1 (fv fy dW (fv fW (fT mz bT) eh))) (fK (gR 2 (fT Ax (fE (mP (gh (nJ gO eD) (λ_=>Ga true) (fT mz aS) [0])) (fE eS (fE (fv fW (fv gy (fT mz bT) eh) eD) gc))))) (fK (nh 3 dD) (fK (sd (Di (Ke eQ (ze (fx (.int 7))) (ze (fx (.int 63))))) eO (fK (gR 2 (fT sS cR)) eJ)) (Qn (go 3)))))
def xY:List D->Option D:=gp 1 5 LW
def zpJ (T:Txt P w K mg t):fM P w K mg base CX0 5 t.a45 t.d45 ["script"] (spV K xY) :=
 cV (gU T.q45.F AD λ_ _ _ _ _ _ hr=>fS (gQ 1 (ij fC (ml (vc (Dx T) T.q6 hr (fA (fu 0) (fA fC fP))) fC)) AD.nd) (fS (gQ 2 (vc (zqU T) T.q57 hr (fA (PO.v9 (mO rfl (cO AD (fr:=["script"]) (by nofun)) (nN rfl T.b_range fC) (iX (by nofun) rfl (λcl C s H fp ω=>vc (Dx T) T.q6 hr (fA (fu 1) (fA (ij fC (fu 0)) fP)))))) (fA (fu 1) (fA (ml (ou (vc (Dx T) T.q6 hr (fA (fu 0) (fA fC fP))) fC) fC) fP)))) AD.nd) (fS (As 3 (pB (fA (fu 2) fP)) AD.nd) (fS (oV PassesOwn.never rfl (oX (zyE (fu 0) (zi fC) (zi fC))) (lK 4 AD.nd) (fS (gQ 2 (vc (zpI T) T.q50 hr (fA (fu 2) (fA (fu 4) fP))) AD.nd) (fQ (Be 3 (fu 2))))) (fQ (XB 3)))))) rfl
def BP:fF ["run","ends","reached","hand","at","mask"] ["run"] (defScope MD):=fO (by nofun)
abbrev bS:=ny (iB 4) (ny (iB 5) (zt))
abbrev aV:=ny (iB 3) bS
abbrev cY:=fz (fU (.int 9)) (gj)
def MY:FS:=fX (rQ 1 (Au cY bM)) (fX (rQ 2 (Au cU bM)) (fX (mj bW (Du aV) (fX (yi 1 eU eV) (yi 2 eU eW))) (zA 2 (zA 1 (gY (yw (fz eS dy)))))))
def xW:List D->Option D:=gp 1 6 MY
def RV (T:Txt P w K mg t):fM P w K mg base CX0 1 t.a16 t.d16 ["run"] (spV K xW) :=
 gU T.q16.F BP λ_ _ _ _ _ _ hr=>fS (As 1 (QA (pB (fA fC fP)) (oo rfl T.b_len (gB (fu 0) fC))) BP.nd) (fS (As 2 (QA (pB (fA fC fP)) (oo rfl T.b_len (gB (fu 0) fC))) BP.nd) (fS (oV PassesOwn.never rfl (oX (gB (fu 0) fC)) (BK rfl (pE (lK 3 BP.nd) (pE (lK 4 BP.nd) (pE (lK 5 BP.nd) Bq)))) (fS (SA 1 (fu 3) (fu 4)) (fQ (SA 2 (fu 3) (fu 5))))) (fQ (Dy 2 (Dy 1 (gm (wD (fA (fu 1) (fA (fu 2) fP)))))))))
def LY:fF ["table","by","to","at","ends","reached"] ["table","by","to","at"] (defScope OB):=fO (by nofun)
abbrev bq:=Du bS
abbrev dq:=fG gf eV eS
abbrev dt:=fG gf eW eS
def Km:FS:=fX (Wx eQ bq) (fX (lG (sW (gJ gw eS eT) (sW (gJ lQ (fG gf eV eT) eU) (gJ mq dq eU))) de lD) (gY (Ex (fG sU dq eU) (fG gw (fG fW (fG gy dt (fR lz dy)) eF) eE))))
def xM:List D->Option D:=gp 4 6 Km
def znK (T:Txt P w K mg t):fM P w K mg base CX0 2 t.a19 t.d19 ["table","by","to","at"] (spV K xM) :=
 gU T.q19.F LY λ_ _ _ _ _ _ hr=>fS (zF6 (fu 0) (BK rfl (pE (lK 4 LY.nd) (pE (lK 5 LY.nd) Bq)))) (fS (gW (mD.b9 (mG (ly (gL hr) (fu 1) (fu 2)) (mG (Fk (gB (fu 4) (fu 2)) (fu 3)) (pM (AB (gB (fu 4) (fu 1)) (fu 3)))))) (fQ (gm (mr))) iq) (fQ (gm (CP (Df (gB (fu 4) (fu 1)) (fu 3)) (rj (Aw (gL hr) (ml (ou (gB (fu 5) (fu 1)) (vc (Aj T) T.q55 hr (fA (fu 2) fP))) fC) fC))))))
def yT:fF ["run","words","hand","at","reached","hands"] ["run"] (defScope NX):=fO (by nofun)
abbrev bj:=zK (iE 2) (zK (iE 3) (zK eO Iw))
abbrev aW:=rN bj
abbrev df:=nJ gO dX
abbrev eK:=yn eW
def NH:FS:=fK (nh 1 (BC Ct (mP (gh bw (λ_=>Ga true) (gi fN eQ) [])) (mP (fE (fx (.str (ja "/"))) gc)))) (fK (sd bx aW (fK (oS 5 (nh 5 (gh df (gz gw (fv fW (fv gy eS (fT lz dC)) dW) ee) (gi fN eQ) [4]))) (rV 1 (fv fy (fv fy (fv fy (fv fy (gi fN eT) (fx (.str (ja "@")))) (gi fN eU)) (fx (.str (ja ">")))) (sY (fx (.str (ja ""))) eK))))) (im (sY (fx (.str (ja " "))) (gl 1))))
def oT:List D->Option D:=gp 1 6 NH
def Pz (T:Txt P w K mg t):fM P w K mg base CX0 2 t.a41 t.d41 ["run"] (spV K oT) :=
 cV (gU T.q41.F yT λ_ _ _ _ _ _ hr=>fS (As 1 (XC (PO.v9 (mO rfl (cO yT (fr:=[]) (by nofun)) (sN (iK (fu 0) fC)) (iX (by nofun) rfl (λcl C s H fp ω=>pd rfl T.b_str (fu 0))))) (PO.v9 (pB (fA gX fP)))) yT.nd) (fS (oV PassesOwn.never rfl (sN (iK (fu 0) fC)) (BK rfl (pE (lK 2 yT.nd) (pE (lK 3 yT.nd) (pE (lK 4 yT.nd) Bq)))) (fS (wK 5 (we 5 rfl (cO yT (fr:=["reached"]) (by nofun)) (nN rfl T.b_range fC) (tJ (by nofun) rfl (λcl C s H fp ω=>ly (gL hr) (ml (ou (fu 1) (vc (Aj T) T.q55 hr (fA (fu 0) fP))) fC) fC) (λcl C s H fp ω=>pd rfl T.b_str (fu 0))) yT.nd)) (fQ (Be 1 (ij (ij (ij (ij (pd rfl T.b_str (fu 2)) gX) (pd rfl T.b_str (fu 3))) gX) (BR gX (PV.sh (fu 5)))))))) (fQ (gm (BR gX (DL 1)))))) rfl
def EQ:fF ["cell","size","at","letters"] ["cell"] (defScope Mf):=fO (by nofun)
abbrev af:=fv gb eU (fv fW (fv fy (fv gy eT (fx (.int 64))) (fv iT (fx (.int 9)) eQ)) (fx (.int 26)))
abbrev ba:=fv iZ (fv iZ eV ee) eS
def LI:FS:=fK (gR 1 (fv fy ee (fv fW eQ eA))) (fK (gR 2 (fv fW (fv gy eQ eA) eS)) (fK (gR 3 (fx (.str (ja "abcdefghijklmnopqrstuvwxyz")))) (im (mP (gh (nJ gO dZ) (λ_=>Ga true) (fv fy (fv fy (fv pO (fx (.str (ja "m"))) eS) af) (fv pO (fx (.str (ja "m"))) ba)) [2,0,3,1])))))
def xX:List D->Option D:=gp 1 4 LI
def znL (T:Txt P w K mg t):fM P w K mg base CX0 1 t.a15 t.d15 ["cell"] (spV K xX) :=
 cV (gU T.q15.F EQ λ_ _ _ _ _ _ hr=>fS (gQ 1 (ij fC (ml (fu 0) fC)) EQ.nd) (fS (gQ 2 (ml (ou (fu 0) fC) (fu 1)) EQ.nd) (fS (gQ 3 gX EQ.nd) (fQ (gm (PO.v9 (mO rfl (cO EQ (fr:=["at","cell","letters","size"]) (by nofun)) (nN rfl T.b_range fC) (iX (by nofun) rfl (λcl C s H fp ω=>ij (ij (RO gX (fu 1)) (iK (fu 3) (ml (ij (ou (fu 2) fC) (xq fC (fu 0))) fC))) (RO gX (pC (pC (fu 4) fC) (fu 1)))))))))))) rfl
def pS:fF ["run","waste","at","hand","end","mask","gone","there","count","missed"] ["run"] (defScope Oa):=fO (by nofun)
abbrev eZ:=gv 7
abbrev ac:=Iy (yS (fv mq eV eT) (fv sU (gi gZ eZ) dY)) (yS (fv gw eV eT) (fv sU (gi gZ (gv 9)) dY))
abbrev dm:=gz xg eQ eS
abbrev ah:=oS 7 (nh 7 (gh (nJ gO bB) dm eQ [6]))
abbrev cS:=oN (gz lQ eS eU)
abbrev aj:=gR 6 (mP (gh bV cS (oN eQ) [2]))
abbrev cj:=zK eO (zK (iE 5) Iw)
abbrev bm:=zK (iE 3) cj
abbrev aX:=rN bm
abbrev fj:=gv 8
abbrev bc:=gR 1 (fv zq eS (fv iZ fj eT))
abbrev du:=gR 8 dY
abbrev eM:=Di eZ
def OH:FS:=fK (gR 1 dY) (fK (sd (BC mU ee eD) (iE 2) (fK aj (fK ah (fK du (fK (sd bV aX (fK (oS 9 (nh 9 (gh eM (gz gw (fv fW (fv gy eS (fT lz dC)) dW) dY) eQ [5]))) (gR 8 (fv fy fj (gi rK ac))))) bc))))) (im eS))
def zd:List D->Option D:=gp 1 10 OH
def znM (T:Txt P w K mg t):fM P w K mg base CX0 2 t.a34 t.d34 ["run"] (spV K zd) :=
 cV (gU T.q34.F pS λ_ _ _ _ _ _ hr=>fS (gQ 1 fC pS.nd) (fS (oV PassesOwn.never rfl (EU rfl T.b_range fC fC) (lK 2 pS.nd) (fS (gQ 6 (PO.v9 (zB9 rfl (cO pS (fr:=["at"]) (by nofun)) (oX (gB (fu 0) fC)) (Pc rfl (by nofun) rfl rfl rfl (λcl C s H fp ω=>Fk (fu 1) (fu 3)) (λcl C s H fp ω=>fu 0)))) pS.nd) (fS (wK 7 (we 7 rfl (cO pS (fr:=["gone"]) (by nofun)) (nN rfl T.b_range (oo rfl T.b_len (gB (fu 0) fC))) (tJ (by nofun) rfl (λcl C s H fp ω=>zF7 (gL hr) (fu 0) (fu 1)) (λcl C s H fp ω=>fu 0)) pS.nd)) (fS (gQ 8 fC pS.nd) (fS (oV PassesOwn.never rfl (oX (gB (fu 0) fC)) (BK rfl (pE (lK 3 pS.nd) (pE (lK 4 pS.nd) (pE (lK 5 pS.nd) Bq)))) (fS (wK 9 (we 9 rfl (cO pS (fr:=["mask"]) (by nofun)) (oX (fu 7)) (tJ (by nofun) rfl (λcl C s H fp ω=>ly (gL hr) (ml (ou (fu 1) (vc (Aj T) T.q55 hr (fA (fu 0) fP))) fC) fC) (λcl C s H fp ω=>fu 0)) pS.nd)) (fQ (gQ 8 (ij (fu 8) (zDr rfl T.b_int (CP (wG (LP (fu 4) (fu 2)) (rj (Df (oo rfl T.b_len (fu 7)) fC))) (rj (wG (Aw (gL hr) (fu 4) (fu 2)) (rj (Df (oo rfl T.b_len (fu 9)) fC))))))) pS.nd)))) (fQ (gQ 1 (zDm rfl rfl T.b_max (fu 1) (pC (fu 8) (fu 2))) pS.nd))))))) (fQ (gm (fu 1))))) rfl
def so:fF ["run","rounds","table","many","hand","sets","at","newer","told","other"] ["run","rounds"] (defScope KU):=fO (by nofun)
abbrev aw:=fR xM (fz eT (fz (gv 9) (fz eV (fz eX gj))))
abbrev ar:=lO aw
abbrev dJ:=iJ gO eU
abbrev ax:=zI 7 (iP (gh dJ (gJ rY eQ eS) eQ [8]))
abbrev bn:=gC 8 (fG fy fj (fG gf eW (gv 9)))
abbrev ci:=iP (FH (fG gf eW eV))
abbrev bA:=gC 8 ci
def Lb:FS:=fX (gC 2 (fR xW dz)) (fX (gC 3 bM) (fX (zv 5 (rQ 5 (gh dJ (λ_=>Ga true) da []))) (fX (mj aQ (iB 6) (fX (rQ 7 gj) (fX (mj dJ (iB 4) (fX bA (fX (mj dJ (iB 9) (lG ar bn lD)) ax))) (zA 7 (gC 5 eZ))))) (gY eW))))
def AJ:List D->Option D:=gp 2 10 Lb
def Yj (T:Txt P w K mg t):fM P w K mg base CX0 3 t.a_q0 t.d_q0 ["run","rounds"] (spV K AJ) :=
 gU T.q0.F so λ_ _ _ _ _ _ hr=>fS (gQ 2 (vc (RV T) T.q16 hr (fA (fu 0) fP)) so.nd) (fS (gQ 3 (oo rfl T.b_len (gB (fu 0) fC)) so.nd) (fS (wK 5 (we 5 rfl (cO so (fr:=[]) (by nofun)) (nN rfl T.b_range (fu 3)) (iX (by nofun) rfl (λcl C s H fp ω=>PO.v9 (pB (fA (fu 0) fP)))) so.nd)) (fS (oV PassesOwn.never rfl (EU rfl T.b_range fC (ij (fu 1) fC)) (lK 6 so.nd) (fS (As 7 (pB fP) so.nd) (fS (oV PassesOwn.never rfl (nN rfl T.b_range (fu 3)) (lK 4 so.nd) (fS (gQ 8 (PO.v9 (zBc rfl T.b_list (gB (fu 5) (fu 4)))) so.nd) (fS (oV PassesOwn.never rfl (nN rfl T.b_range (fu 3)) (lK 9 so.nd) (fQ (gW (nw (vc (znK T) T.q19 hr (fA (fu 2) (fA (fu 9) (fA (fu 4) (fA (fu 6) fP)))))) (fQ (gQ 8 (ij (fu 8) (gB (fu 5) (fu 9))) so.nd)) iq))) (fQ (Be 7 (PO.v9 (mO rfl (cO so (fr:=["told"]) (by nofun)) (nN rfl T.b_range (fu 3)) (tJ (by nofun) rfl (λcl C s H fp ω=>NL (gL hr) (fu 0) (fu 1)) (λcl C s H fp ω=>fu 0))))))))) (fQ (Dy 7 (gQ 5 (fu 7) so.nd)))))) (fQ (gm (fu 5))))))
def SE:fF ["run","hand","rounds"] ["run","hand","rounds"] (defScope Og):=fO (by nofun)
abbrev be:=fv gb cq eQ
def EN:FS:=fK (gP (oF (gz Kp eS (gi ig ck)) (gz lQ (fv gb (fv gb (fT xW dC) dY) eS) eT)) (im (fx (.str (ja "gone")))) gA) (im (sY (fx (.str (ja " "))) (gh (nJ lq (fv gb (fT AJ cQ) eS)) (λ_=>Ga true) (fv fy (fv fy (gi fN eQ) (fx (.str (ja ":")))) (gi fN be)) [0])))
def sR:List D->Option D:=gp 3 3 EN
def znN (T:Txt P w K mg t):fM P w K mg base CX0 4 t.a18 t.d18 ["run","hand","rounds"] (spV K sR) :=
 cV (gU T.q18.F SE λ_ _ _ _ _ _ hr=>fS (gW (mD.b9 (mG (WH (fu 1) (wQ rfl T.b_len (iK (fu 0) fC))) (pM (Fk (iK (iK (vc (RV T) T.q16 hr (fA (fu 0) fP)) fC) (fu 1)) (fu 2))))) (fQ (gm gX)) iq) (fQ (gm (BR gX (PO.sh (mO rfl (cO SE (fr:=["run"]) (by nofun)) (sN (iK (vc (Yj T) T.q0 hr (fA (fu 0) (fA (fu 2) fP))) (fu 1))) (iX (by nofun) rfl (λcl C s H fp ω=>ij (ij (pd rfl T.b_str (fu 0)) gX) (pd rfl T.b_str (iK (iK (fu 1) fC) (fu 0))))))))))) rfl
def An:fF ["desk","name","run","cell","text","waste","bound","rounds","hand","row"] ["desk","name","run","cell"] (defScope BW):=fO (by nofun)
abbrev bD:=un ig cG
abbrev dh:=AK (fU (.bool false))
def Ul (C r:Gk):FS:=fX (gC 4 (fR oT dy)) (fX (rz (Bi (Bx (lh r 0 C (xF C) (fz (fG fy (fG fy (fG fy (fU (.str (ja "run "))) eS) (fU (.str (ja " ")))) eV) gj)) (fU (.str (ja "ok")))) (gJ gN (gE 0 C (iu C) (fz (fG fy (fU (.str (ja "show "))) eS) gj)) eV)) dh lD) (fX (gC 5 (fR zd dy)) (fX (lG (gJ gN (gE 0 C (iu C) (fz (fG fy (fU (.str (ja "waste "))) eS) gj)) (un fN eW)) dh lD) (fX (mj (rP mU (un ig cH) (fG iZ bD eE)) (iB 6) (lG (gJ gN (gE 0 C (iu C) (fz (fG fy (fG fy (fG fy (fU (.str (ja "close "))) eS) (fU (.str (ja " ")))) (un fN eX)) gj)) (un fN (fG iZ (fG fy eX eE) eW))) dh lD)) (fX (gC 7 (fG fW eU (fG gb (iP (fz eI (fz eI (fz (fU (.int 4)) (fz (fU (.int 3)) gj))))) (fG iZ bD eF)))) (fX (mj (iJ gO eI) (iB 8) (fX (gC 9 (fG fy (fG fy (fG fy (fG fy (fG fy (fU (.str (ja "know "))) eS) (fU (.str (ja " ")))) (un fN fj)) (fU (.str (ja " ")))) (un fN eZ))) (lG (gJ gN (gE 0 C (iu C) (fz (gv 9) gj)) (fR sR (fz eT (fz fj (fz eZ gj))))) dh lD))) (AK dF)))))))
def rB (C:Gk):Sl->List D->Option (D×List (Str×D)):=zO 4 10 (Ul C)
def znO (T:Txt P w K mg t)(r:Gk)(hr:ic (9) (A.deeper (envOfC "_law_right" (defScope BW) s.heap.objs.size t.a35 cdv))) :
  rl (nU CX0 P w K mg base ["desk","name","run","cell","text","waste","bound","rounds","hand","row"] "_law_right" (defScope BW) t.a35 cdv A outer s H E).nox r (defBody BW) (Ul t.C r) :=
 nM (mS (gQ 4 (vc (Pz T) T.q41 hr (fA (fu 2) fP)) An.nd)) (nM (Sf (zGm (Ye (gL hr) (zB7 0 T.dk.cl T.q48.m (by decide) (zpH T) (hr.mono (by decide)) T.q48.b (fA (ij (ij (ij gX (fu 1)) gX) (fu 4)) fP)) gX) (oC (gL hr) (Bj 0 T.dk.cl T.q48.m (by decide) (Dr T) (hr.mono (by decide)) T.q48.b (fA (ij gX (fu 1)) fP)) (fu 4))) (tN (BX (mr))) Bl) (nM (mS (gQ 5 (vc (znM T) T.q34 hr (fA (fu 2) fP)) An.nd)) (nM (CL (oC (gL hr) (Bj 0 T.dk.cl T.q48.m (by decide) (Dr T) (hr.mono (by decide)) T.q48.b (fA (ij gX (fu 1)) fP)) (pd rfl T.b_str (fu 5))) (tN (BX (mr))) Bl) (nM (Iq PassesOwn.never rfl (EU rfl T.b_range (wQ rfl T.b_len (iK (fu 2) fC)) (pC (wQ rfl T.b_len (iK (fu 2) fC)) fC)) (lK 6 An.nd) (tN (CL (oC (gL hr) (Bj 0 T.dk.cl T.q48.m (by decide) (Dr T) (hr.mono (by decide)) T.q48.b (fA (ij (ij (ij gX (fu 1)) gX) (pd rfl T.b_str (fu 6))) fP)) (pd rfl T.b_str (pC (ij (fu 6) fC) (fu 5)))) (tN (BX (mr))) Bl))) (nM (mS (gQ 7 (ml (fu 3) (iK (PO.v9 (pB (fA fC (fA fC (fA fC (fA fC fP)))))) (pC (wQ rfl T.b_len (iK (fu 2) fC)) fC))) An.nd)) (nM (Iq PassesOwn.never rfl (nN rfl T.b_range fC) (lK 8 An.nd) (nM (mS (gQ 9 (ij (ij (ij (ij (ij gX (fu 1)) gX) (pd rfl T.b_str (fu 8))) gX) (pd rfl T.b_str (fu 7))) An.nd)) (tN (CL (oC (gL hr) (Bj 0 T.dk.cl T.q48.m (by decide) (Dr T) (hr.mono (by decide)) T.q48.b (fA (fu 9) fP)) (vc (znN T) T.q18 hr (fA (fu 2) (fA (fu 8) (fA (fu 7) fP))))) (tN (BX (mr))) Bl)))) (tN (BX (mr)))))))))
def Xw (T:Txt P w K mg t):fM P w K mg base CX0 10 t.a35 t.d35 ["desk","name","run","cell"] (yK K t.C (rB t.C)) :=
 SQ T.q35.F An (by decide) λr cdv A outer s H E hr=>znO T r hr
def xB:fF ["script","desk","names","newest","k","run","cell","name"] ["script"] (defScope Ov):=fO (by nofun)
def YG (C:Gk):FS:=tf 1 C (λr=>fX (gC 2 (fR xX (fz (fG fW (fR mz (fz eQ (fz eI gj))) (fG lj eB (fU (.int 6)))) gj))) (fX (yx 3) (fX (mj (iJ Ar (fR xY (fz (Ot eQ (Mw) (Co (fU (.int 40)))) gj))) bq (fX (gC 6 (fR mz (fz eQ (fz (fG fy (fU (.int 6)) eV) gj)))) (fX (gC 7 (fG gb eT (fG fW (fG gy eX (fU (.int 3))) (fU (.int 3))))) (fX (rz (sD (lh r 1 C (rB C) (fz eZ (fz eW (fz (fG gy eX (fU (.int 9))) gj))))) de lD) (om 3 eZ eW))))) (fX (xm 3 (iB 7) (lG (gJ gN (gE 1 C (iu C) (fz (fG fy (fU (.str (ja "show "))) eZ) gj)) (fR oT (fz (fG iQ eU eZ) gj))) de lD)) (gY dF)))))
def zjX (C:Gk):List D->Option D:=gp 1 8 (YG C)
def zy7 (T:Txt P w K mg t):fM P w K mg base CX0 11 t.a66 t.d66 ["script"] (spV K (zjX t.C)) :=
 gU T.q66.F xB λ_ _ _ _ _ _ hr=>zGn 1 T.mkD (znH T) (hr.mono (by decide)) T.mgC T.q17.b (λr=>nM (mS (gQ 2 (vc (znL T) T.q15 hr (fA (ml (vc (Dx T) T.q6 hr (fA (fu 0) (fA fC fP))) (Ai fC fC)) fP)) xB.nd)) (nM (mS (QE 3 xB.nd)) (nM (Iq PassesOwn.never rfl (zDo rfl T.b_enumerate (vc (zpJ T) T.q45 hr (fA (BG (fu 0) Bc (zi fC)) fP))) (BK rfl (pE (lK 4 xB.nd) (pE (lK 5 xB.nd) Bq))) (nM (mS (gQ 6 (vc (Dx T) T.q6 hr (fA (fu 0) (fA (ij fC (fu 4)) fP))) xB.nd)) (nM (mS (gQ 7 (iK (fu 2) (ml (ou (fu 6) fC) fC)) xB.nd)) (nM (Sf (ZV (zB8 1 (Xw T) (hr.mono (by decide)) T.q35.m T.q35.F.kp T.q35.b (fA (fu 7) (fA (fu 5) (fA (ou (fu 6) fC) fP))))) (tN (mS (gm (mr)))) Bl) (tN (mS (QJ 3 (gL hr) (fu 7) (fu 5)))))))) (nM (mS (zEB 3 PassesOwn.never rfl (lK 7 xB.nd) (fQ (gW (oC (gL hr) (Bj 1 T.dk.cl T.q48.m (by decide) (Dr T) (hr.mono (by decide)) T.q48.b (fA (ij gX (fu 7)) fP)) (vc (Pz T) T.q41 hr (fA (AH (gL hr) (fu 3) (fu 7)) fP))) (fQ (gm (mr))) iq)))) (tN (mS (gm (mr)))))))) xB.nd
set_option autoImplicit true in
def zEL {K:jb}{mg:Str->Option Gg}(X:K.In h)(G:h.Ns mainGlobals mg) {C:Gk} (c_dk:DkC K C) (c_mk:∀ a,ub K (.ref C) "__init__"=Ga (Ga (.ref a))->Mk K C a) (c_mg:j4 K mainGlobals "Desk"=Ga (Ga (.ref C))) (g_FORMS:GDk P w K mg "FORMS" nu) (g_MOST:GDk P w K mg "MOST" Ht) (w36:gF K "is_whole" Kh cd36 a36 d36) (w60:gF K "bit_of" Nb cd60 a60 d60) (w39:gF K "has_hand" Ie cd39 a39 d39) (w52:gF K "mask_of" IJ cd52 a52 d52) (w40:gF K "hands_in" IL cd40 a40 d_q40) (w32:gF K "is_number" NA cd32 a32 d32) (w_q5:gF K "are_numbers" Lc cd5 a_q5 d_q5) (w49:gF K "is_reach" Mx cd49 a49 d49) (w53:gF K "is_fall" NK cd53 a53 d53) (w25:gF K "are_falls" MT cd25 a25 d25) (w58:gF K "is_run" Nr cd58 a58 d58) (w13:gF K "many_hands" IB cd13 a13 d13) (w54:gF K "fall_of" OD cd54 a54 d54) (w63:gF K "is_up" Oj cd63 a63 d63) (w24:gF K "who_is_up" NV cd24 a24 d24) (w61:gF K "comes" LJ cd61 a61 d61) (w64:gF K "keeps" Mu cd64 a64 d64) (w11:gF K "view_behind" Nv cd11 a11 d11) (w_q2:gF K "views_behind" LB cd2 a_q2 d_q2) (w51:gF K "views_of" LX cd51 a51 d51) (w38:gF K "own_part" Oe cd38 a38 d38) (w26:gF K "rounds_of" Na cd26 a26 d26) (w43:gF K "parts_of" Mo cd43 a43 d43) (w27:gF K "layers_of" NR cd27 a27 d27) (w62:gF K "known" Mh cd62 a62 d62) (w31:gF K "all_heard" Ob cd31 a31 d31) (w_q3:gF K "is_found_out" IT cd3 a_q3 d_q3) (w29:gF K "found_out" NF cd29 a29 d29) (w47:gF K "waste_of" LR cd47 a47 d47) (w_q1:gF K "closing_round" NG cd1 a_q1 d_q1) (w28:gF K "show_fall" MC cd28 a28 d28) (w44:gF K "show_run" ON cd44 a44 d44) (w_q7:gF K "are_figures" NN cd7 a_q7 d_q7) (w8:gF K "read_number" Ni cd8 a_q8 d_q8) (w_q4:gF K "is_fall_text" Ks cd4 a_q4 d_q4) (w20:gF K "read_fall" IQ cd20 a20 d_q20) (w42:gF K "read_run" Io cd42 a42 d42) (w56:gF K "is_name" IW cd56 a56 d56) (w23:gF K "read_name" Nj cd23 a23 d23) (w12:gF K "read_figure" LV cd12 a12 d12) (w22:gF K "read_word" Mb cd22 a22 d22) (w37:gF K "words_of" IP cd37 a37 d37) (w46:gF K "read_row" ML cd46 a46 d46) (w30:gF K "show_pair" KB cd30 a30 d30) (w65:gF K "know" No cd65 a65 d65) (w59:gF K "answer" Kc cd59 a59 d59) (w17:MthW K C "__init__" "Desk.__init__" Hf cd17 a17 d17) (w_q9:MthW K C "run_by" "Desk.run_by" GT cd9 a_q9 d_q9) (w48:MthW K C "say" "Desk.say" AI cd48 a48 d48) (w_q6:gF K "_law_cell_at" Ku cd6 a_q6 d_q6) (w21:gF K "_law_mixed" OI cd21 a21 d21) (w55:gF K "_law_bit" KT cd55 a55 d55) (w14:gF K "_law_number" Mc cd14 a14 d14) (w10:gF K "_law_reached" MH cd10 a10 d10) (w33:gF K "_law_falls" KW cd33 a33 d33) (w57:gF K "_law_run" LU cd57 a57 d57) (w50:gF K "_law_next" Ic cd50 a50 d50) (w45:gF K "_law_runs" Oy cd45 a45 d45) (w16:gF K "_law_table" MD cd16 a16 d16) (w19:gF K "_law_comes" OB cd19 a19 d19) (w41:gF K "_law_text" NX cd41 a41 d41) (w15:gF K "_law_names" Mf cd15 a15 d15) (w34:gF K "_law_waste" Oa cd34 a34 d34) (w_q0:gF K "_law_heard_behind" KU cd0 a_q0 d_q0) (w18:gF K "_law_knows" Og cd18 a18 d18) (w35:gF K "_law_right" BW cd35 a35 d35) (w66:gF K "law" Ov cd66 a66 d66) (z_all:j4 K mainGlobals "all"=Ga Gb) (z_bool:j4 K mainGlobals "bool"=Ga Gb) (z_enumerate:j4 K mainGlobals "enumerate"=Ga Gb) (z_int:j4 K mainGlobals "int"=Ga Gb) (z_isinstance:j4 K mainGlobals "isinstance"=Ga Gb) (z_len:j4 K mainGlobals "len"=Ga Gb) (z_list:j4 K mainGlobals "list"=Ga Gb) (z_max:j4 K mainGlobals "max"=Ga Gb) (z_range:j4 K mainGlobals "range"=Ga Gb) (z_reversed:j4 K mainGlobals "reversed"=Ga Gb) (z_set:j4 K mainGlobals "set"=Ga Gb) (z_sorted:j4 K mainGlobals "sorted"=Ga Gb) (z_str:j4 K mainGlobals "str"=Ga Gb) (z_tuple:j4 K mainGlobals "tuple"=Ga Gb) {k_LAST_ROUND} (c_LAST_ROUND:j4 K mainGlobals "LAST_ROUND"=Ga (Ga (.int 5 k_LAST_ROUND))) {k_LEAST_HANDS} (c_LEAST_HANDS:j4 K mainGlobals "LEAST_HANDS"=Ga (Ga (.int 2 k_LEAST_HANDS))) {k_MOST_FIGURES} (c_MOST_FIGURES:j4 K mainGlobals "MOST_FIGURES"=Ga (Ga (.int 60 k_MOST_FIGURES))) {k_MOST_HANDS} (c_MOST_HANDS:j4 K mainGlobals "MOST_HANDS"=Ga (Ga (.int 5 k_MOST_HANDS))) {k_MOST_LETTERS} (c_MOST_LETTERS:j4 K mainGlobals "MOST_LETTERS"=Ga (Ga (.int 8 k_MOST_LETTERS))) {k_FIGURES} (c_FIGURES:j4 K mainGlobals "FIGURES"=Ga (Ga (.str (ja "0123456789") k_FIGURES))) {k_LETTERS} (c_LETTERS:j4 K mainGlobals "LETTERS"=Ga (Ga (.str (ja "abcdefghijklmnopqrstuvwxyz") k_LETTERS))) : ∃ t,Txt P w K mg t/\t.a66=a66/\∀ (s:Gh) (v:Gg),BindsTo s t.d66 ⟨[v],[]⟩ [("script",v)]:=by
 exact⟨⟨a36,d36,a60,d60,a39,d39,a52,d52,a40,d_q40,a32,d32,a_q5,d_q5,a49,d49,a53,d53,a25,d25,a58,d58,a13,d13,a54,d54,a63,d63,a24,d24,a61,d61,a64,d64,a11,d11,a_q2,d_q2,a51,d51,a38,d38,a26,d26,a43,d43,a27,d27,a62,d62,a31,d31,a_q3,d_q3,a29,d29,a47,d47,a_q1,d_q1,a28,d28,a44,d44,a_q7,d_q7,a_q8,d_q8,a_q4,d_q4,a20,d_q20,a42,d42,a56,d56,a23,d23,a12,d12,a22,d22,a37,d37,a46,d46,a30,d30,a65,d65,a59,d59,a17,d17,a_q9,d_q9,a48,d48,a_q6,d_q6,a21,d21,a55,d55,a14,d14,a10,d10,a33,d33,a57,d57,a50,d50,a45,d45,a16,d16,a19,d19,a41,d41,a15,d15,a34,d34,a_q0,d_q0,a18,d18,a35,d35,a66,d66,C⟩,⟨c_dk,c_mk _ w17.at_,uG X G c_mg,Os w17,Os w_q9,Os w48,g_FORMS,g_MOST,gM X G w36,gM X G w60,gM X G w39,gM X G w52,gM X G w40,gM X G w32,gM X G w_q5,gM X G w49,gM X G w53,gM X G w25,gM X G w58,gM X G w13,gM X G w54,gM X G w63,gM X G w24,gM X G w61,gM X G w64,gM X G w11,gM X G w_q2,gM X G w51,gM X G w38,gM X G w26,gM X G w43,gM X G w27,gM X G w62,gM X G w31,gM X G w_q3,gM X G w29,gM X G w47,gM X G w_q1,gM X G w28,gM X G w44,gM X G w_q7,gM X G w8,gM X G w_q4,gM X G w20,gM X G w42,gM X G w56,gM X G w23,gM X G w12,gM X G w22,gM X G w37,gM X G w46,gM X G w30,gM X G w65,gM X G w59,gM X G w_q6,gM X G w21,gM X G w55,gM X G w14,gM X G w10,gM X G w33,gM X G w57,gM X G w50,gM X G w45,gM X G w16,gM X G w19,gM X G w41,gM X G w15,gM X G w34,gM X G w_q0,gM X G w18,gM X G w35,gM X G w66,j9 X G z_all,j9 X G z_bool,j9 X G z_enumerate,j9 X G z_int,j9 X G z_isinstance,j9 X G z_len,j9 X G z_list,j9 X G z_max,j9 X G z_range,j9 X G z_reversed,j9 X G z_set,j9 X G z_sorted,j9 X G z_str,j9 X G z_tuple,⟨_,uG X G c_LAST_ROUND⟩,⟨_,uG X G c_LEAST_HANDS⟩,⟨_,uG X G c_MOST_FIGURES⟩,⟨_,uG X G c_MOST_HANDS⟩,⟨_,uG X G c_MOST_LETTERS⟩,⟨_,uG X G c_FIGURES⟩,⟨_,uG X G c_LETTERS⟩⟩,rfl,w66.bt (Q:=λfd=>∀ (s:Gh) (v:Gg),BindsTo s fd ⟨[v],[]⟩ [("script",v)]) λ_ _ _ _ _ _ _ _=>.of_eq rfl⟩
def zEM {l:Program}{w:World}{K:jb}{mg:Str->Option Gg}{fa a:Gk}(X:K.In h)(G:h.Ns mainGlobals mg)(hmg:mg "law"=Ga (.ref fa))
  (z:∃ t,Txt l w K mg t/\t.a66=a/\∀ (s:Gh) (v:Gg),BindsTo s t.d66 ⟨[v],[]⟩ [("script",v)]) :
  ∃ fd:Gj,(∀ (s:Gh) (v:Gg),BindsTo s fd ⟨[v],[]⟩ [("script",v)])/\∀ base:Heap,K.In base->base.Ns mainGlobals mg->fM l w K mg base CX0 11 fa fd ["script"] (λvs H Q E=>∀ mk,spV K (zjX mk) vs H Q E):=by
 obtain⟨t,T,_,hb⟩:=z;have e:=hmg.symm.trans T.q66.m;cases e;exact⟨t.d66,hb,λbase _ _=>(zy7 T).imp λvs H Q E h=>h _⟩
end
noncomputable section
open PySem PySem.Spec PyProof.Rows L2 T3
def ZQ (x0:D):Ck [x0]=fY (Kd [.val x0]):=rfl
def WW (x0:D):Bm [x0]=fY (Nc [.val x0]):=rfl
def Yc (x0 x1 x2:D):zy [x0,x1,x2]=fY (La [.val x0,.val x1,.val x2]):=rfl
def zqV (x0 x1:D):zT [x0,x1]=fY (Ln [.val x0,.val x1]):=rfl
def znR (x0 x1:D):BL [x0,x1]=fY (Ly [.val x0,.val x1,.no]):=rfl
def zr4 (x0:D):yR [x0]=fY (MR [.val x0]):=rfl
def znS (x0:D):tW [x0]=fY (Np [.val x0,.no,.no,.no]):=rfl
def zpL (x0:D):pA [x0]=fY (Md [.val x0,.no]):=rfl
def zlF (x0:D):rR [x0]=fY (Mz [.val x0]):=rfl
def YZ (x0:D):BV [x0]=fY (MA [.val x0]):=rfl
def Yt (x0:D):xG [x0]=fY (Nl [.val x0]):=rfl
def zpM (x0:D):tm [x0]=fY (Mv [.val x0,.no,.no,.no,.no,.no]):=rfl
def zqW (x0:D):DP [x0]=fY (NO [.val x0]):=rfl
def ZX (x0:D):AZ [x0]=fY (KR [.val x0]):=rfl
def Qx (x0 x1:D):oq [x0,x1]=fY (GD [.val x0,.val x1]):=rfl
def Sr (x0:D):sX [x0]=fY (He [.val x0,.no]):=rfl
def zpN (x0:D):oe [x0]=fY (IG [.val x0,.no,.no,.no,.no]):=rfl
def znV (x0:D):yW [x0]=fY (OM [.val x0,.no,.no]):=rfl
def Sz (x0 x1 x2:D):wj [x0,x1,x2]=fY (HA [.val x0,.val x1,.val x2]):=rfl
def Hu (x0 x1 x2:D):wW [x0,x1,x2]=fY (Bb [.val x0,.val x1,.val x2]):=rfl
def QP (C:Gk):FS:=fK (gP (yf 0 C dT) pX gA) (im (BO 0 C dU))
def zlG (C:Gk)(s0:Sl)(x0:D):zS C s0 [x0]=(QP C [s0,.val x0]).bind CQ:=rfl
abbrev cx:=fv gb eT dY
abbrev bI:=gR 3 cx
abbrev cy:=fv gb eT ee
abbrev bJ:=gR 4 cy
def SU (C:Gk):FS:=fK (gR 2 (fT oe dE)) (fK bI (fK bJ (fK (gP (gz gw eU (fx (.str (ja "run")))) pX gA) (fK (gR 5 (gE 0 C (zS C) (fE (fv iQ eV (fx (.str (ja "name")))) gc))) (fK (gP (gz gw eU (fx (.str (ja "alike")))) pX gA) (im (fT wW (fE eU (fE eW (fE eV gc))))))))))
def zpO (C:Gk)(s0:Sl)(x0:D):iu C s0 [x0]=(SU C [s0,.val x0,.no,.no,.no,.no]).bind CQ:=rfl
def PX (C r:Gk):FS:=fK (gR 2 (fT oe dE)) (fK bI (fK bJ (fK (gP (gz gw eU (fx (.str (ja "run")))) (fK (yq r 0 C (fv iQ eV (fx (.str (ja "name")))) (fT tm (fE (fv iQ eV (fx (.str (ja "text")))) gc))) (GQ (fx (.str (ja "ok"))))) gA) pX)))
def zpP (C p r:Gk)(kvs:List (Str×D))(x0:D):xF C (.dsk C p r kvs) [x0]=(PX C r [.dsk C p r kvs,.val x0,.no,.no,.no,.no]).bind (yv C p r):=rfl
def zmJ (x0:D):sV [x0]=fY (Kq [.val x0]):=rfl
def zlH (x0 x1 x2:D):pZ [x0,x1,x2]=fY (Nw [.val x0,.val x1,.val x2,.no]):=rfl
def Xk (x0 x1 x2:D):zF [x0,x1,x2]=fY (IK [.val x0,.val x1,.val x2,.no,.no,.no,.no]):=rfl
def zqY (x0 x1 x2:D):Ax [x0,x1,x2]=fY (NE [.val x0,.val x1,.val x2,.no]):=rfl
def PP (x0 x1:D):sS [x0,x1]=fY (Hq [.val x0,.val x1,.no,.no,.no,.no]):=rfl
def zpQ (x0:D):xY [x0]=fY (LW [.val x0,.no,.no,.no,.no]):=rfl
def zpR (x0:D):oT [x0]=fY (NH [.val x0,.no,.no,.no,.no,.no]):=rfl
def znX (x0:D):xX [x0]=fY (LI [.val x0,.no,.no,.no]):=rfl
def znY (x0:D):zd [x0]=fY (OH [.val x0,.no,.no,.no,.no,.no,.no,.no,.no,.no]):=rfl
def Nu (x0 x1 x2:D):sR [x0,x1,x2]=fY (EN [.val x0,.val x1,.val x2]):=rfl
abbrev bf:=fv iZ (fv fy eX ee) eW
abbrev bu:=gi ig cx
abbrev bC:=fE eT (fE fj (fE eZ gc))
abbrev di:=GQ (fx (.bool false))
abbrev dA:=fx (.bool true)
abbrev dL:=fE (gv 9) (gc)
def TB (C r:Gk):FS:=fK (gR 4 (fT oT dD)) (fK (rz (Bi (Bx (lh r 0 C (xF C) (fE (fv fy (fv fy (fv fy (fx (.str (ja "run "))) eS) (fx (.str (ja " ")))) eV) gc)) (fx (.str (ja "ok")))) (gz gN (gE 0 C (iu C) (fE (fv fy (fx (.str (ja "show "))) eS) gc)) eV)) di gA) (fK (gR 5 (fT zd dD)) (fK (gP (gz gN (gE 0 C (iu C) (fE (fv fy (fx (.str (ja "waste "))) eS) gc)) (gi fN eW)) di gA) (fK (sd (BC mU (gi ig cy) (fv iZ bu ee)) (iE 6) (gP (gz gN (gE 0 C (iu C) (fE (fv fy (fv fy (fv fy (fx (.str (ja "close "))) eS) (fx (.str (ja " ")))) (gi fN eX)) gc)) (gi fN bf)) di gA)) (fK (gR 7 (fv fW eU (fv gb (mP (fE dX (fE dX (fE eh (fE dZ gc))))) (fv iZ bu dW)))) (fK (sd df (iE 8) (fK (gR 9 (fv fy (fv fy (fv fy (fv fy (fv fy (fx (.str (ja "know "))) eS) (fx (.str (ja " ")))) (gi fN fj)) (fx (.str (ja " ")))) (gi fN eZ))) (gP (gz gN (gE 0 C (iu C) dL) (fT sR bC)) di gA))) (GQ dA)))))))
def Zw (C p r:Gk)(kvs:List (Str×D))(x0 x1 x2:D):rB C (.dsk C p r kvs) [x0,x1,x2]=(TB C r [.dsk C p r kvs,.val x0,.val x1,.val x2,.no,.no,.no,.no,.no,.no]).bind (yv C p r):=rfl
abbrev ao:=gR 7 (fv gb eT (fv fW (fv gy eX dZ) dZ))
abbrev aE:=fE eZ (fE eW (fE (fv gy eX (fx (.int 9))) gc))
abbrev aT:=fE eQ (fE (fv fy eD eV) gc)
abbrev aY:=fE (yE eQ ym (ze (fx (.int 40)))) (gc)
abbrev bK:=rN cj
abbrev bU:=fE eQ (fE dX gc)
abbrev bY:=fE (fv iQ eU eZ) (gc)
def Yp (C:Gk):FS:=tf 1 C (λr=>fK (gR 2 (fT xX (fE (fv fW (fT mz bU) (fv lj dQ eD)) gc))) (fK (yx 3) (fK (sd (nJ Ar (fT xY aY)) bK (fK (gR 6 (fT mz aT)) (fK ao (fK (rz (sD (lh r 1 C (rB C) aE)) db gA) (om 3 eZ eW))))) (fK (xm 3 (iE 7) (gP (gz gN (gE 1 C (iu C) (fE (fv fy (fx (.str (ja "show "))) eZ) gc)) (fT oT bY)) db gA)) (im dA)))))
def zy8 (C:Gk)(x0:D):zjX C [x0]=fY (Yp C [.val x0,.no,.no,.no,.no,.no,.no,.no]):=rfl
end
noncomputable section
open PySem T3
open Lean in
local macro_rules|`(tactic|simp[$a,*])=>do let l:TSyntaxArray `ident:=("zDy zDz zGd zDA Yo zBr zBs Zq zDC zBu zDD zBv Zi zvR Yz zBw YW YY zBy zyN zyO zDG zBz Yl zBB zyP zDH zyQ zDI zBC zBD ZA zBF zDK zBG XI zBI ZF zBK zBL ZO zyR Ys Zl XR XN ztW zrO Xl Xj zvW zDO zDP Zt zDR zDS Zc zDT YF zDV zBN zDW Zd zDY zDZ zD0 zBO zD1 YI zD3 ZI zD5 zBP ZZ zD7 zD8 zBQ zD9 zEa zEb zBR zEc zEd zBS zEe zEf zBT Zp zBU zEh ztX zrP ztY zEi zBV Zx zEj Yd zEk zEl Nq zEm zEn zEo zEp zGe zGf zGg zGh zEq zEr zEs WQ zyV zyW Yy zBX zm0 jh Option.bind_none JP Bool.not_false ztZ ite_true ite_false decide_true decide_false zEu zyX zEy zy3 Oo zEz RA zEA ZN Zu LO".splitOn " ").toArray.map fun s=>mkIdent s.toName;`(tactic|simp only[$[$l:ident],*,$a,*])
section
open PySem.Spec PyProof.Rows L2
open PySem.W.KIN PySem.NumText
def To (f:List Nat)(c:Nat):digitsVal (f++[c])=digitsVal f*10+(c-48):=by
 unfold digitsVal;rw[List.foldl_append];rfl
def Tx:∀ d:Nat,d<10->(Nat.digitChar d).toNat=d+48:=by decide
def MI {α:Type}:∀ l:List α,l=[]\/∃ g c,l=g++[c]
 | []=>.inl rfl
 | x::r=>by
  rcases MI r with rfl|⟨g,c,rfl⟩
  .exact .inr ⟨[],x,rfl⟩
  .exact .inr ⟨x::g,c,rfl⟩
def tE (n:Nat):(vM 10 n).map ql=if n<10 then[n+48] else(vM 10 (n/10)).map ql++[n%10+48]:=by
 by_cases h:n<10
 .rw[Ge h,Nat.toDigits_of_lt_base h,jO,qc,Tx n h]
 .rw[Gf h,Nat.toDigits_of_base_le (by decide) (by omega),kr,jO,qc,Tx _ (by omega)]
def Om:∀ (k:Nat) (f:List Nat),f.length=k->AllDigits f->f≠[]->f.head?≠Ga 48->(vM 10 (digitsVal f)).map ql=f/\0<digitsVal f
 | k,f,hk,hd,h1,h0=>by
  rcases MI f with rfl|⟨g,c,rfl⟩
  .exact absurd rfl h1
  have hc:48<=c/\c<=57:=hd c (jD _ jf);rw[To];cases g with
  | nil =>
   have c0:c≠48:=λe=>h0 (by rw[e];rfl);have z:digitsVal []=0:=rfl;rw[z,tE,Ge (by omega)];refine⟨?_,by omega⟩;have:0*10+(c-48)+48=c:=by omega
   rw[this];rfl
  | cons a r =>
   have hk':(a::r).length<k:=by rw[<- hk,je];exact uY _
   have ih:=Om (a::r).length (a::r) rfl (λd hd'=>hd d (uO _ hd')) (uo _ _) h0;rw[tE,Gf (by omega)];have e1:(digitsVal (a::r)*10+(c-48))/10=digitsVal (a::r):=by omega
   have e2:(digitsVal (a::r)*10+(c-48))%10+48=c:=by omega
   rw[e1,e2,ih.1];exact⟨rfl,by omega⟩
 termination_by k=>k
def Hv:∀ n:Nat,0<n->∃ c r,(vM 10 n).map ql=c::r/\c≠48
 | n,h=>by
  rw[tE];by_cases h1:n<10
  .rw[Ge h1];exact⟨_,_,rfl,by omega⟩
  .rw[Gf h1];obtain⟨c,r,e,h2⟩:=Hv (n/10) (by omega);exact⟨c,r++[n%10+48],by rw[e];rfl,h2⟩
def Uz (n:Nat):sg (ja (toString (n:Int)))=(vM 10 n).map ql:=signs_num n
def KS (n:Nat)(h:0<n):sg (ja (toString (-(n:Int))))=45::(vM 10 n).map ql:=by
 obtain⟨m,rfl⟩:∃ m,n=m+1:=⟨n-1,by omega⟩;have e:(-((m+1:Nat):Int))=Vj m:=rfl;rw[e];have e2:toString (Vj m)="-"++Nat.repr (m+1):=rfl;show(ja (toString (Vj m))).cps.toList=_;rw[e2,signs_ofString,String.toList_append,Nat.toList_repr,kr];rfl
def fg (l:List Nat):List Nat:=if l.head?=Ga 45 then l.tail else l
def mN (l:List Nat):Int:=if l.head?=Ga 45 then -(digitsVal (fg l):Int) else(digitsVal (fg l):Int)
def zy9 (l:List Nat)(h1:fg l≠[])(hd:AllDigits (fg l)):sg (ja (toString (mN l)))=l↔¬((fg l).head?=Ga 48/\1<l.length):=by
 unfold mN;by_cases hn:l.head?=Ga 45
 .have ef:fg l=l.tail:=Ge hn;rw[Ge hn];rw[ef] at h1 hd ⊢;cases l with
  | nil=>cases hn
  | cons a f =>
   obtain rfl:a=45:=jK hn;rw[List.tail_cons] at h1 hd ⊢;have hl:1<(45::f).length:=by
    cases f with
    | nil=>exact absurd rfl h1
    | cons _ _=>exact Vg (J4 _)
   by_cases h0:f.head?=Ga 48
   .refine⟨λe=>?_,λq=>absurd ⟨h0,hl⟩ q⟩;rcases uK (digitsVal f) with z|z
    .rw[z] at e;have:sg (ja (toString (-((0:Nat):Int))))=[48]:=by nofun
     rw[this] at e;cases e
    .rw[KS _ z] at e;obtain⟨c,r,e1,e2⟩:=Hv _ z;rw[e1] at e;have e3:c::r=f:=(uH e).2;rw[<- e3] at h0;exact absurd (jK h0) e2
   .refine⟨λ_ q=>h0 q.1,λ_=>?_⟩;have d:=Om _ f rfl hd h1 h0;rw[KS _ d.2,d.1]
 .have ef:fg l=l:=Gf hn;rw[Gf hn];rw[ef] at h1 hd ⊢;rw[Uz];by_cases h0:l.head?=Ga 48
  .by_cases hl:1<l.length
   .refine⟨λe=>?_,λq=>absurd ⟨h0,hl⟩ q⟩;rcases uK (digitsVal l) with z|z
    .rw[z,tE,Ge (by decide)] at e;rw[<- e] at hl;exact absurd hl (by decide)
    .obtain⟨c,r,e1,e2⟩:=Hv _ z;rw[e1] at e;rw[<- e] at h0;exact absurd (jK h0) e2
   .refine⟨λ_ q=>hl q.2,λ_=>?_⟩
    match l,h0,hl with
    | [a],h0,_=>obtain rfl:a=48:=jK h0;decide +kernel
    | _::_::_,_,hl=>exact absurd (Vg (J4 _)) hl
  .exact⟨λ_ q=>h0 q.1,λ_=>(Om _ l rfl hd h1 h0).1⟩
def zGo:∀ f:List Nat,AllDigits f->digitsVal f<10^f.length:=by
 intro f;generalize hk:f.length=k;induction k generalizing f with
 | zero=>intro _;rw[List.eq_nil_of_length_eq_zero hk];decide
 | succ k ih =>
  intro hd;rcases MI f with rfl|⟨g,c,rfl⟩
  .cases hk
  have hc:48<=c/\c<=57:=hd c (jD _ jf);have:=ih g (by rw[je] at hk;exact qG hk) λd h=>hd d (uO _ h);rw[To,Nat.pow_succ];omega
def zZ {α:Type}{fc:FB}{fe:FV}{base:En}(f:α->D)(p:α->Bool)(F:α->D):∀ {l:List α},(∀ a∈l,fc (.val (f a)::base)=Ga (p a))->(∀ a∈l,p a=true->fe (.val (f a)::base)=Ga (F a))->gd fc fe base (l.map f)=Ga ((l.filter p).map F)
 | [],_,_=>rfl
 | x::r,h1,h2=>by
  have ih:=zZ (fc:=fc) (fe:=fe) (base:=base) f p F (l:=r) (λa ha=>h1 a (jk _ ha)) (λa ha=>h2 a (jk _ ha));rw[jO];unfold gd;rw[h1 x jf,jh];cases c:p x with
  | true=>rw[Ge rfl,h2 x jf c,jh,ih,u5 c];rfl
  | false=>rw[Gf jH,ih,v8 (by rw[c];exact jH)]
variable {α:Type}
def rW{fe:FV}{base:En}(f:α->D)(F:α->D){l:List α}(h2:∀ a∈l,fe (.val (f a)::base)=Ga (F a)):gd (λ_=>Ga true) fe base (l.map f)=Ga (l.map F):=by
 rw[zZ (fc:=λ_=>Ga true) f (λ_=>true) F (λ_ _=>rfl) (λa ha _=>h2 a ha)];rw[List.filter_eq_self.mpr (λ_ _=>rfl)]
def aD (f:List Nat):Bool:=f.all λc=>decide (48<=c)&&decide (c<=57)
def Dz (f:List Nat):aD f=true↔AllDigits f:=by
 unfold aD AllDigits;rw[jR];constructor
 .intro h c hc;have:=h c hc;rw[jl,decide_eq_true_eq,decide_eq_true_eq] at this;exact this
 .intro h c hc;rw[jl,decide_eq_true_eq,decide_eq_true_eq];exact h c hc
def BU (x:Str):kM x=true↔∀ c∈sg x,c<0x110000:=by
 unfold kM;rw[Array.all_eq_true'];constructor
 .intro h c hc;exact of_decide_eq_true (h c (vz.mp hc))
 .intro h c hc;exact Gc (h c (vz.mpr hc))
def wI (s:String):kM (ja s)=true:=by
 rw[BU];intro c hc;have hc':c∈(ja s).cps.toList:=hc;rw[signs_ofString] at hc';obtain⟨k,_,rfl⟩:=jr.mp hc';have:=k.valid;unfold UInt32.isValidChar Nat.isValidChar at this;show k.val.toNat<0x110000;omega
def zCc:ja "0123456789"=⟨#[48,49,50,51,52,53,54,55,56,57]⟩:=by nofun
def zCd (c:Nat):Ag ⟨#[c]⟩ (ja "0123456789")=(decide (48<=c)&&decide (c<=57)):=by
 unfold Ag;rw[J5,zCc];rw[jQ,decide_eq_true_eq,jl,decide_eq_true_eq,decide_eq_true_eq];show c∈[48,49,50,51,52,53,54,55,56,57]↔_;simp only[jo,j8,or_false];omega
def ZG (x:Str):uw x (ja "-")=decide ((sg x).head?=Ga 45):=by
 have e:ja "-"=⟨#[45]⟩:=by nofun
 rw[e];unfold uw;rw[jQ,jl,decide_eq_true_eq,decide_eq_true_eq,qW];rw[List.head?_eq_getElem?]
def ib (x:Str):x.length=(sg x).length:=jP.symm
def zGp (x:Str)(h:sg x≠[]):mX x (Ga 1) Gb=gr (sg x).tail:=by
 have hl:0<(sg x).length:=JK.mpr h;have e:mm x.length 0 (Ga 1)=1:=by
  unfold mm;dsimp only;rw[Gf (by decide),ib];omega
 unfold mX;rw[e];show gr (((sg x).drop 1).take (x.length-1))=_;rw[uh (by rw[uZ,ib];exact jw _),List.drop_one]
def QT (f:List Nat)(h:f.length<=1000):rR [.str (gr f)]=Ga (.bool (aD f)):=by
 rw[zlF];unfold Mz;have c:gd (λ_=>Ga true) (fv rM eQ (fx (.str (ja "0123456789")))) [] (f.map one)=Ga (f.map λc=>.bool (decide (48<=c)&&decide (c<=57))):=by
  refine rW one _ λc _=>?_;unfold one;simp[zCd]
 have hl:(f.map one).length<=1000000:=by rw[jc];omega
 have b:∀ g:List Nat,ni (g.map λc=>.bool (decide (48<=c)&&decide (c<=57)))=Ga (g.map λc=>decide (48<=c)&&decide (c<=57)):=by
  intro g;induction g with
  | nil=>rfl
  | cons a r ih=>rw[jO];unfold ni;rw[ih];rfl
 have d:mH (f.map λc=>.bool (decide (48<=c)&&decide (c<=57)))=Ga (.bool (aD f)):=by
  unfold mH;rw[b,jh,J6];rfl
 simp[nR,Ge hl,lg,c,d]
 try rfl
def env0 (x:Str):En:=[.val (.str x),.no,.no]
def env1 (x:Str):En:=[.val (.str x),.val (.str (gr (fg (sg x)))),.no]
def mZ (x:Str):En:=[.val (.str x),.val (.str (gr (fg (sg x)))),.val (.int (mN (sg x)))]
def Wj (x:Str)(hl:x.length<=600):gC 1 (xu (lO (fG nP eQ (fU (.str (ja "-"))))) bP eQ) (env0 x)=Ga (.nx (env1 x)):=by
 show gR 1 (Fo (oE (fv nP eQ (fx (.str (ja "-"))))) (yE eQ (ze ee) ym) eQ) (env0 x)=_;unfold env0 env1;have hz:x.length<=sizeLine:=jI hl (by decide);have st:=ZG x;by_cases h:(sg x).head?=Ga 45
 .rw[Gc h] at st;have e:fg (sg x)=(sg x).tail:=Ge h;have n:sg x≠[]:=λq=>by rw[q] at h;cases h
  have c:og (.str x) (Ga 1) Gb=Ga (.str (gr (sg x).tail)):=by
   show(if _ then _ else _)=_;rw[Ge hz,zGp x n]
  rw[e];simp[st,c]
 .rw[Gd h] at st;have e:fg (sg x)=sg x:=Gf h;rw[e,mM];simp[st]
def Zs (l:List Nat):(fg l).length<=l.length:=by
 unfold fg;split
 .rw[List.length_tail];exact Nat.sub_le _ _
 .exact jw _
def good (l:List Nat):Bool:=decide (1<=(fg l).length)&&(decide ((fg l).length<=60)&&aD (fg l))
def UF:FB:=sW aB (rJ (lO (fR rR dw)))
def Ut (f:List Nat)(h:f.length<=1000):ig (.str (gr f))=Ga (.int (f.length:Int)):=by
 show(if _ then _ else _)=_;rw[ib,lg,Ge (jI h (by decide))]
def Wv (x:Str)(hl:x.length<=600):UF (frz (env1 x))=Ga (!good (sg x)):=by
 have hf:(fg (sg x)).length<=1000:=jI (Zs _) (by rw[<- ib];omega);have f:=QT _ hf;have n:=Ut _ hf;show oF (pJ (Ei lQ lQ ee (gi ig eS) dS)) (pJ (oE (fT rR dE))) (frz [.val (.str x),.val (.str (gr (fg (sg x)))),.no])=_;unfold good;generalize gr (fg (sg x))=F at *;generalize (fg (sg x)).length=m at *;have c1:decide ((1:Int)<=(m:Int))=decide (1<=m):=by by_cases h:1<=m<;>simp[h]at⊢<;>omega
 have c2:decide ((m:Int)<=(60:Int))=decide (m<=60):=by by_cases h:m<=60<;>simp[h]at⊢<;>omega
 generalize (m:Int)=z at *;generalize decide (1<=m)=b1 at *;generalize decide (m<=60)=b2 at *;generalize aD (fg (sg x))=b3 at *;generalize rR=A at *;cases b1<;>cases b2<;>cases b3<;>simp[f,n,c1,c2]<;>rfl
def Yh (x:Str)(hl:x.length<=600)(g:good (sg x)=true):oO (.str x)=Ga (.int (mN (sg x))):=by
 unfold good at g;rw[jl,jl,decide_eq_true_eq,decide_eq_true_eq,Dz] at g;obtain⟨g1,g2,g3⟩:=g;show(if _ then _ else _)=_;rw[Ge (by omega)];have n:fg (sg x)≠[]:=λq=>by rw[q] at g1;exact absurd g1 (by decide)
 unfold mN;by_cases h:(sg x).head?=Ga 45
 .rw[Ge h];have e:fg (sg x)=(sg x).tail:=Ge h;rw[e] at n g3;have ex:x.cps.toList=45::(sg x).tail:=by
   show sg x=_;cases q:sg x with
   | nil=>rw[q] at h;cases h
   | cons a r=>rw[q] at h;cases h;rfl
  rw[intText_neg ex g3 n (by omega),e];rfl
 .rw[Gf h];have e:fg (sg x)=sg x:=Gf h;rw[e] at n g3;rw[intText_digits g3 n (by omega),e];rfl
def YS (l:List Nat)(g:good l=true):(mN l).natAbs.log2<1920:=by
 unfold good at g;rw[jl,jl,decide_eq_true_eq,decide_eq_true_eq,Dz] at g;obtain⟨g1,g2,g3⟩:=g;have v:=zGo _ g3;have v2:digitsVal (fg l)<10^60:=jx v (Nat.pow_le_pow_right (by decide) g2);have e:(mN l).natAbs=digitsVal (fg l):=by
  unfold mN;split
  .rw[Int.natAbs_neg];rfl
  .rfl
 rw[e];rcases uK (digitsVal (fg l)) with z|z
 .rw[z];decide
 .exact(Vk (by omega)).mpr (jx v2 (by nofun))
def nm (l:List Nat):D:=.str (ja (toString (mN l)))
def Ym (l:List Nat)(g:good l=true):fN (.int (mN l))=Ga (nm l):=by
 show(if _ then _ else _)=_;rw[Ge (YS l g)];rfl
def yt (l:List Nat):Bool:=decide ((fg l).head?=Ga 48)&&decide (1<l.length)
def WE (x:Str)(hx:kM x=true)(g:good (sg x)=true):gN (nm (sg x)) (.str x)=Ga (.bool (yt (sg x))):=by
 unfold nm;rw[Hr (wI _) hx];unfold good at g;rw[jl,jl,decide_eq_true_eq,decide_eq_true_eq,Dz] at g;obtain⟨g1,g2,g3⟩:=g;have n:fg (sg x)≠[]:=λq=>by rw[q] at g1;exact absurd g1 (by decide)
 have s:=zy9 (sg x) n g3;have e:(ja (toString (mN (sg x)))=x)↔¬((fg (sg x)).head?=Ga 48/\1<(sg x).length):=⟨λq=>s.mp (congrArg sg q),λq=>sQ (s.mpr q)⟩;unfold yt;by_cases h1:(fg (sg x)).head?=Ga 48
 .by_cases h2:1<(sg x).length
  .rw[Gc h1,Gc h2,Gd (λq=>(e.mp q) ⟨h1,h2⟩)];rfl
  .rw[Gc h1,Gd h2,Gc (e.mpr λq=>h2 q.2)];rfl
 .rw[Gd h1,Gc (e.mpr λq=>h1 q.1)];rfl
def VW (x:Str)(hl:x.length<=600)(g:good (sg x)=true):gC 2 dP (env1 x)=Ga (.nx (mZ x)):=by
 have i:=Yh x hl g;show gR 2 dG [.val (.str x),.val (.str (gr (fg (sg x)))),.no]=Ga (.nx [.val (.str x),.val (.str (gr (fg (sg x)))),.val (.int (mN (sg x)))]);generalize mN (sg x)=z at *;generalize gr (fg (sg x))=F at *;simp[i]
def Rr:FB:=gJ gN (un fN eT) eQ
def Wd (x:Str)(hx:kM x=true)(g:good (sg x)=true):Rr (frz (mZ x))=Ga (yt (sg x)):=by
 have s:=Ym _ g;have n:=WE x hx g;show gz gN (gi fN eT) eQ (frz [.val (.str x),.val (.str (gr (fg (sg x)))),.val (.int (mN (sg x)))])=_;generalize mN (sg x)=z at *;generalize nm (sg x)=y at *;generalize gr (fg (sg x))=F at *;simp[s,n]
def zEQ (x:Str)(hx:kM x=true)(hl:x.length<=600)(g:good (sg x)=true)(ld:yt (sg x)=false):yQ [.str x]=Ga (.int (mN (sg x))):=by
 have r2:=Wv x hl;unfold UF at r2;have i:lG (sW aB (rJ (lO (fR rR dw)))) (pf) lD (env1 x)=Ga (.nx (env1 x)):=by
  show((sW aB (rJ (lO (fR rR dw)))) (frz (env1 x))).bind _=_;rw[r2,g];rfl
 have r4:=Wd x hx g;unfold Rr at r4;show fY (KH (env0 x))=_;unfold KH;have j:lG (gJ gN (un fN eT) eQ) (pf) lD (mZ x)=Ga (.nx (mZ x)):=by
  show((gJ gN (un fN eT) eQ) (frz (mZ x))).bind _=_;rw[r4,ld];rfl
 rw[iw (Wj x hl),iw i,iw (VW x hl g),iw j];rfl
def dg (n:Nat):List Nat:=(vM 10 n).map ql
def DH:∀ n,AllDigits (dg n)
 | n=>by
  intro c hc;unfold dg at hc;rw[tE] at hc;by_cases h:n<10
  .rw[Ge h] at hc;have:=jn.mp hc;omega
  .rw[Gf h] at hc;rcases jM.mp hc with q|q
   .exact DH (n/10) c q
   .have:=jn.mp q;omega
def Tj (n:Nat):dg n≠[]:=by
 unfold dg;rw[tE];split
 .exact uo _ _
 .exact λe=>by cases(qg.mp e).2
def Ti (n:Nat)(h:n<10^60):(dg n).length<=60:=by
 have e:∀ (k n:Nat),n<10^(k+1)->(dg n).length<=k+1:=by
  intro k;induction k with
  | zero=>intro n h;unfold dg;rw[tE,Ge (by omega)];exact jw _
  | succ k ih =>
   intro n h;unfold dg;rw[tE];by_cases h1:n<10
   .rw[Ge h1];exact Jb (kh _)
   .rw[Gf h1,je];have:=ih (n/10) (by rw[Nat.pow_succ] at h;omega);exact Jb this
 exact e 59 n h
def Ub (n:Nat):(dg n).head?≠Ga 45:=by
 intro e;cases q:dg n with
 | nil=>exact Tj n q
 | cons a r =>
  rw[q] at e;have:=DH n a (by rw[q];exact jf);have:a=45:=jK e;omega
def zCe (n:Nat)(h:0<n):(dg n).head?≠Ga 48:=by
 obtain⟨c,r,e,h2⟩:=Hv n h;unfold dg;rw[e];exact λq=>h2 (jK q)
def nt (z:Int):Str:=ja (toString z)
def Nn (z:Int):sg (nt z)=if z<0 then 45::dg z.natAbs else dg z.natAbs:=by
 by_cases h:z<0
 .rw[Ge h];have e:z=-((z.natAbs:Nat):Int):=by omega
  have:=KS z.natAbs (by omega);rw[<- e] at this;exact this
 .rw[Gf h];have e:z=((z.natAbs:Nat):Int):=by omega
  have:=Uz z.natAbs;rw[<- e] at this;exact this
def zCg (z:Int)(h0:-((10:Int)^60)<z)(h1:z<(10:Int)^60):yQ [.str (nt z)]=Ga (.int z):=by
 have hb:z.natAbs<10^60:=by
  have e:((10:Int)^60)=((10^60:Nat):Int):=by norm_cast
  rw[e] at h0 h1;omega
 have ln:=Ti _ hb;have s:=Nn z;have fgE:fg (sg (nt z))=dg z.natAbs:=by
  rw[s];by_cases h:z<0
  .rw[Ge h];rfl
  .rw[Gf h];exact Gf (Ub _)
 have nE:mN (sg (nt z))=z:=by
  unfold mN;rw[fgE];have v:digitsVal (dg z.natAbs)=z.natAbs:=val_back _;rw[v,s];by_cases h:z<0
  .rw[Ge h,Ge (show(45::dg z.natAbs).head?=Ga 45 from rfl)];omega
  .rw[Gf h,Gf (Ub _)];omega
 have pos:0<(dg z.natAbs).length:=JK.mpr (Tj _);have g:good (sg (nt z))=true:=by
  unfold good;rw[fgE,Gc (by omega:1<=(dg z.natAbs).length),Gc ln,(Dz _).mpr (DH _)];rfl
 have l:yt (sg (nt z))=false:=by
  unfold yt;rw[fgE];rcases uK z.natAbs with q|q
  .have z0:z=0:=by omega
   subst z0;decide +kernel
  .rw[Gd (zCe _ q)];rfl
 have hl:(nt z).length<=600:=by
  rw[ib,s];split
  .rw[jC];omega
  .omega
 have r:=zEQ (nt z) (wI _) hl g l;rw[nE] at r;exact r
def Rp {c:Nat}:∀ {a b r s:List Nat},c∉a->c∉b->a++c::r=b++c::s->a=b/\r=s
 | [],[],r,s,_,_,e=>⟨rfl,(uH e).2⟩
 | [],y::b,r,s,_,hb,e=>absurd (by rw[(uH e).1];exact jf) hb
 | x::a,[],r,s,ha,_,e=>absurd (by rw[<- (uH e).1];exact jf) ha
 | x::a,y::b,r,s,ha,hb,e=>by
  obtain⟨e1,e2⟩:=uH e;have ih:=Rp (λh=>ha (jk _ h)) (λh=>hb (jk _ h)) e2;exact⟨by rw[e1,ih.1],ih.2⟩
def xC (c:Nat)(x y:Str)(r:List Str):sg (uQ ⟨#[c]⟩ (x::y::r))=sg x++c::sg (uQ ⟨#[c]⟩ (y::r)):=by
 show sg (x++⟨#[c]⟩++uQ ⟨#[c]⟩ (y::r))=_;show(x.cps++#[c]++(uQ ⟨#[c]⟩ (y::r)).cps).toList=_;rw[k8,k8,j3];rfl
def Py (c:Nat):∀ (ps qs:List Str),ps≠[]->qs≠[]->(∀ p∈ps,c∉sg p)->(∀ q∈qs,c∉sg q)->uQ ⟨#[c]⟩ ps=uQ ⟨#[c]⟩ qs->ps=qs
 | [],_,h,_,_,_,_=>absurd rfl h
 | _::_,[],_,h,_,_,_=>absurd rfl h
 | [p],[q],_,_,_,_,e=>by rw[show p=q from e]
 | [p],q::q2::r,_,_,hp,_,e=>by
  have e2:=congrArg sg e;rw[xC] at e2;have:c∈sg p:=by
   show c∈sg (uQ ⟨#[c]⟩ [p]);rw[e2];exact jD _ jf
  exact absurd this (hp p jf)
 | p::p2::r,[q],_,_,_,hq,e=>by
  have e2:=congrArg sg e;rw[xC] at e2;have:c∈sg q:=by
   show c∈sg (uQ ⟨#[c]⟩ [q]);rw[<- e2];exact jD _ jf
  exact absurd this (hq q jf)
 | p::p2::r,q::q2::s,_,_,hp,hq,e=>by
  have e2:=congrArg sg e;rw[xC,xC] at e2;obtain⟨a,b⟩:=Rp (hp p jf) (hq q jf) e2;rw[sQ a,Py c (p2::r) (q2::s) (uo _ _) (uo _ _) (λx h=>hp x (jk _ h)) (λx h=>hq x (jk _ h)) (sQ b)]
def zzB (x y:Str):um x y≠[]:=by
 unfold um;split
 .exact uo _ _
 .split
  .exact uo _ _
  .rw[StrLaws.partsBetween_eq];obtain⟨p,r,e⟩:=StrLaws.partsFrom_ne x y.length 0 (jT x y 0 x.length (x.length+1));rw[e];exact uo _ _
def Qt (c:Nat)(ws:List Str)(h:ws≠[])(hw:∀ w∈ws,c∉sg w):um (ug ⟨#[c]⟩ ws) ⟨#[c]⟩=ws:=by
 refine Py c _ _ (zzB _ _) h (StrLaws.split_free _ c) hw ?_;rw[StrLaws.join_split];exact ua _ _
def iM (m:Nat):List Nat:=(jq 5).filter λk=>m.testBit k
def rC (h a m:Nat):Str:=gr ([48+h,64,48+a,62]++(iM m).map (48+·))
def gH (k:Nat):Str:=⟨#[48+k]⟩
def zES:∀ k,k<10->ja (toString ((k:Nat):Int))=gH k:=by nofun
def zzC:∀ h,h<5->∀ a,a<6->∀ m,m<32->(sB vH [gH h,ja "@",gH a,ja ">",gr ((iM m).map (48+·))]==rC h a m)=true:=by nofun
def zCh:∀ m,m<32->(ug (ja "") ((iM m).map gH)==gr ((iM m).map (48+·)))=true/\JoinOk (ja "") ((iM m).map gH)=true:=by nofun
def EE:∀ l:List Str,mw (l.map jp)=Ga l
 | []=>rfl
 | a::r=>by rw[jO];unfold mw;rw[EE r];rfl
def zzD (F h a m:D)(L ys:List D)(R:D)(i0:gb F (.int 0)=Ga h)(i1:gb F (.int 1)=Ga a)(i2:gb F (.int 2)=Ga m)(hh:rp [m]=Ga L)(hl:L.length<=1000000)(hc:gd (λ_=>Ga true) (gi fN eQ) [] L=Ga ys)(hj:mF (.str (ja "")) ys=Ga R) :
  tW [F]=fY (im (mR wc (fE dN (fE (fx (.str (ja "@"))) (fE dO (fE (fx (.str (ja ">"))) cX))))) [.val F,.val h,.val a,.val R]):=by
 rw[znS];unfold Np;generalize rp=A at *;generalize (im (mR wc (fE dN (fE (fx (.str (ja "@"))) (fE dO (fE (fx (.str (ja ">"))) cX))))))=B at *;generalize ja ""=t0 at *;simp[i0,i1,i2,hh,nR,Ge hl,hc,hj]
def zzE (F h a R S T R' Z t1 t2:D)(f1:pL h=Ga S)(f2:pL a=Ga T)(f3:pL R=Ga R')(hg:wc [S,t1,T,t2,R']=Ga Z) :
  fY (im (mR wc (fE dN (fE (fx t1) (fE dO (fE (fx t2) cX))))) [.val F,.val h,.val a,.val R])=Ga Z:=by
 simp[f1,f2,f3,hg]
def FJ (k:Nat)(h:k<10):pL (.int (k:Int))=Ga (.str (gH k)):=by
 show(if _ then _ else _)=_;have e:(k:Int).natAbs.log2<1920:=by
  show k.log2<1920;rcases uK k with z|z
  .rw[z];decide
  .exact(Vk (by omega)).mpr (jx h (by nofun))
 rw[Ge e];show Ga (jp (ja (toString (k:Int))))=_;rw[zES k h]
def zc (k:Nat)(h:k<10):fN (.int (k:Int))=Ga (.str (gH k)):=FJ k h
def Rt (m:Nat)(h:m<32):mF (.str (ja "")) (((iM m).map gH).map jp)=Ga (.str (gr ((iM m).map (48+·)))):=by
 obtain⟨j1,j2⟩:=zCh m h;show(mw _).bind _=_;rw[EE,jh,Ge j2,eq_of_beq j1]
def Dw (m k:Nat)(h:k∈iM m):k<5:=jF.mp (jY.mp h).1
def zwL (h a m:Nat)(h5:h<5)(a6:a<6)(m32:m<32)(hh:rp [.int (m:Int)]=Ga ((iM m).map λ(k:Nat)=>jd (k:Int))):tW [.tuple [.int (h:Int),.int (a:Int),.int (m:Int)]]=Ga (.str (rC h a m)):=by
 have hc:gd (λ_=>Ga true) (gi fN eQ) [] ((iM m).map λ(k:Nat)=>jd (k:Int))=Ga ((iM m).map λk=>.str (gH k)):=by
  refine rW _ _ λk hk=>?_;have:=zc k (qd (Dw m k hk) (by decide));generalize (k:Int)=z at *;simp[this]
 have hl:((iM m).map λ(k:Nat)=>jd (k:Int)).length<=1000000:=by
  rw[jc];exact jI (ky _ _) (by decide)
 have e2:((iM m).map λk=>jp (gH k))=((iM m).map gH).map jp:=by rw[jE];rfl
 rw[e2] at hc;have hz:(gr ((iM m).map (48+·))).length<=sizeLine:=by
  rw[ib,lg,jc];exact jI (ky _ _) (by decide)
 have f3:pL (.str (gr ((iM m).map (48+·))))=Ga (.str (gr ((iM m).map (48+·)))):=by
  show(if _ then _ else _)=_;rw[Ge hz]
 rw[zzD _ (.int (h:Int)) (.int (a:Int)) (.int (m:Int)) _ _ _ rfl rfl rfl hh hl hc (Rt m m32)];refine zzE _ _ _ _ _ _ _ _ _ _ (FJ h (by omega)) (FJ a (by omega)) f3 ?_;have g:=eq_of_beq (zzC h h5 a a6 m m32);show(if (sB vH [gH h,ja "@",gH a,ja ">",gr ((iM m).map (48+·))]).length<=sizeLine then _ else _)=_;rw[g,Ge];rw[ib];unfold rC;rw[lg,je,jc];exact jI (JL (jI (ky _ _) (by decide:(jq 5).length<=5)) 4) (by decide)
def zET (W a0 a1 a2 a3 s4 t u:D)(k:Int)(hk:ig W=Ga (.int k))(h4:decide (k<4)=false)(i0:gb W (.int 0)=Ga a0)(i1:gb W (.int 1)=Ga a1)(i2:gb W (.int 2)=Ga a2)(i3:gb W (.int 3)=Ga a3)
  (n1:gN a1 (.str (ja "@"))=Ga (.bool false)) (n3:gN a3 (.str (ja ">"))=Ga (.bool false)) (hs:og W (Ga 4) Gb=Ga s4) (t1:fy a0 a2=Ga t) (t2:fy t s4=Ga u) (hf:rR [u]=Ga (.bool true)):BV [W]=Ga (.bool true):=by
 rw[YZ];unfold MA;generalize rR=A at *;generalize jp (ja "@")=q1 at *;generalize jp (ja ">")=q2 at *;simp[hk,h4,i0,i1,i2,i3,n1,n3,hs,t1,t2,hf]
def zEU (W a0 a2 s4 h a m:D)(L ys:List D)(hf:BV [W]=Ga (.bool true))(i0:gb W (.int 0)=Ga a0)(i2:gb W (.int 2)=Ga a2)(z0:oO a0=Ga h)(z2:oO a2=Ga a)(hs:og W (Ga 4) Gb=Ga s4)(ts:lq s4=Ga L)(hl:L.length<=1000000)
  (hc:gd (λ_=>Ga true) dG [] L=Ga ys) (hm:wR [.list ys]=Ga m):xG [W]=Ga (.tuple [h,a,m]):=by
 rw[Yt];unfold Nl;generalize BV=A at *;generalize wR=B at *;simp[hf,i0,i2,z0,z2,hs,ts,nR,Ge hl,hc,hm]
def zGs (x:Str)(h:4<=(sg x).length):mX x (Ga 4) Gb=gr ((sg x).drop 4):=by
 have e:mm x.length 0 (Ga 4)=4:=by
  unfold mm;dsimp only;rw[Gf (by decide),ib];omega
 unfold mX;rw[e];show gr (((sg x).drop 4).take (x.length-4))=_;rw[uh (by rw[uZ,ib];exact jw _)]
def MJ (k:Nat)(h:k<10):oO (one (48+k))=Ga (.int (k:Int)):=by
 unfold one;show(if (⟨#[48+k]⟩:Str).length<=640 then(intText? ⟨#[48+k]⟩).map jd else Gb)=_;have e:(⟨#[48+k]⟩:Str).length=1:=rfl;rw[Ge (by rw[e];decide)];have ad:AllDigits (⟨#[48+k]⟩:Str).cps.toList:=by
  intro c hc;have:c=48+k:=by simpa using hc
  omega
 rw[intText_digits ad (uo _ _) (by rw[e];decide)];have v:digitsVal (⟨#[48+k]⟩:Str).cps.toList=k:=by
  show 0*10+(48+k-48)=k;omega
 rw[v];rfl
def zwM (h a m:Nat)(h5:h<5)(a6:a<6)(hm:wR [.list ((iM m).map λ(k:Nat)=>jd (k:Int))]=Ga (.int (m:Int))):xG [.str (rC h a m)]=Ga (.tuple [.int (h:Int),.int (a:Int),.int (m:Int)]):=by
 have hL:(iM m).length<=5:=jI (ky _ _) (by decide);generalize hR:(iM m).map (48+·)=R;have hRl:R.length<=5:=by rwa[<- hR,jc]
 have hw:sg (rC h a m)=(48+h)::64::(48+a)::62::R:=by unfold rC;rw[hR];rfl
 have hlen:(rC h a m).length<=sizeLine:=by rw[ib,hw];exact jI (by show R.length+4<=9;omega) (by decide)
 have ix:∀ (j:Nat) (c:Nat),(sg (rC h a m))[j]?=Ga c->gb (.str (rC h a m)) (.int (j:Int))=Ga (one c):=by
  intro j c e;show(if _ then _ else _)=_;rw[Ge hlen,sr e];rfl
 have i0:=ix 0 (48+h) (by rw[hw];rfl);have i1:=ix 1 64 (by rw[hw];rfl);have i2:=ix 2 (48+a) (by rw[hw];rfl);have i3:=ix 3 62 (by rw[hw];rfl);have hs:og (.str (rC h a m)) (Ga 4) Gb=Ga (.str (gr R)):=by
  show(if _ then _ else _)=_;rw[Ge hlen,zGs _ (by rw[hw];show 4<=R.length+4;omega),hw];rfl
 have hk:ig (.str (rC h a m))=Ga (.int ((R.length+4:Nat):Int)):=by
  show(if _ then _ else _)=_;rw[Ge hlen,ib,hw];rfl
 have ne:∀ (c:Nat) (s:String),ja s=⟨#[c]⟩->gN (one c) (.str (ja s))=Ga (.bool false):=by
  intro c s e;unfold one;have o:=wI s;rw[e] at o ⊢;rw[Hr o o,Gc rfl];rfl
 have n1:=ne 64 "@" (by nofun);have n3:=ne 62 ">" (by nofun);have dR:∀ c∈R,48<=c/\c<=57:=by
  intro c hc;rw[<- hR] at hc;obtain⟨k,hk,rfl⟩:=jr.mp hc;have:=Dw m k hk;omega
 have zl:(10:Nat)<=sizeLine:=by decide
 have t1:fy (one (48+h)) (one (48+a))=Ga (.str (gr [48+h,48+a])):=by
  unfold one;show(if (⟨#[48+h]⟩:Str).length+(⟨#[48+a]⟩:Str).length<=sizeLine then Ga (jp ((⟨#[48+h]⟩:Str)++(⟨#[48+a]⟩:Str))) else Gb)=_;refine(Ge (show 1+1<=sizeLine by omega)).trans ?_;rfl
 have t2:fy (.str (gr [48+h,48+a])) (.str (gr R))=Ga (.str (gr ((48+h)::(48+a)::R))):=by
  show(if _ then _ else _)=_;rw[Ge (by rw[ib,ib,lg,lg];show 2+R.length<=sizeLine;omega)]
  congr 2
  refine sQ ?_;show(_++_:Array Nat).toList=_;rw[k8];rfl
 have ff:rR [.str (gr ((48+h)::(48+a)::R))]=Ga (.bool true):=by
  rw[QT _ (by show R.length+2<=1000;omega)]
  congr 2
  rw[Dz];intro c hc;rcases jo.mp hc with rfl|hc
  .omega
  rcases jo.mp hc with rfl|hc
  .omega
  exact dR c hc
 have f:=zET _ _ _ _ _ _ _ _ _ hk (Gd (by omega)) i0 i1 i2 i3 n1 n3 hs t1 t2 ff;have hc:gd (λ_=>Ga true) dG [] (R.map one)=Ga ((iM m).map λ(k:Nat)=>jd (k:Int)):=by
  rw[<- hR,jE];refine rW (one∘(48+·)) _ λk hk=>?_;have z:=MJ k (qd (Dw m k hk) (by decide));show gi oO eQ [.val (one (48+k))]=_;generalize one (48+k)=o at *;generalize (k:Int)=zz at *;simp[z]
 exact zEU _ _ _ _ _ _ _ _ _ f i0 i2 (MJ h (by omega)) (MJ a (by omega)) hs rfl (by rw[lg,jc];omega) hc hm
def zEV (R N F:D)(L1 L2 ys zs A B:List D)(Z:D)(i0:gb R (.int 0)=Ga N)(t0:lq N=Ga L1)(l1:L1.length<=1000000)(c1:gd (λ_=>Ga true) (gi fN eQ) [] L1=Ga ys)(a1:fy (.list ys) (.list [.str (ja "/")])=Ga (.list A))
  (i1:gb R (.int 1)=Ga F) (t1:lq F=Ga L2) (l2:L2.length<=1000000) (c2:gd (λ_=>Ga true) (fT tW dC) [] L2=Ga zs) (a2:fy (.list A) (.list zs)=Ga (.list B)) (j:mF (.str (ja " ")) B=Ga Z):pA [R]=Ga Z:=by
 rw[zpL];unfold Md;generalize tW=S at *;generalize jp (ja "/")=q1 at *;generalize jp (ja " ")=q2 at *;simp[i0,t0,nR,Ge l1,c1,a1,i1,t1,Ge l2,c2,a2,j]
def zEW (W:D)(ws L1 L2 ns fs:List D)(k:Int)(V1 V2 S:D)(h0:wY W (.str (ja " "))=Ga ws)(h1:mJ (.str (ja "/")) (.list ws)=Ga (.bool false))(h2:xz (.list ws) (.str (ja "/"))=Ga (.int k))
  (s1:og (.list ws) Gb (Ga k)=Ga V1) (t1:lq V1=Ga L1) (l1:L1.length<=1000000) (c1:gd (λ_=>Ga true) (fT yQ dC) [] L1=Ga ns)
  (s2:og (.list ws) (Ga (k+1)) Gb=Ga V2) (t2:lq V2=Ga L2) (l2:L2.length<=1000000) (c2:gd (λ_=>Ga true) (fT xG dC) [] L2=Ga fs)
  (hr:yR [.tuple [.tuple ns,.tuple fs]]=Ga (.bool true)) (hs:pA [.tuple [.tuple ns,.tuple fs]]=Ga S) (hne:gN S W=Ga (.bool false)):tm [W]=Ga (.tuple [.tuple ns,.tuple fs]):=by
 rw[zpM];unfold Mv;generalize yQ=A1 at *;generalize xG=A2 at *;generalize yR=A3 at *;generalize pA=A4 at *;generalize jp (ja "/")=q1 at *;generalize jp (ja " ")=q2 at *;simp[h0,h1,h2,s1,t1,nR,Ge l1,c1,s2,t2,Ge l2,c2,hr,hs,hne]
def F3:Type:=Nat×Nat×Nat
def td (f:F3):D:=.tuple [.int (f.1:Int),.int (f.2.1:Int),.int (f.2.2:Int)]
def nz (f:F3):Str:=rC f.1 f.2.1 f.2.2
def si (f:F3):Prop:=f.1<5/\f.2.1<6/\f.2.2<32
def iO (vs:List Int)(fs:List F3):List Str:=vs.map nt++[ja "/"]++fs.map nz
def iA (vs:List Int)(fs:List F3):Str:=ug (ja " ") (iO vs fs)
def rD (vs:List Int)(fs:List F3):D:=.tuple [.tuple (vs.map jd),.tuple (fs.map td)]
def yV (z:Int)(h0:-((10:Int)^60)<z)(h1:z<(10:Int)^60):fN (.int z)=Ga (.str (nt z)):=by
 have hb:z.natAbs<10^60:=by
  have e:((10:Int)^60)=((10^60:Nat):Int):=by norm_cast
  rw[e] at h0 h1;omega
 show(if _ then _ else _)=_;rw[Ge]
 .rfl
 .rcases uK z.natAbs with q|q
  .rw[q];decide
  .exact(Vk (by omega)).mpr (jx hb (by nofun))
def GH (z:Int)(h0:-((10:Int)^60)<z)(h1:z<(10:Int)^60):(nt z).length<=61:=by
 have hb:z.natAbs<10^60:=by
  have e:((10:Int)^60)=((10^60:Nat):Int):=by norm_cast
  rw[e] at h0 h1;omega
 have:=Ti _ hb;rw[ib,Nn];split
 .rw[jC];omega
 .omega
def Us (f:F3):(nz f).length<=61:=by
 rw[ib];unfold nz rC;rw[lg,je,jc];exact jI (JL (jI (ky _ _) (by decide:(jq 5).length<=5)) 4) (by decide)
def Uj (vs:List Int)(fs:List F3)(hv:∀ v∈vs,-((10:Int)^60)<v/\v<(10:Int)^60)(nv:vs.length<=5)(nf:fs.length<=5):JoinOk (ja " ") (iO vs fs)=true:=by
 have hB:∀ y∈iO vs fs,y.length<=61:=by
  intro y hy;unfold iO at hy;rcases jM.mp hy with hy|hy
  .rcases jM.mp hy with hy|hy
   .obtain⟨z,hz,rfl⟩:=jr.mp hy;exact GH z (hv z hz).1 (hv z hz).2
   .rw[jn.mp hy];decide +kernel
  .obtain⟨f,_,rfl⟩:=jr.mp hy;exact Us f
 have hn:(iO vs fs).length<=11:=by
  unfold iO;rw[je,je,jc,jc];show vs.length+1+fs.length<=11;omega
 have h1:(ja " ").length=1:=by nofun
 unfold JoinOk qD;rw[J7,h1];have s:=qX (iO vs fs) hB;have z:(1000:Nat)<=sizeLine:=by decide
 rw[Gd (by omega)];rfl
def Sb (xs ys:List Str)(h:xs.length+ys.length<=1000):fy (.list (xs.map jp)) (.list (ys.map jp))=Ga (.list ((xs++ys).map jp)):=by
 show(if _ then _ else _)=_;rw[Ge (by rw[jc,jc];exact jI h (by decide)),kr]
def Rn (vs:List Int)(P:Int->Prop)(hs:∀ z,P z->fN (.int z)=Ga (.str (nt z)))(hv:∀ v∈vs,P v):gd (λ_=>Ga true) (gi fN eQ) [] (vs.map jd)=Ga ((vs.map nt).map jp):=by
 rw[jE];refine rW jd (jp∘nt) λz hz=>?_;have e:=hs z (hv z hz);show gi fN eQ [.val (.int z)]=Ga (.str (nt z));generalize nt z=y at *;simp[e]
def zzF (A:List D->Option D)(T Y:D)(h:A [T]=Ga Y):fT A dC [.val T]=Ga Y:=by
 simp[h]
def FZ(A:List D->Option D)(t:α->D)(y:α->D)(fs:List α)(hs:∀ f∈fs,A [t f]=Ga (y f)):gd (λ_=>Ga true) (fT A dC) [] (fs.map t)=Ga (fs.map y) :=
 rW t y λf h=>zzF A _ _ (hs f h)
def zEX (fs:List F3)(hs:∀ f∈fs,tW [td f]=Ga (.str (nz f))):gd (λ_=>Ga true) (fT tW dC) [] (fs.map td)=Ga ((fs.map nz).map jp):=by
 rw[jE];exact FZ tW td (jp∘nz) fs hs
def Tp (vs:List Int)(fs:List F3)(h:JoinOk (ja " ") (iO vs fs)=true):mF (.str (ja " ")) ((iO vs fs).map jp)=Ga (.str (iA vs fs)):=by
 show(mw _).bind _=_;rw[EE,jh,Ge h];rfl
def XG (vs:List Int)(fs:List F3)(nv:vs.length<=5)(nf:fs.length<=5)(c1:gd (λ_=>Ga true) (gi fN eQ) [] (vs.map jd)=Ga ((vs.map nt).map jp))(c2:gd (λ_=>Ga true) (fT tW dC) [] (fs.map td)=Ga ((fs.map nz).map jp))
  (j:mF (.str (ja " ")) ((iO vs fs).map jp)=Ga (.str (iA vs fs))):pA [rD vs fs]=Ga (.str (iA vs fs)):=by
 have a1:fy (.list ((vs.map nt).map jp)) (.list [.str (ja "/")])=Ga (.list ((vs.map nt++[ja "/"]).map jp)):=Sb (vs.map nt) [ja "/"] (by rw[jc,jU];omega);have a2:=Sb (vs.map nt++[ja "/"]) (fs.map nz) (by rw[je,jc,jc,jU];omega);have l1:(vs.map jd).length<=1000000:=by rw[jc];omega
 have l2:(fs.map td).length<=1000000:=by rw[jc];omega
 have i0:gb (rD vs fs) (.int 0)=Ga (.tuple (vs.map jd)):=rfl;have i1:gb (rD vs fs) (.int 1)=Ga (.tuple (fs.map td)):=rfl;have j':mF (.str (ja " ")) ((vs.map nt++[ja "/"]++fs.map nz).map jp)=Ga (.str (iA vs fs)):=j;generalize rD vs fs=R at *;generalize iA vs fs=X at *;exact zEV R _ _ _ _ _ _ _ _ _ i0 rfl l1 c1 a1 i1 rfl l2 c2 a2 j'
def WS (vs:List Int)(fs:List F3)(hv:∀ v∈vs,-((10:Int)^60)<v/\v<(10:Int)^60)(nv:vs.length<=5)(nf:fs.length<=5)(hf:∀ f∈fs,si f)
  (KP:∀ m:Nat,m<32->rp [.int (m:Int)]=Ga ((iM m).map λ(k:Nat)=>jd (k:Int))):pA [rD vs fs]=Ga (.str (iA vs fs)) :=
 XG vs fs nv nf (Rn vs _ (λz h=>yV z h.1 h.2) hv) (zEX fs λf h=>zwL f.1 f.2.1 f.2.2 (hf f h).1 (hf f h).2.1 (hf f h).2.2 (KP _ (hf f h).2.2)) (Tp vs fs (Uj vs fs hv nv nf))
def QQ (z:Int):∀ c∈sg (nt z),c=45\/(48<=c/\c<=57):=by
 intro c hc;rw[Nn] at hc;split at hc
 .rcases jo.mp hc with h|h
  .exact .inl h
  .exact .inr (DH _ c h)
 .exact .inr (DH _ c hc)
def Rc (f:F3)(h:si f):∀ c∈sg (nz f),c=64\/c=62\/(48<=c/\c<=57):=by
 intro c hc;unfold nz rC at hc;rw[lg] at hc;have:=h.1;have:=h.2.1;rcases jM.mp hc with q|q
 .simp only[jo,j8,or_false] at q;omega
 .obtain⟨k,hk,rfl⟩:=jr.mp q;have:=Dw _ k hk;omega
def Yu (vs:List Int)(fs:List F3)(hf:∀ f∈fs,si f):∀ w∈iO vs fs,32∉sg w:=by
 intro y hy hc;unfold iO at hy;rcases jM.mp hy with hy|hy
 .rcases jM.mp hy with hy|hy
  .obtain⟨z,_,rfl⟩:=jr.mp hy;have:=QQ z 32 hc;omega
  .rw[jn.mp hy] at hc;exact absurd hc (by nofun)
 .obtain⟨f,h,rfl⟩:=jr.mp hy;have:=Rc f (hf f h) 32 hc;omega
def zwO (vs:List Int)(fs:List F3)(hf:∀ f∈fs,si f):um (iA vs fs) (ja " ")=iO vs fs:=by
 have e:ja " "=⟨#[32]⟩:=by nofun
 have ne:iO vs fs≠[]:=by
  unfold iO;intro h;have:=(qg.mp h).1;cases(qg.mp this).2
 unfold iA;rw[e];exact Qt 32 _ ne (Yu vs fs hf)
def zzI (vs:List Int):ja "/"∉vs.map nt:=by
 intro h;obtain⟨z,_,e⟩:=jr.mp h;have c:(47:Nat)∈sg (nt z):=by rw[e];decide +kernel
 have:=QQ z 47 c;omega
def Hi (vs:List Int)(fs:List F3):iO vs fs=vs.map nt++(ja "/"::fs.map nz):=by
 unfold iO;rw[j3];rfl
def XW (vs:List Int)(fs:List F3):(iO vs fs).idxOf (ja "/")=vs.length:=by
 rw[Hi,List.idxOf_append,Gf (zzI vs),List.idxOf_cons_self,jc,vg]
def Ak (vs:List Int)(fs:List F3):(iO vs fs).length=vs.length+(fs.length+1):=by
 rw[Hi,je,jc,jC,jc]
def zwP (vs:List Int)(fs:List F3):xz (.list ((iO vs fs).map jp)) (.str (ja "/"))=Ga (.int (vs.length:Int)):=by
 show(mw _).bind _=_;rw[EE,jh,XW,Ge (by rw[Ak];omega)]
def zE0 (vs:List Int)(fs:List F3)(hf:∀ f∈fs,si f)(n2:2<=vs.length)(nv:vs.length<=5)(nf:fs.length<=5)(hl:(iA vs fs).length<=sizeLine):wY (.str (iA vs fs)) (.str (ja " "))=Ga ((iO vs fs).map jp):=by
 have s:=zwO vs fs hf;have z:(1000:Nat)<=sizeLine:=by decide
 have ok:tK (iA vs fs) (ja " ")=true:=by
  unfold tK;have l1:(ja " ").length=1:=by nofun
  have pb:(uv (iA vs fs) (jT (iA vs fs) (ja " ") 0 (iA vs fs).length ((iA vs fs).length+1)) (ja " ").length)=iO vs fs:=by
   have s':=s;unfold um at s';split at s'
   .have:=congrArg uF s';rw[Ak,jU] at this;omega
   .split at s'
    .have:=congrArg uF s';rw[Ak,jU] at this;omega
    .exact s'
  rw[pb,s,Ak,Gc hl,Gc (by omega:vs.length+(fs.length+1)<=sizeLine),l1];rfl
 show(if _ then _ else _)=_;rw[Ge ok,s]
def RP:∀ l:List Str,(∀ x∈l,kM x=true)->kq (l.map jp)=true
 | [],_=>rfl
 | x::r,h=>by
  show(kM x&&kq (r.map jp))=true;rw[h x jf,RP r λy hy=>h y (jk _ hy)];rfl
def RY (vs:List Int)(fs:List F3)(hf:∀ f∈fs,si f):∀ w∈iO vs fs,kM w=true:=by
 intro y hy;unfold iO at hy;rcases jM.mp hy with hy|hy
 .rcases jM.mp hy with hy|hy
  .obtain⟨z,_,rfl⟩:=jr.mp hy;exact wI _
  .rw[jn.mp hy];exact wI _
 .obtain⟨f,h,rfl⟩:=jr.mp hy;refine(BU _).mpr λc hc=>?_;have:=Rc f (hf f h) c hc;omega
def Zf (vs:List Int)(fs:List F3)(hf:∀ f∈fs,si f):mJ (.str (ja "/")) (.list ((iO vs fs).map jp))=Ga (.bool false):=by
 have ok:pv (.str (ja "/")) ((iO vs fs).map jp)=true:=by
  unfold pv;have c:(jp (ja "/")).canLay0=true:=wI _;have d:(jp (ja "/")).depth=0:=by rfl
  rw[c,RP _ (RY vs fs hf),d,Nat.min_zero];rfl
 have an:(((iO vs fs).map jp).any λy=>ku y (.str (ja "/")))=true:=by
  rw[u8];refine⟨.str (ja "/"),jr.mpr ⟨_,?_,rfl⟩,?_⟩
  .rw[Hi];exact jD _ jf
  .show(ja "/"==ja "/")=true;exact beq_self_eq_true _
 show(if pv (.str (ja "/")) ((iO vs fs).map jp)=true then Ga (jS (!((iO vs fs).map jp).any λy=>ku y (.str (ja "/")))) else Gb)=_;rw[Ge ok,an];rfl
def zE1 (vs:List Int)(fs:List F3):og (.list ((iO vs fs).map jp)) Gb (Ga (vs.length:Int))=Ga (.list ((vs.map nt).map jp)):=by
 rw[LO];unfold T3.cutD;rw[HT.sIx_none,HT.sIx_nat,qe,qH,jc,Ak,Nat.min_eq_left (by omega),Hi,<- List.map_take,Jx (jc ..)]
def YR (vs:List Int)(fs:List F3):og (.list ((iO vs fs).map jp)) (Ga ((vs.length:Int)+1)) Gb=Ga (.list ((fs.map nz).map jp)):=by
 have e:((vs.length:Int)+1)=((vs.length+1:Nat):Int):=by omega
 have w:iO vs fs=(vs.map nt++[ja "/"])++fs.map nz:=rfl;rw[LO,e];unfold T3.cutD;rw[HT.sIx_none,HT.sIx_nat,jc,Ak,Nat.min_eq_left (by omega),w,<- List.map_drop,Jy (by rw[je,jc];rfl)];rw[uh (by rw[jc,jc];omega)]
def zzJ (vs:List Int)(fs:List F3)(hv:∀ v∈vs,-((10:Int)^60)<v/\v<(10:Int)^60)(n2:2<=vs.length)(nv:vs.length<=5)(nf:fs.length<=5)(hf:∀ f∈fs,si f)(hl:(iA vs fs).length<=sizeLine)(hx:kM (iA vs fs)=true)
  (hr:yR [rD vs fs]=Ga (.bool true)) (hs:pA [rD vs fs]=Ga (.str (iA vs fs)))
  (hm:∀ m:Nat,m<32->wR [.list ((iM m).map λ(k:Nat)=>jd (k:Int))]=Ga (.int (m:Int))):tm [.str (iA vs fs)]=Ga (rD vs fs):=by
 have c1:gd (λ_=>Ga true) (fT yQ dC) [] ((vs.map nt).map jp)=Ga (vs.map jd):=by
  rw[jE];exact FZ yQ (jp∘nt) jd vs λz hz=>zCg z (hv z hz).1 (hv z hz).2
 have c2:gd (λ_=>Ga true) (fT xG dC) [] ((fs.map nz).map jp)=Ga (fs.map td):=by
  rw[jE];exact FZ xG (jp∘nz) td fs λf h=>zwM f.1 f.2.1 f.2.2 (hf f h).1 (hf f h).2.1 (hm _ (hf f h).2.2)
 have ne:gN (.str (iA vs fs)) (.str (iA vs fs))=Ga (.bool false):=by
  rw[Hr hx hx,Gc rfl];rfl
 have l1:((vs.map nt).map jp).length<=1000000:=by rw[jc,jc];omega
 have l2:((fs.map nz).map jp).length<=1000000:=by rw[jc,jc];omega
 exact zEW _ _ _ _ _ _ _ _ _ _ (zE0 vs fs hf n2 nv nf hl) (Zf vs fs hf) (zwP vs fs) (zE1 vs fs) rfl l1 c1 (YR vs fs) rfl l2 c2 hr hs ne
def Ig (c d:Nat):∀ ws:List Str,d∈sg (uQ ⟨#[c]⟩ ws)->d=c\/∃ w∈ws,d∈sg w
 | [],h=>by cases h
 | [x],h=>.inr ⟨x,jf,h⟩
 | x::y::r,h=>by
  rw[xC] at h;rcases jM.mp h with q|q
  .exact .inr ⟨x,jf,q⟩
  .rcases jo.mp q with q|q
   .exact .inl q
   .rcases Ig c d (y::r) q with q|⟨w,hw,q⟩
    .exact .inl q
    .exact .inr ⟨w,jk _ hw,q⟩
def Nf (vs:List Int)(fs:List F3)(hf:∀ f∈fs,si f):kM (iA vs fs)=true:=by
 refine(BU _).mpr λd hd=>?_;have e:ja " "=⟨#[32]⟩:=by nofun
 have r:iA vs fs=uQ ⟨#[32]⟩ (iO vs fs):=by
  unfold iA;rw[e];exact ua _ _
 rw[r] at hd;rcases Ig 32 d _ hd with q|⟨w,hw,q⟩
 .omega
 .exact(BU w).mp (RY vs fs hf w hw) d q
def UH (vs:List Int)(fs:List F3)(hv:∀ v∈vs,-((10:Int)^60)<v/\v<(10:Int)^60)(nv:vs.length<=5)(nf:fs.length<=5):(iA vs fs).length<=1000:=by
 have hB:∀ y∈iO vs fs,y.length<=61:=by
  intro y hy;unfold iO at hy;rcases jM.mp hy with hy|hy
  .rcases jM.mp hy with hy|hy
   .obtain⟨z,hz,rfl⟩:=jr.mp hy;exact GH z (hv z hz).1 (hv z hz).2
   .rw[jn.mp hy];decide +kernel
  .obtain⟨f,_,rfl⟩:=jr.mp hy;exact Us f
 have h1:(ja " ").length=1:=by nofun
 have s:=qX (iO vs fs) hB;have j:=StrLaws.join_length_le (ja " ") (iO vs fs);have r:iA vs fs=uQ (ja " ") (iO vs fs):=ua _ _;have n:=Ak vs fs;rw[r];rw[h1] at j;omega
end
def Sg (a:Sl):∀ (ds:List D) (b:Int) (x:Sl),∃ x',gk (iB 2) (gC 1 (fG iT (gv 1) (fU (.int 2)))) ds [a,.val (.int b),x]=Ga (.nx [a,.val (.int (b*2^ds.length)),x'])
 | [],b,x=>⟨x,by simp[gk]at⊢⟩
 | d::r,b,x=>by
  obtain⟨x',e⟩:=Sg a r (b*2) (.val d);refine⟨x',?_⟩;have hm:iT (.int b) (.int 2)=Ga (.int (b*2)):=by simp[iT,dI,sJ]at⊢
  unfold gk;simp only[iB,gC,fG,fU,gv,List.set_cons_succ,List.set_cons_zero,va,List.getElem?_cons_zero,jh,hm];rw[show(fG iT (gv 1) (fU (.int 2)):FV)=λψ=>(gv 1 ψ).bind λx=>(fU (.int 2) ψ).bind λy=>iT x y from rfl] at e;refine e.trans ?_;rw[jC,Int.pow_succ',Int.mul_assoc]
def Lg (n:Int)(h0:0<=n)(h1:n<1000):xN [.int n]=Ga (.int (2^n.toNat)):=by
 show fY (Ll [.val (.int n),.no,.no])=_;have hr:gO (.int n)=Ga (ip 0 n.toNat):=by unfold gO;dsimp only;rw[Ge (by constructor<;>omega)]
 obtain⟨x',e⟩:=Sg (.val (.int n)) (ip 0 n.toNat) 1 .no;have hl:(ip 0 n.toNat).length=n.toNat:=by simp[ip]at⊢
 rw[hl,Int.one_mul] at e;unfold Ll;have e1:gC 1 (fU (.int 1)) [.val (.int n),.no,.no]=Ga (.nx [.val (.int n),.val (.int 1),.no]):=rfl;have e2:mj (iJ gO (gv 0)) (iB 2) (gC 1 (fG iT (gv 1) (fU (.int 2)))) [.val (.int n),.val (.int 1),.no]=Ga (.nx [.val (.int n),.val (.int (2^n.toNat)),x']):=by
  show(gO (.int n)).bind (λds=>gk _ _ ds _)=_;rwa[hr]
 show fY (mK (gC 1 (fU (.int 1)) [.val (.int n),.no,.no]) _)=_;rw[e1];show fY (mK (mj (iJ gO (gv 0)) (iB 2) (gC 1 (fG iT (gv 1) (fU (.int 2)))) [.val (.int n),.val (.int 1),.no]) _)=_;rw[e2];rfl
def SJ (m h:Int)(h0:0<=h)(h1:h<1000):rH [.int m,.int h]=Ga (.bool (!(uX m (2^h.toNat)==0))):=by
 refine congrArg fY (mQ (ψ:=[.val (.int m),.val (.int h)]) ((iV ((iV rfl ((lZ rfl).trans (Lg h h0 h1))).trans rfl) rfl).trans ?_));exact Ik _ _
structure Fl where
 h:Nat
 a:Int
 m:Nat
def fd (f:Fl):D:=.tuple [.int f.h,.int f.a,.int f.m]
def rd (ns:List D)(fs:List Fl):D:=.tuple [.tuple ns,.tuple (fs.map fd)]
def zzK:∀ (m:Fin 32) (h:Fin 5),(!(uX (m.val:Int) (2^h.val)==0))=decide ((m.val:Int)/(2^h.val)%2=1):=by nofun
def Mn (m h:Nat)(hm:m<32)(hh:h<5):rH [.int m,.int h]=Ga (.bool (decide ((m:Int)/(2^h)%2=1))):=by
 rw[SJ _ _ (by omega) (by omega),jN];exact congrArg (λb=>Ga (jS b)) (zzK ⟨m,hm⟩ ⟨h,hh⟩)
variable {h n x s:Nat}{i j:Int}{ψ:En}{f:Fl}{fs X r:List Fl}{g:FV}{xs ns:List D}{S T a0 a1:D}
def EC(hh:h<5):lz [.int h]=Ga (.int (2^h:Int)):=by
 match h,hh with
 | 0,_=>rfl
 | 1,_=>rfl
 | 2,_=>rfl
 | 3,_=>rfl
 | 4,_=>rfl
def Gq(hh:h<5):(0:Int)<2^h/\(2:Int)^h<1073741824:=by
 match h,hh with
 | 0,_=>decide
 | 1,_=>decide
 | 2,_=>decide
 | 3,_=>decide
 | 4,_=>decide
def Gp(h1:-(2^64)<i)(h2:i<2^64):sJ i j=true:=by unfold sJ;rw[Gc h1,Gc h2];rfl
def Ql(h1:-(2^64)<j)(h2:j<2^64):sJ i j=true:=by unfold sJ;rw[Gc h1,Gc h2,Bool.and_self,Bool.or_true]
def TH(h:(decide (0<=j)&&decide (j<=1000000)&&decide (i.natAbs<2^64))=true):lj (.int i) (.int j)=Ga (.int (i^j.toNat)):=by
 show(if _ then _ else _)=_;rw[Ge h]
def zzL (c:Int)(k:Int)(h0:0<=k)(h1:k<100):∃ x:Int,tH [.int c,.int k]=Ga (.int x):=by
 generalize hv:(c%(10^64)*48271+k*k*7919+11)%2147483647=v;have hv0:0<=v:=by rw[<- hv];exact kP _ (by decide)
 have hv1:v<2147483647:=by rw[<- hv];exact kg _ (by decide)
 refine⟨v*v%2147483629,?_⟩;show fY (Kw [.val (.int c),.val (.int k),.no])=_;unfold Kw;have p10:fG lj (fU (.int 10)) (fU (.int 64)) [.val (.int c),.val (.int k),.no]=Ga (.int (10^64)):=(iV (a:=.int 10) (b:=.int 64) rfl rfl).trans (TH (by decide));have m1:fG iT (fG fW (gv 0) (fG lj (fU (.int 10)) (fU (.int 64)))) (fU (.int 48271)) [.val (.int c),.val (.int k),.no]=Ga (.int (c%(10^64)*48271)) :=
  (iV (a:=.int (c%(10^64))) (b:=.int 48271) ((iV (a:=.int c) rfl p10).trans (nq (by decide))) rfl).trans (Cb (Ql (by decide) (by decide)))
 have m2:fG iT (fG iT (gv 1) (gv 1)) (fU (.int 7919)) [.val (.int c),.val (.int k),.no]=Ga (.int (k*k*7919)) :=
  (iV (a:=.int (k*k)) (b:=.int 7919) ((iV (a:=.int k) (b:=.int k) rfl rfl).trans (Cb (Gp (by omega) (by omega)))) rfl).trans (Cb (Ql (by decide) (by decide)))
 have m3:fG fW (fG fy (fG fy (fG iT (fG fW (gv 0) (fG lj (fU (.int 10)) (fU (.int 64)))) (fU (.int 48271))) (fG iT (fG iT (gv 1) (gv 1)) (fU (.int 7919)))) (fU (.int 11))) (fU (.int 2147483647)) [.val (.int c),.val (.int k),.no]=Ga (.int v) :=
  (iV (a:=.int (c%(10^64)*48271+k*k*7919+11)) (b:=.int 2147483647) ((iV (a:=.int (c%(10^64)*48271+k*k*7919)) (b:=.int 11) ((iV m1 m2).trans rfl) rfl).trans rfl) rfl).trans ((nq (by decide)).trans (congrArg (λz=>Ga (jd z)) hv))
 rw[iw (e:=[.val (.int c),.val (.int k),.val (.int v)]) (tu m3)];rw[mQ (d:=.int (v*v%2147483629)) ((iV (a:=.int (v*v)) (b:=.int 2147483629) ((iV (a:=.int v) (b:=.int v) rfl rfl).trans (Cb (Gp (by omega) (by omega)))) rfl).trans (nq (by decide)))];rfl
def Yb(hh:h<5):(2:Int)^h<=16:=by
 match h,hh with
 | 0,_=>decide
 | 1,_=>decide
 | 2,_=>decide
 | 3,_=>decide
 | 4,_=>decide
def yP:∀ (n:Nat) (l:List Nat),l.Nodup->(∀ x∈l,x<n)->l.length<=n
 | 0,[],_,_=>jw _
 | 0,x::r,_,h=>absurd (h x jf) (Jw _)
 | n+1,l,nd,h=>by
  by_cases hm:n∈l
  .have ih:=yP n (l.erase n) (nd.erase n) (λx hx=>by
    have h1:=(nd.mem_erase_iff.mp hx);have h2:=h x h1.2;have h3:=h1.1;omega)
   rw[List.length_erase_of_mem hm] at ih;omega
  .have ih:=yP n l nd (λx hx=>by
    have h2:=h x hx;have h3:x≠n:=λe=>hm (e▸hx);omega)
   omega
def GB (ns:List Int)(k:Nat):∃ c:Int,mz [.list (ns.map jd),.int k]=Ga (.int c):=by
 show ∃ c:Int,fY (KF [.val (.list (ns.map jd)),.val (.int k)])=Ga (.int c);unfold KF;have cc:gJ mq (gv 1) (un gZ (gv 0)) (frz [.val (.list (ns.map jd)),.val (.int k)])=Ga (decide ((k:Int)<((ns.map jd).length:Int))):=pN (x:=.int k) (y:=.int ((ns.map jd).length:Int)) rfl rfl rfl;by_cases q:(k:Int)<((ns.map jd).length:Int)
 .have hk:k<ns.length:=by rw[jc] at q;omega
  refine⟨ns[k],?_⟩;rw[wJ (d:=.int ns[k]) ((pq (cc.trans (congrArg Ga (Gc q)))).trans (mQ ((iV (a:=.list (ns.map jd)) (b:=.int k) rfl rfl).trans (wP (by rw[jz,jg hk];rfl)))))];rfl
 .exact⟨0,by rw[iw (rL (cc.trans (congrArg Ga (Gd q))))];rfl⟩
def Ds(h:n<1000000):gO (.int (n:Int))=Ga ((jq n).map λ(k:Nat)=>.int (k:Int)):=by
 rw[xQ h];unfold ip;simp
def Gx:lj (.int 10) (.int 60)=Ga (.int ((10:Int)^60)):=by
 show(if (decide ((0:Int)<=60)&&decide ((60:Int)<=1000000)&&decide ((10:Int).natAbs<2^64))=true then Ga (jd ((10:Int)^(60:Int).toNat)) else Gb)=_;rw[Ge (by decide)];rfl
def zGt {t:FT}{g k:FS}{f:Nat->D}(Q:Option oj->Prop)(n:Nat)(I:Nat->En->Prop)(h0:I 0 ψ)(st:∀ k,k<n->∀ ψ,I k ψ->pz (I (k+1)) ((t (f k) ψ).bind g))(q:∀ e,I n e->Q (k e)):Q (mK (gk t g ((jq n).map f) ψ) k):=by
 have G:=Rl I n st n 0 ψ (vg n) h0;rw[<- vG] at G;obtain⟨e,e1,e2⟩:=G;rw[e1];exact q e e2
def Wh:D->Bool
 | .int _=>true
 | _=>false
def Xi (d:D):wB [d]=Ga (.bool (Wh d)):=by cases d<;>rfl
def VF:D->Bool
 | .int x=>decide (-((10:Int)^60)<x)&&decide (x<(10:Int)^60)
 | _=>false
def ajv:D->Bool
 | .tuple xs=>(decide (2<=(xs.length:Int))&&decide ((xs.length:Int)<=5))&&xs.all VF
 | _=>false
def zCl (q:Int){n:Int}(h:0<n):0<=q%n/\q%n<n:=⟨kP _ (by omega),kg _ h⟩
def zzN (ns:List Int):∃ cs:List Int,cs.length=6/\gd (λ_=>Ga true) (fT mz (fE (gv 1) (fE (fv fy (fx (.int 1)) (gv 0)) gc))) [.val (.list (ns.map jd))] ((jq 6).map λ(k:Nat)=>.int (k:Int))=Ga (cs.map jd):=by
 have h:∀ k:Nat,∃ c:Int,fT mz (fE (gv 1) (fE (fv fy (fx (.int 1)) (gv 0)) gc)) [.val (.int (k:Int)),.val (.list (ns.map jd))]=Ga (.int c):=λk=>by
  obtain⟨c,hc⟩:=GB ns (1+k);refine⟨c,?_⟩;have key:∀ (S:D) (kk:Int),mz [S,.int (1+kk)]=Ga (.int c)->fT mz (fE (gv 1) (fE (fv fy (fx (.int 1)) (gv 0)) gc)) [.val (.int kk),.val S]=Ga (.int c):=λS kk h=>by
   generalize mz=A1 at *;simp[h]
  exact key _ _ (by rwa[show(1:Int)+(k:Int)=((1+k:Nat):Int) by omega])
 obtain⟨F,hF⟩:=Vh.mp h;refine⟨(jq 6).map F,by rw[jc,jV],?_⟩;rw[rW (λ(k:Nat)=>jd (k:Int)) (λk=>jd (F k)) λk _=>hF k,jE];rfl
def iC (fs:List Fl)(h:Nat):Option Fl:=fs.find? λf=>f.h==h
def Lk(nd:(fs.map Fl.h).Nodup)(hf:f∈fs):iC fs f.h=Ga f:=by
 unfold iC;induction fs with
 | nil=>cases hf
 | cons g fs ih =>
  rw[jO,kO] at nd;rcases jo.mp hf with rfl|hf
  .rw[uj (by exact beq_self_eq_true _)]
  .rw[uD,ih nd.2 hf];intro z;rw[beq_iff_eq] at z;exact nd.1 (by rw[z];exact JM hf)
def pH (X:List Fl):List Fl:=(jq 5).filterMap λi=>iC X i
def QR {Y:List Fl}(nd:(X.map Fl.h).Nodup)(hY:∀ y∈Y,y∈X)(hs:Y.map Fl.h=(jq 5).filter λi=>(X.map Fl.h).contains i):Y=pH X:=by
 have e1:∀ Y:List Fl,(∀ y∈Y,y∈X)->Y=(Y.map Fl.h).filterMap λi=>iC X i:=by
  intro Y;induction Y with
  | nil=>exact λ_=>rfl
  | cons y Y ih =>
   intro h;rw[jO,uT (Lk nd (h y jf)),<- ih λz hz=>h z (jk _ hz)]
 rw[e1 Y hY,hs];unfold pH;have e2:∀ l:List Nat,(l.filter λi=>(X.map Fl.h).contains i).filterMap (λi=>iC X i)=l.filterMap λi=>iC X i:=by
  intro l;induction l with
  | nil=>rfl
  | cons i l ih =>
   by_cases c:(X.map Fl.h).contains i=true
   .rw[u5 c];cases e:iC X i with
    | none=>rwa[uU e,uU e]
    | some f=>rw[uT e,uT e,ih]
   .rw[v8 c,ih];have:iC X i=Gb:=by
     unfold iC;refine v4.mpr λf hf z=>c ?_;rw[beq_iff_eq] at z;rw[kK,<- z];exact JM hf
    rw[uU this]
 exact e2 _
def xn (hs:List Nat):Bool:=match oH (λi j=>Ga (decide (hs.getD i 0<hs.getD j 0))) (uI hs.length) with
 | some p=>decide (p.size<=64)&&decide (p.toList.map (λi=>hs.getD i 0)=(jq 5).filter λi=>hs.contains i)&&p.toList.all λi=>decide (i<hs.length)
 | none=>false
def Ws:∀ a b:Fin 5,[a.val,b.val].Nodup->xn [a.val,b.val]=true:=by nofun
def WC:∀ a b c:Fin 5,[a.val,b.val,c.val].Nodup->xn [a.val,b.val,c.val]=true:=by nofun
def Wo:∀ a b c d:Fin 5,[a.val,b.val,c.val,d.val].Nodup->xn [a.val,b.val,c.val,d.val]=true:=by nofun
def Wz:∀ a b c d e:Fin 5,[a.val,b.val,c.val,d.val,e.val].Nodup->xn [a.val,b.val,c.val,d.val,e.val]=true:=by nofun
def zCm {hs:List Nat}(h2:2<=hs.length)(h5:hs.length<=5)(nd:hs.Nodup)(hb:∀ h∈hs,h<5):xn hs=true:=by
 match hs,h2,h5,nd,hb with
 | [a,b],_,_,nd,hb=>exact Ws ⟨a,hb a (by simp only[jo,true_or])⟩ ⟨b,hb b (by simp only[jo,true_or,or_true])⟩ nd
 | [a,b,c],_,_,nd,hb=>exact WC ⟨a,hb a (by simp only[jo,true_or])⟩ ⟨b,hb b (by simp only[jo,true_or,or_true])⟩ ⟨c,hb c (by simp only[jo,true_or,or_true])⟩ nd
 | [a,b,c,d],_,_,nd,hb=>exact Wo ⟨a,hb a (by simp only[jo,true_or])⟩ ⟨b,hb b (by simp only[jo,true_or,or_true])⟩ ⟨c,hb c (by simp only[jo,true_or,or_true])⟩ ⟨d,hb d (by simp only[jo,true_or,or_true])⟩ nd
 | [a,b,c,d,e],_,_,nd,hb=>exact Wz ⟨a,hb a (by simp only[jo,true_or])⟩ ⟨b,hb b (by simp only[jo,true_or,or_true])⟩ ⟨c,hb c (by simp only[jo,true_or,or_true])⟩ ⟨d,hb d (by simp only[jo,true_or,or_true])⟩ ⟨e,hb e (by simp only[jo,true_or,or_true])⟩ nd
 | a::b::c::d::e::f::r,_,h5,_,_=>simp only[jC] at h5;omega
def LN {n:Nat}{lt lt':Nat->Nat->Option Bool}(h:∀ i j,i<n->j<n->lt i j=lt' i j):∀ {t:Jm (Array Nat)},AL n t=true->oH lt t=oH lt' t
 | .ret p,_=>rfl
 | .ask i j k,c=>by
  unfold AL at c;rw[jl,jl,jl,decide_eq_true_eq,decide_eq_true_eq] at c;obtain⟨⟨⟨h1,h2⟩,h3⟩,h4⟩:=c;show(lt i j).bind _=(lt' i j).bind _;rw[h i j h1 h2];cases lt' i j with
  | none=>rfl
  | some b =>
   show oH lt (k b)=oH lt' (k b);cases b with
   | true=>exact LN h h3
   | false=>exact LN h h4
def f0:Fl:=⟨0,0,0⟩
def zGu {g:Fl}(h:f=g\/f.h≠g.h):Ac (fd f) (fd g)=Ga (decide (f.h<g.h)):=by
 have e:Ac (fd f) (fd g)=Ga (oI [(f.h:Int),f.a,(f.m:Int)] [(g.h:Int),g.a,(g.m:Int)]):=Se [(f.h:Int),f.a,(f.m:Int)] [(g.h:Int),g.a,(g.m:Int)];rw[e];refine congrArg Ga ?_;rcases h with rfl|h
 .rw[Gd (kb _)];unfold oI;rw[Ge (beq_self_eq_true _)];unfold oI;rw[Ge (beq_self_eq_true _)];unfold oI;rw[Ge (beq_self_eq_true _)];rfl
 .unfold oI;rw[Gf (by rw[beq_iff_eq];omega)];by_cases c:f.h<g.h
  .rw[Gc c,Gc (by omega)]
  .rw[Gd c,Gd (by omega)]
def zzO (g:Fl->D)(hlt:∀ f f':Fl,f=f'\/f.h≠f'.h->Ac (g f) (g f')=Ga (decide (f.h<f'.h)))(hok:∀ X:List Fl,oQ (X.map g)=true)(hl:X.length<=5)(nd:(X.map Fl.h).Nodup)(hb:∀ f∈X,f.h<5):iU (X.map g)=Ga ((pH X).map g):=by
 by_cases h2:X.length<2
 .have e:iU (X.map g)=Ga (X.map g):=by unfold iU;rw[Ge (by rwa[jc])]
  rw[e,<- QR nd (λ_ h=>h)]
  match X,h2,hb with
  | [],_,_=>rfl
  | [f],_,hb =>
   have:f.h<5:=hb f jf;have key:∀ a:Fin 5,[a.val]=(jq 5).filter λi=>[a.val].contains i:=by nofun
   exact key ⟨f.h,this⟩
  | _::_::_,h,_=>simp only[jC] at h;omega
 .have hs:xn (X.map Fl.h)=true:=zCm (by rw[jc];omega) (by rwa[jc]) nd λh hh=>by
   obtain⟨f,hf,rfl⟩:=jr.mp hh;exact hb f hf
  unfold xn at hs;split at hs;rotate_left
  .cases hs
  rename_i p hp;rw[jl,jl,decide_eq_true_eq,decide_eq_true_eq,jR] at hs;obtain⟨⟨p1,p2⟩,p3⟩:=hs;rw[jc] at hp p3;have getX:∀ i,i<X.length->∃ f,X[i]?=Ga f/\f∈X/\(X.map Fl.h).getD i 0=f.h/\(X.map g)[i]?=Ga (g f):=λi hi=>⟨X[i],jg hi,k0 hi,by rw[ji,jz,jg hi];rfl,by rw[jz,jg hi];rfl⟩;have cg:oH (xp (X.map g)) (uI X.length)=Ga p:=by
   rw[<- hp];refine LN (n:=X.length) (λi j hi hj=>?_) (zx3 _ (by omega));obtain⟨f,f1,f2,f3,f4⟩:=getX i hi;obtain⟨f',g1,g2,g3,g4⟩:=getX j hj;unfold xp;rw[f4,g4,f3,g3];refine hlt _ _ ?_;by_cases e:f.h=f'.h
   .left;have a:=Lk nd f2;have b:=Lk nd g2;rw[e,b] at a;cases a;rfl
   .exact .inr e
  unfold iU;have ok:oQ (X.map g)=true:=hok X;rw[Gf (by rwa[jc]),Ge (by rw[ok,Ja,decide_eq_true_eq,jc];omega),jc,cg,jh,Ge p1];refine congrArg Ga ?_;have eY:p.toList.map (λi=>(X.map g).getD i .none)=(p.toList.map λi=>X.getD i f0).map g:=by
   rw[jE];refine kL λi hi=>?_;obtain⟨f,f1,f2,f3,f4⟩:=getX i (of_decide_eq_true (p3 i hi));show(X.map g).getD i .none=g (X.getD i f0);rw[ji,ji,f4,f1];rfl
  rw[eY];refine congrArg (List.map g) (QR nd (λy hy=>?_) ?_)
  .obtain⟨i,hi,rfl⟩:=jr.mp hy;obtain⟨f,f1,f2,f3,f4⟩:=getX i (of_decide_eq_true (p3 i hi));rwa[ji,f1]
  .rw[<- p2,jE];refine kL λi hi=>?_;obtain⟨f,f1,f2,f3,f4⟩:=getX i (of_decide_eq_true (p3 i hi));show(X.getD i f0).h=_;rw[f3,ji,f1];rfl
def zt7(hl:X.length<=5)(nd:(X.map Fl.h).Nodup)(hb:∀ f∈X,f.h<5):iU (X.map fd)=Ga ((pH X).map fd) :=
 zzO fd (λ_ _ h=>zGu h) (λX=>by
   unfold oQ;rw[vo];right;rw[jR];intro d hd;obtain⟨f,_,rfl⟩:=jr.mp hd;rfl) hl nd hb
def pF (n:Nat)(h a m:Int):Bool:=(decide (0<=h)&&decide (h<(n:Int)))&&((decide (1<=a)&&decide (a<=5))&&((decide (0<=m)&&decide (m<2^n))&&decide (m/2^h.toNat%2=0)))
def isF (n:Nat):D->Bool
 | .tuple [.int h,.int a,.int m]=>pF n h a m
 | _=>false
def CW(h:n<=5):(2:Int)^n<=32:=by
 have:n=0\/n=1\/n=2\/n=3\/n=4\/n=5:=by omega
 rcases this with rfl|rfl|rfl|rfl|rfl|rfl<;>decide
def VN (x:Int):(!decide (x%2=1))=decide (x%2=0):=by
 have:=kP x (show(2:Int)≠0 by decide);have:=kg x (show(0:Int)<2 by decide);by_cases c:x%2=1
 .rw[Gc c,Gd (by omega)];rfl
 .rw[Gd c,Gc (by omega)];rfl
def YN (m T:Int)(H N:D)(x:Bool)(hb:xN [N]=Ga (.int T))(hh:0<=m->m<T->rH [.int m,H]=Ga (.bool x)):zy [.int m,H,N]=Ga (.bool ((decide (0<=m)&&decide (m<T))&&!x)):=by
 rw[Yc];unfold La;generalize xN=A1 at *;generalize rH=A2 at *;by_cases c1:0<=m
 .by_cases c2:m<T
  .have hh:=hh c1 c2;simp[hb,Gc c1,Gc c2,hh];rfl
  .simp[hb,Gc c1,Gd c2];rfl
 .simp[hb,Gd c1];rfl
def zzQ (m h:Int)(n:Nat)(h0:0<=h)(hn:h<n)(h5:n<=5):zy [.int m,.int h,.int n]=Ga (.bool ((decide (0<=m)&&decide (m<2^n))&&decide (m/2^h.toNat%2=0))):=by
 have hb:=Lg (n:Int) (by omega) (by omega);rw[jN] at hb;have p32:=CW h5;have hh:0<=m->m<2^n->rH [.int m,.int h]=Ga (.bool (decide (m/2^h.toNat%2=1))):=λa b=>by
  have:=Mn m.toNat h.toNat (by omega) (by omega);rw[qE a,qE h0] at this;exact this
 rw[YN m _ _ _ _ hb hh,VN]
def my:Int->List Int->Bool
 | _,[]=>true
 | l,k::r=>decide (l<k)&&my k r
def TQ:∀ {l:Int} {ks:List Int},my l ks=true->∀ k∈ks,l<k
 | _,[],_,k,h=>by cases h
 | l,x::r,h,k,hk=>by
  unfold my at h;rw[jl,decide_eq_true_eq] at h;rcases jo.mp hk with rfl|hk
  .exact h.1
  .have:=TQ h.2 k hk;omega
def KL:∀ {l:Int} {ks:List Int},my l ks=true->ks.Nodup
 | _,[],_=>u7
 | l,x::r,h=>by
  unfold my at h;rw[jl] at h;refine kO.mpr ⟨λz=>?_,KL h.2⟩;have:=TQ h.2 x z;omega
def zwV:(Cp 5).all (λl=>decide (l=rG l)==my (-1) (l.map λ(k:Nat)=>(k:Int)))=true:=by nofun
def TM{h a m:Int}(e:pF n h a m=true):0<=h/\h<n:=by
 unfold pF at e;rw[jl,jl,decide_eq_true_eq,decide_eq_true_eq] at e;exact e.1
def ZR (is:List Int)(h:∀ i∈is,0<=i/\i<5):tM (is.map jd)=Ga (is.map Vz):=by
 induction is with
 | nil=>rfl
 | cons i r ih =>
  have hi:=h i jf;show(Mr (.int i)).bind _=_;rw[show Mr (.int i)=Ga i.toNat from Ge hi,jh];show(tM (r.map jd)).bind _=_;rw[ih λx hx=>h x (jk _ hx)];rfl
def SN:∀ (is js:List Int),vq (is.map jd) (js.map jd)=decide (is=js)
 | [],[]=>rfl
 | [],_::_=>rfl
 | _::_,[]=>rfl
 | i::is,j::js=>by
  show(i==j&&vq (is.map jd) (js.map jd))=_;rw[SN is js];by_cases c:i=j
  .by_cases c2:is=js
   .subst c;subst c2;simp
   .rw[Gd c2,Gd (λz=>c2 (uH z).2),JH]
  .rw[beq_eq_false_iff_ne.mpr c,Gd (λz=>c (uH z).1)];rfl
def pW:∀ is:List Int,kq (is.map jd)=true/\kD (is.map jd)=0
 | []=>⟨rfl,rfl⟩
 | i::is=>by
  obtain⟨a,b⟩:=pW is;refine⟨?_,?_⟩
  .show(vE (.int i)&&kq (is.map jd))=true;rw[a];rfl
  .show max (J3 (.int i)) (kD (is.map jd))=0;rw[b];rfl
def zzS (is js:List Int):gw (.list (is.map jd)) (.list (js.map jd))=Ga (.bool (decide (is=js))):=by
 unfold gw;rw[Ge]
 .rw[show ku (.list (is.map jd)) (.list (js.map jd))=vq (is.map jd) (js.map jd) from rfl,SN]
 .obtain⟨a1,a2⟩:=pW is;obtain⟨b1,b2⟩:=pW js;unfold xk;rw[show vE (.list (is.map jd))=true from a1,show vE (.list (js.map jd))=true from b1];simp only[Ja,qm,decide_eq_true_eq];rw[show J3 (.list (is.map jd))=kD (is.map jd)+1 from rfl,a2];omega
def mB (b0 b1 b2 b3 b4:Bool):Int:=(if b0 then 1 else 0)+(if b1 then 2 else 0)+(if b2 then 4 else 0)+(if b3 then 8 else 0)+(if b4 then 16 else 0)
def zGv:∀ (b0 b1 b2 b3 b4:Bool) (h:Fin 5),JO (mB b0 b1 b2 b3 b4) (2^h.val)=mB (b0||h.val==0) (b1||h.val==1) (b2||h.val==2) (b3||h.val==3) (b4||h.val==4):=by nofun
def Tr (a:Sl):∀ (hs:List Int) (b0 b1 b2 b3 b4:Bool) (x:Sl),(∀ h∈hs,0<=h/\h<5) ->
  ∃ x',gk (iB 2) (gC 1 (fG Go (gv 1) (fR xN (fz (gv 2) gj)))) (hs.map jd) [a,.val (.int (mB b0 b1 b2 b3 b4)),x] =
   Ga (.nx [a,.val (.int (mB (b0||hs.contains 0) (b1||hs.contains 1) (b2||hs.contains 2) (b3||hs.contains 3) (b4||hs.contains 4))),x'])
 | [],b0,b1,b2,b3,b4,x,_=>⟨x,by simp only[qc,gk,List.contains_nil,vp]⟩
 | h::r,b0,b1,b2,b3,b4,x,hh=>by
  obtain⟨h0,h5⟩:=hh h jf;obtain⟨x',e⟩:=Tr a r (b0||h.toNat==0) (b1||h.toNat==1) (b2||h.toNat==2) (b3||h.toNat==3) (b4||h.toNat==4) (.val (.int h)) (λy hy=>hh y (jk _ hy));refine⟨x',?_⟩;have hm:=zGv b0 b1 b2 b3 b4 ⟨h.toNat,by omega⟩;dsimp only at hm;have hb:(fG Go (gv 1) (fR xN (fz (gv 2) gj))) [a,.val (.int (mB b0 b1 b2 b3 b4)),.val (.int h)]=Ga (.int (mB (b0||h.toNat==0) (b1||h.toNat==1) (b2||h.toNat==2) (b3||h.toNat==3) (b4||h.toNat==4))) :=
   (iV (a:=.int (mB b0 b1 b2 b3 b4)) rfl ((lZ rfl).trans (Lg h h0 (by omega)))).trans (congrArg (λz=>Ga (jd z)) hm)
  rw[jO];unfold gk;rw[show(iB 2 (jd h) [a,.val (.int (mB b0 b1 b2 b3 b4)),x])=Ga [a,.val (.int (mB b0 b1 b2 b3 b4)),.val (.int h)] from rfl,jh,tu hb];refine e.trans ?_;have c:∀ k:Nat,((h.toNat==k)||r.contains (k:Int))=(h::r).contains (k:Int):=λk=>by
   rw[List.contains_cons]
   congr 1
   rw[jQ,beq_iff_eq,beq_iff_eq];omega
  simp only[Bool.or_assoc];rw[show((h.toNat==0)||r.contains (0:Int))=_ from c 0,show((h.toNat==1)||r.contains (1:Int))=_ from c 1,show((h.toNat==2)||r.contains (2:Int))=_ from c 2,show((h.toNat==3)||r.contains (3:Int))=_ from c 3,show((h.toNat==4)||r.contains (4:Int))=_ from c 4];rfl
def RN (hs:List Int)(hh:∀ h∈hs,0<=h/\h<5):wR [.list (hs.map jd)]=Ga (.int (mB (hs.contains 0) (hs.contains 1) (hs.contains 2) (hs.contains 3) (hs.contains 4))):=by
 obtain⟨x',e⟩:=Tr (.val (.list (hs.map jd))) hs false false false false false .no hh;simp only[JQ] at e;rw[show mB false false false false false=0 from rfl] at e;show fY (IC [.val (.list (hs.map jd)),.no,.no])=_;unfold IC;rw[iw (e:=[.val (.list (hs.map jd)),.val (.int 0),.no]) rfl,iw ((tq (ds:=hs.map jd) rfl).trans e)];rfl
def GY (b0 b1 b2 b3 b4:Bool):List Int:=(if b0 then[0] else[])++(if b1 then[1] else[])++(if b2 then[2] else[])++(if b3 then[3] else[])++(if b4 then[4] else[])
def SG:∀ (b0 b1 b2 b3 b4:Bool),rp [.int (mB b0 b1 b2 b3 b4)]=Ga ((GY b0 b1 b2 b3 b4).map jd):=by
 have key:∀ (b0 b1 b2 b3 b4:Bool),((jq (k5 (mB b0 b1 b2 b3 b4))).map λ(k:Nat)=>(k:Int)).filter (λh=>!(uX (mB b0 b1 b2 b3 b4) (2^h.toNat)==0))=GY b0 b1 b2 b3 b4:=by nofun
 have small:∀ (b0 b1 b2 b3 b4:Bool),k5 (mB b0 b1 b2 b3 b4)<10:=by nofun
 intro b0 b1 b2 b3 b4;have sm:=small b0 b1 b2 b3 b4;show AF (NC [.val (.int (mB b0 b1 b2 b3 b4))])=_;generalize hm:mB b0 b1 b2 b3 b4=m at sm ⊢;have ei:(iJ gO (un Db (gv 0))) [.val (.int m)]=Ga (ip 0 (k5 m)):=by
  refine(wS (a:=.int (k5 m:Nat)) ((yr (a:=.int m) rfl).trans rfl)).trans ?_;generalize k5 m=k at sm;unfold gO;dsimp only;rw[Ge (by constructor<;>omega),jN]
 have hlen:(ip 0 (k5 m)).length<=1000000:=by unfold ip;rw[jc,jV];omega
 have e:=Ts ((wN (fc:=lO (fR rH (fz (gv 1) (fz (gv 0) gj)))) (fe:=gv 0) (ix:=[0]) ei hlen).trans (Ec (p:=λd=>match d with|.int h=>!(uX m (2^h.toNat)==0)|_=>false) (F:=id) (λd hd=>by
  obtain⟨k,hk,rfl⟩:=jr.mp hd;have hk':=jF.mp hk;exact xD ((lZ rfl).trans (SJ _ _ (by omega) (by omega))) rfl) (λd hd _=>rfl)))
 unfold NC;rw[e];rw[Rf];rw[List.map_id];rw[<- key b0 b1 b2 b3 b4];rw[hm];refine congrArg Ga ?_;unfold ip;rw[vY,vY,jE];exact congr (congrArg List.map (funext λx=>congrArg jd (Jn _))) (congrArg (λp=>List.filter p _) (funext λx=>congrArg (λz:Int=>!(uX m (2^z.toNat)==0)) (Jn (x:Int))))
def zwW (c:Int):∃ v:Int,-((10:Int)^60)<v/\v<(10:Int)^60/\sV [.int c]=Ga (.int v):=by
 have key:∀ (T:Int),100<T->lj (.int 10) (.int 60)=Ga (.int T)->∃ v:Int,-T<v/\v<T/\sV [.int c]=Ga (.int v):=λT hT hp=>by
  have m3:fW (.int c) (.int 3)=Ga (.int (c%3)):=nq (by decide);have d3:gy (.int c) (.int 3)=Ga (.int (c/3)):=sO (by decide) (by decide);have m4:fW (.int (c/3)) (.int 4)=Ga (.int (c/3%4)):=nq (by decide);have t2:iT (.int 2) (.int T)=Ga (.int (2*T)):=Cb (Gp (by decide) (by decide));have mT:fW (.int (c/3)) (.int (2*T-1))=Ga (.int (c/3%(2*T-1))):=nq (by omega);rw[zmJ];unfold Kq;generalize lj=pw at *;by_cases q:c%3=0
  .have a0:=kP (c/3) (show(4:Int)≠0 by decide);have a1:=kg (c/3) (show(0:Int)<4 by decide);refine⟨c/3%4-1,by omega,by omega,?_⟩;simp[m3,d3,m4,Gc q]
  .have a0:=kP (c/3) (show 2*T-1≠0 by omega);have a1:=kg (c/3) (show 0<2*T-1 by omega);refine⟨c/3%(2*T-1)-T+1,by omega,by omega,?_⟩;simp[m3,d3,hp,t2,mT,Gd q]
 exact key _ (by decide) Gx
def zt8 (x h n B P v r:Int)(hb:lz [.int (n-1)]=Ga (.int B))(hp:lz [.int h]=Ga (.int P))(d4:gy (.int x) (.int 4)=Ga (.int (x/4)))(m4:fW (.int x) (.int 4)=Ga (.int (x%4)))(m2:iT (.int 2) (.int B)=Ga (.int (2*B)))
  (hv:L2.atI [jd (2*B-1),.int 0,.int (x/4),.int (x/4)] (x%4)=Ga (.int v)) (m3:fW (.int v) (.int (2*B))=Ga (.int r)) (d1:gy (.int r) (.int P)=Ga (.int (r/P))) (d2:fW (.int (r/P)) (.int 2)=Ga (.int (r/P%2))) :
  pZ [.int x,.int h,.int n]=Ga (.int (if r/P%2=1 then r-P else r)):=by
 rw[zlH];unfold Nw;generalize lz=A1 at *;by_cases c:r/P%2=1
 .rw[Ge c];simp[hb,hp,d4,m4,m2,hv,m3,d1,d2,Gc c]
 .rw[Gf c];simp[hb,hp,d4,m4,m2,hv,m3,d1,d2,Gd c]
def Xm:∀ (r:Fin 32) (h:Fin 5),((r.val:Int)/2^h.val)%2=1->0<=(r.val:Int)-2^h.val/\((r.val:Int)-2^h.val)/2^h.val%2=0:=by nofun
def Tb (x:Int)(h n:Nat)(hh:h<n)(hn:n<=5):∃ m:Nat,(m:Int)<2^n/\(m:Int)/2^h%2=0/\pZ [.int x,.int h,.int n]=Ga (.int m):=by
 have hp:=Gq (h:=n-1) (by omega);have hp16:=Yb (h:=n-1) (by omega);have hq:=Gq (h:=h) (by omega);have hb:=EC (h:=n-1) (by omega);have hbh:=EC (h:=h) (by omega);have e2:(2:Int)^n=2*2^(n-1):=by
  obtain⟨k,rfl⟩:∃ k,n=k+1:=⟨n-1,by omega⟩;rw[Nat.add_sub_cancel,Int.pow_succ];omega
 rw[e2];rw[show(((n-1:Nat):Int))=(n:Int)-1 by omega] at hb;generalize hB:(2:Int)^(n-1)=B at hp hp16 hb;have ixv:∃ v:Int,L2.atI [jd (2*B-1),.int 0,.int (x/4),.int (x/4)] (x%4)=Ga (.int v):=by
  have h0:=kP x (show(4:Int)≠0 by decide);have h1:=kg x (show(0:Int)<4 by decide);generalize x%4=q at h0 h1;have:q=0\/q=1\/q=2\/q=3:=by omega
  rcases this with rfl|rfl|rfl|rfl
  .exact⟨_,rfl⟩
  .exact⟨_,rfl⟩
  .exact⟨_,rfl⟩
  .exact⟨_,rfl⟩
 obtain⟨v,hv⟩:=ixv;have r0:0<=v%(2*B):=kP _ (by omega);have r1:v%(2*B)<2*B:=kg _ (by omega);have e:=zt8 x h n B _ v (v%(2*B)) hb hbh (sO (by decide) (by decide)) (nq (by decide)) (Cb (Gp (by decide) (by decide))) hv (nq (by omega)) (sO hq.1 hq.2) (nq (by decide));obtain⟨r,er⟩:=kA r0;rw[er] at e r1;by_cases c:(r:Int)/2^h%2=1
 .obtain⟨z1,z2⟩:=Xm ⟨r,by omega⟩ ⟨h,by omega⟩ c;dsimp only at z1 z2;rw[Ge c] at e;obtain⟨m,em⟩:=kA z1;rw[em] at e z2;exact⟨m,by have:=hq.1;omega,z2,e⟩
 .rw[Gf c] at e;have:=kP ((r:Int)/2^h) (show(2:Int)≠0 by decide);have:=kg ((r:Int)/2^h) (show(0:Int)<2 by decide);exact⟨r,r1,by omega,e⟩
def zGw (x:Int):∃ a:Int,1<=a/\a<=5/\L2.atI [jd 1,.int 1,.int 2,.int 2,.int 3,.int 3,.int 4,.int 5] (x%8)=Ga (.int a):=by
 have h0:=kP x (show(8:Int)≠0 by decide);have h1:=kg x (show(0:Int)<8 by decide);generalize x%8=q at h0 h1;have:q=0\/q=1\/q=2\/q=3\/q=4\/q=5\/q=6\/q=7:=by omega
 rcases this with rfl|rfl|rfl|rfl|rfl|rfl|rfl|rfl<;>exact⟨_,by decide,by decide,rfl⟩
def RI:∀ {l:Int} {ks:List Int} {k:Int},my l ks=true->l<k->(∀ x∈ks,x<k)->my l (ks++[k])=true
 | l,[],k,_,hl,_=>by show(decide (l<k)&&true)=true;rw[Gc hl];rfl
 | l,x::r,k,h,hl,hx=>by
  unfold my at h;rw[jl] at h;show(decide (l<x)&&my x (r++[k]))=true;rw[h.1,RI h.2 (hx x jf) λy hy=>hx y (jk _ hy)];rfl
structure FG (n:Nat)(fs:List Fl):Prop where
 ok:∀ f∈fs,pF n f.h f.a f.m=true
 up:my (-1) (fs.map λf=>(f.h:Int))=true
 len:fs.length<=5
def Ze (n c most k x:Int)(L:List D)(x4 x5 x6:Sl)(hx:tH [.int c,.int (k+1)]=Ga (.int x))(ln:Int)(hL:gZ (.list L)=Ga (.int ln))(m5:fW (.int x) (.int 5)=Ga (.int (x%5)))(q:¬(x%5<3/\ln<most)) :
  (iE 4 (.int k) [.val (.int n),.val (.int c),.val (.int most),.own L,x4,x5,x6]).bind ((fK (gR 5 (fT tH (fE (gv 1) (fE (fv fy (gv 4) (fx (.int 1))) gc)))) (gP (Eo (gz mq (fv fW (gv 5) (fx (.int 5))) (fx (.int 3))) (gz mq (gi gZ (gv 3)) (gv 2))) (fK (gR 6 (fv gf (mP (fE (fx (.int 1)) (fE (fx (.int 1)) (fE (fx (.int 2)) (fE (fx (.int 2)) (fE (fx (.int 3)) (fE (fx (.int 3)) (fE (fx (.int 4)) (fE (fx (.int 5)) gc))))))))) (fv fW (fv gy (gv 5) (fx (.int 5))) (fx (.int 8))))) (rV 3 (tt (fE (gv 4) (fE (gv 6) (fE (fT pZ (fE (fv gy (gv 5) (fx (.int 40))) (fE (gv 4) (fE (gv 0) gc)))) gc)))))) gA)))=Ga (.nx [.val (.int n),.val (.int c),.val (.int most),.own L,.val (.int k),.val (.int x),x6]):=by
 generalize tH=A1 at *;by_cases q1:x%5<3
 .have q2:¬ln<most:=λz=>q ⟨q1,z⟩;simp[hx,m5,Gc q1,hL,Gd q2]
 .simp[hx,m5,Gd q1]
def zwX (n c most k x a m:Int)(L:List D)(x4 x5 x6:Sl)(hx:tH [.int c,.int (k+1)]=Ga (.int x))(ln:Int)(hL:gZ (.list L)=Ga (.int ln))(hl:L.length<1000000)(m5:fW (.int x) (.int 5)=Ga (.int (x%5)))(d5:gy (.int x) (.int 5)=Ga (.int (x/5)))(m8:fW (.int (x/5)) (.int 8)=Ga (.int (x/5%8)))(d40:gy (.int x) (.int 40)=Ga (.int (x/40)))
  (ha:L2.atI [jd 1,.int 1,.int 2,.int 2,.int 3,.int 3,.int 4,.int 5] (x/5%8)=Ga (.int a)) (hr:pZ [.int (x/40),.int k,.int n]=Ga (.int m)) (q1:x%5<3) (q2:ln<most) :
  (iE 4 (.int k) [.val (.int n),.val (.int c),.val (.int most),.own L,x4,x5,x6]).bind ((fK (gR 5 (fT tH (fE (gv 1) (fE (fv fy (gv 4) (fx (.int 1))) gc)))) (gP (Eo (gz mq (fv fW (gv 5) (fx (.int 5))) (fx (.int 3))) (gz mq (gi gZ (gv 3)) (gv 2))) (fK (gR 6 (fv gf (mP (fE (fx (.int 1)) (fE (fx (.int 1)) (fE (fx (.int 2)) (fE (fx (.int 2)) (fE (fx (.int 3)) (fE (fx (.int 3)) (fE (fx (.int 4)) (fE (fx (.int 5)) gc))))))))) (fv fW (fv gy (gv 5) (fx (.int 5))) (fx (.int 8))))) (rV 3 (tt (fE (gv 4) (fE (gv 6) (fE (fT pZ (fE (fv gy (gv 5) (fx (.int 40))) (fE (gv 4) (fE (gv 0) gc)))) gc)))))) gA)))=Ga (.nx [.val (.int n),.val (.int c),.val (.int most),.own (L++[.tuple [.int k,.int a,.int m]]),.val (.int k),.val (.int x),.val (.int a)]):=by
 generalize tH=A1 at *;generalize pZ=A2 at *;simp[hx,m5,Gc q1,hL,Gc q2,d5,m8,d40,ha,hr,Ge hl]
def zwY (N c most:Int)(n:Nat)(hr:gO (.int N)=Ga ((jq n).map λ(k:Nat)=>.int (k:Int)))(I:Nat->List Fl->Prop)(h0:I 0 [])
  (st:∀ k,k<n->∀ fs,I k fs->∀ x4 x5 x6,∃ fs' y4 y5 y6,I (k+1) fs'/\(iE 4 (.int (k:Int)) [.val (.int N),.val (.int c),.val (.int most),.own (fs.map fd),x4,x5,x6]).bind ((fK (gR 5 (fT tH (fE (gv 1) (fE (fv fy (gv 4) (fx (.int 1))) gc)))) (gP (Eo (gz mq (fv fW (gv 5) (fx (.int 5))) (fx (.int 3))) (gz mq (gi gZ (gv 3)) (gv 2))) (fK (gR 6 (fv gf (mP (fE (fx (.int 1)) (fE (fx (.int 1)) (fE (fx (.int 2)) (fE (fx (.int 2)) (fE (fx (.int 3)) (fE (fx (.int 3)) (fE (fx (.int 4)) (fE (fx (.int 5)) gc))))))))) (fv fW (fv gy (gv 5) (fx (.int 5))) (fx (.int 8))))) (rV 3 (tt (fE (gv 4) (fE (gv 6) (fE (fT pZ (fE (fv gy (gv 5) (fx (.int 40))) (fE (gv 4) (fE (gv 0) gc)))) gc)))))) gA)))=Ga (.nx [.val (.int N),.val (.int c),.val (.int most),.own (fs'.map fd),y4,y5,y6])) :
  ∃ fs:List Fl,I n fs/\zF [.int N,.int c,.int most]=Ga (.tuple (fs.map fd)):=by
 rw[Xk];unfold IK;generalize tH=A1 at *;generalize pZ=A2 at *;simp[hr];refine zGt (λo=>∃ fs:List Fl,I n fs/\fY o=Ga (.tuple (fs.map fd))) n (λk ψ=>∃ (fs:List Fl) (x4 x5 x6:Sl),I k fs/\ψ=[.val (.int N),.val (.int c),.val (.int most),.own (fs.map fd),x4,x5,x6])
  ⟨[],_,_,_,h0,rfl⟩ ?_ ?_
 .rintro k hk _ ⟨fs,x4,x5,x6,i1,rfl⟩;obtain⟨fs',y4,y5,y6,i2,e⟩:=st k hk fs i1 x4 x5 x6;exact⟨_,e,fs',y4,y5,y6,i2,rfl⟩
 .rintro _ ⟨fs,x4,x5,x6,i1,rfl⟩;refine⟨fs,i1,?_⟩;simp[uy]
def zzU (n:Nat)(h2:2<=n)(h5:n<=5)(c most:Int):∃ fs:List Fl,FG n fs/\zF [.int n,.int c,.int most]=Ga (.tuple (fs.map fd)):=by
 obtain⟨fs,⟨i1,i2,i3⟩,e⟩:=zwY (n:Int) c most n (Ds (n:=n) (by omega)) (λk fs=>(∀ f∈fs,f.h<k/\pF n f.h f.a f.m=true)/\my (-1) (fs.map λf=>(f.h:Int))=true/\fs.length<=k) ⟨λf hf=>absurd hf j8,rfl,jw _⟩ (by
  rintro k hk fs ⟨i1,i2,i3⟩ x4 x5 x6;obtain⟨x,hx⟩:=zzL c ((k:Int)+1) (by omega) (by omega);by_cases q:x%5<3/\(((fs.map fd).length:Nat):Int)<most
  .obtain⟨a,a1,a2,ha⟩:=zGw (x/5);obtain⟨m,hm1,hm2,hm⟩:=Tb (x/40) k n hk h5;have E:=zwX (n:Int) c most (k:Int) x a m (fs.map fd) x4 x5 x6 hx _ rfl (by rw[jc];omega) (nq (by decide)) (sO (by decide) (by decide)) (nq (by decide)) (sO (by decide) (by decide)) ha hm q.1 q.2;refine⟨fs++[⟨k,a,m⟩],.val (.int k),.val (.int x),.val (.int a),⟨?_,?_,?_⟩,?_⟩
   .intro f hf;rcases jM.mp hf with hf|hf
    .exact⟨by have:=(i1 f hf).1;omega,(i1 f hf).2⟩
    .rw[jn.mp hf];refine⟨by dsimp only;omega,?_⟩;unfold pF;dsimp only;rw[Gc (show(0:Int)<=(k:Int) by omega),Gc (show(k:Int)<(n:Int) by omega),Gc a1,Gc a2,Gc (show(0:Int)<=(m:Int) by omega),Gc hm1,jN,Gc hm2];rfl
   .rw[kr];refine RI i2 (by dsimp only;omega) λz hz=>?_;obtain⟨f,hf,rfl⟩:=jr.mp hz;have:=(i1 f hf).1;dsimp only;omega
   .rw[je,jU];omega
   .rwa[kr]
  .exact⟨fs,_,_,_,⟨λf hf=>⟨by have:=(i1 f hf).1;omega,(i1 f hf).2⟩,i2,by omega⟩,Ze (n:Int) c most (k:Int) x (fs.map fd) x4 x5 x6 hx _ rfl (nq (by decide)) q⟩)
 exact⟨fs,⟨λf hf=>(i1 f hf).2,i2,by omega⟩,e⟩
def vD (vs:List Int):List D:=vs.map jd
abbrev RD (vs:List Int)(fs:List Fl):D:=.tuple [.tuple (vD vs),.tuple (fs.map fd)]
def zCo (C c F:D)(V L:List D)(N most:Int)(hr:gO (.int N)=Ga L)(hl:L.length<=1000000)(hc:gd (λ_=>Ga true) (fT sV (fE (fv gf (gv 1) (gv 0)) gc)) [.val C] L=Ga V)(hi:gf C (.int N)=Ga c)(hf:zF [.int N,c,.int most]=Ga F) :
  Ax [C,.int N,.int most]=Ga (.tuple [.tuple V,F]):=by
 rw[zqY];unfold NE;generalize sV=A1 at *;generalize zF=A2 at *;simp[hr,nR,Ge hl,hc,hi,hf]
structure RG (n:Nat)(vs:List Int)(fs:List Fl):Prop where
 n2:2<=n
 n5:n<=5
 len:vs.length=n
 nm:∀ v∈vs,-((10:Int)^60)<v/\v<(10:Int)^60
 fg:FG n fs
def zE5 (C c v:D)(kk:Int)(h1:gf C (.int kk)=Ga c)(h2:sV [c]=Ga v):fT sV (fE (fv gf (gv 1) (gv 0)) gc) [.val (.int kk),.val C]=Ga v:=by
 generalize sV=A1 at *;simp[h1,h2]
def ZJ (cs:List Int)(hc:cs.length=6)(n:Nat)(h2:2<=n)(h5:n<=5)(most:Int):∃ (vs:List Int) (fs:List Fl),RG n vs fs/\Ax [.list (cs.map jd),.int n,.int most]=Ga (RD vs fs):=by
 have hix:∀ k:Nat,k<6->∃ c:Int,gf (.list (cs.map jd)) (.int k)=Ga (.int c):=λk hk=>by
  refine⟨cs[k]'(by omega),wP ?_⟩;rw[jz,jg (by omega)];rfl
 obtain⟨c,hcn⟩:=hix n (by omega);obtain⟨fs,G,hf⟩:=zzU n h2 h5 c most;have hnum:∀ k:Nat,∃ v:Int,k<n->(-((10:Int)^60)<v/\v<(10:Int)^60)/\fT sV (fE (fv gf (gv 1) (gv 0)) gc) [.val (.int k),.val (.list (cs.map jd))]=Ga (.int v):=λk=>by
  by_cases hk:k<n
  .obtain⟨c',hc'⟩:=hix k (by omega);obtain⟨v,v1,v2,hv⟩:=zwW c';exact⟨v,λ_=>⟨⟨v1,v2⟩,zE5 _ _ _ _ hc' hv⟩⟩
  .exact⟨0,λh=>absurd h hk⟩
 obtain⟨F,hF⟩:=Vh.mp hnum;refine⟨(jq n).map F,fs,⟨h2,h5,by rw[jc,jV],λv hv=>?_,G⟩,?_⟩
 .obtain⟨k,hk,rfl⟩:=jr.mp hv;exact(hF k (jF.mp hk)).1
 .refine zCo _ _ _ _ _ (n:Int) most (Ds (by omega)) (by rw[jc,jV];omega) ?_ hcn hf;have:=rW (fe:=fT sV (fE (fv gf (gv 1) (gv 0)) gc)) (base:=[.val (.list (cs.map jd))]) (λ(k:Nat)=>jd (k:Int)) (λk=>jd (F k)) (l:=jq n) λk hk=>(hF k (jF.mp hk)).2;rw[this];unfold vD;rw[jE];rfl
section
open PySem.Spec PyProof.Rows L2
open PySem.W.KIN PySem.NumText
def KP (m:Nat)(h:m<32):rp [.int (m:Int)]=Ga ((iM m).map λ(k:Nat)=>jd (k:Int)):=by
 have e1:∀ m:Fin 32,mB (m.val.testBit 0) (m.val.testBit 1) (m.val.testBit 2) (m.val.testBit 3) (m.val.testBit 4)=(m.val:Int):=by nofun
 have e2:∀ m:Fin 32,GY (m.val.testBit 0) (m.val.testBit 1) (m.val.testBit 2) (m.val.testBit 3) (m.val.testBit 4)=(iM m.val).map λ(k:Nat)=>(k:Int):=by nofun
 have q:=SG (m.testBit 0) (m.testBit 1) (m.testBit 2) (m.testBit 3) (m.testBit 4);have a:=e1 ⟨m,h⟩;have b:=e2 ⟨m,h⟩;dsimp only at a b;rw[a,b,jE] at q;exact q
def hmk (m:Nat)(h:m<32):wR [.list ((iM m).map λ(k:Nat)=>jd (k:Int))]=Ga (.int (m:Int)):=by
 have e:∀ m:Fin 32,mB (((iM m.val).map λ(k:Nat)=>(k:Int)).contains 0) (((iM m.val).map λ(k:Nat)=>(k:Int)).contains 1) (((iM m.val).map λ(k:Nat)=>(k:Int)).contains 2) (((iM m.val).map λ(k:Nat)=>(k:Int)).contains 3) (((iM m.val).map λ(k:Nat)=>(k:Int)).contains 4)=(m.val:Int):=by nofun
 have q:=RN ((iM m).map λ(k:Nat)=>(k:Int)) (λz hz=>by
  obtain⟨k,hk,rfl⟩:=jr.mp hz;have:=Dw m k hk;omega)
 have a:=e ⟨m,h⟩;dsimp only at a;rw[a,jE] at q;exact q
def f3 (f:Fl):F3:=(f.h,f.a.toNat,f.m)
def Qa(h5:n<=5)(h:pF n f.h f.a f.m=true):si (f3 f)/\fd f=td (f3 f):=by
 unfold pF at h;simp only[jl,decide_eq_true_eq] at h;obtain⟨⟨_,h1⟩,⟨a1,a2⟩,⟨m1,m2⟩,_⟩:=h;have p:=CW h5;refine⟨⟨?_,?_,?_⟩,?_⟩
 .show f.h<5;omega
 .show f.a.toNat<6;omega
 .show f.m<32;omega
 .unfold fd td f3;dsimp only;rw[qE (by omega)]
variable {vs:List Int}
def ND(G:RG n vs fs):RD vs fs=rD vs (fs.map f3):=by
 have e:fs.map fd=(fs.map f3).map td:=by
  rw[jE];exact kL λf hf=>(Qa G.n5 (G.fg.ok f hf)).2
 show uC [.tuple (vD vs),.tuple (fs.map fd)]=_;rw[e];rfl
def Bf(G:RG n vs fs):∀ f∈fs.map f3,si f:=by
 intro f hf;obtain⟨g,hg,rfl⟩:=jr.mp hf;exact(Qa G.n5 (G.fg.ok g hg)).1
def zGx (pw:D->D->Option D)(x T:Int)(hw:wB [.int x]=Ga (.bool true))(hq:pw (.int 10) (.int 60)=Ga (.int T))(c1:-T<x)(c2:x<T):fY ((im (yS (fT wB dC) (Ej mq mq (gi xf (fv pw dQ dS)) eQ (fv pw dQ dS)))) [.val (.int x)])=Ga (.bool true):=by
 generalize wB=A1 at *;simp[hw,hq,Gc c1,Gc c2]
def Iu {α:Type}(l:List α):mH (l.map λ_=>jS true)=Ga (.bool true):=by
 unfold mH;rw[show(l.map λ_=>jS true)=(l.map λ_=>true).map jS by rw[jE];rfl,LD,jh];exact congrArg (λb=>Ga (jS b)) (jR.mpr λb h=>by obtain⟨_,_,rfl⟩:=jr.mp h;rfl)
def zGy (xs bs:List D)(n:Int)(hn:gZ (.tuple xs)=Ga (.int n))(h1:2<=n)(h2:n<=5)(hl:xs.length<=1000000)(hc:gd (λ_=>Ga true) (fT Ck dC) [] xs=Ga bs)(hb:mH bs=Ga (.bool true)):Bm [.tuple xs]=Ga (.bool true):=by
 rw[WW];unfold Nc;generalize Ck=A1 at *;simp[hn,Gc h1,Gc h2,Nq,nR,Ge hl,hc,hb]
def zE8 (T:D)(xs bs:List D)(k h a m nn:Int)(hk:k=3)(hn:gZ T=Ga (.int k))(it:pi "tuple" T=Ga (.bool true))(ts:toS T=Ga xs)(hl:xs.length<=1000000)(hc:gd (λ_=>Ga true) (fT wB dC) [] xs=Ga bs)(hb:mH bs=Ga (.bool true))
  (i0:gf T (.int 0)=Ga (.int h)) (i1:gf T (.int 1)=Ga (.int a)) (i2:gf T (.int 2)=Ga (.int m)) (c1:0<=h) (c2:h<nn) (c3:1<=a) (c4:a<=5) (hr:zy [.int m,.int h,.int nn]=Ga (.bool true)):zT [T,.int nn]=Ga (.bool true):=by
 rw[zqV];unfold Ln;generalize wB=A1 at *;generalize zy=A2 at *;have n3:=Gd (show ¬¬k=3 from λz=>z hk);simp[it,hn,n3,ts,nR,Ge hl,hc,hb,i0,i1,i2,Gc c1,Gc c2,Gc c3,Gc c4,hr]
def zCr (xs bs hs:List D)(l:List Nat)(N:D)(hl:xs.length<=1000000)(hc:gd (λ_=>Ga true) (fT zT cI) [.val N] xs=Ga bs)(hb:mH bs=Ga (.bool true))
  (h2:gd (λ_=>Ga true) cz [] xs=Ga hs) (h3:tM hs=Ga l) (h4:gw (.list hs) (.list (sL l))=Ga (.bool true)):BL [.tuple xs,N]=Ga (.bool true):=by
 rw[znR];unfold Ly;generalize zT=A1 at *;simp[Nq,nR,Ge hl,hc,hb,h2,h3,h4]
def Zg (N F:D)(k k2:Int)(hk:k2=2)(hn:gZ (.tuple [N,F])=Ga (.int k2))(h1:Bm [N]=Ga (.bool true))(h2:gZ N=Ga (.int k))(h3:BL [F,.int k]=Ga (.bool true)):yR [.tuple [N,F]]=Ga (.bool true):=by
 rw[zr4];unfold MR;have n2:=Gd (show ¬¬k2=2 from λz=>z hk);generalize Bm=A1 at *;generalize BL=A2 at *;simp[hn,n2,h1,h2,h3]
def zE9 (l:List Nat)(h:my (-1) (l.map λ(k:Nat)=>(k:Int))=true)(h5:∀ x∈l,x<5):rG l=l:=by
 have nd:l.Nodup:=by
  have:=KL h;rw[qN] at this ⊢;exact(J8.mp this).imp λz e=>z (by rw[e])
 have q:=beq_iff_eq.mp (jR.mp zwV l (MW 5 l nd h5 (yP 5 l nd h5)));rw[h,decide_eq_true_eq] at q;exact q.symm
def zzV(G:RG n vs fs):yR [RD vs fs]=Ga (.bool true):=by
 have n2:=G.n2;have n5:=G.n5;have ln:(vD vs).length=n:=by unfold vD;rw[jc];exact G.len
 have dl:gZ (.tuple (vD vs))=Ga (.int (n:Int)):=by rw[<- ln];rfl
 refine Zg _ _ n 2 rfl rfl (zGy _ _ n dl (by omega) (by omega) (by omega) (rW jd (λ_=>jS true) λv hv=>?_) (Iu vs)) dl ?_
 .have:Ck [.int v]=Ga (.bool true):=by
   rw[ZQ];unfold Kd;exact zGx lj v _ rfl Gx (G.nm v hv).1 (G.nm v hv).2
  simp[this]
 .have hl:=G.fg.len;have h5:∀ f∈fs,f.h<5:=λf hf=>by
   have:=TM (G.fg.ok f hf);omega
  refine zCr _ _ (fs.map λf=>jd (f.h:Int)) (fs.map λf=>f.h) _ (by rw[jc];omega) (rW fd (λ_=>jS true) λf hf=>?_) (Iu fs) (rW fd _ λf hf=>rfl) ?_ ?_
  .have e:=G.fg.ok f hf;unfold pF at e;simp only[jl,decide_eq_true_eq] at e;obtain⟨⟨a1,a2⟩,⟨a3,a4⟩,⟨a5,a6⟩,a7⟩:=e;have r:=zzQ (f.m:Int) f.h n a1 a2 n5;rw[Gc a5,Gc a6,Gc a7] at r;have:zT [fd f,.int n]=Ga (.bool true):=zE8 _ [.int f.h,.int f.a,.int f.m] _ 3 f.h f.a f.m n rfl rfl rfl rfl (by show 3<=1000000;decide) (rW jd (λ_=>jS true) (l:=[(f.h:Int),f.a,f.m]) λv _=>by have:=Xi (.int v);simp[this];rfl) (Iu _) rfl rfl rfl a1 a2 a3 a4 r;simp[this]
  .have:=ZR (fs.map λf=>(f.h:Int)) λi hi=>by
    obtain⟨f,hf,rfl⟩:=jr.mp hi;have:=h5 f hf;omega
   rw[jE,jE] at this;exact this
  .have q:=zE9 (fs.map λf=>f.h) (by rw[jE];exact G.fg.up) λx hx=>by
    obtain⟨f,hf,rfl⟩:=jr.mp hx;exact h5 f hf
   unfold sL;rw[q,jE];have:=zzS (fs.map λf=>(f.h:Int)) (fs.map λf=>(f.h:Int));rw[Gc rfl,jE] at this;exact this
def Rv(G:RG n vs fs):pA [RD vs fs]=Ga (.str (iA vs (fs.map f3)))/\tm [.str (iA vs (fs.map f3))]=Ga (RD vs fs):=by
 have nv:vs.length<=5:=by rw[G.len];exact G.n5
 have n2:2<=vs.length:=by rw[G.len];exact G.n2
 have nf:(fs.map f3).length<=5:=by rw[jc];exact G.fg.len
 have r:=zzV G;rw[ND G] at r ⊢;have s:=WS vs (fs.map f3) G.nm nv nf (Bf G) KP
 have z:(1000:Nat)<=sizeLine:=by decide
 exact⟨s,zzJ vs (fs.map f3) G.nm n2 nv nf (Bf G) (jI (UH vs _ G.nm nv nf) z) (Nf vs _ (Bf G)) r s hmk⟩
def zb (a b:List Nat)(h:a.length+b.length<=1000):fy (.str (gr a)) (.str (gr b))=Ga (.str (gr (a++b))):=by
 show(if _ then _ else _)=_;rw[Ge (by rw[ib,ib,lg,lg];exact jI h (by decide))]
 congr 2
 refine sQ ?_;show(_++_:Array Nat).toList=_;rw[k8];rfl
def zGA (A:List D->Option D)(k m:D)(b q r:Int)(hb:A [k]=Ga (.int b))(d1:gy m (.int b)=Ga (.int q))(d2:fW (.int q) (.int 2)=Ga (.int r)):gz gw (fv fW (fv gy eS (fT A dC)) dW) ee [.val k,.val m]=Ga (decide (r=1)):=by
 simp[hb,d1,d2]
def zGB (k s:D)(h:fN k=Ga s)(e:Sl):gi fN eQ [.val k,e]=Ga s:=by
 simp[h]
def Wl:∀ m:Fin 32,∀ k:Fin 5,decide ((m.val:Int)/2^k.val%2=1)=m.val.testBit k.val:=by nofun
def hc5 (m:Nat)(h:m<32):gd (gz gw (fv fW (fv gy eS (fT lz dC)) dW) ee) (gi fN eQ) [.val (.int (m:Int))] ((jq 5).map λ(k:Nat)=>jd (k:Int))=Ga (((iM m).map gH).map jp):=by
 rw[jE];refine zZ (λ(k:Nat)=>jd (k:Int)) (λk=>m.testBit k) (jp∘gH) (λk hk=>?_) (λk hk _=>?_)
 .have hk:=jF.mp hk;have p:=Gq hk;have:=zGA lz (.int (k:Int)) (.int (m:Int)) _ _ _ (EC hk) (sO p.1 p.2) (nq (by decide));rw[this];exact congrArg Ga (Wl ⟨m,h⟩ ⟨k,hk⟩)
 .have hk:=jF.mp hk;exact zGB _ _ (zc k (by omega)) _
def zzW (R h a m:D)(L L5 hs:List D)(x2 x3 x4 x5:Sl)(sh s1 sa s2 s3 j S:D)(hr:gO (.int 5)=Ga L5)(hl:L5.length<=1000000)(hc:gd (gz gw (fv fW (fv gy eS (fT lz dC)) dW) ee) (gi fN eQ) [.val m] L5=Ga hs)
  (e1:fN h=Ga sh) (e2:fy sh (.str (ja "@"))=Ga s1) (e3:fN a=Ga sa) (e4:fy s1 sa=Ga s2) (e5:fy s2 (.str (ja ">"))=Ga s3) (e6:mF (.str (ja "")) hs=Ga j) (e7:fy s3 j=Ga S) (lL:L.length<1000000) :
  (rN bj (.tuple [h,a,m]) [.val R,.own L,x2,x3,x4,x5]).bind (fK (oS 5 (nh 5 (gh df (gz gw (fv fW (fv gy eS (fT lz dC)) dW) ee) (gi fN eQ) [4]))) (rV 1 (fv fy (fv fy (fv fy (fv fy (gi fN eT) (fx (.str (ja "@")))) (gi fN eU)) (fx (.str (ja ">")))) (sY (fx (.str (ja ""))) eK))))=Ga (.nx [.val R,.own (L++[S]),.val h,.val a,.val m,.val (.list hs)]):=by
 generalize lz=A1 at *;generalize jp (ja "@")=q1 at *;generalize jp (ja ">")=q2 at *;generalize jp (ja "")=q3 at *;simp[hr,nR,Ge hl,hc,e1,e2,e3,e4,e5,e6,e7,Ge lL]
def ZP (R:D)(f:F3)(ok:si f)(L:List D)(x2 x3 x4 x5:Sl)(lL:L.length<1000000):∃ y2 y3 y4 y5,(rN bj (td f) [.val R,.own L,x2,x3,x4,x5]).bind (fK (oS 5 (nh 5 (gh df (gz gw (fv fW (fv gy eS (fT lz dC)) dW) ee) (gi fN eQ) [4]))) (rV 1 (fv fy (fv fy (fv fy (fv fy (gi fN eT) (fx (.str (ja "@")))) (gi fN eU)) (fx (.str (ja ">")))) (sY (fx (.str (ja ""))) eK))))=Ga (.nx [.val R,.own (L++[.str (nz f)]),y2,y3,y4,y5]):=by
 obtain⟨h,a,m⟩:=f;obtain⟨h5,a6,m32⟩:=ok;have at1:ja "@"=gr [64]:=by nofun
 have gt1:ja ">"=gr [62]:=by nofun
 have hl5:((iM m).map (48+·)).length<=5:=by rw[jc];exact jI (ky _ _) (by decide)
 refine⟨_,_,_,_,zzW R (.int (h:Int)) (.int (a:Int)) (.int (m:Int)) L _ _ x2 x3 x4 x5 (.str (gr [48+h])) (.str (gr [48+h,64])) (.str (gr [48+a])) (.str (gr [48+h,64,48+a])) (.str (gr [48+h,64,48+a,62])) (.str (gr ((iM m).map (48+·)))) (.str (nz (h,a,m))) (Ds (n:=5) (by decide)) (by rw[jc,jV];decide) (hc5 m m32) (zc h (qd h5 (by decide))) ?_ (zc a (qd a6 (by decide))) ?_ ?_ (Rt m m32) ?_ lL⟩
 .rw[at1];exact zb [48+h] [64] (by show 1+1<=1000;decide)
 .exact zb [48+h,64] [48+a] (by show 2+1<=1000;decide)
 .rw[gt1];exact zb [48+h,64,48+a] [62] (by show 3+1<=1000;decide)
 .exact zb [48+h,64,48+a,62] _ (by show 4+_<=1000;omega)
def zFa (R N F Z:D)(L1 ys A B L2:List D)(y2 y3 y4 y5:Sl)(i0:gb R (.int 0)=Ga N)(t0:lq N=Ga L1)(l1:L1.length<=1000000)(c1:gd (λ_=>Ga true) (gi fN eQ) [] L1=Ga ys)(a1:Ct (.list ys) (.list [.str (ja "/")])=Ga A)
  (i1:gb R (.int 1)=Ga F) (t1:lq F=Ga L2) (lp:gk aW (fK (oS 5 (nh 5 (gh df (gz gw (fv fW (fv gy eS (fT lz dC)) dW) ee) (gi fN eQ) [4]))) (rV 1 (fv fy (fv fy (fv fy (fv fy (gi fN eT) (fx (.str (ja "@")))) (gi fN eU)) (fx (.str (ja ">")))) (sY (fx (.str (ja ""))) eK)))) L2 [.val R,.own A,.no,.no,.no,.no]=Ga (.nx [.val R,.own B,y2,y3,y4,y5])) (j:mF (.str (ja " ")) B=Ga Z):oT [R]=Ga Z:=by
 rw[zpR];unfold NH;generalize (fK (oS 5 (nh 5 (gh df (gz gw (fv fW (fv gy eS (fT lz dC)) dW) ee) (gi fN eQ) [4]))) (rV 1 (fv fy (fv fy (fv fy (fv fy (gi fN eT) (fx (.str (ja "@")))) (gi fN eU)) (fx (.str (ja ">")))) (sY (fx (.str (ja ""))) eK))))=BB at *;generalize jp (ja "/")=q1 at *;generalize jp (ja " ")=q2 at *;simp[i0,t0,nR,Ge l1,c1,a1,i1,t1,lp,j]
def zzX (A:List Str)(g:F3->Str)(pre:List F3)(f:F3):(A++(pre++[f]).map g).map jp=(A++pre.map g).map jp++[.str (g f)]:=by
 rw[kr (f:=g),<- j3,kr (f:=jp) (l₂:=[f].map g)];rfl
def QW (vs:List Int)(fs:List F3)(hv:∀ v∈vs,-((10:Int)^60)<v/\v<(10:Int)^60)(nv:vs.length<=5)(nf:fs.length<=5)(hf:∀ f∈fs,si f):oT [rD vs fs]=Ga (.str (iA vs fs)):=by
 have c1:=Rn vs _ (λz (h:-((10:Int)^60)<z/\z<(10:Int)^60)=>yV z h.1 h.2) hv;have j:=Tp vs fs (Uj vs fs hv nv nf);have a1:Ct (.list ((vs.map nt).map jp)) (.list [.str (ja "/")])=Ga ((vs.map nt++[ja "/"]).map jp):=by
  show(if _ then _ else _)=_;rw[Ge (by rw[jc,jc];exact jI (show vs.length+1<=6 by omega) (by decide)),kr];rfl
 have G:=Lo (t:=rN bj) (g:=fK (oS 5 (nh 5 (gh df (gz gw (fv fW (fv gy eS (fT lz dC)) dW) ee) (gi fN eQ) [4]))) (rV 1 (fv fy (fv fy (fv fy (fv fy (gi fN eT) (fx (.str (ja "@")))) (gi fN eU)) (fx (.str (ja ">")))) (sY (fx (.str (ja ""))) eK)))) (ψ:=[.val (rD vs fs),.own ((vs.map nt++[ja "/"]).map jp),.no,.no,.no,.no]) td
  (λpre ψ=>∃ y2 y3 y4 y5,ψ=[.val (rD vs fs),.own ((vs.map nt++[ja "/"]++pre.map nz).map jp),y2,y3,y4,y5]) fs ⟨_,_,_,_,by rw[qc,kf]⟩ (by
   rintro pre f suf e ψ ⟨x2,x3,x4,x5,rfl⟩;have lp:pre.length<=5:=by
    have:=congrArg uF e;rw[je] at this;omega
   obtain⟨y2,y3,y4,y5,q⟩:=ZP (rD vs fs) f (hf f (by rw[e];exact jD _ jf)) ((vs.map nt++[ja "/"]++pre.map nz).map jp) x2 x3 x4 x5 (by
    rw[jc,je,je,jc,jc,jU];omega)
   refine⟨_,q,y2,y3,y4,y5,?_⟩;rw[zzX])
 obtain⟨_,q,y2,y3,y4,y5,rfl⟩:=G;have l1:(vs.map jd).length<=1000000:=by rw[jc];omega
 exact zFa (rD vs fs) _ _ _ _ _ _ _ _ y2 y3 y4 y5 rfl rfl l1 c1 a1 rfl rfl q j
def MN (X:List Fl):∀ (n a:Nat) (l:Int),l<(a:Int)->my l (((vd a n).filterMap λi=>iC X i).map λf=>(f.h:Int))=true
 | 0,_,_,_=>rfl
 | n+1,a,l,h=>by
  rw[vK];cases e:iC X a with
  | none=>rw[uU e];exact MN X n (a+1) l (by omega)
  | some f =>
   have ef:f.h=a:=by have:=Jz e;exact beq_iff_eq.mp this
   rw[uT e,jO];show(decide (l<(f.h:Int))&&my (f.h:Int) _)=true;rw[ef,Gc h,MN X n (a+1) (a:Int) (by omega)];rfl
def zzY(h:f∈pH X):f∈X:=by
 obtain⟨i,_,e⟩:=qK.mp h;exact vO e
def Tg(ok:∀ f∈X,pF n f.h f.a f.m=true):FG n (pH X):=by
 refine⟨λf hf=>ok f (zzY hf),?_,?_⟩
 .have:=MN X 5 0 (-1) (by omega);rw[<- vG] at this;exact this
 .exact jI (List.length_filterMap_le _ _) (by decide)
def Rq(G:FG n fs):(fs.map Fl.h).Nodup:=by
 have:=KL G.up;rw[qN] at this ⊢;rw[J8] at this ⊢;exact this.imp λz e=>z (by rw[e])
def Ro(h5:n<=5)(h:pF n f.h f.a f.m=true):f.h<5:=by
 have:=TM h;omega
def Qk(h5:n<=5)(ok:∀ f∈X,pF n f.h f.a f.m=true)(nd:(X.map Fl.h).Nodup):iU (X.map fd)=Ga ((pH X).map fd):=by
 have hl:X.length<=5:=by
  have:=yP 5 (X.map Fl.h) nd λx hx=>by
   obtain⟨f,hf,rfl⟩:=jr.mp hx;exact Ro h5 (ok f hf)
  rw[jc] at this;exact this
 exact zt7 hl nd λf hf=>Ro h5 (ok f hf)
def zFc (x:Int):∃ a:Int,1<=a/\a<=5/\L2.atI [jd 1,.int 1,.int 2,.int 2,.int 3,.int 4,.int 5] (x%7)=Ga (.int a):=by
 have h0:=kP x (show(7:Int)≠0 by decide);have h1:=kg x (show(0:Int)<7 by decide);generalize x%7=q at h0 h1;have:q=0\/q=1\/q=2\/q=3\/q=4\/q=5\/q=6:=by omega
 rcases this with rfl|rfl|rfl|rfl|rfl|rfl|rfl<;>exact⟨_,by decide,by decide,rfl⟩
def zCt (R N F:D)(c n h:Int)(L X Y:List D)(i0:gf R (.int 0)=Ga N)(hn:gZ N=Ga (.int n))(m1:fW (.int c) (.int n)=Ga (.int h))(i1:gf R (.int 1)=Ga F)(ts:toS F=Ga L)(l1:L.length<=1000000)(hc:gd bi eQ [.val (.int h)] L=Ga X)
  (d5:gy (.int c) (.int 5)=Ga (.int (c/5))) (m4:fW (.int (c/5)) (.int 4)=Ga (.int (c/5%4))) (q:¬0<c/5%4) (hs:iU X=Ga Y):sS [R,.int c]=Ga (.tuple [N,.tuple Y]):=by
 rw[PP];unfold Hq;generalize pZ=A1 at *;generalize lj=pw at *;simp[i0,hn,m1,i1,ts,nR,Ge l1,hc,d5,m4,Gd q,hs]
def zzZ (R N F:D)(c n h T a m:Int)(L X Y:List D)(i0:gf R (.int 0)=Ga N)(hn:gZ N=Ga (.int n))(m1:fW (.int c) (.int n)=Ga (.int h))(i1:gf R (.int 1)=Ga F)(ts:toS F=Ga L)(l1:L.length<=1000000)(hc:gd bi eQ [.val (.int h)] L=Ga X)
  (d5:gy (.int c) (.int 5)=Ga (.int (c/5))) (m4:fW (.int (c/5)) (.int 4)=Ga (.int (c/5%4))) (q:0<c/5%4) (d20:gy (.int c) (.int 20)=Ga (.int (c/20))) (m7:fW (.int (c/20)) (.int 7)=Ga (.int (c/20%7))) (ha:L2.atI [jd 1,.int 1,.int 2,.int 2,.int 3,.int 4,.int 5] (c/20%7)=Ga (.int a))
  (d140:gy (.int c) (.int 140)=Ga (.int (c/140))) (hp:lj (.int 10) (.int 9)=Ga (.int T)) (mT:fW (.int (c/140)) (.int T)=Ga (.int (c/140%T))) (hr:pZ [.int (c/140%T),.int h,.int n]=Ga (.int m)) (lX:X.length<1000000) (hs:iU (X++[.tuple [.int h,.int a,.int m]])=Ga Y):sS [R,.int c]=Ga (.tuple [N,.tuple Y]):=by
 rw[PP];unfold Hq;generalize pZ=A1 at *;generalize lj=pw at *;simp[i0,hn,m1,i1,ts,nR,Ge l1,hc,d5,m4,Gc q,d20,m7,ha,d140,hp,mT,hr,Ge lX,hs]
def VP (f h x:D)(b:Bool)(i0:gf f (.int 0)=Ga x)(hn:gN x h=Ga (.bool b)):gz gN cz eS [.val f,.val h]=Ga b:=by
 simp[i0,hn]
def ZH(G:RG n vs fs)(c:Int):∃ fs':List Fl,RG n vs fs'/\sS [RD vs fs,.int c]=Ga (RD vs fs'):=by
 have n2:=G.n2;have n5:=G.n5;have m0:=kP c (show(n:Int)≠0 by omega);have m1:=kg c (show(0:Int)<n by omega);obtain⟨h,hh⟩:=kA m0;have hl:h<n:=by omega
 generalize hX:(fs.filter λ(f:Fl)=>!(f.h==h))=X;have Xin:∀ f∈X,f∈fs/\f.h≠h:=λf hf=>by
  rw[<- hX] at hf;obtain⟨a,b⟩:=jY.mp hf;rw[kX,beq_eq_false_iff_ne] at b;exact⟨a,b⟩
 have ok1:∀ f∈X,pF n f.h f.a f.m=true:=λf hf=>G.fg.ok f (Xin f hf).1;have nd1:(X.map Fl.h).Nodup:=by
  rw[<- hX];exact(Rq G.fg).sublist (List.Sublist.map _ JN)
 have lX:X.length<=5:=by
  rw[<- hX];exact jI (ky _ _) G.fg.len
 have hc:gd bi eQ [.val (.int (h:Int))] (fs.map fd)=Ga (X.map fd):=by
  rw[<- hX];refine zZ fd (λf=>!(f.h==h)) fd (λf hf=>?_) (λf hf _=>rfl);refine VP _ _ (.int f.h) _ rfl ((Ik _ _).trans ?_)
  congr 2
  rw[jQ,kX,kX,beq_eq_false_iff_ne,beq_eq_false_iff_ne];omega
 have hn:gZ (.tuple (vD vs))=Ga (.int (n:Int)):=by
  show Ga (jd ((vD vs).length:Int))=_;unfold vD;rw[jc,G.len]
 have mh:fW (.int c) (.int (n:Int))=Ga (.int (h:Int)):=(nq (by omega)).trans (by rw[hh]);have l1:(fs.map fd).length<=1000000:=by rw[jc];have:=G.fg.len;omega
 by_cases q:0<c/5%4
 .obtain⟨a,a1,a2,ha⟩:=zFc (c/20);obtain⟨m,hm1,hm2,hr⟩:=Tb (c/140%10^9) h n hl n5;have ok2:∀ f∈X++[Fl.mk h a m],pF n f.h f.a f.m=true:=by
   intro f hf;rcases jM.mp hf with hf|hf
   .exact ok1 f hf
   .rw[jn.mp hf];unfold pF;dsimp only;rw[Gc (show(0:Int)<=(h:Int) by omega),Gc (show(h:Int)<(n:Int) by omega),Gc a1,Gc a2,Gc (show(0:Int)<=(m:Int) by omega),Gc hm1,jN,Gc hm2];rfl
  have nd2:((X++[Fl.mk h a m]).map Fl.h).Nodup:=by
   rw[kr];refine qV.mpr ⟨nd1,kO.mpr ⟨j8,u7⟩,?_⟩;intro x hx b hb;obtain⟨f,hf,rfl⟩:=jr.mp hx;have hb:b=h:=jn.mp hb;rw[hb];exact(Xin f hf).2
  have s:=Qk n5 ok2 nd2;rw[kr] at s;exact⟨pH (X++[Fl.mk h a m]),⟨n2,n5,G.len,G.nm,Tg ok2⟩,zzZ (RD vs fs) _ _ c n h (10^9) a m _ _ _ rfl hn mh rfl rfl l1 hc (sO (by decide) (by decide)) (nq (by decide)) q (sO (by decide) (by decide)) (nq (by decide)) ha (sO (by decide) (by decide)) (TH (by decide)) (nq (by decide)) hr (by rw[jc];omega) s⟩
 .exact⟨pH X,⟨n2,n5,G.len,G.nm,Tg ok1⟩,zCt (RD vs fs) _ _ c n h _ _ _ rfl hn mh rfl rfl l1 hc (sO (by decide) (by decide)) (nq (by decide)) q (Qk n5 ok1 nd1)⟩
def SL{lo hi:Option Int}{d:D}(h:d∈T3.cutD xs lo hi):d∈xs:=List.mem_of_mem_drop (List.mem_of_mem_take h)
def UZ (xs:List D)(lo hi:Option Int):(T3.cutD xs lo hi).length<=xs.length:=by unfold T3.cutD;rw[vI,uZ];omega
def zCv (S N R R2 c:D)(L:List D)(x4:Sl)(h:sS [R,c]=Ga R2)(lL:L.length<1000000):(iE 4 c [.val S,.val N,.val R,.own L,x4]).bind (fK (gR 2 (fT sS cR)) eJ)=Ga (.nx [.val S,.val N,.val R2,.own (L++[R2]),.val c]):=by
 generalize sS=A1 at *;simp[h,Ge lL]
def Za (S R C:D)(L cells cs rs:List D)(c0 many most:Int)(x2 x4:Sl)(hc0:mz [S,.int 0]=Ga (.int c0))(m4:fW (.int c0) (.int 4)=Ga (.int (c0%4)))(hm:2+c0%4=many)(d4:gy (.int c0) (.int 4)=Ga (.int (c0/4)))(m6:fW (.int (c0/4)) (.int 6)=Ga (.int most))(hr6:gO (.int 6)=Ga L)(lL:L.length<=1000000)
  (hc:gd (λ_=>Ga true) (fT mz aS) [.val S] L=Ga cells) (hr:Ax [.list cells,.int many,.int most]=Ga R) (hs:AR S (Ga 7) (Ga 63)=Ga C) (tc:toS C=Ga cs)
  (lp:gk eO (fK (gR 2 (fT sS cR)) eJ) cs [.val S,.val (.int many),.val R,.own [R],.no]=Ga (.nx [.val S,.val (.int many),x2,.own rs,x4])):xY [S]=Ga (.list rs):=by
 rw[zpQ];unfold LW;generalize (fK (gR 2 (fT sS cR)) eJ)=BB at *;generalize mz=A1 at *;generalize Ax=A2 at *;simp[hc0,m4,hm,d4,m6,hr6,nR,Ge lL,hc,hr,hs,tc,lp]
def zCx (ns:List Int)(hn:ns.length<=63):∃ (n:Nat) (vs:List Int) (fss:List (List Fl)),(∀ fs∈fss,RG n vs fs)/\fss.length<=64/\xY [.list (ns.map jd)]=Ga (.list (fss.map (RD vs))):=by
 obtain⟨c0,hc0⟩:=GB ns 0;obtain⟨cs,lc,hcs⟩:=zzN ns;have q:=zCl c0 (show(0:Int)<4 by decide);obtain⟨n,hnn⟩:=kA (show 0<=2+c0%4 by omega);obtain⟨vs,fs,G,hr⟩:=ZJ cs lc n (by omega) (by omega) (c0/4%6);have hsl:AR (.list (ns.map jd)) (Ga 7) (Ga 63)=Ga (.list (T3.cutD (ns.map jd) (Ga 7) (Ga 63))):=rfl;have hmem:∀ d∈T3.cutD (ns.map jd) (Ga 7) (Ga 63),∃ i:Int,d=.int i:=λd hd=>by
  obtain⟨i,_,rfl⟩:=jr.mp (SL hd);exact⟨i,rfl⟩
 have hlen:(T3.cutD (ns.map jd) (Ga 7) (Ga 63)).length<=63:=jI (UZ _ _ _) (by rwa[jc]);generalize T3.cutD (ns.map jd) (Ga 7) (Ga 63)=C at hsl hmem hlen;generalize uR (ns.map jd)=S at *;have L:=Lo (t:=iE 4) (g:=fK (gR 2 (fT sS cR)) eJ) (ψ:=[.val S,.val (.int (n:Int)),.val (RD vs fs),.own [RD vs fs],.no]) (λd:D=>d)
  (λpre ψ=>∃ (fs:List Fl) (fss:List (List Fl)) (x4:Sl),RG n vs fs/\(∀ f∈fss,RG n vs f)/\fss.length=pre.length+1/\ψ=[.val S,.val (.int (n:Int)),.val (RD vs fs),.own (fss.map (RD vs)),x4]) C
  ⟨fs,[fs],.no,G,λf hf=>by rwa[jn.mp hf],rfl,rfl⟩ (by
   rintro pre d suf e ψ ⟨fs,fss,x4,g1,g2,l,rfl⟩;have lp:pre.length<=63:=by
    have:=congrArg uF e;rw[je] at this;omega
   obtain⟨c,rfl⟩:=hmem d (by rw[e];exact jD _ jf);obtain⟨fs1,G1,e1⟩:=ZH g1 c;refine⟨_,zCv S _ _ _ _ _ x4 e1 (by rw[jc];omega),fs1,fss++[fs1],_,G1,λf hf=>?_,by rw[je,je,l];rfl,by rw[kr];rfl⟩;rcases jM.mp hf with hf|hf
   .exact g2 f hf
   .rwa[jn.mp hf])
 rw[List.map_id'] at L;obtain⟨_,lp,fs',fss,x4,_,g2,ll,rfl⟩:=L;exact⟨n,vs,fss,g2,by omega,Za S (RD vs fs) _ _ _ C _ c0 (n:Int) (c0/4%6) _ x4 hc0 (nq (by decide)) hnn (sO (by decide) (by decide)) (nq (by decide)) (Ds (n:=6) (by decide)) (by rw[jc,jV];decide) hcs hr hsl rfl lp⟩
end
def yz (fs:List Fl)(h:Nat):D:=match iC fs h with|some f=>fd f|none=>.none
def up (fs:List Fl)(h:Nat)(r:Int):Bool:=match iC fs h with|some f=>decide (r<f.a)|none=>true
structure lR (n:Nat)(fs:List Fl):Prop where
 n2:2<=n
 n5:n<=5
 hb:∀ f∈fs,f.h<n
 mb:∀ f∈fs,f.m<32
 nd:(fs.map Fl.h).Nodup
 ab:∀ f∈fs,1<=f.a
def eqH (f:Fl)(h:Nat):gw (.int f.h) (.int h)=Ga (.bool (f.h==h)):=by
 rw[xS];congr 2;rw[jQ,beq_iff_eq,beq_iff_eq];omega
def QY (a:Sl)(h:Nat):∀ (fs:List Fl) (x:Sl),
  (iC fs h=Gb->∃ x',gk (iB 2) (lG (gJ gw (fG gf (gv 2) (fU (.int 0))) (gv 1)) (gY (gv 2)) lD) (fs.map fd) [a,.val (.int h),x]=Ga (.nx [a,.val (.int h),x'])) /\
  (∀ f,iC fs h=Ga f->gk (iB 2) (lG (gJ gw (fG gf (gv 2) (fU (.int 0))) (gv 1)) (gY (gv 2)) lD) (fs.map fd) [a,.val (.int h),x]=Ga (.rt (fd f)))
 | [],x=>⟨λ_=>⟨x,rfl⟩,λf e=>by cases e⟩
 | f::r,x=>by
  obtain⟨i1,i2⟩:=QY a h r (.val (fd f));have hc:gJ gw (fG gf (gv 2) (fU (.int 0))) (gv 1) (frz [a,.val (.int h),.val (fd f)])=Ga (f.h==h):=pN (x:=.int f.h) (y:=.int h) rfl rfl (eqH f h);by_cases hh:(f.h==h)=true
  .have ef:iC (f::r) h=Ga f:=by unfold iC;exact uj (p:=λ(f:Fl)=>f.h==h) hh
   rw[ef];refine⟨λe=>by(cases e),λf' e=>?_⟩;cases e;rw[jO];unfold gk;rw[show iB 2 (fd f) [a,.val (.int h),x]=Ga [a,.val (.int h),.val (fd f)] from rfl,jh,pq (hc.trans (congrArg Ga hh))];rfl
  .have ef:iC (f::r) h=iC r h:=by unfold iC;exact uD (p:=λ(f:Fl)=>f.h==h) hh
   have hf:(f.h==h)=false:=by cases hq:(f.h==h) with|true=>exact absurd hq hh|false=>rfl
   have st:∀ o,gk (iB 2) (lG (gJ gw (fG gf (gv 2) (fU (.int 0))) (gv 1)) (gY (gv 2)) lD) (r.map fd) [a,.val (.int h),.val (fd f)]=o->gk (iB 2) (lG (gJ gw (fG gf (gv 2) (fU (.int 0))) (gv 1)) (gY (gv 2)) lD) ((f::r).map fd) [a,.val (.int h),x]=o:=by
    intro o e;rw[jO];rw[show ∀ t g d (ds:List D) ψ,gk t g (d::ds) ψ=(t d ψ).bind λe1=>(g e1).bind λo=>match o with|.nx e=>gk t g ds e|.ct e=>gk t g ds e|.bk e=>Ga (.nx e)|.rt d=>Ga (.rt d)|.ro ds=>Ga (.ro ds)|.rc d e=>Ga (.rc d e) from λ_ _ _ _ _=>rfl];rwa[show iB 2 (fd f) [a,.val (.int h),x]=Ga [a,.val (.int h),.val (fd f)] from rfl,jh,rL (hc.trans (congrArg Ga hf))]
   rw[ef];exact⟨λe=>by obtain⟨x',e'⟩:=i1 e;exact⟨x',st _ e'⟩,λf' e=>st _ (i2 f' e)⟩
def Sy (ns:List D)(fs:List Fl)(h:Nat):IE [rd ns fs,.int h]=Ga (yz fs h):=by
 obtain⟨i1,i2⟩:=QY (.val (rd ns fs)) h fs .no;show fY (Lj [.val (rd ns fs),.val (.int h),.no])=_;unfold Lj yz;cases e:iC fs h with
 | none =>
  obtain⟨x',e'⟩:=i1 e;rw[iw ((tq (ds:=fs.map fd) rfl).trans e')];rfl
 | some f=>rw[wJ ((tq (ds:=fs.map fd) rfl).trans (i2 f e))];rfl
def Uh (ns:List D)(fs:List Fl)(h:Nat)(r:Int):BF [rd ns fs,.int h,.int r]=Ga (.bool (up fs h r)):=by
 show fY (Nk [.val (rd ns fs),.val (.int h),.val (.int r),.no])=_;unfold Nk;rw[iw (e:=[.val (rd ns fs),.val (.int h),.val (.int r),.val (yz fs h)]) (tu ((lZ (ds:=[rd ns fs,.int h]) rfl).trans (Sy ns fs h)))];unfold yz up;cases iC fs h<;>rfl
def Rw (ns:List D)(fs:List Fl):Bt [rd ns fs]=Ga (.int ns.length):=rfl
def Ko (ns:List D)(fs:List Fl)(r:Int)(hn:ns.length<=5):wM [rd ns fs,.int r]=Ga (((jq ns.length).filter λh=>up fs h r).map λ(h:Nat)=>jd (h:Int)):=by
 show AF (Oc [.val (rd ns fs),.val (.int r)])=_;have ei:(iJ gO (fR Bt (fz (gv 0) gj))) [.val (rd ns fs),.val (.int r)]=Ga (ip 0 ns.length) :=
  (wS (a:=.int ns.length) ((lZ (ds:=[rd ns fs]) rfl).trans (Rw ns fs))).trans (xQ (by omega))
 have e:=Ts ((wN (fc:=lO (fR BF (fz (gv 2) (fz (gv 0) (fz (gv 1) gj))))) (fe:=gv 0) (ix:=[1,0]) ei (by rw[Ca];omega)).trans (Ec (p:=λd=>match d with|.int h=>up fs h.toNat r|_=>false) (F:=id) (λd hd=>by
  rw[rh] at hd;obtain⟨k,hk,rfl⟩:=jr.mp hd;exact xD ((lZ (ds:=[rd ns fs,.int (k:Int),.int r]) rfl).trans (Uh _ _ _ _)) rfl) (λd hd _=>rfl)))
 unfold Oc;rw[e,Rf,rh,vY,jE];rfl
def cm (fs:List Fl)(b t:Nat)(at_:Int):Bool :=
 if b=t then false else if up fs t at_=false then false else match iC fs b with
  | none=>true
  | some f=>if at_<f.a then true else decide (f.a=at_)&&decide ((f.m:Int)/(2^t)%2=1)
def DA(e:iC fs h=Ga f):f∈fs/\f.h=h:=⟨vO e,by have:=Jz e;exact beq_iff_eq.mp this⟩
def ZK (ns:List D)(fs:List Fl)(b t:Nat)(at_:Int)(G:lR ns.length fs)(ht:t<ns.length):EF [rd ns fs,.int b,.int t,.int at_]=Ga (.bool (cm fs b t at_)):=by
 have h5:=G.n5;show fY (Ml [.val (rd ns fs),.val (.int b),.val (.int t),.val (.int at_),.no])=_;unfold Ml;have c1:gJ gw (gv 1) (gv 2) (frz [.val (rd ns fs),.val (.int b),.val (.int t),.val (.int at_),.no])=Ga (decide (b=t)):=by
  refine pN (x:=.int b) (y:=.int t) rfl rfl ((xS _ _).trans ?_)
  congr 2;rw[jQ,beq_iff_eq,decide_eq_true_eq];omega
 have c2:rJ (lO (fR BF (fz (gv 0) (fz (gv 2) (fz (gv 3) gj))))) (frz [.val (rd ns fs),.val (.int b),.val (.int t),.val (.int at_),.no])=Ga (!(up fs t at_)) :=
  Ms (xD ((lZ (ds:=[rd ns fs,.int t,.int at_]) rfl).trans (Uh _ _ _ _)) rfl)
 unfold cm;by_cases hbt:b=t
 .rw[Ge hbt,wJ ((pq (zU (c1.trans (congrArg Ga (Gc hbt))))).trans (mQ rfl))];rfl
 rw[Gf hbt];by_cases hu:up fs t at_=false
 .rw[Ge hu,wJ ((pq ((re (c1.trans (congrArg Ga (Gd hbt)))).trans (c2.trans (by rw[hu];rfl)))).trans (mQ rfl))];rfl
 rw[Gf hu];have hu':up fs t at_=true:=by cases h:up fs t at_ with|true=>rfl|false=>exact absurd h hu
 rw[iw (rL ((re (c1.trans (congrArg Ga (Gd hbt)))).trans (c2.trans (by rw[hu'];rfl))))];rw[iw (e:=[.val (rd ns fs),.val (.int b),.val (.int t),.val (.int at_),.val (yz fs b)]) (tu ((lZ (ds:=[rd ns fs,.int b]) rfl).trans (Sy ns fs b)))];unfold yz;cases e:iC fs b with
 | none=>rw[wJ ((pq (zU (pN (x:=.none) (y:=.none) rfl rfl rfl))).trans (mQ rfl))];rfl
 | some f =>
  have hm:=G.mb f (DA e).1;dsimp only;have d1:gJ Ab (gv 4) (fU .none) (frz [.val (rd ns fs),.val (.int b),.val (.int t),.val (.int at_),.val (fd f)])=Ga false:=pN (x:=fd f) (y:=.none) rfl rfl rfl;have d2:gJ sU (fG gf (gv 4) (fU (.int 1))) (gv 3) (frz [.val (rd ns fs),.val (.int b),.val (.int t),.val (.int at_),.val (fd f)])=Ga (decide (at_<f.a)):=pN (x:=.int f.a) (y:=.int at_) rfl rfl rfl;by_cases hl:at_<f.a
  .rw[Ge hl,wJ ((pq ((re d1).trans (d2.trans (congrArg Ga (Gc hl))))).trans (mQ rfl))];rfl
  rw[Gf hl,iw (rL ((re d1).trans (d2.trans (congrArg Ga (Gd hl)))))];have d3:fG gw (fG gf (gv 4) (fU (.int 1))) (gv 3) [.val (rd ns fs),.val (.int b),.val (.int t),.val (.int at_),.val (fd f)]=Ga (.bool (decide (f.a=at_))):=by
   refine(iV (a:=.int f.a) (b:=.int at_) rfl rfl).trans ((xS _ _).trans ?_)
   congr 2
  have d4:fR rH (fz (fG gf (gv 4) (fU (.int 2))) (fz (gv 2) gj)) [.val (rd ns fs),.val (.int b),.val (.int t),.val (.int at_),.val (fd f)]=Ga (.bool (decide ((f.m:Int)/(2^t)%2=1))) :=
   (lZ (ds:=[.int f.m,.int t]) rfl).trans (Mn _ _ hm (by omega))
  rw[mQ (d:=.bool (decide (f.a=at_)&&decide ((f.m:Int)/(2^t)%2=1))) ?_]
  .rfl
  .show((fG gw (fG gf (gv 4) (fU (.int 1))) (gv 3) [.val (rd ns fs),.val (.int b),.val (.int t),.val (.int at_),.val (fd f)]).bind hJ).bind _=_;rw[d3,jh,show hJ (.bool (decide (f.a=at_)))=Ga (decide (f.a=at_)) from rfl,jh];cases decide (f.a=at_) with
   | false=>rfl
   | true=>exact d4
def pP (g:Fl->D):List Fl->List D->List D
 | [],E=>E
 | f::r,E=>pP g r (E.set f.h (g f))
def zr7(e:f.h=h):iC (f::r) h=Ga f:=by unfold iC;exact uj (p:=λ(f:Fl)=>f.h==h) (beq_iff_eq.mpr e)
def zr8(e:f.h≠h):iC (f::r) h=iC r h:=by unfold iC;exact uD (p:=λ(f:Fl)=>f.h==h) (by rwa[beq_iff_eq])
def LA (g:Fl->D)(h:Nat):∀ (fs:List Fl) (E:List D),(fs.map Fl.h).Nodup->h<E.length->(pP g fs E)[h]?=match iC fs h with|some f=>Ga (g f)|none=>E[h]?
 | [],E,_,_=>rfl
 | f::r,E,nd,hE=>by
  rw[jO,kO] at nd;have ih:=LA g h r (E.set f.h (g f)) nd.2 (by rwa[qu]);show(pP g r (E.set f.h (g f)))[h]?=_;rw[ih];by_cases e:f.h=h
  .have hn:iC r h=Gb:=by
    cases e2:iC r h with
    | none=>rfl
    | some f'=>exact absurd (jr.mpr ⟨f',(DA e2).1,(DA e2).2.trans e.symm⟩) nd.1
   rw[hn,zr7 e];dsimp only;rw[e,jG hE]
  .rw[zr8 e,jJ e]
def UP {ds:List D}(v:D)(hh:h<ds.length):zu ds (.int h) v=Ga (ds.set h v):=by
 show(L2.ixN ds.length (h:Int)).bind _=_;have:L2.ixN ds.length (h:Int)=Ga h:=by unfold L2.ixN;rw[Ge (by omega),Ge (by omega),jN]
 rw[this];rfl
abbrev Ch:FS:=fX (yi 1 (gv 3) (gv 4)) (yi 2 (gv 3) (gv 5))
abbrev GS:FT:=Du (ny (iB 3) (ny (iB 4) (ny (iB 5) (zt))))
def Ur (a:Sl):∀ (fs:List Fl) (E R:List D) (x y z:Sl),(∀ f∈fs,f.h<E.length/\f.h<R.length) ->
  ∃ x' y' z',gk GS Ch (fs.map fd) [a,.own E,.own R,x,y,z]=Ga (.nx [a,.own (pP (λf=>.int f.a) fs E),.own (pP (λf=>.int f.m) fs R),x',y',z'])
 | [],E,R,x,y,z,_=>⟨x,y,z,rfl⟩
 | f::r,E,R,x,y,z,hh=>by
  obtain⟨h1,h2⟩:=hh f jf;obtain⟨x',y',z',e⟩:=Ur a r (E.set f.h (.int f.a)) (R.set f.h (.int f.m)) (.val (.int f.h)) (.val (.int f.a)) (.val (.int f.m)) (λg hg=>by rw[qu,qu];exact hh g (jk _ hg));refine⟨x',y',z',?_⟩;rw[jO];unfold gk;rw[show GS (fd f) [a,.own E,.own R,x,y,z]=Ga [a,.own E,.own R,.val (.int f.h),.val (.int f.a),.val (.int f.m)] from rfl,jh];have s1:yi 1 (gv 3) (gv 4) [a,.own E,.own R,.val (.int f.h),.val (.int f.a),.val (.int f.m)]=Ga (.nx [a,.own (E.set f.h (.int f.a)),.own R,.val (.int f.h),.val (.int f.a),.val (.int f.m)]):=by
   show(zu E (.int f.h) (.int f.a)).bind _=_;rw[UP _ h1];rfl
  have s2:yi 2 (gv 3) (gv 5) [a,.own (E.set f.h (.int f.a)),.own R,.val (.int f.h),.val (.int f.a),.val (.int f.m)]=Ga (.nx [a,.own (E.set f.h (.int f.a)),.own (R.set f.h (.int f.m)),.val (.int f.h),.val (.int f.a),.val (.int f.m)]):=by
   show(zu R (.int f.h) (.int f.m)).bind _=_;rw[UP _ h2];rfl
  rwa[show Ch [a,.own E,.own R,.val (.int f.h),.val (.int f.a),.val (.int f.m)]=_ from(iw s1).trans s2]
def iY (fs:List Fl)(h:Nat):Int:=match iC fs h with|some f=>f.a|none=>9
def wT (fs:List Fl)(h:Nat):Nat:=match iC fs h with|some f=>f.m|none=>0
def pQ (n:Nat)(fs:List Fl):List D:=pP (λf=>.int f.a) fs (jB n (.int 9))
def sG (n:Nat)(fs:List Fl):List D:=pP (λf=>.int f.m) fs (jB n (.int 0))
def NU(nd:(fs.map Fl.h).Nodup)(hh:h<n):(pQ n fs)[h]?=Ga (.int (iY fs h)):=by
 unfold pQ iY;rw[LA _ _ _ _ nd (by rwa[j6])];cases iC fs h with
 | some f=>rfl
 | none=>dsimp only;rw[ka,Ge hh]
def Yw(nd:(fs.map Fl.h).Nodup)(hh:h<n):(sG n fs)[h]?=Ga (.int (wT fs h)):=by
 unfold sG wT;rw[LA _ _ _ _ nd (by rwa[j6])];cases iC fs h with
 | some f=>rfl
 | none=>dsimp only;rw[ka,Ge hh];rfl
def Qh (d:D)(h:n<=5):yH [d] (.int n)=Ga (jB n d):=by
 have hl:[d].length*(n:Int).toNat<=1000000:=by
  rw[jU,jN,Nat.one_mul];exact jI h (by decide)
 have hc:0<=(n:Int)/\(n:Int)<1000000/\[d].length*(n:Int).toNat<=1000000:=And.intro (by omega) (And.intro (by omega) hl);unfold yH;dsimp only;rw[Ge hc,jN,List.flatten_replicate_singleton]
variable {f:FL}{i r:Nat}
def Ry{y:D}(h1:f ψ=Ga xs)(h2:g ψ=Ga y):Au f g ψ=yH xs y:=by show(f ψ).bind _=_;rw[h1];show(g ψ).bind _=_;rw[h2];rfl
def So (ns:List D)(fs:List Fl)(G:lR ns.length fs):xW [rd ns fs]=Ga (.tuple [.list (pQ ns.length fs),.list (sG ns.length fs)]):=by
 have h5:=G.n5;show fY (MY [.val (rd ns fs),.no,.no,.no,.no,.no])=_;unfold MY;have r1:Au (fz (fU (.int 9)) gj) (un gZ (fG gf (gv 0) (fU (.int 0)))) [.val (rd ns fs),.no,.no,.no,.no,.no]=Ga (jB ns.length (.int 9)):=(Ry (xs:=[_]) (y:=.int ns.length) rfl rfl).trans (Qh _ h5);have r2:Au (fz (fU (.int 0)) gj) (un gZ (fG gf (gv 0) (fU (.int 0)))) [.val (rd ns fs),.own (jB ns.length (.int 9)),.no,.no,.no,.no]=Ga (jB ns.length (.int 0)):=(Ry (xs:=[_]) (y:=.int ns.length) rfl rfl).trans (Qh _ h5);rw[iw (MZ r1),iw (e:=[.val (rd ns fs),.own (jB ns.length (.int 9)),.own (jB ns.length (.int 0)),.no,.no,.no]) (MZ r2)];obtain⟨x',y',z',e⟩:=Ur (.val (rd ns fs)) fs (jB ns.length (.int 9)) (jB ns.length (.int 0)) .no .no .no (λf hf=>by rw[j6,j6];exact⟨G.hb f hf,G.hb f hf⟩);rw[iw ((tq (ds:=fs.map fd) rfl).trans e)];rfl
def TR{r:Int}(hr:r<9):up fs h r=decide (r<iY fs h):=by
 unfold up iY;cases iC fs h with
 | some f=>rfl
 | none=>exact(Gc hr).symm
def Xv (n:Nat)(fs:List Fl)(b t:Nat)(at_:Int)(G:lR n fs)(hb:b<n)(ht:t<n)(ha:at_<9):xM [.tuple [.list (pQ n fs),.list (sG n fs)],.int b,.int t,.int at_]=Ga (.bool (cm fs b t at_)):=by
 have h5:=G.n5;show fY (Km [.val (.tuple [.list (pQ n fs),.list (sG n fs)]),.val (.int b),.val (.int t),.val (.int at_),.no,.no])=_;have et:gf (.list (pQ n fs)) (.int t)=Ga (.int (iY fs t)):=wP (NU G.nd ht);have eb:gf (.list (pQ n fs)) (.int b)=Ga (.int (iY fs b)):=wP (NU G.nd hb);have rb:gf (.list (sG n fs)) (.int b)=Ga (.int (wT fs b)):=wP (Yw G.nd hb);generalize hE:uR (pQ n fs)=E at et eb ⊢;generalize hR:uR (sG n fs)=R at rb ⊢;unfold Km;rw[iw (e:=[.val (.tuple [E,R]),.val (.int b),.val (.int t),.val (.int at_),.val E,.val R]) rfl];have c1:gJ gw (gv 1) (gv 2) (frz [.val (.tuple [E,R]),.val (.int b),.val (.int t),.val (.int at_),.val E,.val R])=Ga (decide (b=t)):=by
  refine pN (x:=.int b) (y:=.int t) rfl rfl ((xS _ _).trans ?_)
  congr 2;rw[jQ,beq_iff_eq,decide_eq_true_eq];omega
 have c2:gJ lQ (fG gf (gv 4) (gv 2)) (gv 3) (frz [.val (.tuple [E,R]),.val (.int b),.val (.int t),.val (.int at_),.val E,.val R])=Ga (decide (iY fs t<=at_)):=pN (x:=.int (iY fs t)) (y:=.int at_) ((iV rfl rfl).trans et) rfl rfl;have c3:gJ mq (fG gf (gv 4) (gv 1)) (gv 3) (frz [.val (.tuple [E,R]),.val (.int b),.val (.int t),.val (.int at_),.val E,.val R])=Ga (decide (iY fs b<at_)):=pN (x:=.int (iY fs b)) (y:=.int at_) ((iV rfl rfl).trans eb) rfl rfl;have hcm:cm fs b t at_=(if b=t then false else if iY fs t<=at_ then false else if iY fs b<at_ then false else if at_<iY fs b then true else decide ((wT fs b:Int)/(2^t)%2=1)):=by
  unfold cm;rw[TR ha];by_cases q1:b=t
  .rw[Ge q1,Ge q1]
  rw[Gf q1,Gf q1];by_cases q2:iY fs t<=at_
  .rw[Ge q2,Ge (Gd (by omega))]
  rw[Gf q2,Gf (by rw[Gc (by omega)];exact Bool.noConfusion)];unfold iY wT;cases iC fs b with
  | none=>dsimp only;rw[Gf (by omega),Ge ha]
  | some f =>
   dsimp only;by_cases q3:f.a<at_
   .rw[Ge q3,Gf (by omega),Gd (by omega)];rfl
   rw[Gf q3];by_cases q4:at_<f.a
   .rw[Ge q4,Ge q4]
   rw[Gf q4,Gf q4,Gc (by omega)];rfl
 rw[hcm];by_cases q1:b=t
 .rw[Ge q1,wJ ((pq (zU (c1.trans (congrArg Ga (Gc q1))))).trans (mQ rfl))];rfl
 rw[Gf q1];have o1:=c1.trans (congrArg Ga (Gd q1));by_cases q2:iY fs t<=at_
 .rw[Ge q2,wJ ((pq ((re o1).trans (zU (c2.trans (congrArg Ga (Gc q2)))))).trans (mQ rfl))];rfl
 rw[Gf q2];have o2:=c2.trans (congrArg Ga (Gd q2));by_cases q3:iY fs b<at_
 .rw[Ge q3,wJ ((pq ((re o1).trans ((re o2).trans (c3.trans (congrArg Ga (Gc q3)))))).trans (mQ rfl))];rfl
 rw[Gf q3,iw (rL ((re o1).trans ((re o2).trans (c3.trans (congrArg Ga (Gd q3))))))];have d1:fG sU (fG gf (gv 4) (gv 1)) (gv 3) [.val (.tuple [E,R]),.val (.int b),.val (.int t),.val (.int at_),.val E,.val R]=Ga (.bool (decide (at_<iY fs b))):=(iV (a:=.int (iY fs b)) (b:=.int at_) ((iV rfl rfl).trans eb) rfl).trans rfl;have d2:fG gw (fG fW (fG gy (fG gf (gv 5) (gv 1)) (fR lz (fz (gv 2) gj))) (fU (.int 2))) (fU (.int 1)) [.val (.tuple [E,R]),.val (.int b),.val (.int t),.val (.int at_),.val E,.val R]=Ga (.bool (decide ((wT fs b:Int)/(2^t)%2=1))):=by
  have hp:=Gq (h:=t) (by omega);have i1:fG gy (fG gf (gv 5) (gv 1)) (fR lz (fz (gv 2) gj)) [.val (.tuple [E,R]),.val (.int b),.val (.int t),.val (.int at_),.val E,.val R]=Ga (.int ((wT fs b:Int)/2^t)) :=
   (iV (a:=.int (wT fs b)) (b:=.int (2^t:Int)) ((iV rfl rfl).trans rb) ((lZ (ds:=[.int t]) rfl).trans (EC (by omega)))).trans (sO hp.1 hp.2)
  refine(iV (a:=.int ((wT fs b:Int)/2^t%2)) (b:=.int 1) ((iV (b:=.int 2) i1 rfl).trans (nq (by decide))) rfl).trans ((xS _ _).trans ?_)
  congr 2
 rw[mQ (d:=.bool (if at_<iY fs b then true else decide ((wT fs b:Int)/(2^t)%2=1))) ?_]
 .rfl
 .show((fG sU (fG gf (gv 4) (gv 1)) (gv 3) [.val (.tuple [E,R]),.val (.int b),.val (.int t),.val (.int at_),.val E,.val R]).bind hJ).bind _=_;rw[d1,jh,show hJ (.bool (decide (at_<iY fs b)))=Ga (decide (at_<iY fs b)) from rfl,jh];by_cases q4:at_<iY fs b
  .rw[Gc q4,Ge q4];rfl
  .rwa[Gd q4,Gf q4]
def Oz{e:En}{d:List D}(h:f ψ=Ga d)(he:frzAt i (ψ.set i (.own d))=e):zv i (rQ i f) ψ=Ga (.nx e):=by rw[zF9 (MZ h),he]
def bk (d:D):Fl:=match d with
 | .tuple [.int a,.int b,.int c]=>⟨a.toNat,b,c.toNat⟩
 | _=>⟨0,0,0⟩
def vw (ns:List D)(fs:List Fl):Nat->Nat->D
 | 0,h=>.tuple [.int h,ns.getD h .none]
 | r+1,h=>.tuple [.int h,.tuple ((jq ns.length).map λo=>if o=h\/cm fs o h ((r+1:Nat):Int)=true then vw ns fs r o else .none)]
def wV (ns:List D)(fs:List Fl)(r h:Nat):D:=if up fs h r=true then vw ns fs r h else .none
def vL (ns:List D)(fs:List Fl)(r:Nat):List D:=(jq ns.length).map λh=>wV ns fs r h
def Qi (ns:List D)(fs:List Fl)(r:Nat):(vL ns fs r).length=ns.length:=by unfold vL;rw[jc,jV]
def UI(hh:h<ns.length):gf (.list (vL ns fs r)) (.int h)=Ga (wV ns fs r h):=by
 refine wP ?_;unfold vL;rw[jz,vP hh];rfl
def zCy{r r':Int}(hr:r<=r')(u:up fs h r'=true):up fs h r=true:=by
 unfold up at u ⊢;cases e:iC fs h with
 | none=>rfl
 | some f=>rw[e] at u;dsimp only at u ⊢;rw[decide_eq_true_eq] at u ⊢;omega
def zGC{o:Nat}(c:cm fs o h ((r+1:Nat):Int)=true):up fs o r=true:=by
 unfold cm at c;unfold up;split at c
 .cases c
 split at c
 .cases c
 split at c
 .rename_i e;rw[e]
 .rename_i f e;rw[e];dsimp only;split at c
  .rw[decide_eq_true_eq];omega
  .rw[jl,decide_eq_true_eq] at c;rw[decide_eq_true_eq];omega
variable {f:FV}
def CH {c:FB}{b:Bool}(h:c ψ=Ga b):xu c f g ψ=if b then f ψ else g ψ:=by show(c ψ).bind _=_;rw[h];rfl
def Xe (ns:List D)(fs:List Fl)(G:lR ns.length fs)(r h:Nat)(hh:h<ns.length)(u:up fs h ((r+1:Nat):Int)=true) :
  Gu [rd ns fs,.list (vL ns fs r),.int h,.int ((r+1:Nat):Int)]=Ga (vw ns fs (r+1) h):=by
 have h5:=G.n5;show fY (IV [.val (rd ns fs),.val (.list (vL ns fs r)),.val (.int h),.val (.int ((r+1:Nat):Int)),.no])=_;unfold IV;have el:un gZ (gv 1) [.val (rd ns fs),.val (.list (vL ns fs r)),.val (.int h),.val (.int ((r+1:Nat):Int)),.no]=Ga (.int ns.length):=by
  rw[yr (a:=.list (vL ns fs r)) rfl];show Ga (jd ((vL ns fs r).length:Nat))=_;rw[Qi]
 have ec:gh (iJ gO (un gZ (gv 1))) (λ_=>Ga true) (xu (sW (gJ gw (gv 0) (gv 2)) (lO (fR EF (fz (gv 3) (fz (gv 0) (fz (gv 2) (fz (gv 1) gj))))))) (fG gf (gv 4) (gv 0)) (fU .none)) [3,2,0,1] [.val (rd ns fs),.val (.list (vL ns fs r)),.val (.int h),.val (.int ((r+1:Nat):Int)),.no]=Ga ((jq ns.length).map λo=>if o=h\/cm fs o h ((r+1:Nat):Int)=true then vw ns fs r o else .none):=by
  refine(wN (ds:=ip 0 ns.length) ((wS el).trans (xQ (by omega))) (by rw[Ca];omega)).trans ((Af (F:=λd=>match d with|.int t=>(if t.toNat=h\/cm fs t.toNat h ((r+1:Nat):Int)=true then vw ns fs r t.toNat else .none)|_=>.none) (λd hd=>?_)).trans ?_)
  .rw[rh] at hd;obtain⟨o,ho,rfl⟩:=jr.mp hd;have ho':=jF.mp ho;show xu _ _ _ [.val (.int o),.val (.int ((r+1:Nat):Int)),.val (.int h),.val (rd ns fs),.val (.list (vL ns fs r))]=Ga (if (o:Int).toNat=h\/cm fs (o:Int).toNat h ((r+1:Nat):Int)=true then vw ns fs r (o:Int).toNat else .none);rw[jN];have c1:gJ gw (gv 0) (gv 2) [.val (.int o),.val (.int ((r+1:Nat):Int)),.val (.int h),.val (rd ns fs),.val (.list (vL ns fs r))]=Ga (decide (o=h)):=by
    refine pN (x:=.int o) (y:=.int h) rfl rfl ((xS _ _).trans ?_)
    congr 2;rw[jQ,beq_iff_eq,decide_eq_true_eq];omega
   have c2:lO (fR EF (fz (gv 3) (fz (gv 0) (fz (gv 2) (fz (gv 1) gj))))) [.val (.int o),.val (.int ((r+1:Nat):Int)),.val (.int h),.val (rd ns fs),.val (.list (vL ns fs r))]=Ga (cm fs o h ((r+1:Nat):Int)) :=
    xD ((lZ (ds:=[rd ns fs,.int o,.int h,.int ((r+1:Nat):Int)]) rfl).trans (ZK ns fs o h _ G hh)) rfl
   have ix:∀ (w:up fs o r=true),fG gf (gv 4) (gv 0) [.val (.int o),.val (.int ((r+1:Nat):Int)),.val (.int h),.val (rd ns fs),.val (.list (vL ns fs r))]=Ga (vw ns fs r o):=λw=>by
    refine(iV (a:=.list (vL ns fs r)) (b:=.int o) rfl rfl).trans ((UI ho').trans ?_);unfold wV;rw[Ge w]
   by_cases q:o=h
   .rw[CH (b:=true) (zU (c1.trans (congrArg Ga (Gc q)))),Ge rfl,Ge (kC q)];exact ix (by rw[q];exact zCy (by omega) u)
   .cases hc:cm fs o h ((r+1:Nat):Int) with
    | true =>
     rw[CH (b:=true) ((re (c1.trans (congrArg Ga (Gd q)))).trans (c2.trans (congrArg Ga hc))),Ge rfl,Ge (j7 rfl)];exact ix (zGC hc)
    | false =>
     rw[CH (b:=false) ((re (c1.trans (congrArg Ga (Gd q)))).trans (c2.trans (congrArg Ga hc))),Gf jH,Gf (λz=>by rcases z with z|z;exact q z;cases z)]
  .rw[rh,jE];rfl
 rw[iw (Oz ec rfl)];rfl
def zq5{r:Int}(hh:h<n):(((jq n).filter λh=>up fs h r).map λ(k:Nat)=>(k:Int)).contains (h:Int)=up fs h r:=by
 rw[jQ,kK,jr];constructor
 .rintro⟨k,hk,e⟩;have:k=h:=by omega
  subst this;exact(jY.mp hk).2
 .intro u;exact⟨h,jY.mpr ⟨jF.mpr hh,u⟩,rfl⟩
def zmO (ns:List D)(fs:List Fl)(G:lR ns.length fs)(r:Nat):FQ [rd ns fs,.list (vL ns fs r),.int ((r+1:Nat):Int)]=Ga (.list (vL ns fs (r+1))):=by
 have h5:=G.n5;show fY (Of [.val (rd ns fs),.val (.list (vL ns fs r)),.val (.int ((r+1:Nat):Int)),.no])=_;unfold Of;have hw:=Ko ns fs ((r+1:Nat):Int) h5;generalize hU:(((jq ns.length).filter λh=>up fs h ((r+1:Nat):Int)).map λ(h:Nat)=>jd (h:Int))=U at hw;have hU':U=((((jq ns.length).filter λh=>up fs h ((r+1:Nat):Int)).map λ(k:Nat)=>(k:Int))).map jd:=by rw[jE,<- hU];rfl
 rw[iw (e:=[.val (rd ns fs),.val (.list (vL ns fs r)),.val (.int ((r+1:Nat):Int)),.val (.list U)]) (tu (wF ((Ng (ds:=[rd ns fs,.int ((r+1:Nat):Int)]) rfl).trans hw)))];have el:un gZ (gv 1) [.val (rd ns fs),.val (.list (vL ns fs r)),.val (.int ((r+1:Nat):Int)),.val (.list U)]=Ga (.int ns.length):=by
  rw[yr (a:=.list (vL ns fs r)) rfl];show Ga (jd ((vL ns fs r).length:Nat))=_;rw[Qi]
 have ec:gh (iJ gO (un gZ (gv 1))) (λ_=>Ga true) (xu (gJ rY (gv 0) (gv 3)) (fR Gu (fz (gv 2) (fz (gv 4) (fz (gv 0) (fz (gv 1) gj))))) (fU .none)) [2,0,3,1] [.val (rd ns fs),.val (.list (vL ns fs r)),.val (.int ((r+1:Nat):Int)),.val (.list U)]=Ga (vL ns fs (r+1)):=by
  refine(wN (ds:=ip 0 ns.length) ((wS el).trans (xQ (by omega))) (by rw[Ca];omega)).trans ((Af (F:=λd=>match d with|.int t=>wV ns fs (r+1) t.toNat|_=>.none) (λd hd=>?_)).trans ?_)
  .rw[rh] at hd;obtain⟨h,ho,rfl⟩:=jr.mp hd;have ho':=jF.mp ho;show xu _ _ _ [.val (.int h),.val (.int ((r+1:Nat):Int)),.val (rd ns fs),.val (.list U),.val (.list (vL ns fs r))]=Ga (wV ns fs (r+1) (h:Int).toNat);rw[jN];have c1:gJ rY (gv 0) (gv 3) [.val (.int h),.val (.int ((r+1:Nat):Int)),.val (rd ns fs),.val (.list U),.val (.list (vL ns fs r))]=Ga (up fs h ((r+1:Nat):Int)) :=
    pN (x:=.int h) (y:=.list U) rfl rfl (by rw[hU',Tw,zq5 ho'])
   rw[CH c1];unfold wV;cases u:up fs h ((r+1:Nat):Int) with
   | true=>rw[Ge rfl,Ge rfl];exact(lZ (ds:=[rd ns fs,.list (vL ns fs r),.int h,.int ((r+1:Nat):Int)]) rfl).trans (Xe ns fs G r h ho' u)
   | false=>rw[Gf jH,Gf jH]
  .rw[rh,jE];rfl
 exact(congrArg fY (mQ (wF ec))).trans rfl
def up0(G:lR n fs)(h:Nat):up fs h ((0:Nat):Int)=true:=by
 unfold up;cases e:iC fs h with
 | none=>rfl
 | some f=>dsimp only;rw[decide_eq_true_eq];have:=G.ab f (DA e).1;omega
def zCz(hh:h<ns.length):gf (.tuple ns) (.int h)=Ga (ns.getD h .none):=by
 refine wP ?_;rw[ji,jg hh];rfl
def Ri (ns:List D)(fs:List Fl)(G:lR ns.length fs)(a b:Sl)(hb:a=.val (rd ns fs)):∀ (m s:Nat) (x:Sl),∃ x',gk (iB 3) (gC 2 (fR FQ (fz (gv 0) (fz (gv 2) (fz (gv 3) gj))))) ((vd s m).map λ(k:Nat)=>jd ((k+1:Nat):Int)) [a,b,.val (.list (vL ns fs s)),x]=Ga (.nx [a,b,.val (.list (vL ns fs (s+m))),x'])
 | 0,s,x=>⟨x,rfl⟩
 | m+1,s,x=>by
  subst hb;obtain⟨x',e⟩:=Ri ns fs G (.val (rd ns fs)) b rfl m (s+1) (.val (.int ((s+1:Nat):Int)));refine⟨x',?_⟩;rw[vK,jO];unfold gk;rw[show iB 3 (jd ((s+1:Nat):Int)) [.val (rd ns fs),b,.val (.list (vL ns fs s)),x]=Ga [.val (rd ns fs),b,.val (.list (vL ns fs s)),.val (.int ((s+1:Nat):Int))] from rfl,jh];rw[tu (d:=.list (vL ns fs (s+1))) ((lZ (ds:=[rd ns fs,.list (vL ns fs s),.int ((s+1:Nat):Int)]) rfl).trans (zmO ns fs G s))];rwa[show s+(m+1)=s+1+m by omega]
def zsA (ns:List D)(fs:List Fl)(G:lR ns.length fs)(r:Nat)(hr:r<100):DR [rd ns fs,.int r]=Ga (.list (vL ns fs r)):=by
 have h5:=G.n5;show fY (KI [.val (rd ns fs),.val (.int r),.no,.no])=_;unfold KI;have ec:gh (iJ gO (fR Bt (fz (gv 0) gj))) (λ_=>Ga true) (yw (fz (gv 0) (fz (fG gf (fG gf (gv 1) (fU (.int 0))) (gv 0)) gj))) [0] [.val (rd ns fs),.val (.int r),.no,.no]=Ga (vL ns fs 0):=by
  refine(wN (ds:=ip 0 ns.length) ((wS (a:=.int ns.length) ((lZ (ds:=[rd ns fs]) rfl).trans (Rw ns fs))).trans (xQ (by omega))) (by rw[Ca];omega)).trans ((Af (F:=λd=>match d with|.int t=>wV ns fs 0 t.toNat|_=>.none) (λd hd=>?_)).trans ?_)
  .rw[rh] at hd;obtain⟨h,ho,rfl⟩:=jr.mp hd;have ho':=jF.mp ho;show yw _ [.val (.int h),.val (rd ns fs)]=Ga (wV ns fs 0 (h:Int).toNat);rw[jN];unfold wV;rw[Ge (up0 G h)];exact WU (Ed rfl (Ed ((iV (a:=.tuple ns) (b:=.int h) rfl rfl).trans (zCz ho')) rfl))
  .rw[rh,jE];rfl
 rw[iw (Oz ec rfl)];obtain⟨x',e⟩:=Ri ns fs G (.val (rd ns fs)) (.val (.int r)) rfl r 0 .no;rw[vg] at e;have er:rP mU (fU (.int 1)) (fG fy (gv 1) (fU (.int 1))) [.val (rd ns fs),.val (.int r),.val (.list (vL ns fs 0)),.no]=Ga ((vd 0 r).map λ(k:Nat)=>jd ((k+1:Nat):Int)):=by
  refine(QV (a:=.int 1) (b:=.int ((r:Int)+1)) rfl rfl).trans ?_;unfold mU;dsimp only;rw[Ge (by omega),show((r:Int)+1-1).toNat=r by omega,<- vG];unfold ip;refine congrArg Ga (kL λk _=>?_);rw[show(1:Int)+(k:Nat)=((k+1:Nat):Int) by omega]
 show fY (fX _ _ [.val (rd ns fs),.val (.int r),.val (.list (vL ns fs 0)),.no])=_;rw[iw ((tq er).trans e)];rfl
def YX (ns:List D)(fs:List Fl)(r h:Nat)(hh:h<ns.length):Ek [vw ns fs (r+1) h]=Ga (vw ns fs r h):=by
 have g:((jq ns.length).map λo=>if o=h\/cm fs o h ((r+1:Nat):Int)=true then vw ns fs r o else .none)[h]?=Ga (vw ns fs r h):=by
  rw[jz,vP hh,qA,Ge (kC rfl)]
 show fY (Kg [.val (vw ns fs (r+1) h)])=_;unfold Kg;exact(congrArg fY (mQ (d:=vw ns fs r h) ((iV (a:=.tuple ((jq ns.length).map λo=>if o=h\/cm fs o h ((r+1:Nat):Int)=true then vw ns fs r o else .none)) (b:=.int h) rfl rfl).trans (wP g)))).trans rfl
def QF (ns:List D)(fs:List Fl)(hi:∀ d∈ns,∃ i:Int,d=.int i)(h:Nat)(hh:h<ns.length):∀ (r m:Nat) (j:Int),r<m->nk (lO (un (pi "tuple") (fG gf (gv 0) (fU (.int 1))))) (fX (gC 0 (fR Ek (fz (gv 0) gj))) (gC 1 (fG fy (gv 1) (fU (.int 1))))) m [.val (vw ns fs r h),.val (.int j)]=Ga (.nx [.val (vw ns fs 0 h),.val (.int (j+r))])
 | 0,m,j,hm=>by
  obtain⟨m',rfl⟩:∃ m',m=m'+1:=⟨m-1,by omega⟩;unfold nk;have e:lO (un (pi "tuple") (fG gf (gv 0) (fU (.int 1)))) (frz [.val (vw ns fs 0 h),.val (.int j)])=Ga false:=by
   obtain⟨i,hi'⟩:=hi (ns[h]) (k0 hh);refine xD (d:=.bool false) ((yr (a:=.int i) ((iV (a:=vw ns fs 0 h) (b:=.int 1) rfl rfl).trans ?_)).trans rfl) rfl;show Ga (ns.getD h .none)=_;rw[ji,jg hh,<- hi'];rfl
  rw[e,jh,Gf jH,show(j+((0:Nat):Int))=j by omega]
 | r+1,m,j,hm=>by
  obtain⟨m',rfl⟩:∃ m',m=m'+1:=⟨m-1,by omega⟩;have ih:=QF ns fs hi h hh r m' (j+1) (by omega);unfold nk;have e:lO (un (pi "tuple") (fG gf (gv 0) (fU (.int 1)))) (frz [.val (vw ns fs (r+1) h),.val (.int j)])=Ga true:=rfl;have b1:fX (gC 0 (fR Ek (fz (gv 0) gj))) (gC 1 (fG fy (gv 1) (fU (.int 1)))) [.val (vw ns fs (r+1) h),.val (.int j)]=Ga (.nx [.val (vw ns fs r h),.val (.int (j+1))]) :=
   (iw (e:=[.val (vw ns fs r h),.val (.int j)]) (tu ((lZ (ds:=[vw ns fs (r+1) h]) rfl).trans (YX ns fs r h hh)))).trans rfl
  rw[e,jh,Ge rfl,b1,jh];show nk _ _ m' [.val (vw ns fs r h),.val (.int (j+1))]=_;rw[ih,show j+1+(r:Int)=j+((r+1:Nat):Int) by omega]
def zw6 (ns:List D)(fs:List Fl)(hi:∀ d∈ns,∃ i:Int,d=.int i)(r h:Nat)(hh:h<ns.length)(hr:r<100):FF [vw ns fs r h]=Ga (.int r):=by
 show fY (Mg [.val (vw ns fs r h),.no])=_;unfold Mg;rw[iw (e:=[.val (vw ns fs r h),.val (.int 0)]) rfl,iw (QF ns fs hi h hh r 100 0 hr),Jn];rfl
def Br {t:FT}{g:FS}{α:Type}(f:α->D)(I:List α->En->Prop)(xs:List α)(st:∀ pre x suf,xs=pre++x::suf->∀ ψ,I pre ψ->∃ e1 e2,t (f x) ψ=Ga e1/\g e1=Ga (.nx e2)/\I (pre++[x]) e2) :
  ∀ suf pre ψ,xs=pre++suf->I pre ψ->∃ e,gk t g (suf.map f) ψ=Ga (.nx e)/\I xs e
 | [],pre,ψ,h,hI=>⟨ψ,rfl,(by rwa[h,kf])⟩
 | x::suf,pre,ψ,h,hI=>by
  obtain⟨e1,e2,h1,h2,h3⟩:=st pre x suf h ψ hI;obtain⟨e,h4,h5⟩:=Br f I xs st suf (pre++[x]) e2 (by rw[h,j3];rfl) h3;refine⟨e,?_,h5⟩;rw[jO];unfold gk;rwa[h1,jh,h2]
def Xd{a b:Nat}(h:vw ns fs r a=vw ns fs r b):a=b:=by
 have hd:∀ (r a:Nat),∃ d,vw ns fs r a=.tuple [.int (a:Int),d]:=λr a=>by cases r<;>exact⟨_,rfl⟩
 obtain⟨d1,e1⟩:=hd r a;obtain⟨d2,e2⟩:=hd r b;rw[e1,e2] at h;have:=Vw (uH (PyData.tuple.inj h)).1;omega
def zCA (ns:List D)(fs:List Fl)(r h:Nat):wk (vw ns fs r h) .none=Ga (.bool true):=by cases r<;>rfl
def FM:∀ {xs:List D} {n:Nat},(∀ x∈xs,fZ x n=true)->iR xs n=true
 | [],_,_=>by rw[iR]
 | x::xs,n,h=>by rw[iR,h x jf,FM λy hy=>h y (jk _ hy)];rfl
def QG (ns:List D)(fs:List Fl)(hi:∀ d∈ns,∃ i:Int,d=.int i):∀ (r h m:Nat),2*r+1<=m->fZ (vw ns fs r h) m=true
 | 0,h,m,hm=>by
  obtain⟨m',rfl⟩:∃ m',m=m'+1:=⟨m-1,by omega⟩;show fZ (.tuple [.int h,ns.getD h .none]) (m'+1)=true;rw[fZ];refine FM λx hx=>?_;rcases jo.mp hx with rfl|hx
  .rw[fZ]
  .cases jn.mp hx;by_cases hh:h<ns.length
   .obtain⟨i,e⟩:=hi _ (k0 hh);rw[ji,jg hh];show fZ ns[h] m'=true;rw[e,fZ]
   .rw[ji,kI (by omega)];show fZ vb m'=true;rw[fZ]
 | r+1,h,m,hm=>by
  obtain⟨m',rfl⟩:∃ m',m=m'+2:=⟨m-2,by omega⟩;show fZ (.tuple [.int h,.tuple ((jq ns.length).map λo=>if o=h\/cm fs o h ((r+1:Nat):Int)=true then vw ns fs r o else .none)]) (m'+1+1)=true;rw[fZ];refine FM λx hx=>?_;rcases jo.mp hx with rfl|hx
  .rw[fZ]
  .cases jn.mp hx;rw[fZ];refine FM λy hy=>?_;obtain⟨o,_,rfl⟩:=jr.mp hy;split
   .exact QG ns fs hi r o m' (by omega)
   .rw[fZ]
def zFf (ns:List D)(fs:List Fl)(r h:Nat):wu (vw ns fs r h)=true:=by cases r<;>rfl
def Xs (ns:List D)(fs:List Fl)(r w:Nat)(B:List Nat):on (B.map (vw ns fs r)) (vw ns fs r w)=(if w∈B then B else B++[w]).map (vw ns fs r):=by
 unfold on;by_cases h:w∈B
 .rw[Ge h,Ge (jr.mpr ⟨w,h,rfl⟩)]
 .rw[Gf h,Gf (λz=>by obtain⟨b,hb,e⟩:=jr.mp z;exact h (Xd e▸hb)),kr];rfl
def Wr {B:List Nat}{w:Nat}(nB:B.Nodup)(lB:∀ x∈B,x<n)(hw:w<n):(if w∈B then B else B++[w]).Nodup/\(∀ x∈(if w∈B then B else B++[w]),x<n)/\∀ x,x∈(if w∈B then B else B++[w])↔x∈B\/x=w:=by
 by_cases h:w∈B
 .rw[Ge h];exact⟨nB,lB,λx=>⟨.inl,λz=>by rcases z with z|z;exact z;rwa[z]⟩⟩
 .rw[Gf h];refine⟨?_,λx hx=>?_,λx=>by rw[jM,jn]⟩
  .rw[qV];refine⟨nB,kO.mpr ⟨by simp,u7⟩,λx hx y hy=>?_⟩;rw[jn.mp hy];exact λz=>h (z▸hx)
  .rcases jM.mp hx with z|z
   .exact lB x z
   .rwa[jn.mp z]
def zFg{k:D}{ks:List D}(h1:f ψ=Ga k)(h2:ψ[i]?=Ga (.dic ks))(hk:(fZ k 8&&wu k)=true)(hl:ks.length<1000000):zR i f ψ=Ga (.nx (ψ.set i (.dic (on ks k)))):=by
 unfold zR;rw[h1,jh,h2];exact Ge ⟨hk,hl⟩
noncomputable abbrev Kr:FS:=lG (gJ wk (gv 3) (fU .none)) (zR 1 (gv 3)) (lD)
noncomputable abbrev Hl:FS:=mj (pR (fG gf (gv 2) (fU (.int 1)))) (iB 3) Kr
def zz3 (ns:List D)(fs:List Fl)(hi:∀ d∈ns,∃ i:Int,d=.int i)(n5:ns.length<=5)(r:Nat)(hr:r<=3)(A:List Nat)(lA:∀ x∈A,x<ns.length) :
  ∃ B:List Nat,FI [.list (A.map (vw ns fs (r+1)))]=Ga (.list (B.map (vw ns fs r)))/\B.Nodup/\(∀ x∈B,x<ns.length)/\∀ x,x∈B↔x<ns.length/\∃ o∈A,x=o\/cm fs x o ((r+1:Nat):Int)=true:=by
 have inner:∀ (L:D) (o:Nat) (x3:Sl) (B0:List Nat),o<ns.length->B0.Nodup->(∀ x∈B0,x<ns.length)->∃ (B:List Nat) (y3:Sl),Hl [.val L,.dic (B0.map (vw ns fs r)),.val (vw ns fs (r+1) o),x3]=Ga (.nx [.val L,.dic (B.map (vw ns fs r)),.val (vw ns fs (r+1) o),y3])/\B.Nodup/\(∀ x∈B,x<ns.length)/\∀ x,x∈B↔x∈B0\/(x<ns.length/\(x=o\/cm fs x o ((r+1:Nat):Int)=true)):=by
  intro L o x3 B0 ho nB0 lB0;have hs:pR (fG gf (gv 2) (fU (.int 1))) [.val L,.dic (B0.map (vw ns fs r)),.val (vw ns fs (r+1) o),x3]=Ga ((jq ns.length).map λw=>if w=o\/cm fs w o ((r+1:Nat):Int)=true then vw ns fs r w else .none):=rfl;have hv:∀ w,w<ns.length->(fZ (vw ns fs r w) 8&&wu (vw ns fs r w))=true:=λw _=>by rw[QG ns fs hi r w 8 (by omega),zFf];rfl
  generalize (Sl.val (vw ns fs (r+1) o))=S2 at hs ⊢;have Lp:=Br (t:=iB 3) (g:=Kr) (λw=>if w=o\/cm fs w o ((r+1:Nat):Int)=true then vw ns fs r w else .none)
   (λpre ψ=>∃ (B:List Nat) (y3:Sl),ψ=[.val L,.dic (B.map (vw ns fs r)),S2,y3]/\B.Nodup/\(∀ x∈B,x<ns.length)/\∀ x,x∈B↔x∈B0\/(x∈pre/\(x=o\/cm fs x o ((r+1:Nat):Int)=true)))
   (jq ns.length) (by
    intro pre w suf hx ψ hI;obtain⟨B,y3,rfl,nB,lB,mB⟩:=hI;have hw:w<ns.length:=jF.mp (by rw[hx];exact jD _ jf);have mpre:∀ x,x∈pre++[w]↔x∈pre\/x=w:=λx=>by rw[jM,jn]
    by_cases c:w=o\/cm fs w o ((r+1:Nat):Int)=true
    .rw[Ge c];have lenB:=yP ns.length B nB lB;obtain⟨p1,p2,p3⟩:=Wr nB lB hw;refine⟨[.val L,.dic (B.map (vw ns fs r)),S2,.val (vw ns fs r w)],[.val L,.dic ((if w∈B then B else B++[w]).map (vw ns fs r)),S2,.val (vw ns fs r w)],rfl,?_,_,_,rfl,p1,p2,λx=>?_⟩
     .refine(pq (pN (x:=vw ns fs r w) (y:=.none) rfl rfl (zCA ns fs r w))).trans ?_;rw[<- Xs];exact zFg (ks:=B.map (vw ns fs r)) (k:=vw ns fs r w) rfl rfl (hv w hw) (by rw[jc];omega)
     .rw[p3,mB,mpre];constructor
      .rintro((z|⟨z1,z2⟩)|z)
       .exact .inl z
       .exact .inr ⟨.inl z1,z2⟩
       .rw[z];exact .inr ⟨.inr rfl,c⟩
      .rintro(z|⟨z1|z1,z2⟩)
       .exact .inl (.inl z)
       .exact .inl (.inr ⟨z1,z2⟩)
       .exact .inr z1
    .rw[Gf c];refine⟨[.val L,.dic (B.map (vw ns fs r)),S2,.val .none],_,rfl,(rL (pN (x:=.none) (y:=.none) rfl rfl rfl)).trans rfl,B,_,rfl,nB,lB,λx=>?_⟩;rw[mB,mpre];constructor
     .rintro(z|⟨z1,z2⟩)
      .exact .inl z
      .exact .inr ⟨.inl z1,z2⟩
     .rintro(z|⟨z1|z1,z2⟩)
      .exact .inl z
      .exact .inr ⟨z1,z2⟩
      .rw[z1] at z2;exact absurd z2 c)
   (jq ns.length) [] [.val L,.dic (B0.map (vw ns fs r)),S2,x3] rfl ⟨B0,x3,rfl,nB0,lB0,λx=>⟨.inl,λz=>by rcases z with z|⟨z,_⟩;exact z;cases z⟩⟩
  obtain⟨e,e1,B,y3,rfl,nB,lB,mB⟩:=Lp;refine⟨B,y3,(tq hs).trans e1,nB,lB,λx=>?_⟩;rw[mB,jF]
 generalize hL:uR (A.map (vw ns fs (r+1)))=L;show ∃ B:List Nat,fY (OL [.val L,.no,.no,.no])=_/\_;have Lq:=Br (t:=iB 2) (g:=Hl) (vw ns fs (r+1))
  (λpre ψ=>∃ (B:List Nat) (y2 y3:Sl),ψ=[.val L,.dic (B.map (vw ns fs r)),y2,y3]/\B.Nodup/\(∀ x∈B,x<ns.length)/\∀ x,x∈B↔x<ns.length/\∃ o∈pre,x=o\/cm fs x o ((r+1:Nat):Int)=true)
  A (by
   intro pre o suf hx ψ hI;obtain⟨B,y2,y3,rfl,nB,lB,mB⟩:=hI;have ho:o<ns.length:=lA o (by rw[hx];exact jD _ jf);obtain⟨C,z3,e1,nC,lC,mC⟩:=inner L o y3 B ho nB lB;refine⟨[.val L,.dic (B.map (vw ns fs r)),.val (vw ns fs (r+1) o),y3],_,rfl,e1,C,_,_,rfl,nC,lC,λx=>?_⟩;rw[mC,mB];constructor
   .rintro(⟨z1,o',z2,z3⟩|⟨z1,z2⟩)
    .exact⟨z1,o',uO _ z2,z3⟩
    .exact⟨z1,o,jD _ jf,z2⟩
   .rintro⟨z1,o',z2,z3⟩;rcases jM.mp z2 with z2|z2
    .exact .inl ⟨z1,o',z2,z3⟩
    .rw[jn.mp z2] at z3;exact .inr ⟨z1,z3⟩)
  A [] [.val L,.dic [],.no,.no] rfl ⟨[],_,_,rfl,u7,λx h=>(by cases h),λx=>⟨λh=>(by cases h),λh=>(by obtain⟨_,o,h,_⟩:=h;cases h)⟩⟩
 obtain⟨e,e1,B,y2,y3,rfl,nB,lB,mB⟩:=Lq;refine⟨B,?_,nB,lB,mB⟩;have iM:pR (gv 0) [.val L,.dic [],.no,.no]=Ga (A.map (vw ns fs (r+1))):=by rw[<- hL];rfl
 unfold OL;rw[iw (e:=[.val L,.dic [],.no,.no]) rfl];rw[iw ((tq iM).trans e1)];have kd:wl (DS (B.map (vw ns fs r)))=Ga (B.map (vw ns fs r)):=by
  rw[PQ,Ol]
 show fY (gY (iP (iJ wl (gv 1))) [.val L,.val (DS (B.map (vw ns fs r))),y2,y3])=_;exact(congrArg fY (mQ (wF ((wS (a:=DS (B.map (vw ns fs r))) rfl).trans kd)))).trans rfl
def Rb (fs:List Fl)(n r h:Nat):Nat->Nat->Prop
 | 0,x=>x=h
 | i+1,x=>x<n/\∃ o,Rb fs n r h i o/\(x=o\/cm fs x o ((r-i:Nat):Int)=true)
def zGD(hh:h<n):∀ {i x:Nat},Rb fs n r h i x->x<n
 | 0,x,z=>by rwa[show x=h from z]
 | _+1,_,z=>z.1
def zz4{m:Nat}{v:D}(hl:xs.length=m+1)(h:xs[m]?=Ga v):L2.atI xs (-1)=Ga v:=by
 unfold L2.atI L2.ixN;rwa[Gf (by decide),Ge (by omega),jh,show((-1:Int)+(xs.length:Nat)).toNat=m by omega]
def Cu (ns:List D)(fs:List Fl)(r h i:Nat)(d:D):Prop:=∃ A:List Nat,d=.list (A.map (vw ns fs (r-i)))/\A.Nodup/\(∀ x∈A,x<ns.length)/\∀ x,x∈A↔Rb fs ns.length r h i x
def zw7 (ns:List D)(fs:List Fl)(hi:∀ d∈ns,∃ i:Int,d=.int i)(n5:ns.length<=5)(r h:Nat)(hr:r<=4)(hh:h<ns.length) :
  ∃ Ls:List D,Bw [vw ns fs r h]=Ga (.list Ls)/\Ls.length=r+1/\∀ k,k<=r->∃ d,Ls[k]?=Ga d/\Cu ns fs r h (r-k) d:=by
 have hro:=zw6 ns fs hi r h hh (by omega);have h0:∀ f:Nat,Cu ns fs r h 0 (.list [vw ns fs r h]):=λ_=>⟨[h],rfl,kO.mpr ⟨by simp,u7⟩,λx hx=>by rwa[jn.mp hx],λx=>by rw[jn];exact Iff.rfl⟩;show ∃ Ls:List D,fY (Ma [.val (vw ns fs r h),.no,.no])=_/\_;have h0:=h0 0;generalize vw ns fs r h=v at hro h0;have Lp:=Br (t:=iB 2) (g:=zI 1 (fR FI (fz (Lh (gl 1) (un xf (fU (.int 1)))) gj))) (λ(k:Nat)=>jd (k:Int))
  (λpre ψ=>∃ (Ls:List D) (x2:Sl),ψ=[.val v,.own Ls,x2]/\Ls.length=pre.length+1/\pre.length<=r/\∀ i,i<=pre.length->∃ d,Ls[i]?=Ga d/\Cu ns fs r h i d)
  (jq r) (by
   intro pre w suf hx ψ hI;obtain⟨Ls,x2,rfl,hl,hp,hL⟩:=hI;have hlen:pre.length+1<=r:=by
    have:=congrArg uF hx;rw[jV,je,jC] at this;omega
   obtain⟨d,hd,A,rfl,nA,lA,mA⟩:=hL pre.length (jw _);obtain⟨q,hq⟩:∃ q,r-pre.length=q+1:=⟨r-pre.length-1,by omega⟩;rw[hq] at hd;obtain⟨B,e1,nB,lB,mB⟩:=zz3 ns fs hi n5 q (by omega) A lA;have hix:Lh (gl 1) (un xf (fU (.int 1))) [.val v,.own Ls,.val (.int w)]=Ga (.list (A.map (vw ns fs (q+1)))):=by
    show Fm Ls (.int (-1))=_;show L2.atI Ls (-1)=_;exact zz4 hl hd
   refine⟨[.val v,.own Ls,.val (.int w)],[.val v,.own (Ls++[.list (B.map (vw ns fs q))]),.val (.int w)],rfl,PY (ds:=Ls) rfl ((lZ (ds:=[.list (A.map (vw ns fs (q+1)))]) (Ed hix rfl)).trans e1) (by omega),Ls++[.list (B.map (vw ns fs q))],_,rfl,by rw[je,je,hl];rfl,by rw[je];exact hlen,λi hi'=>?_⟩;rw[je,jU] at hi';by_cases c:i<=pre.length
   .obtain⟨d,h1,h2⟩:=hL i c;exact⟨d,by rwa[ki (by omega)],h2⟩
   .have ei:i=pre.length+1:=by omega
    subst ei;refine⟨_,by rw[jZ (by omega),hl,J9];rfl,B,by rw[show r-(pre.length+1)=q by omega],nB,lB,λx=>?_⟩;rw[mB];show _↔x<ns.length/\∃ o,Rb fs ns.length r h pre.length o/\(x=o\/cm fs x o ((r-pre.length:Nat):Int)=true);rw[hq];constructor
    .rintro⟨z1,o,z2,z3⟩;exact⟨z1,o,(mA o).mp z2,z3⟩
    .rintro⟨z1,o,z2,z3⟩;exact⟨z1,o,(mA o).mpr z2,z3⟩)
  (jq r) [] [.val v,.own [.list [v]],.no] rfl ⟨[.list [v]],_,rfl,rfl,kh _,λi hi'=>⟨.list [v],by rw[show i=0 from by simpa using hi'];rfl,by rwa[show i=0 from by simpa using hi']⟩⟩
 obtain⟨e,e1,Ls,x2,rfl,hl,_,hL⟩:=Lp;rw[jV] at hl hL;refine⟨Ls.reverse,?_,by rwa[vQ],λk hk=>?_⟩
 .unfold Ma;rw[iw (e:=[.val v,.own [.list [v]],.no]) rfl];have er:iJ gO (fR FF (fz (gv 0) gj)) [.val v,.own [.list [v]],.no]=Ga ((jq r).map λ(k:Nat)=>jd (k:Int)):=(wS (a:=.int r) ((lZ (ds:=[v]) rfl).trans hro)).trans ((xQ (by omega)).trans (by rw[rh]));rw[iw ((tq er).trans e1)];rfl
 .obtain⟨d,h1,h2⟩:=hL (r-k) (by omega);refine⟨d,?_,h2⟩;rwa[JE (by omega),hl,show r+1-1-k=r-k by omega]
def il (A:List Nat):List D:=A.map λ(k:Nat)=>jd (k:Int)
def tQ:Nat->List (List Nat)
 | 0=>[[]]
 | n+1=>(tQ n).flatMap λA=>((jq 5).filter λx=>!A.contains x).map λx=>x::A
def IR:∀ (A:List Nat),A.Nodup->(∀ x∈A,x<5)->A∈tQ A.length
 | [],_,_=>jn.mpr rfl
 | x::A,nd,lt=>by
  rw[kO] at nd;show x::A∈(tQ A.length).flatMap _;rw[Ve];refine⟨A,IR A nd.2 λy hy=>lt y (jk _ hy),jr.mpr ⟨x,jY.mpr ⟨jF.mpr (lt x jf),?_⟩,rfl⟩⟩;rw[kX,<- vJ,kK];exact nd.1
def GJ (A:List Nat)(i j:Nat):Option Bool:=(A[i]?).bind λa=>(A[j]?).bind λb=>Ga (decide (a<b))
def yo (A:List Nat):Bool:=match oH (GJ A) (uI A.length) with
 | some p=>decide (p.size<=64)&&(p.toList.all λi=>decide (i<A.length))&&(p.toList.map (λi=>A.getD i 0)==(jq 5).filter λx=>A.contains x)
 | none=>false
def zCB:((tQ 2).all yo&&(tQ 3).all yo&&(tQ 4).all yo&&(tQ 5).all yo)=true:=by nofun
def Xc:(jq 5).all (λa=>(jq 5).filter (λx=>[a].contains x)==[a])=true:=by nofun
def XU (n:Nat)(hn:n<=5)(A:List Nat)(lt:∀ x∈A,x<n):(jq 5).filter (λx=>A.contains x)=(jq n).filter λx=>A.contains x:=by
 have e:jq 5=jq n++(jq (5-n)).map (n+·):=by rw[<- List.range_add,show n+(5-n)=5 by omega]
 rw[e,qO];have:((jq (5-n)).map (n+·)).filter (λx=>A.contains x)=[]:=by
  rw[vn];intro x hx;obtain⟨k,_,rfl⟩:=jr.mp hx;rw[kK];intro z;have:=lt _ z;omega
 rw[this,kf]
def sw (ns:List D)(fs:List Fl)(hi:∀ d∈ns,∃ i:Int,d=.int i)(n5:ns.length<=5)(A:List Nat)(nd:A.Nodup)(lt:∀ x∈A,x<ns.length) :
  iU (A.map (vw ns fs 0))=Ga (((jq ns.length).filter λx=>A.contains x).map (vw ns fs 0)):=by
 have hlen:=yP ns.length A nd lt;have l5:∀ x∈A,x<5:=λx hx=>by have:=lt x hx;omega
 have hm:=IR A nd l5;rw[<- XU ns.length n5 A lt];have mN:∀ a,a<ns.length->∃ i:Int,ns.getD a .none=.int i:=λa ha=>by
  obtain⟨i,e⟩:=hi _ (k0 ha);exact⟨i,by rwa[ji,jg ha]⟩
 unfold iU;by_cases h2:A.length<2
 .rw[Ge (by rwa[jc])];refine congrArg Ga (congrArg (List.map _) ?_)
  match A,h2,l5 with
  | [],_,_=>rfl
  | [a],_,l5 =>
   have:=jR.mp Xc a (jF.mpr (l5 a jf));exact(eq_of_beq this).symm
  | _::_::_,h2,_=>simp at h2;omega
 .rw[Gf (by rwa[jc])];have ok:(decide ((A.map (vw ns fs 0)).length<64)&&oQ (A.map (vw ns fs 0)))=true:=by
   rw[jc,Gc (show A.length<64 by omega),qm];unfold oQ;rw[vo];refine .inr (jR.mpr λd hd=>?_);obtain⟨a,ha,rfl⟩:=jr.mp hd;obtain⟨i,e⟩:=mN a (lt a ha);show Fq (.tuple [.int a,ns.getD a .none])=true;rw[e];rfl
  rw[Ge ok,jc];have lte:xp (A.map (vw ns fs 0))=GJ A:=by
   funext i j
   unfold xp GJ;rw[jz,jz];cases hA:A[i]? with
   | none=>rfl
   | some a =>
    cases hB:A[j]? with
    | none=>rfl
    | some b =>
     obtain⟨x,ex⟩:=mN a (lt a (j5 hA));obtain⟨y,ey⟩:=mN b (lt b (j5 hB));show Ac (.tuple [.int a,ns.getD a .none]) (.tuple [.int b,ns.getD b .none])=Ga (decide (a<b));rw[ex,ey];show Ga (oI [(a:Int),x] [(b:Int),y])=_;unfold oI;by_cases hab:a=b
     .subst hab;have exy:x=y:=by rw[ex] at ey;exact Vw ey
      subst exy;rw[beq_self_eq_true,Ge rfl];unfold oI;rw[beq_self_eq_true,Ge rfl,Gd (kb a)];rfl
     .rw[Gf (by rw[beq_iff_eq];omega)];refine congrArg Ga ?_;rw[jQ,decide_eq_true_eq,decide_eq_true_eq];omega
  rw[lte];have hc:yo A=true:=by
   have h5:A.length=2\/A.length=3\/A.length=4\/A.length=5:=by omega
   have ca:=zCB;rw[jl,jl,jl] at ca;obtain⟨⟨⟨c2,c3⟩,c4⟩,c5⟩:=ca;rcases h5 with e|e|e|e<;>rw[e] at hm
   .exact jR.mp c2 A hm
   .exact jR.mp c3 A hm
   .exact jR.mp c4 A hm
   .exact jR.mp c5 A hm
  unfold yo at hc;cases hk:oH (GJ A) (uI A.length) with
  | none=>rw[hk] at hc;cases hc
  | some p =>
   rw[hk] at hc;dsimp only at hc;rw[jl,jl,decide_eq_true_eq] at hc;obtain⟨⟨c1,c2⟩,c3⟩:=hc;rw[jh,Ge c1,<- eq_of_beq c3,jE];refine congrArg Ga (kL λi hi'=>?_);have hl:i<A.length:=of_decide_eq_true (jR.mp c2 i hi');show(A.map (vw ns fs 0)).getD i .none=vw ns fs 0 (A.getD i 0);rw[ji,jz,jg hl,ji,jg hl];rfl
def Tf (fs:List Fl)(n:Nat):Nat->Nat->Nat->Bool
 | 0,h,o=>decide (o=h)
 | r+1,h,o=>Tf fs n r h o||(jq n).any λw=>cm fs w h ((r+1:Nat):Int)&&Tf fs n r w o
def Uq (fs:List Fl)(n r h:Nat)(hh:h<n)(x:Nat):∀ i,i<=r->((∃ o,Rb fs n r h i o/\Tf fs n (r-i) o x=true)↔Tf fs n r h x=true)
 | 0,_=>⟨λ⟨o,z1,z2⟩=>by rw[show o=h from z1] at z2;exact z2,λz=>⟨h,rfl,z⟩⟩
 | i+1,hi=>by
  rw[<- Uq fs n r h hh x i (by omega)];obtain⟨q,hq⟩:∃ q,r-i=q+1:=⟨r-i-1,by omega⟩;rw[show r-(i+1)=q by omega,hq];constructor
  .rintro⟨o',⟨z1,o,z2,z3⟩,z4⟩;refine⟨o,z2,?_⟩;show(Tf fs n q o x||(jq n).any λw=>cm fs w o ((q+1:Nat):Int)&&Tf fs n q w x)=true;rw[hq] at z3;rw[vo];rcases z3 with z3|z3
   .rw[<- z3];exact .inl z4
   .refine .inr (u8.mpr ⟨o',jF.mpr z1,?_⟩);rw[z3,z4];rfl
  .rintro⟨o,z2,z4⟩;have ho:=zGD hh z2;have z4':(Tf fs n q o x||(jq n).any λw=>cm fs w o ((q+1:Nat):Int)&&Tf fs n q w x)=true:=z4;rw[vo] at z4';rcases z4' with z|z
   .exact⟨o,⟨ho,o,z2,.inl rfl⟩,z⟩
   .obtain⟨w,hw,e⟩:=u8.mp z;rw[jl] at e;exact⟨w,⟨jF.mp hw,o,z2,.inr (by rw[hq];exact e.1)⟩,e.2⟩
def XH (fs:List Fl)(n r h:Nat)(hh:h<n)(x:Nat):Rb fs n r h r x↔Tf fs n r h x=true:=by
 rw[<- Uq fs n r h hh x r (jw _),J9];constructor
 .intro z;exact⟨x,z,Gc rfl⟩
 .rintro⟨o,z1,z2⟩;have:x=o:=of_decide_eq_true z2;rwa[this]
def kn (fs:List Fl)(n r h:Nat):List Nat:=(jq n).filter λo=>Tf fs n r h o
def zV (ns:List D)(fs:List Fl)(r h:Nat):List D:=(kn fs ns.length r h).map (vw ns fs 0)
def XY (ns:List D)(fs:List Fl)(hi:∀ d∈ns,∃ i:Int,d=.int i)(n5:ns.length<=5)(r h:Nat)(hr:r<=4)(hh:h<ns.length):Ey [vw ns fs r h]=Ga (.list (zV ns fs r h)):=by
 obtain⟨Ls,e1,hl,hL⟩:=zw7 ns fs hi n5 r h hr hh;obtain⟨d,hd,A,rfl,nA,lA,mA⟩:=hL 0 (kh _);rw[qH,J9] at hd;have hs:=sw ns fs hi n5 A nA lA;have ea:((jq ns.length).filter λx=>A.contains x)=kn fs ns.length r h:=by
  unfold kn;refine qf λx hx=>?_;rw[jQ,kK,mA,qH];exact XH fs ns.length r h hh x
 rw[ea] at hs;show fY (Ii [.val (vw ns fs r h)])=_;generalize vw ns fs r h=v at e1;unfold Ii;have e2:fG gf (fR Bw (fz (gv 0) gj)) (fU (.int 0)) [.val v]=Ga (.list (A.map (vw ns fs 0))):=(iV (a:=.list Ls) (b:=.int ((0:Nat):Int)) ((lZ (ds:=[v]) rfl).trans e1) rfl).trans (wP hd);have s:Hy (Ad (fG gf (fR Bw (fz (gv 0) gj)) (fU (.int 0)))) [.val v]=Ga (zV ns fs r h):=by
  show(Ad (fG gf (fR Bw (fz (gv 0) gj)) (fU (.int 0))) [.val v]).bind iU=_;rwa[Kv e2]
 exact(congrArg fY (mQ (wF s))).trans rfl
def Ef(hx:x∈kn fs n r h):x<n:=jF.mp (jY.mp hx).1
def zCD (A:List Nat):il A=(A.map λ(k:Nat)=>(k:Int)).map jd:=by unfold il;rw[jE];rfl
def Tt (w:Nat)(A:List Nat):rY (.int w) (.list (il A))=Ga (.bool (decide (w∈A))):=by
 rw[zCD,Tw];refine congrArg (λb=>Ga (jS b)) ?_;rw[jQ,kK,decide_eq_true_eq,jr];exact⟨λ⟨a,ha,e⟩=>by rwa[show w=a by omega],λz=>⟨w,z,rfl⟩⟩
def zCE (A B:List Nat)(h:A.length+B.length<=1000000):fy (.list (il A)) (.list (il B))=Ga (.list (il (A++B))):=by
 unfold fy;dsimp only;rw[Ge (by unfold il;rw[jc,jc,sizeLine_eq];exact jI h (by decide))];unfold il;rw[kr]
def me (fs:List Fl)(n r:Nat):List D:=(jq n).map λh=>.list (il (kn fs n r h))
def TX(hh:h<n):gf (.list (me fs n r)) (.int h)=Ga (.list (il (kn fs n r h))):=by
 refine wP ?_;unfold me;rw[jz,vP hh];rfl
def QB:∀ (n h:Nat),h<n->(jq n).filter (λo=>decide (o=h))=[h]
 | 0,h,hh=>by omega
 | n+1,h,hh=>by
  rw[Vo,qO];by_cases e:h=n
  .subst e;rw[show(jq h).filter (λo=>decide (o=h))=[] from vn.mpr λx hx=>by rw[decide_eq_true_eq];have:=jF.mp hx;omega];exact u5 (p:=λo=>decide (o=h)) (l:=[]) (Gc rfl)
  .rw[QB n h (by omega)];rw[show List.filter (λo=>decide (o=h)) [n]=[] from vn.mpr λx hx=>by rw[jn.mp hx,decide_eq_true_eq];exact λz=>e z.symm];rfl
def HC (fs:List Fl)(n r h:Nat):(kn fs n r h).length<=n:=by
 unfold kn;have:=ky (λo=>Tf fs n r h o) (jq n);rw[jV] at this;exact this
def MO:x∈kn fs n r h↔x<n/\Tf fs n r h x=true:=by unfold kn;rw[jY,jF]
def zt9 (f:FL)(fc:FB)(ix:List Nat)(ψ:En)(n:Nat)(p:Nat->Bool)(hf:f ψ=Ga (ip 0 n))(hn:n<1000000)(hc:∀ h:Nat,h<n->fc (.val (.int h)::ls ix ψ)=Ga (p h)) :
  gh f fc (gv 0) ix ψ=Ga (il ((jq n).filter p)):=by
 refine(wN (ds:=ip 0 n) hf (by rw[Ca];omega)).trans ((Ec (p:=λd=>match d with|.int t=>p t.toNat|_=>false) (F:=λd=>d) (λd hd=>?_) (λd hd _=>rfl)).trans ?_)
 .rw[rh] at hd;obtain⟨h,ho,rfl⟩:=jr.mp hd;exact hc h (jF.mp ho)
 .rw[rh,vY,jE];rfl
abbrev Oh:FS:=lG (lO (fR xM (fz (gv 2) (fz (gv 9) (fz (gv 4) (fz (gv 6) gj)))))) (gC 8 (fG fy (gv 8) (fG gf (gv 5) (gv 9)))) (lD)
abbrev zp:FS:=fX (gC 8 (iP (FH (fG gf (gv 5) (gv 4))))) (fX (mj (iJ gO (gv 3)) (iB 9) Oh) (zI 7 (iP (gh (iJ gO (gv 3)) (gJ rY (gv 0) (gv 1)) (gv 0) [8]))))
abbrev Cs:FS:=fX (rQ 7 gj) (fX (mj (iJ gO (gv 3)) (iB 4) zp) (zA 7 (gC 5 (gv 7))))
def zFj (n5:n<=5)(hc:∀ w h,w<n->h<n->xM [T,.int w,.int h,.int ((s+1:Nat):Int)]=Ga (.bool (cm fs w h ((s+1:Nat):Int))))(hS:∀ h:Nat,h<n->gf S (.int h)=Ga (.list (il (kn fs n s h))))(h:Nat)(hh:h<n)(N:List D)(hN:N.length<1000000)(x8 x9:Sl) :
  ∃ y8 y9,zp [.val a0,.val a1,.val T,.val (.int n),.val (.int h),.val S,.val (.int ((s+1:Nat):Int)),.own N,x8,x9]=Ga (.nx [.val a0,.val a1,.val T,.val (.int n),.val (.int h),.val S,.val (.int ((s+1:Nat):Int)),.own (N++[.list (il (kn fs n (s+1) h))]),y8,y9]):=by
 have er:∀ x8 x9,iJ gO (gv 3) [.val a0,.val a1,.val T,.val (.int n),.val (.int h),.val S,.val (.int ((s+1:Nat):Int)),.own N,x8,x9]=Ga (ip 0 n):=λ_ _=>(wS (a:=.int n) rfl).trans (xQ (by omega));have s8:gC 8 (iP (FH (fG gf (gv 5) (gv 4)))) [.val a0,.val a1,.val T,.val (.int n),.val (.int h),.val S,.val (.int ((s+1:Nat):Int)),.own N,x8,x9]=Ga (.nx [.val a0,.val a1,.val T,.val (.int n),.val (.int h),.val S,.val (.int ((s+1:Nat):Int)),.own N,.val (.list (il (kn fs n s h))),x9]) :=
  tu (wF (zGb ((iV (a:=S) (b:=.int h) rfl rfl).trans (hS h hh)) rfl))
 have Lp:=Br (t:=iB 9) (g:=Oh) (λ(k:Nat)=>jd (k:Int))
  (λpre ψ=>∃ (W:List Nat) (y9:Sl),ψ=[.val a0,.val a1,.val T,.val (.int n),.val (.int h),.val S,.val (.int ((s+1:Nat):Int)),.own N,.val (.list (il W)),y9]/\W.length<=5+5*pre.length/\∀ x,x∈W↔x∈kn fs n s h\/∃ w∈pre,cm fs w h ((s+1:Nat):Int)=true/\x∈kn fs n s w)
  (jq n) (by
   intro pre w suf hx ψ hI;obtain⟨W,y9,rfl,hW,mW⟩:=hI;have hw:w<n:=jF.mp (by rw[hx];exact jD _ jf);have hpl:pre.length<=5:=by
    have:=congrArg uF hx;rw[jV,je,jC] at this;omega
   have c1:lO (fR xM (fz (gv 2) (fz (gv 9) (fz (gv 4) (fz (gv 6) gj))))) (frz [.val a0,.val a1,.val T,.val (.int n),.val (.int h),.val S,.val (.int ((s+1:Nat):Int)),.own N,.val (.list (il W)),.val (.int w)])=Ga (cm fs w h ((s+1:Nat):Int)) :=
    xD ((lZ (ds:=[T,.int w,.int h,.int ((s+1:Nat):Int)]) rfl).trans (hc w h hw hh)) rfl
   have hl1:=HC fs n s w;have mpre:∀ w',w'∈pre++[w]↔w'∈pre\/w'=w:=λx=>by rw[jM,jn]
   refine⟨[.val a0,.val a1,.val T,.val (.int n),.val (.int h),.val S,.val (.int ((s+1:Nat):Int)),.own N,.val (.list (il W)),.val (.int w)],?_⟩;cases c:cm fs w h ((s+1:Nat):Int) with
   | true =>
    rw[c] at c1;refine⟨[.val a0,.val a1,.val T,.val (.int n),.val (.int h),.val S,.val (.int ((s+1:Nat):Int)),.own N,.val (.list (il (W++kn fs n s w))),.val (.int w)],rfl,(pq c1).trans (tu ((iV (a:=.list (il W)) (b:=.list (il (kn fs n s w))) rfl ((iV (a:=S) (b:=.int w) rfl rfl).trans (hS w hw))).trans (zCE _ _ (by omega)))),W++kn fs n s w,_,rfl,by rw[je,je,jU];omega,λx=>?_⟩;rw[jM,mW];constructor
    .rintro((z|⟨w',z1,z2⟩)|z)
     .exact .inl z
     .exact .inr ⟨w',(mpre w').mpr (.inl z1),z2⟩
     .exact .inr ⟨w,(mpre w).mpr (.inr rfl),c,z⟩
    .rintro(z|⟨w',z1,z2⟩)
     .exact .inl (.inl z)
     .rcases(mpre w').mp z1 with z1|z1
      .exact .inl (.inr ⟨w',z1,z2⟩)
      .rw[z1] at z2;exact .inr z2.2
   | false =>
    rw[c] at c1;refine⟨_,rfl,(rL c1).trans rfl,W,_,rfl,by rw[je];omega,λx=>?_⟩;rw[mW];constructor
    .rintro(z|⟨w',z1,z2⟩)
     .exact .inl z
     .exact .inr ⟨w',(mpre w').mpr (.inl z1),z2⟩
    .rintro(z|⟨w',z1,z2⟩)
     .exact .inl z
     .rcases(mpre w').mp z1 with z1|z1
      .exact .inr ⟨w',z1,z2⟩
      .rw[z1,c] at z2;cases z2.1)
  (jq n) [] [.val a0,.val a1,.val T,.val (.int n),.val (.int h),.val S,.val (.int ((s+1:Nat):Int)),.own N,.val (.list (il (kn fs n s h))),x9] rfl ⟨kn fs n s h,x9,rfl,by have:=HC fs n s h;omega,λx=>⟨.inl,λz=>by rcases z with z|⟨_,z,_⟩;exact z;cases z⟩⟩
 obtain⟨e,e1,W,y9,rfl,hW,mW⟩:=Lp;refine⟨.val (.list (il W)),y9,?_⟩;unfold zp;rw[iw s8];rw[iw ((tq ((er _ _).trans (by rw[rh]))).trans e1)];have ec:gh (iJ gO (gv 3)) (gJ rY (gv 0) (gv 1)) (gv 0) [8] [.val a0,.val a1,.val T,.val (.int n),.val (.int h),.val S,.val (.int ((s+1:Nat):Int)),.own N,.val (.list (il W)),y9]=Ga (il (kn fs n (s+1) h)):=by
  refine(zt9 _ _ _ _ n (λx=>decide (x∈W)) (er _ _) (by omega) λx hx=>?_).trans (congrArg (λl=>Ga (il l)) ?_)
  .exact pN (x:=.int x) (y:=.list (il W)) rfl rfl (Tt x W)
  .show _=(jq n).filter λo=>Tf fs n (s+1) h o;refine qf λx hx=>?_;have hx':=jF.mp hx;show _=(Tf fs n s h x||(jq n).any λw=>cm fs w h ((s+1:Nat):Int)&&Tf fs n s w x);rw[jQ,decide_eq_true_eq,mW,vo,u8,MO];constructor
   .rintro(z|⟨w,z1,z2,z3⟩)
    .exact .inl z.2
    .exact .inr ⟨w,z1,by rw[z2,(MO.mp z3).2];rfl⟩
   .rintro(z|⟨w,z1,z2⟩)
    .exact .inl ⟨hx',z⟩
    .rw[jl] at z2;exact .inr ⟨w,z1,z2.1,MO.mpr ⟨hx',z2.2⟩⟩
 exact PY (ds:=N) rfl (wF ec) hN
def zFk (n5:n<=5)(hc:∀ w h,w<n->h<n->xM [T,.int w,.int h,.int ((s+1:Nat):Int)]=Ga (.bool (cm fs w h ((s+1:Nat):Int))))(x4 x7 x8 x9:Sl) :
  ∃ y4 y7 y8 y9,Cs [.val a0,.val a1,.val T,.val (.int n),x4,.val (.list (me fs n s)),.val (.int ((s+1:Nat):Int)),x7,x8,x9]=Ga (.nx [.val a0,.val a1,.val T,.val (.int n),y4,.val (.list (me fs n (s+1))),.val (.int ((s+1:Nat):Int)),y7,y8,y9]):=by
 have hS:∀ h:Nat,h<n->gf (.list (me fs n s)) (.int h)=Ga (.list (il (kn fs n s h))):=λh hh=>TX hh;generalize uR (me fs n s)=S at hS;have Lp:=Br (t:=iB 4) (g:=zp) (λ(k:Nat)=>jd (k:Int))
  (λpre ψ=>∃ (y4 y8 y9:Sl),ψ=[.val a0,.val a1,.val T,.val (.int n),y4,.val S,.val (.int ((s+1:Nat):Int)),.own (pre.map λh=>.list (il (kn fs n (s+1) h))),y8,y9])
  (jq n) (by
   intro pre h suf hx ψ hI;obtain⟨y4,y8,y9,rfl⟩:=hI;have hh:h<n:=jF.mp (by rw[hx];exact jD _ jf);have hpl:pre.length<=5:=by
    have:=congrArg uF hx;rw[jV,je,jC] at this;omega
   obtain⟨z8,z9,e⟩:=zFj (a0:=a0) (a1:=a1) n5 hc hS h hh (pre.map λh=>.list (il (kn fs n (s+1) h))) (by rw[jc];omega) y8 y9;exact⟨[.val a0,.val a1,.val T,.val (.int n),.val (.int h),.val S,.val (.int ((s+1:Nat):Int)),.own (pre.map λh=>.list (il (kn fs n (s+1) h))),y8,y9],_,rfl,e,_,_,_,by rw[kr];rfl⟩)
  (jq n) [] [.val a0,.val a1,.val T,.val (.int n),x4,.val S,.val (.int ((s+1:Nat):Int)),.own [],x8,x9] rfl ⟨x4,x8,x9,rfl⟩
 obtain⟨e,e1,y4,y8,y9,rfl⟩:=Lp;refine⟨y4,.val (.list (me fs n (s+1))),y8,y9,?_⟩;unfold Cs;rw[iw (e:=[.val a0,.val a1,.val T,.val (.int n),x4,.val S,.val (.int ((s+1:Nat):Int)),.own [],x8,x9]) rfl];have er:iJ gO (gv 3) [.val a0,.val a1,.val T,.val (.int n),x4,.val S,.val (.int ((s+1:Nat):Int)),.own [],x8,x9]=Ga ((jq n).map λ(k:Nat)=>jd (k:Int)):=(wS (a:=.int n) rfl).trans ((xQ (by omega)).trans (by rw[rh]));rw[iw ((tq er).trans e1)];rfl
def Qg (n5:n<=5):∀ (m s:Nat) (x4 x6 x7 x8 x9:Sl),s+m<9->(∀ s',s'<s+m->∀ w h,w<n->h<n->xM [T,.int w,.int h,.int ((s'+1:Nat):Int)]=Ga (.bool (cm fs w h ((s'+1:Nat):Int)))) ->
  ∃ y4 y6 y7 y8 y9,gk (iB 6) Cs ((vd s m).map λ(k:Nat)=>jd ((k+1:Nat):Int)) [.val a0,.val a1,.val T,.val (.int n),x4,.val (.list (me fs n s)),x6,x7,x8,x9]=Ga (.nx [.val a0,.val a1,.val T,.val (.int n),y4,.val (.list (me fs n (s+m))),y6,y7,y8,y9])
 | 0,s,x4,x6,x7,x8,x9,_,_=>⟨x4,x6,x7,x8,x9,rfl⟩
 | m+1,s,x4,x6,x7,x8,x9,h9,hc=>by
  obtain⟨y4,y7,y8,y9,e1⟩:=zFk (a0:=a0) (a1:=a1) n5 (hc s (by omega)) x4 x7 x8 x9;obtain⟨z4,z6,z7,z8,z9,e2⟩:=Qg n5 m (s+1) y4 (.val (.int ((s+1:Nat):Int))) y7 y8 y9 (by omega) (λs' hs'=>hc s' (by omega));refine⟨z4,z6,z7,z8,z9,?_⟩;rw[vK,jO];unfold gk;rw[show iB 6 (jd ((s+1:Nat):Int)) [.val a0,.val a1,.val T,.val (.int n),x4,.val (.list (me fs n s)),x6,x7,x8,x9]=Ga [.val a0,.val a1,.val T,.val (.int n),x4,.val (.list (me fs n s)),.val (.int ((s+1:Nat):Int)),x7,x8,x9] from rfl,jh,e1];rwa[show s+(m+1)=s+1+m by omega]
def zmQ (ns:List D)(fs:List Fl)(G:lR ns.length fs)(r:Nat)(hr:r<9):AJ [rd ns fs,.int r]=Ga (.list (me fs ns.length r)):=by
 have n5:=G.n5;have tb:=So ns fs G;have hc:∀ s',s'<0+r->∀ w h,w<ns.length->h<ns.length->xM [.tuple [.list (pQ ns.length fs),.list (sG ns.length fs)],.int w,.int h,.int ((s'+1:Nat):Int)]=Ga (.bool (cm fs w h ((s'+1:Nat):Int))):=λs' hs w h hw hh=>Xv ns.length fs w h _ G hw hh (by omega);show fY (Lb [.val (rd ns fs),.val (.int r),.no,.no,.no,.no,.no,.no,.no,.no])=_;generalize uC [.list (pQ ns.length fs),.list (sG ns.length fs)]=T at tb hc;unfold Lb;rw[iw (e:=[.val (rd ns fs),.val (.int r),.val T,.no,.no,.no,.no,.no,.no,.no]) (tu ((lZ (ds:=[rd ns fs]) rfl).trans tb))];rw[iw (e:=[.val (rd ns fs),.val (.int r),.val T,.val (.int ns.length),.no,.no,.no,.no,.no,.no]) rfl];have e5:gh (iJ gO (gv 3)) (λ_=>Ga true) (iP (fz (gv 0) gj)) [] [.val (rd ns fs),.val (.int r),.val T,.val (.int ns.length),.no,.no,.no,.no,.no,.no]=Ga (me fs ns.length 0):=by
  refine(wN (ds:=ip 0 ns.length) ((wS (a:=.int ns.length) rfl).trans (xQ (by omega))) (by rw[Ca];omega)).trans ((Af (F:=λd=>.list [d]) (λd hd=>rfl)).trans ?_);rw[rh,jE];refine congrArg Ga (kL λh hh=>?_);show uR [.int h]=.list (il ((jq ns.length).filter λo=>decide (o=h)));rw[QB ns.length h (jF.mp hh)];rfl
 rw[iw (Oz (e:=[.val (rd ns fs),.val (.int r),.val T,.val (.int ns.length),.no,.val (.list (me fs ns.length 0)),.no,.no,.no,.no]) e5 rfl)];obtain⟨y4,y6,y7,y8,y9,e⟩:=Qg (a0:=rd ns fs) (a1:=.int r) n5 r 0 .no .no .no .no .no (by omega) hc;rw[vg] at e;have er:rP mU (fU (.int 1)) (fG fy (gv 1) (fU (.int 1))) [.val (rd ns fs),.val (.int r),.val T,.val (.int ns.length),.no,.val (.list (me fs ns.length 0)),.no,.no,.no,.no]=Ga ((vd 0 r).map λ(k:Nat)=>jd ((k+1:Nat):Int)):=by
  refine(QV (a:=.int 1) (b:=.int ((r:Int)+1)) rfl rfl).trans ?_;unfold mU;dsimp only;rw[Ge (by omega),show((r:Int)+1-1).toNat=r by omega,<- vG];unfold ip;refine congrArg Ga (kL λk _=>?_);rw[show(1:Int)+(k:Nat)=((k+1:Nat):Int) by omega]
 rw[iw ((tq er).trans e)];rfl
def zFl(G:lR n fs):fs.length<=n:=by
 have:=yP n (fs.map Fl.h) G.nd (λx hx=>by obtain⟨f,hf,rfl⟩:=jr.mp hx;exact G.hb f hf);rw[jc] at this;exact this
def Hm (f:Fl):bk (fd f)=f:=by
 show(⟨(f.h:Int).toNat,f.a,(f.m:Int).toNat⟩:Fl)=f;rw[jN,jN]
def zGE(h:f ψ=Ga (.bool false)):Ex f g ψ=g ψ:=by show((f ψ).bind hJ).bind _=_;rw[h];rfl
def zGF(h:f ψ=Ga (.bool true)):Ex f g ψ=Ga (.bool true):=by show((f ψ).bind hJ).bind _=_;rw[h];rfl
def RQ(h:f ψ=Ga (.bool true)):yI f g ψ=g ψ:=by show((f ψ).bind hJ).bind _=_;rw[h];rfl
def zFm(h:f ψ=Ga (.bool false)):yI f g ψ=Ga (.bool false):=by show((f ψ).bind hJ).bind _=_;rw[h];rfl
def zz7 {h:FV}{a b c:Int}(h1:f ψ=Ga (.int a))(h2:g ψ=Ga (.int b))(h3:h ψ=Ga (.int c))(q1:a<=b)(q2:b<=c):AN lQ lQ f g h ψ=Ga (.bool true):=by
 show(f ψ).bind _=_;rw[h1,jh,h2,jh];rw[show(lQ (.int a) (.int b)).bind hJ=Ga true from(by show Ga (decide (a<=b))=_;rw[Gc q1]),jh,Ge rfl,h3,jh];show Ga (jS (decide (b<=c)))=_;rw[Gc q2]
def VG (A:List Nat):Bool:=(GY ((A.map λ(k:Nat)=>(k:Int)).contains 0) ((A.map λ(k:Nat)=>(k:Int)).contains 1) ((A.map λ(k:Nat)=>(k:Int)).contains 2) ((A.map λ(k:Nat)=>(k:Int)).contains 3) ((A.map λ(k:Nat)=>(k:Int)).contains 4)).length==A.length
def zz8:(jq 6).all (λn=>(tQ n).all VG)=true:=by nofun
def ZW (A:List Nat)(nd:A.Nodup)(lt:∀ x∈A,x<5):∃ L:List D,L.length=A.length/\∃ m:Int,wR [.list (il A)]=Ga (.int m)/\rp [.int m]=Ga L:=by
 have hl:=yP 5 A nd lt;have c:=jR.mp (jR.mp zz8 A.length (jF.mpr (by omega))) A (IR A nd lt);have e:il A=(A.map λ(k:Nat)=>(k:Int)).map jd:=by unfold il;rw[jE];rfl
 have m:=RN (A.map λ(k:Nat)=>(k:Int)) (λh hh=>by
  obtain⟨k,hk,rfl⟩:=jr.mp hh;have:=lt k hk;omega)
 refine⟨_,?_,_,by rwa[e],SG _ _ _ _ _⟩;rw[jc];exact eq_of_beq c
def bt (m h:Nat):Bool:=decide ((m:Int)/(2^h)%2=1)
def oW (U:List Nat)(k:Nat)(f:Fl):Bool:=decide (f.a<(k:Int))||(decide (f.a=(k:Int))&&!(U.all λh=>bt f.m h))
def zq7 (f:Fl)(hm:f.m<32)(U:List Nat)(hU:∀ x∈U,x<5)(hl:U.length<=5):Ee [fd f,.list (il U)]=Ga (.bool (U.all λh=>bt f.m h)):=by
 show fY (Ix [.val (fd f),.val (.list (il U))])=_;unfold Ix;have ec:gh (pR (gv 1)) (λ_=>Ga true) (fR rH (fz (fG gf (gv 1) (fU (.int 2))) (fz (gv 0) gj))) [0] [.val (fd f),.val (.list (il U))]=Ga ((U.map λh=>bt f.m h).map jS):=by
  refine(wN (ds:=il U) rfl (by unfold il;rw[jc];omega)).trans ((Af (F:=λd=>match d with|.int t=>.bool (bt f.m t.toNat)|_=>.none) (λd hd=>?_)).trans ?_)
  .obtain⟨h,hh,rfl⟩:=jr.mp hd;show fR rH _ [.val (.int h),.val (fd f)]=Ga (.bool (bt f.m (h:Int).toNat));rw[jN];exact(lZ (ds:=[.int f.m,.int h]) rfl).trans (Mn f.m h hm (hU h hh))
  .unfold il;rw[jE,jE];rfl
 refine(congrArg fY (mQ (d:=.bool (U.all λh=>bt f.m h)) ((Tq ec).trans ?_))).trans rfl;unfold mH;rw[LD,jh,J6];rfl
def zsC (f:Fl)(hm:f.m<32)(U:List Nat)(hU:∀ x∈U,x<5)(hl:U.length<=5)(k:Nat):EW [fd f,.list (il U),.int k]=Ga (.bool (oW U k f)):=by
 have ha:=zq7 f hm U hU hl;show fY (Mp [.val (fd f),.val (.list (il U)),.val (.int k)])=_;generalize uR (il U)=W at ha;unfold Mp;refine(congrArg fY (mQ (d:=.bool (oW U k f)) ?_)).trans rfl;have c1:fG mq (fG gf (gv 0) (fU (.int 1))) (gv 2) [.val (fd f),.val W,.val (.int k)]=Ga (.bool (decide (f.a<(k:Int)))):=rfl;have c2:fG gw (fG gf (gv 0) (fU (.int 1))) (gv 2) [.val (fd f),.val W,.val (.int k)]=Ga (.bool (decide (f.a=(k:Int)))):=by
  refine(iV (a:=.int f.a) (b:=.int k) rfl rfl).trans ((xS _ _).trans (congrArg (λb=>Ga (jS b)) ?_));rw[jQ,beq_iff_eq,decide_eq_true_eq]
 have c3:Fs (fR Ee (fz (gv 0) (fz (gv 1) gj))) [.val (fd f),.val W,.val (.int k)]=Ga (.bool (!(U.all λh=>bt f.m h))):=by
  show((fR Ee (fz (gv 0) (fz (gv 1) gj)) [.val (fd f),.val W,.val (.int k)]).bind hJ).bind _=_;rw[(lZ (ds:=[fd f,W]) rfl).trans ha];rfl
 unfold oW;cases q1:decide (f.a<(k:Int)) with
 | true=>rw[q1] at c1;exact zGF c1
 | false =>
  rw[q1] at c1;refine(zGE c1).trans ?_;cases q2:decide (f.a=(k:Int)) with
  | true=>rw[q2] at c2;exact(RQ c2).trans c3
  | false=>rw[q2] at c2;exact zFm c2
def upL (n:Nat)(fs:List Fl)(k:Nat):List Nat:=(jq n).filter λh=>up fs h (k:Int)
def QZ{k:Nat}(h:x∈upL n fs k):x<n:=jF.mp (jY.mp h).1
def Qy (n:Nat)(fs:List Fl)(k:Nat):(upL n fs k).length<=n:=by
 have:=ky (λh=>up fs h (k:Int)) (jq n);rw[jV] at this;exact this
def EL (n:Nat)(fs:List Fl)(k:Nat):List Fl:=if (upL n fs k).isEmpty then[] else fs.filter (oW (upL n fs k) k)
def zz9 (ns:List D)(fs:List Fl)(G:lR ns.length fs)(k:Nat):∃ m:Int,∃ L:List D,BI [rd ns fs,.int k]=Ga (.int m)/\rp [.int m]=Ga L/\L.length=(EL ns.length fs k).length:=by
 have n5:=G.n5;have hw:=Ko ns fs (k:Int) n5;have hlU:=Qy ns.length fs k;have e0:(((jq ns.length).filter λh=>up fs h (k:Int)).map λ(h:Nat)=>jd (h:Int))=il (upL ns.length fs k):=rfl;rw[e0] at hw;show ∃ m:Int,∃ L:List D,fY (Nt [.val (rd ns fs),.val (.int k),.no])=_/\_;have hfo:∀ f∈fs,EW [fd f,.list (il (upL ns.length fs k)),.int k]=Ga (.bool (oW (upL ns.length fs k) k f)):=λf hf=>zsC f (G.mb f hf) _ (λx hx=>by have:=QZ hx;omega) (by omega) k;have hln:gZ (.list (il (upL ns.length fs k)))=Ga (.int (upL ns.length fs k).length):=by
  show Ga (jd ((il (upL ns.length fs k)).length:Nat))=_;unfold il;rw[jc]
 unfold EL;generalize upL ns.length fs k=U at hw hlU hfo hln;generalize il U=W at hw hfo hln;have s2:gC 2 (iP (rn wM (fz (gv 0) (fz (gv 1) gj)))) [.val (rd ns fs),.val (.int k),.no]=Ga (.nx [.val (rd ns fs),.val (.int k),.val (.list W)]):=tu (wF ((Ng (ds:=[rd ns fs,.int k]) rfl).trans hw));have c1:gJ gw (un gZ (gv 2)) (fU (.int 0)) (frz [.val (rd ns fs),.val (.int k),.val (.list W)])=Ga ((U.length:Int)==0):=pN ((yr (a:=.list W) rfl).trans hln) rfl (xS _ _);unfold Nt;by_cases hU:U=[]
 .subst hU;refine⟨0,[],?_,by nofun,rfl⟩;rw[iw s2,wJ (d:=.int 0) ((pq c1).trans rfl)];rfl
 .have hne:U.isEmpty=false:=by cases U with|nil=>exact absurd rfl hU|cons _ _=>rfl
  have hz:((U.length:Int)==0)=false:=by
   rw[<- vJ,beq_iff_eq];cases U with
   | nil=>exact absurd rfl hU
   | cons a b=>rw[jC];omega
  rw[hz] at c1;rw[hne,Gf jH];obtain⟨L,hL,m,hm,hh⟩:=ZW ((fs.filter (oW U k)).map Fl.h) (((JN (l:=fs) (p:=oW U k)).map Fl.h).nodup G.nd) (λx hx=>by obtain⟨f,hf,rfl⟩:=jr.mp hx;have:=G.hb f (jY.mp hf).1;omega);refine⟨m,L,?_,hh,by rw[hL,jc]⟩;rw[iw s2,iw ((rL c1).trans rfl)];have ec:gh (pR (fG gf (gv 0) (fU (.int 1)))) (lO (fR EW (fz (gv 0) (fz (gv 2) (fz (gv 1) gj))))) (fG gf (gv 0) (fU (.int 0))) [1,2] [.val (rd ns fs),.val (.int k),.val (.list W)]=Ga (il ((fs.filter (oW U k)).map Fl.h)):=by
   have lf:=zFl G;refine(wN (ds:=fs.map fd) rfl (by rw[jc];omega)).trans ((Ec (p:=λd=>oW U k (bk d)) (F:=λd=>.int (bk d).h) (λd hd=>?_) (λd hd _=>?_)).trans ?_)
   .obtain⟨f,hf,rfl⟩:=jr.mp hd;rw[Hm];exact xD ((lZ (ds:=[fd f,.list W,.int k]) rfl).trans (hfo f hf)) rfl
   .obtain⟨f,hf,rfl⟩:=jr.mp hd;rw[Hm];rfl
   .rw[vY,jE];unfold il;rw[jE];have e1:(λd=>oW U k (bk d))∘fd=oW U k:=by funext f;show oW U k (bk (fd f))=_;rw[Hm]
    rw[e1];refine congrArg Ga (kL λf _=>?_);show jd ((bk (fd f)).h:Int)=_;rw[Hm];rfl
  exact(congrArg fY (mQ ((lZ (ds:=[.list (il ((fs.filter (oW U k)).map Fl.h))]) (Ed (wF ec) rfl)).trans hm))).trans rfl
def ii (n:Nat)(fs:List Fl)(k:Nat):Int:=((EL n fs k).length:Int)
def mx (a b:Int):Int:=if a<b then b else a
def wst (c:Nat->Int):Int:=mx (mx (mx (mx (mx 0 (c 1-1)) (c 2-2)) (c 3-3)) (c 4-4)) (c 5-5)
def UK (ns:List D)(fs:List Fl)(G:lR ns.length fs):wH [rd ns fs]=Ga (.int (wst (ii ns.length fs))):=by
 have hf:=λk=>zz9 ns fs G k;show fY (MM [.val (rd ns fs)])=_;have hc:∀ k:Nat,fG iZ (un gZ (iP (rn rp (fz (fR BI (fz (gv 1) (fz (gv 0) gj))) gj)))) (gv 0) [.val (.int k),.val (rd ns fs)]=Ga (.int (ii ns.length fs k-k)):=λk=>by
  obtain⟨m,L,e1,e2,e3⟩:=hf k;refine(iV (a:=.int (L.length:Nat)) (b:=.int k) ((yr (a:=.list L) (wF ((Ng (ds:=[.int m]) (Ed ((lZ (ds:=[rd ns fs,.int k]) rfl).trans e1) rfl)).trans e2))).trans rfl) rfl).trans ?_;show Ga (jd ((L.length:Int)-(k:Int)))=_;unfold ii;rw[e3]
 unfold MM;generalize rd ns fs=R at hc;have ec:gh (rP mU (fU (.int 1)) (fG fy (fU (.int 5)) (fU (.int 1)))) (λ_=>Ga true) (fG iZ (un gZ (iP (rn rp (fz (fR BI (fz (gv 1) (fz (gv 0) gj))) gj)))) (gv 0)) [0] [.val R]=Ga ([ii ns.length fs 1-1,ii ns.length fs 2-2,ii ns.length fs 3-3,ii ns.length fs 4-4,ii ns.length fs 5-5].map jd):=by
  refine(wN (ds:=([1,2,3,4,5]:List Nat).map λ(k:Nat)=>jd (k:Int)) rfl (show 5<=1000000 by decide)).trans ((Af (F:=λd=>match d with|.int k=>.int (ii ns.length fs k.toNat-k)|_=>.none) (λd hd=>?_)).trans rfl);obtain⟨k,_,rfl⟩:=jr.mp hd;exact hc k
 have ea:Ad (fG fy (iP (fz (fU (.int 0)) gj)) (iP (gh (rP mU (fU (.int 1)) (fG fy (fU (.int 5)) (fU (.int 1)))) (λ_=>Ga true) (fG iZ (un gZ (iP (rn rp (fz (fR BI (fz (gv 1) (fz (gv 0) gj))) gj)))) (gv 0)) [0]))) [.val R]=Ga ([0,ii ns.length fs 1-1,ii ns.length fs 2-2,ii ns.length fs 3-3,ii ns.length fs 4-4,ii ns.length fs 5-5].map jd) :=
  Kv ((iV (a:=.list [.int 0]) (b:=.list ([ii ns.length fs 1-1,ii ns.length fs 2-2,ii ns.length fs 3-3,ii ns.length fs 4-4,ii ns.length fs 5-5].map jd)) rfl (wF ec)).trans rfl)
 refine(congrArg fY (mQ (d:=.int (wst (ii ns.length fs))) ((Tq ea).trans ?_))).trans rfl;unfold Cv;rw[GN,jh];rfl
def zFn (fs:List Fl)(nd:(fs.map Fl.h).Nodup)(h:Nat)(r:Int):fs.all (λf=>!(f.h==h&&decide (f.a<=r)))=up fs h r:=by
 unfold up;rw[jQ,jR];cases e:iC fs h with
 | none =>
  refine⟨λ_=>rfl,λ_ f hf=>?_⟩;have:=v4.mp e f hf;rw[vJ] at this;rw[this];rfl
 | some g =>
  obtain⟨g1,g2⟩:=DA e;dsimp only;rw[decide_eq_true_eq];constructor
  .intro z;have:=z g g1;rw[g2,beq_self_eq_true,qm,kX,decide_eq_false_iff_not] at this;omega
  .intro z f hf;rw[kX,JG];by_cases q:f.h=h
   .have:f=g:=by
     obtain⟨i,hi,ei⟩:=qC hf;obtain⟨j,hj,ej⟩:=qC g1;have a1:(fs.map Fl.h)[i]?=Ga h:=by rw[jz,jg hi,ei,qA,q]
     have a2:(fs.map Fl.h)[j]?=Ga h:=by rw[jz,jg hj,ej,qA,g2]
     have:=(List.getElem?_inj (by rwa[jc]) nd).mp (a1.trans a2.symm);subst this;rw[<- ei,<- ej]
    rw[this];exact .inr (Gd (by omega))
   .exact .inl (by rwa[<- vJ,beq_iff_eq])
def Yk (ns:List D)(fs:List Fl)(bd:Nat)(h1:bd+2<=ns.length)(h2:fs.length<=bd):KY [rd ns fs,.int bd]=Ga (.bool true):=by
 show fY (Kb [.val (rd ns fs),.val (.int bd)])=_;unfold Kb;rw[iw ((rL (Ms (b:=true) (xD ((lZ (ds:=[.int bd]) rfl).trans rfl) rfl))).trans rfl)];have c1:AN lQ lQ (fU (.int 0)) (gv 1) (fG iZ (fR Bt (fz (gv 0) gj)) (fU (.int 2))) [.val (rd ns fs),.val (.int bd)]=Ga (.bool true):=by
  refine zz7 (a:=0) (b:=bd) (c:=(ns.length:Int)-2) rfl rfl rfl (by omega) (by omega)
 have c2:fG lQ (un gZ (fG gf (gv 0) (fU (.int 1)))) (gv 1) [.val (rd ns fs),.val (.int bd)]=Ga (.bool true):=by
  show Ga (jS (decide (((fs.map fd).length:Int)<=(bd:Int))))=_;rw[jc,Gc (by omega)]
 refine(congrArg fY (mQ (d:=.bool true) ?_)).trans rfl;exact(RQ c1).trans c2
def zuB (ns:List D)(fs:List Fl)(G:lR ns.length fs)(bd:Nat)(h1:bd+2<=ns.length)(h2:fs.length<=bd):zk [rd ns fs,.int bd]=Ga (.int ((bd:Int)+1-wst (ii ns.length fs))):=by
 have hk:=Yk ns fs bd h1 h2;have hw:=UK ns fs G;show fY (MU [.val (rd ns fs),.val (.int bd)])=_;generalize rd ns fs=R at hk hw;unfold MU;rw[iw ((rL (Ms (b:=true) (xD ((lZ (ds:=[R,.int bd]) rfl).trans hk) rfl))).trans rfl)];exact(congrArg fY (mQ ((iV (a:=.int ((bd:Int)+1)) rfl ((lZ (ds:=[R]) rfl).trans hw)).trans rfl))).trans rfl
section
open PySem.Spec PyProof.Rows L2
open PySem.W.KIN PySem.NumText
def mI (c:Nat):Nat->Nat->List Nat->List Nat
 | _,_,[]=>[]
 | k,i,d::r=>if 0<k/\d=c then i::mI c (k-1) (i+1) r else mI c k (i+1) r
def Li (x:Str)(c k:Nat):∀ (l:List Nat) (i:Nat) (st:Array Nat×Nat),st.2<=i->(sg x).drop i=l->i+l.length=x.length->(forIn (vd i (l.length+1)) st (vZ x ⟨#[c]⟩ x.length k)).run.fst.toList=st.1.toList++mI c (k-st.1.size) i l
 | [],i,st,h1,h2,h3=>by
  rw[uy,Nat.add_zero] at h3;rw[uy,vg,List.range'_one,qy];unfold vZ;rw[Gf (λz=>by have z1:i+1<=x.length:=z.1.2;omega)];show st.1.toList=st.1.toList++[];rw[kf]
 | d::r,i,st,h1,h2,h3=>by
  have hd:(sg x)[i]?=Ga d:=by
   have e:(sg x)[i]?=((sg x).drop i)[0]?:=by rw[List.getElem?_drop];rfl
   rw[e,h2];rfl
  have h2':(sg x).drop (i+1)=r:=by rw[<- List.drop_drop,h2];rfl
  have h3':i+1+r.length=x.length:=by rw[jC] at h3;omega
  rw[jC,vK,qy];unfold vZ;by_cases q:st.1.size<k/\d=c
  .obtain⟨q1,q2⟩:=q;subst q2;obtain⟨s1,s2⟩:=(qW x d i).mpr hd;rw[Ge ⟨⟨⟨q1,h1⟩,s1⟩,s2⟩];show(forIn (vd (i+1) (r.length+1)) (st.1.push i,i+1) (vZ x ⟨#[d]⟩ x.length k)).run.fst.toList=_;rw[Li x d k r (i+1) (st.1.push i,i+1) (jw _) h2' h3'];show(st.1.push i).toList++mI d (k-(st.1.push i).size) (i+1) r=st.1.toList++mI d (k-st.1.size) i (d::r);rw[vx,Array.size_push,j3]
   conv=>rhs;unfold mI
   rw[Ge ⟨by omega,rfl⟩,show k-(st.1.size+1)=k-st.1.size-1 by omega];rfl
  .rw[Gf (λz=>q ⟨z.1.1.1,by have:=(qW x c i).mp ⟨z.1.2,z.2⟩;rw[show x.cps.toList=sg x from rfl,hd] at this;exact jK this⟩)];show(forIn (vd (i+1) (r.length+1)) (st.1,st.2) (vZ x ⟨#[c]⟩ x.length k)).run.fst.toList=_;rw[Li x c k r (i+1) (st.1,st.2) (qU h1) h2' h3'];show st.1.toList++mI c (k-st.1.size) (i+1) r=st.1.toList++mI c (k-st.1.size) i (d::r)
   conv=>rhs;unfold mI
   rw[Gf (λz=>q ⟨by omega,z.2⟩)]
def zFo (x:Str)(c k:Nat):jT x ⟨#[c]⟩ 0 x.length k=mI c k 0 (sg x):=by
 rw[StrLaws.occ_eq,qH];have e:x.length=(sg x).length:=ib x;have:=Li x c k (sg x) 0 (#[],0) (jw _) rfl (by rw[vg];exact e.symm);rw[<- e] at this;rw[this];rfl
def NQ (c k:Nat):∀ (A:List Nat) (i:Nat) (r:List Nat),c∉A->mI c k i (A++r)=mI c k (i+A.length) r
 | [],i,r,_=>rfl
 | d::A,i,r,h=>by
  rw[ul];unfold mI;rw[Gf (λz=>h (by rw[z.2];exact jf)),NQ c k A (i+1) r (λz=>h (jk _ z)),jC,show i+1+A.length=i+(A.length+1) by omega];cases r<;>rfl
def Ta (c:Nat):∀ (l:List Nat) (i:Nat),mI c 0 i l=[]
 | [],_=>rfl
 | d::r,i=>by unfold mI;rw[Gf (λz=>absurd z.1 (kb 0))];exact Ta c r (i+1)
def Lx (x:Str)(i j:Nat):v6 x i j=gr (((sg x).take j).drop i):=by
 show(⟨x.cps.extract i j⟩:Str)=⟨_⟩;refine congrArg Str.mk (Array.ext' ?_);rw[Array.toList_extract];show(List.extract (sg x) i j)=_;rw[List.extract_eq_take_drop,List.drop_take]
def zFp (A B T:List Nat)(hA:32∉A)(hB:32∉B)(x:Str)(hx:sg x=A++32::(B++32::T)):rS x (ja " ") 2=[gr A,gr B,gr T]/\(jT x (ja " ") 0 x.length (limitOf x 2)).isEmpty=false:=by
 have eb:ja " "=⟨#[32]⟩:=by nofun
 have el:limitOf x 2=2:=rfl;have eo:jT x ⟨#[32]⟩ 0 x.length 2=[A.length,A.length+1+B.length]:=by
  rw[zFo,hx,NQ 32 2 A 0 _ hA];unfold mI;rw[Ge ⟨by decide,rfl⟩,NQ 32 (2-1) B _ _ hB];unfold mI;rw[Ge ⟨by decide,rfl⟩,Ta,vg]
 have ln:x.length=A.length+1+B.length+1+T.length:=by rw[ib,hx];simp only[je,jC];omega
 unfold rS;rw[eb,el,eo];refine⟨?_,rfl⟩;show[v6 x 0 A.length,v6 x (A.length+1) (A.length+1+B.length),v6 x (A.length+1+B.length+1) x.length]=_;rw[Lx,Lx,Lx,ln,hx];have t1:(A++32::(B++32::T)).take A.length=A:=Jx rfl;have t2:((A++32::(B++32::T)).take (A.length+1+B.length)).drop (A.length+1)=B:=by
  rw[show A++32::(B++32::T)=(A++32::B)++(32::T) by simp,Jx (by simp;omega),show A++32::B=(A++[32])++B by simp,Jy (by simp)]
 have t3:((A++32::(B++32::T)).take (A.length+1+B.length+1+T.length)).drop (A.length+1+B.length+1)=T:=by
  rw[uh (by simp;omega),show A++32::(B++32::T)=(A++32::(B++[32]))++T by simp,Jy (by simp;omega)]
 rw[t1,t2,t3,qe]
variable {d v:D}{n x:Str}{tab kvs:List (Str×D)}{C p r:Gk}{ds:List D}{ga:FL}{vs:List Int}
def OF(h:f ψ=Ga (.str n))(e:atT tab n=Ga d):sH tab f ψ=Ga d:=by
 unfold sH;rwa[h]
def PN(h:f ψ=Ga (.str n))(e:atT tab n=Ga d):wn tab f ψ=Ga false:=by
 unfold wn;rw[h,jh];show Ga (!(atT tab n).isSome)=_;rw[e];rfl
def sT {t:FT}{g:FS}{x:D}{r:List D}{e:En}(h:(t x ψ).bind g=Ga (.nx e)):gk t g (x::r) ψ=gk t g r e:=by
 obtain⟨e1,h1,h2⟩:=ft h;show(t x ψ).bind _=_;rw[h1,jh,h2];rfl
def zCG (X:D)(ws:List D)(n:Str)(K:D)(k:Int)(s0:nP X (.str (ja "run "))=Ga (.bool false))(sp:wY X (.str (ja " "))=Ga ws)(i0:gb (.list ws) (.int 0)=Ga (.str n))(at_:atT nu n=Ga K)(lw:ig (.list ws)=Ga (.int (k+1)))(lk:ig K=Ga (.int k))(ne:gN (.int (k+1)) (.int (k+1))=Ga (.bool false)):sX [X]=Ga (.list ws):=by
 rw[Sr];unfold He;have h1:wn nu cq [.val X,.val (.list ws)]=Ga false:=PN (n:=n) (by simp[i0]) at_;have h2:sH nu cq [.val X,.val (.list ws)]=Ga K:=OF (n:=n) (by simp[i0]) at_;generalize nu=TF at *;simp[s0,sp,h1,h2,lw,lk,ne]
def Wi {g:D->D->D->Option (List D)}{f1 f2 f3:FV}{a b c:D}{l:List D}(h1:f1 ψ=Ga a)(h2:f2 ψ=Ga b)(h3:f3 ψ=Ga c)(e:g a b c=Ga l):Eb g f1 f2 f3 ψ=Ga l:=by
 unfold Eb;rwa[h1,jh,h2,jh,h3]
def zCH (X:D)(ws:List D)(n:Str)(K:D)(k:Int)(s0:nP X (.str (ja "run "))=Ga (.bool true))(sp:zB X (.str (ja " ")) (.int 2)=Ga ws)(i0:gb (.list ws) (.int 0)=Ga (.str n))(at_:atT nu n=Ga K)(lw:ig (.list ws)=Ga (.int (k+1)))(lk:ig K=Ga (.int k))(ne:gN (.int (k+1)) (.int (k+1))=Ga (.bool false)):sX [X]=Ga (.list ws):=by
 rw[Sr];unfold He;have h0:Eb zB eQ (fx (.str (ja " "))) dW [.val X,.no]=Ga ws:=Wi rfl rfl rfl sp;have h1:wn nu cq [.val X,.val (.list ws)]=Ga false:=PN (n:=n) (by simp[i0]) at_;have h2:sH nu cq [.val X,.val (.list ws)]=Ga K:=OF (n:=n) (by simp[i0]) at_;generalize nu=TF at *;simp[s0,h0,h1,h2,lw,lk,ne]
abbrev Hz:FS:=om 3 dj (fT oq al)
def zGG{a0 a1 a2 a4:Sl}(hg:g [a0,a1,a2,.dks kvs,a4]=Ga v)(hf:f [a0,a1,a2,.dks kvs,a4]=Ga (.str n))(hl:kvs.length<1000):om 3 f g [a0,a1,a2,.dks kvs,a4]=Ga (.nx [a0,a1,a2,.dks (gK kvs n v),a4]):=by
 unfold om;rw[hg,jh,hf,jh];show(if _ then _ else _)=_;rw[Ge hl];rfl
def Bv (X W K w v:D)(n:Str)(k j:Int)(kvs:List (Str×D))(a4:Sl)(hj:k+1=j)(q:gb K (.int k)=Ga (.str n))(p:gb W (.int j)=Ga w)(hv:oq [.str n,w]=Ga v)(hl:kvs.length<1000) :
  (iE 4 (.int k) [.val X,.val W,.val K,.dks kvs,a4]).bind Hz=Ga (.nx [.val X,.val W,.val K,.dks (gK kvs n v),.val (.int k)]):=by
 have e:iE 4 (.int k) [.val X,.val W,.val K,.dks kvs,a4]=Ga [.val X,.val W,.val K,.dks kvs,.val (.int k)]:=rfl;rw[e,jh];unfold Hz;generalize oq=A at *;exact zGG (by simp[q,p,hv,hj]) (by simp[q]) hl
def Il (X W K:D)(n:Str)(L:List D)(kvs:List (Str×D))(a4:Sl)(m:Int)(hw:sX [X]=Ga W)(i0:gb W (.int 0)=Ga (.str n))(at_:atT nu n=Ga K)(lk:ig K=Ga (.int m))(hr:gO (.int m)=Ga L)
  (lp:gk eO Hz L [.val X,.val W,.val K,.dks [],.no]=Ga (.nx [.val X,.val W,.val K,.dks kvs,a4])):oe [X]=Ga (.tuple [.str n,lP kvs]):=by
 rw[zpN];unfold IG;have h2:sH nu cq [.val X,.val W,.no,.no,.no]=Ga K:=OF (n:=n) (by simp[i0]) at_;have h3:yx 3 [.val X,.val W,.val K,.no,.no]=Ga (.nx [.val X,.val W,.val K,.dks [],.no]):=rfl;have h4:frzAt 3 [.val X,.val W,.val K,.dks kvs,a4]=[.val X,.val W,.val K,.val (lP kvs),a4]:=rfl;unfold Hz at lp;generalize om 3 dj (fT oq al)=B at *;generalize lP kvs=DD at *;generalize nu=TF at *;generalize sX=A at *;simp[hw,h2,h3,lk,hr,lp,h4,i0]
structure NM (x:Str):Prop where
 l1:1<=x.length
 l8:x.length<=8
 ok:∀ c∈sg x,97<=c/\c<=122
abbrev Fu:Str:=ja "abcdefghijklmnopqrstuvwxyz"
def Zh:Fu=⟨#[97,98,99,100,101,102,103,104,105,106,107,108,109,110,111,112,113,114,115,116,117,118,119,120,121,122]⟩:=by nofun
def zCK (c:Nat)(h:97<=c/\c<=122):Ag ⟨#[c]⟩ Fu=true:=by
 unfold Ag;rw[J5,Zh,decide_eq_true_eq];show c∈[97,98,99,100,101,102,103,104,105,106,107,108,109,110,111,112,113,114,115,116,117,118,119,120,121,122];simp only[jo,j8,or_false];omega
def mM (x:Str):gr (sg x)=x:=sQ (lg _)
def Zm(h:NM x):DP [.str x]=Ga (.bool true):=by
 rw[zqW];unfold NO;have c:gd (λ_=>Ga true) (fv rM eQ (fx (.str Fu))) [] ((sg x).map one)=Ga ((sg x).map λ_=>.bool true):=by
  refine rW one _ λc hc=>?_;unfold one;simp[zCK c (h.ok c hc)]
 have l8:=h.l8;have l1:=h.l1;have hl:((sg x).map one).length<=1000000:=by rw[jc,<- ib];omega
 have b:∀ g:List Nat,ni (g.map λ_=>.bool true)=Ga (g.map λ_=>true):=by
  intro g;induction g with
  | nil=>rfl
  | cons a r ih=>rw[jO];unfold ni;rw[ih];rfl
 have d:mH ((sg x).map λ_=>.bool true)=Ga (.bool true):=by
  unfold mH;rw[b,jh,J6];exact congrArg (λz=>Ga (jS z)) (jR.mpr λ_ _=>rfl)
 have hx:ig (.str x)=Ga (.int (x.length:Int)):=by
  have:=Ut (sg x) (by rw[<- ib];omega);rw[mM,<- ib] at this;exact this
 have q1:lQ (.int 1) (.int (x.length:Int))=Ga (.bool true):=by show Ga (jS (decide _))=_;rw[Gc (by omega)]
 have q2:lQ (.int (x.length:Int)) (.int 8)=Ga (.bool true):=by show Ga (jS (decide _))=_;rw[Gc (by omega)]
 have t0:lq (.str x)=Ga ((sg x).map one):=rfl;generalize (x.length:Int)=n at *;generalize jp x=X at *;simp[nR,Ge hl,t0,c,d,hx,q1,q2]
def Pu(h:NM x):AZ [.str x]=Ga (.str x):=by
 have h1:=Zm h;rw[ZX];unfold KR;generalize DP=A at *;simp[h1]
def ED(h:NM x):oq [.str (ja "name"),.str x]=Ga (.str x):=by
 have h1:=Pu h;have e:gw (.str (ja "name")) (.str (ja "name"))=Ga (.bool true):=by kernel_rfl
 rw[Qx];unfold GD;generalize AZ=A at *;generalize Ho=A2 at *;simp[h1,e]
def zCM (T:D):oq [.str (ja "text"),T]=Ga T:=by
 have e1:gw (.str (ja "text")) (.str (ja "name"))=Ga (.bool false):=by kernel_rfl
 have e2:gw (.str (ja "text")) (.str (ja "other"))=Ga (.bool false):=by kernel_rfl
 have e3:gw (.str (ja "text")) (.str (ja "rule"))=Ga (.bool false):=by kernel_rfl
 have e4:gw (.str (ja "text")) (.str (ja "number"))=Ga (.bool false):=by kernel_rfl
 have e5:gw (.str (ja "text")) (.str (ja "text"))=Ga (.bool true):=by kernel_rfl
 rw[Qx];unfold GD;generalize AZ=A at *;generalize Ho=A2 at *;simp[e1,e2,e3,e4,e5]
def zCN (k:Nat)(h:k<5):oq [.str (ja "hand"),.str (gH k)]=Ga (.int (k:Int)):=by
 match k,h with
 | 0,_=>kernel_rfl
 | 1,_=>kernel_rfl
 | 2,_=>kernel_rfl
 | 3,_=>kernel_rfl
 | 4,_=>kernel_rfl
def Xx (k:Nat)(h:k<5):oq [.str (ja "rounds"),.str (gH k)]=Ga (.int (k:Int)):=by
 match k,h with
 | 0,_=>kernel_rfl
 | 1,_=>kernel_rfl
 | 2,_=>kernel_rfl
 | 3,_=>kernel_rfl
 | 4,_=>kernel_rfl
def XM (k:Nat)(h:k<4):oq [.str (ja "bound"),.str (gH k)]=Ga (.int (k:Int)):=by
 match k,h with
 | 0,_=>kernel_rfl
 | 1,_=>kernel_rfl
 | 2,_=>kernel_rfl
 | 3,_=>kernel_rfl
abbrev S_ (s:String):Str:=ja s
abbrev W_ (s:String):List Nat:=sg (ja s)
def RC:ja "run "=⟨#[114,117,110,32]⟩:=by nofun
def zFq (x:Str)(c:Nat)(r:List Nat)(h:sg x=c::r)(n:c≠114):uw x (ja "run ")=false:=by
 unfold uw;rw[Vi,RC,JG];refine .inr ?_;show(((sg x).drop 0).take 4==[114,117,110,32])=false;rw[h,qe,List.take_succ_cons,beq_eq_false_iff_ne];intro z;exact n (uH z).1
def zFr (x:Str)(r:List Nat)(h:sg x=114::117::110::32::r):uw x (ja "run ")=true:=by
 unfold uw;rw[Vi,RC,jl,decide_eq_true_eq];refine⟨?_,?_⟩
 .show 0+4<=x.length;rw[ib,h];simp only[jC];omega
 .show(((sg x).drop 0).take 4==[114,117,110,32])=true;rw[h];rfl
def XV (ws:List Str)(x:Str)(hx:x=ug ⟨#[32]⟩ ws)(h2:2<=ws.length)(h5:ws.length<=9)(fr:∀ w∈ws,32∉sg w)(hl:x.length<=1000):wY (.str x) (.str (ja " "))=Ga (ws.map jp):=by
 have e:ja " "=⟨#[32]⟩:=by nofun
 have s:um x (ja " ")=ws:=by
  rw[e,hx];exact Qt 32 ws (λz=>by rw[z] at h2;exact absurd h2 (by decide)) fr
 have z:(1000:Nat)<=sizeLine:=by decide
 have ok:tK x (ja " ")=true:=by
  unfold tK;have l1:(ja " ").length=1:=by nofun
  have pb:(uv x (jT x (ja " ") 0 x.length (x.length+1)) (ja " ").length)=ws:=by
   have s':=s;unfold um at s';split at s'
   .have:=congrArg uF s';rw[jU] at this;omega
   .split at s'
    .have:=congrArg uF s';rw[jU] at this;omega
    .exact s'
  rw[pb,s,Gc (by omega:x.length<=sizeLine),Gc (by omega:ws.length<=sizeLine),l1];rfl
 show(if _ then _ else _)=_;rw[Ge ok,s]
def zGH (ws:List D):ig (.list ws)=Ga (.int (ws.length:Int)):=rfl
def Gr (ws:List D):ig (.tuple ws)=Ga (.int (ws.length:Int)):=rfl
def WI (k:Int):gN (.int k) (.int k)=Ga (.bool false):=by
 show(if _ then _ else _)=_;rw[Ge (by rfl)];simp[ku]at⊢
def GK (w0:Str)(ws:List Str)(K:List D)(x:Str)(hx:x=ug ⟨#[32]⟩ (w0::ws))(fr:∀ w∈w0::ws,32∉sg w)(h1:1<=ws.length)(h5:ws.length<=5)(hl:x.length<=1000)(c:Nat)(r:List Nat)(hc:sg x=c::r)(nc:c≠114)(at_:atT nu w0=Ga (.tuple K))(lk:K.length=ws.length):sX [.str x]=Ga (.list ((w0::ws).map jp)):=by
 have s0:=zFq x c r hc nc;have sp:=XV (w0::ws) x hx (by rw[jC];omega) (by rw[jC];omega) fr hl;refine zCG (.str x) _ w0 (.tuple K) (K.length:Int) (by show Ga (jS _)=_;rw[s0]) sp (by rw[Oo];exact sr (j:=0) rfl) at_ ?_ (Gr K) (WI _);rw[zGH,jc,jC,<- lk];rfl
def Zy (nm t:Str)(x:Str)(hx:sg x=W_ "run "++(sg nm++32::sg t))(fr:32∉sg nm)(hl:x.length<=10000):sX [.str x]=Ga (.list [.str (S_ "run"),.str nm,.str t]):=by
 have wr:W_ "run "=[114,117,110,32]:=by nofun
 have wr2:gr [114,117,110]=S_ "run":=by nofun
 rw[wr] at hx;have s0:=zFr x _ hx;obtain⟨p,ne⟩:=zFp [114,117,110] (sg nm) (sg t) (by decide) fr x hx;rw[wr2,mM,mM] at p;have ok:wx x (ja " ") 2=true:=by
  unfold wx;have l1:(ja " ").length=1:=by nofun
  have l2:k7 (ja " ")=1:=by nofun
  have k1:1<=k7 x:=by unfold k7;split<;>(try split)<;>decide
  have z:(10000:Nat)<=sizeLine:=by decide
  have lx:4<=x.length:=by rw[ib,hx];simp only[ul,vX,jC];omega
  rw[ne,p,l1,l2,Gc (by omega:x.length<=sizeLine),Gd (by omega:¬x.length<1),Gd (by omega:¬k7 x<1)];rfl
 have sp:zB (.str x) (.str (ja " ")) (.int 2)=Ga [.str (S_ "run"),.str nm,.str t]:=by
  show(if _ then _ else _)=_;rw[Ge ok,p];rfl
 refine zCH (.str x) _ (S_ "run") (.tuple [.str (ja "name"),.str (ja "text")]) 2 (by show Ga (jS _)=_;rw[s0]) sp rfl (by kernel_rfl) rfl rfl (by kernel_rfl)
def DK(h:NM x):32∉sg x:=λz=>by have:=h.ok 32 z;omega
def KJ:∀ k,k<10->32∉sg (gH k):=by nofun
def UW (a b:Str):sg (ug ⟨#[32]⟩ [a,b])=sg a++32::sg b:=xC 32 a b []
def SZ (a b c:Str):sg (ug ⟨#[32]⟩ [a,b,c])=sg a++32::(sg b++32::sg c):=by
 have h1:=xC 32 a b [c];have h2:=xC 32 b c [];rw[show ug ⟨#[32]⟩ [a,b,c]=uQ ⟨#[32]⟩ [a,b,c] from ua _ _,h1,h2];rfl
def Xh (a b c d:Str):sg (ug ⟨#[32]⟩ [a,b,c,d])=sg a++32::(sg b++32::(sg c++32::sg d)):=by
 have h1:=xC 32 a b [c,d];rw[show ug ⟨#[32]⟩ [a,b,c,d]=uQ ⟨#[32]⟩ [a,b,c,d] from ua _ _,h1,<- SZ b c d,show ug ⟨#[32]⟩ [b,c,d]=uQ ⟨#[32]⟩ [b,c,d] from ua _ _]
abbrev kN:Str:=ja "name"
abbrev kT:Str:=ja "text"
abbrev kH:Str:=ja "hand"
abbrev kR:Str:=ja "rounds"
abbrev kB:Str:=ja "bound"
def wg (l:List D)(j:Nat)(v:D)(h:l[j]?=Ga v):gb (.list l) (.int (j:Int))=Ga v:=by rw[Oo];exact sr h
def oA (l:List D)(j:Nat)(v:D)(h:l[j]?=Ga v):gb (.tuple l) (.int (j:Int))=Ga v:=by rw[RA];exact sr h
def GU (X:D)(w0:Str)(a:Str)(w v:D)(hw:sX [X]=Ga (.list [.str w0,w]))(at_:atT nu w0=Ga (.tuple [.str a]))(h1:oq [.str a,w]=Ga v):oe [X]=Ga (.tuple [.str w0,lP (gK [] a v)]):=by
 refine Il X _ _ w0 [.int 0] _ (.val (.int 0)) 1 hw (wg _ 0 _ rfl) at_ rfl rfl ?_;rw[sT (Bv X _ _ w v a 0 1 [] _ rfl (oA _ 0 _ rfl) (wg _ 1 _ rfl) h1 (by decide))];rfl
def GM (l:List (Str×D))(k:Str)(d:D):(gK l k d).length<=l.length+1:=by
 unfold gK;split
 .rw[jc];omega
 .rw[je,jU];exact jw _
def nL (X:D)(w0:Str)(a b:Str)(w v w2 v2:D)(hw:sX [X]=Ga (.list [.str w0,w,w2]))(at_:atT nu w0=Ga (.tuple [.str a,.str b]))(h1:oq [.str a,w]=Ga v)(h2:oq [.str b,w2]=Ga v2):oe [X]=Ga (.tuple [.str w0,lP (gK (gK [] a v) b v2)]):=by
 have l1:=GM [] a v;refine Il X _ _ w0 [.int 0,.int 1] _ (.val (.int 1)) 2 hw (wg _ 0 _ rfl) at_ rfl rfl ?_;rw[sT (Bv X _ _ w v a 0 1 [] _ rfl (oA _ 0 _ rfl) (wg _ 1 _ rfl) h1 (by decide)),sT (Bv X _ _ w2 v2 b 1 2 _ _ rfl (oA _ 1 _ rfl) (wg _ 2 _ rfl) h2 (JU l1 (by decide)))];rfl
def rr3 (X:D)(w0:Str)(a b c:Str)(w v w2 v2 w3 v3:D)(hw:sX [X]=Ga (.list [.str w0,w,w2,w3]))(at_:atT nu w0=Ga (.tuple [.str a,.str b,.str c]))(h1:oq [.str a,w]=Ga v)(h2:oq [.str b,w2]=Ga v2)(h3:oq [.str c,w3]=Ga v3):oe [X]=Ga (.tuple [.str w0,lP (gK (gK (gK [] a v) b v2) c v3)]):=by
 have l1:=GM [] a v;have l2:=GM (gK [] a v) b v2;rw[uy] at l1;refine Il X _ _ w0 [.int 0,.int 1,.int 2] _ (.val (.int 2)) 3 hw (wg _ 0 _ rfl) at_ rfl rfl ?_;rw[sT (Bv X _ _ w v a 0 1 [] _ rfl (oA _ 0 _ rfl) (wg _ 1 _ rfl) h1 (by decide)),sT (Bv X _ _ w2 v2 b 1 2 _ _ rfl (oA _ 1 _ rfl) (wg _ 2 _ rfl) h2 (by omega)),sT (Bv X _ _ w3 v3 c 2 3 _ _ rfl (oA _ 2 _ rfl) (wg _ 3 _ rfl) h3 (by omega))];rfl
def zFu:W_ "show "=W_ "show"++[32]:=by nofun
def zCP:W_ "waste "=W_ "waste"++[32]:=by nofun
def zCQ:W_ "close "=W_ "close"++[32]:=by nofun
def zFv:W_ "know "=W_ "know"++[32]:=by nofun
def yB:W_ " "=[32]:=by nofun
def Gv:32∉W_ "show"/\32∉W_ "waste"/\32∉W_ "close"/\32∉W_ "know":=by nofun
def YD(h:NM x):oe [.str (gr (W_ "show "++sg x))]=Ga (.tuple [.str (S_ "show"),lP (gK [] kN (.str x))]):=by
 have l8:=h.l8;have hs:gr (W_ "show "++sg x)=ug ⟨#[32]⟩ [S_ "show",x]:=sQ (by rw[lg,UW,zFu,j3];rfl);have hw:=GK (S_ "show") [x] [.str kN] _ hs (λw z=>by rcases jo.mp z with rfl|z;exact Gv.1;rw[jn.mp z];exact DK h) (kW rfl) (kW rfl) (by rw[ib,lg,je,<- ib x,show(W_ "show ").length=5 by nofun];omega) 115 _ (by rw[lg,show W_ "show "=[115,104,111,119,32] by nofun];rfl) (by decide) (by kernel_rfl) rfl;exact GU _ _ kN _ _ hw (by kernel_rfl) (ED h)
def zxG(h:NM x):oe [.str (gr (W_ "waste "++sg x))]=Ga (.tuple [.str (S_ "waste"),lP (gK [] kN (.str x))]):=by
 have l8:=h.l8;have hs:gr (W_ "waste "++sg x)=ug ⟨#[32]⟩ [S_ "waste",x]:=sQ (by rw[lg,UW,zCP,j3];rfl);have hw:=GK (S_ "waste") [x] [.str kN] _ hs (λw z=>by rcases jo.mp z with rfl|z;exact Gv.2.1;rw[jn.mp z];exact DK h) (kW rfl) (kW rfl) (by rw[ib,lg,je,<- ib x,show(W_ "waste ").length=6 by nofun];omega) 119 _ (by rw[lg,show W_ "waste "=[119,97,115,116,101,32] by nofun];rfl) (by decide) (by kernel_rfl) rfl;exact GU _ _ kN _ _ hw (by kernel_rfl) (ED h)
def Zv(h:NM x)(k:Nat)(hk:k<4):oe [.str (gr (W_ "close "++sg x++W_ " "++sg (gH k)))]=Ga (.tuple [.str (S_ "close"),lP (gK (gK [] kN (.str x)) kB (.int (k:Int)))]):=by
 have l8:=h.l8;have l1:(sg (gH k)).length=1:=rfl;have hs:gr (W_ "close "++sg x++W_ " "++sg (gH k))=ug ⟨#[32]⟩ [S_ "close",x,gH k]:=sQ (by rw[lg,SZ,zCQ,yB];simp only[j3,ul,vX]);have hw:=GK (S_ "close") [x,gH k] [.str kN,.str kB] _ hs (λw z=>by rcases jo.mp z with rfl|z;exact Gv.2.2.1;rcases jo.mp z with rfl|z;exact DK h;rw[jn.mp z];exact KJ k (by omega)) (kW rfl) (kW rfl) (by rw[ib,lg];simp only[je];rw[<- ib x,l1,yB,show(W_ "close ").length=6 by nofun];show 6+x.length+1+1<=1000;omega) 99 _ (by rw[lg,show W_ "close "=[99,108,111,115,101,32] by nofun];rfl) (by decide) (by kernel_rfl) rfl;exact nL _ _ kN kB _ _ _ _ hw (by kernel_rfl) (ED h) (XM k hk)
def zAe(h:NM x)(k q:Nat)(hk:k<5)(hq:q<5):oe [.str (gr (W_ "know "++sg x++W_ " "++sg (gH k)++W_ " "++sg (gH q)))]=Ga (.tuple [.str (S_ "know"),lP (gK (gK (gK [] kN (.str x)) kH (.int (k:Int))) kR (.int (q:Int)))]):=by
 have l8:=h.l8;have l1:∀ k,(sg (gH k)).length=1:=λ_=>rfl;have hs:gr (W_ "know "++sg x++W_ " "++sg (gH k)++W_ " "++sg (gH q))=ug ⟨#[32]⟩ [S_ "know",x,gH k,gH q]:=sQ (by rw[lg,Xh,zFv,yB];simp only[j3,ul,vX]);have hw:=GK (S_ "know") [x,gH k,gH q] [.str kN,.str kH,.str kR] _ hs (λw z=>by rcases jo.mp z with rfl|z;exact Gv.2.2.2;rcases jo.mp z with rfl|z;exact DK h;rcases jo.mp z with rfl|z;exact KJ k (by omega);rw[jn.mp z];exact KJ q (by omega)) (kW rfl) (kW rfl) (by rw[ib,lg];simp only[je];rw[<- ib x,l1,l1,yB,show(W_ "know ").length=5 by nofun];show 5+x.length+1+1+1+1<=1000;omega) 107 _ (by rw[lg,show W_ "know "=[107,110,111,119,32] by nofun];rfl) (by decide) (by kernel_rfl) rfl;exact rr3 _ _ kN kH kR _ _ _ _ _ _ hw (by kernel_rfl) (ED h) (zCN k hk) (Xx q hq)
def zCR(h:NM x)(t:Str)(ht:t.length<=1000):oe [.str (gr (W_ "run "++sg x++W_ " "++sg t))]=Ga (.tuple [.str (S_ "run"),lP (gK (gK [] kN (.str x)) kT (.str t))]):=by
 have l8:=h.l8;have hw:=Zy x t (gr (W_ "run "++sg x++W_ " "++sg t)) (by rw[lg,yB];simp only[j3,ul,vX]) (DK h) (by rw[ib,lg];simp only[je];rw[<- ib x,<- ib t,yB,show(W_ "run ").length=4 by nofun];show 4+x.length+1+t.length<=10000;omega);exact nL _ _ kN kT _ _ _ _ hw (by kernel_rfl) (ED h) (zCM _)
def wL{k:Str}(h:atT kvs k=Ga d):iQ (lP kvs) (.str k)=Ga d:=by
 show(Cf (lP kvs)).bind _=_;rwa[Uo]
abbrev ss (a b:String)(t:Bool):Prop:=gw (.str (S_ a)) (.str (S_ b))=Ga (.bool t)
def zAf (R A T:D)(h:pA [R]=Ga T):wW [.str (S_ "show"),R,A]=Ga T:=by
 have e1:ss "show" "show" true:=by kernel_rfl
 rw[Hu];unfold Bb;generalize pA=A1 at *;generalize wH=A2 at *;generalize zk=A3 at *;generalize wj=A4 at *;simp[h,e1]
def zxI (R A S:D)(z:Int)(h:wH [R]=Ga (.int z))(hs:fN (.int z)=Ga S):wW [.str (S_ "waste"),R,A]=Ga S:=by
 have e1:ss "waste" "show" false:=by kernel_rfl
 have e2:ss "waste" "waste" true:=by kernel_rfl
 rw[Hu];unfold Bb;generalize pA=A1 at *;generalize wH=A2 at *;generalize zk=A3 at *;generalize wj=A4 at *;generalize fN=ds at *;simp[h,hs,e1,e2]
def zxJ (R A S b:D)(z:Int)(i1:iQ A (.str (S_ "bound"))=Ga b)(h:zk [R,b]=Ga (.int z))(hs:fN (.int z)=Ga S):wW [.str (S_ "close"),R,A]=Ga S:=by
 have e1:ss "close" "show" false:=by kernel_rfl
 have e2:ss "close" "waste" false:=by kernel_rfl
 have e3:ss "close" "close" true:=by kernel_rfl
 rw[Hu];unfold Bb;generalize pA=A1 at *;generalize wH=A2 at *;generalize zk=A3 at *;generalize wj=A4 at *;generalize fN=ds at *;simp[h,hs,e1,e2,e3,i1]
def zAg (R A T k q:D)(i1:iQ A (.str (S_ "hand"))=Ga k)(i2:iQ A (.str (S_ "rounds"))=Ga q)(h:wj [R,k,q]=Ga T):wW [.str (S_ "know"),R,A]=Ga T:=by
 have e1:ss "know" "show" false:=by kernel_rfl
 have e2:ss "know" "waste" false:=by kernel_rfl
 have e3:ss "know" "close" false:=by kernel_rfl
 have e4:ss "know" "know" true:=by kernel_rfl
 rw[Hu];unfold Bb;generalize pA=A1 at *;generalize wH=A2 at *;generalize zk=A3 at *;generalize wj=A4 at *;simp[h,e1,e2,e3,e4,i1,i2]
def Av (C p r:Gk)(kvs:List (Str×D)):nG (.dsk C p r kvs)=.dsk C p r kvs:=rfl
def Qb (d:D):CQ (oj.rt d)=Ga d:=rfl
def Zz (C p r:Gk)(kvs:List (Str×D))(n:Str)(R:D)(h:atT kvs n=Ga R):zS C (.dsk C p r kvs) [.str n]=Ga R:=by
 rw[zlG];unfold QP;have h1:yf 0 C dT [.dsk C p r kvs,.val (.str n)]=Ga false:=by
  show(if C=C then _ else _)=_;rw[Ge rfl];show Ga (!(atT kvs n).isSome)=_;rw[h];rfl
 have h2:BO 0 C dU [.dsk C p r kvs,.val (.str n)]=Ga R:=by
  show(if C=C then _ else _)=_;rwa[Ge rfl]
 generalize yf 0 C dT=B1 at *;generalize BO 0 C dU=B2 at *;simp[h1,h2,Av,Qb]
def BN{fm:Sl->List D->Option D}(e:ψ[i]?=Ga (.dsk C p r kvs))(h:ga ψ=Ga ds)(q:fm (.dsk C p r kvs) ds=Ga d):gE i C fm ga ψ=Ga d:=by
 unfold gE;rw[e];show(if C=C then _ else _)=_;rwa[Ge rfl,h]
def GI (C p r:Gk)(kvs:List (Str×D))(X A R T:D)(w:String)(n:Str)(hr:oe [X]=Ga (.tuple [.str (S_ w),A]))(e1:ss w "run" false)(e2:ss w "alike" false)(hn:iQ A (.str (S_ "name"))=Ga (.str n))(hk:atT kvs n=Ga R)(ha:wW [.str (S_ w),R,A]=Ga T):iu C (.dsk C p r kvs) [X]=Ga T:=by
 have hb:=Zz C p r kvs n R hk;rw[zpO];unfold SU;have i0:gb (.tuple [.str (S_ w),A]) (.int 0)=Ga (.str (S_ w)):=oA _ 0 _ rfl;have i1:gb (.tuple [.str (S_ w),A]) (.int 1)=Ga A:=oA _ 1 _ rfl;generalize uC [.str (S_ w),A]=TP at *;have h5:gE 0 C (zS C) (fE (fv iQ eV (fx (.str (ja "name")))) gc) [.dsk C p r kvs,.val X,.val TP,.val (.str (S_ w)),.val A,.no]=Ga R:=BN rfl (by simp[hn]) hb;generalize gE 0 C (zS C) (fE (fv iQ eV (fx (.str (ja "name")))) gc)=MV at *;generalize oe=A1 at *;generalize wW=A2 at *;simp[hr,i0,i1,e1,e2,h5,ha,Av,Qb]
def OV (s:Sl)(a b c d e:D):tj 0 [s,.val a,.val b,.val c,.val d,.no]:=λj C p r l h=>by
 match j,h with
 | 0,_=>rfl
 | 1,h=>cases h
 | 2,h=>cases h
 | 3,h=>cases h
 | 4,h=>cases h
 | 5,h=>cases h
 | j+6,h=>simp at h
def ZB (C p r:Gk)(kvs:List (Str×D))(X A R t:D)(n:Str)(hr:oe [X]=Ga (.tuple [.str (S_ "run"),A]))(hn:iQ A (.str (S_ "name"))=Ga (.str n))(ht:iQ A (.str (S_ "text"))=Ga t)(hR:tm [t]=Ga R)(hl:kvs.length<1000):xF C (.dsk C p r kvs) [X]=Ga (.str (S_ "ok"),gK kvs n R):=by
 rw[zpP];unfold PX;have e1:ss "run" "run" true:=by kernel_rfl
 have i0:gb (.tuple [.str (S_ "run"),A]) (.int 0)=Ga (.str (S_ "run")):=oA _ 0 _ rfl;have i1:gb (.tuple [.str (S_ "run"),A]) (.int 1)=Ga A:=oA _ 1 _ rfl;generalize uC [.str (S_ "run"),A]=TP at *;have h5:yq r 0 C (fv iQ eV (fx (.str (ja "name")))) (fT tm (fE (fv iQ eV (fx (.str (ja "text")))) gc)) [.dsk C p r kvs,.val X,.val TP,.val (.str (S_ "run")),.val A,.no]=Ga (.nx [.dsk C p r (gK kvs n R),.val X,.val TP,.val (.str (S_ "run")),.val A,.no]):=by
  generalize tm=A2 at *;have hg:fT A2 (fE (fv iQ eV (fx (.str (ja "text")))) gc) [.dsk C p r kvs,.val X,.val TP,.val (.str (S_ "run")),.val A,.no]=Ga R:=by simp[ht,hR]
  have hf:fv iQ eV (fx (.str (ja "name"))) [.dsk C p r kvs,.val X,.val TP,.val (.str (S_ "run")),.val A,.no]=Ga (.str n):=by simp[hn]
  unfold yq;rw[hg,jh,hf,jh];exact(Ge ⟨rfl,rfl,hl,OV _ _ _ _ _ .none⟩)
 have h6:yv C p r (oj.rc (.str (S_ "ok")) [.dsk C p r (gK kvs n R),.val X,.val TP,.val (.str (S_ "run")),.val A,.no])=Ga (.str (S_ "ok"),gK kvs n R):=by
  show(if C=C/\p=p/\r=r then _ else _)=_;rw[Ge ⟨rfl,rfl,rfl⟩]
 generalize yq r 0 C (fv iQ eV (fx (.str (ja "name")))) (fT tm (fE (fv iQ eV (fx (.str (ja "text")))) gc))=PU at *;generalize oe=A1 at *;simp[hr,i0,i1,e1,h5,Av,PH,h6,UV]
def sk (U:List Nat)(k:Nat)(f:Fl):Bool:=(decide (f.a<(k:Int))&&decide (0<U.length))||(decide (f.a=(k:Int))&&decide (0<(U.filter λh=>!bt f.m h).length))
def RW (U:List Nat)(k:Nat)(f:Fl):sk U k f=(!U.isEmpty&&oW U k f):=by
 unfold sk oW;cases U with
 | nil=>simp
 | cons u U =>
  have e1:decide (0<(u::U).length)=true:=by simp
  have e2:(!(u::U).isEmpty)=true:=rfl;rw[e1,e2,Ja,qm]
  congr 1
  have e3:decide (0<((u::U).filter λh=>!bt f.m h).length)=!((u::U).all λh=>bt f.m h):=by
   generalize u::U=V;induction V with
   | nil=>rfl
   | cons v V ih =>
    rw[Jh,List.all_cons];cases bt f.m v with
    | true=>simpa using ih
    | false=>simp
  rw[e3]
def zFy (n:Nat)(fs:List Fl)(k:Nat):((fs.filter (sk (upL n fs k) k)).length:Int)=ii n fs k:=by
 unfold ii EL;by_cases h:(upL n fs k).isEmpty=true
 .rw[Ge h,vn.mpr (λf _=>by rw[RW,h];simp)]
 .have e:fs.filter (sk (upL n fs k) k)=fs.filter (oW (upL n fs k) k):=qf λf _=>by rw[RW,Bool.eq_false_iff.mpr h];rfl
  rw[Gf h,e]
abbrev Bk:FS:=fK (oS 9 (nh 9 (gh eM (gz gw (fv fW (fv gy eS (fT lz dC)) dW) dY) eQ [5]))) (gR 8 (fv fy fj (gi rK ac)))
abbrev Az:FS:=fK aj (fK ah (fK du (fK (sd bV aX (fK (oS 9 (nh 9 (gh eM (gz gw (fv fW (fv gy eS (fT lz dC)) dW) dY) eQ [5]))) (gR 8 (fv fy fj (gi rK ac))))) bc)))
def YB (R w G T h c i c' m a k:D)(lt lm:Int)(L ms:List D)(x3 x4 x5 x9:Sl)(t1 t2 t3 t4:Bool)(tT:toS T=Ga L)(hl:L.length<=1000000)(hc:gd (gz gw (fv fW (fv gy eS (fT lz dC)) dW) dY) eQ [.val m] L=Ga ms)
  (lT:gZ T=Ga (.int lt)) (g2:decide (0<lt)=t2) (lM:gZ (.list ms)=Ga (.int lm)) (g4:decide (0<lm)=t4) (b1:mq a k=Ga (.bool t1)) (b3:gw a k=Ga (.bool t3)) (hi:rK (.bool ((t1&&t2)||(t3&&t4)))=Ga i) (ad:fy c i=Ga c') :
  ∃ y9,(rN bm (.tuple [h,a,m]) [.val R,.val w,.val k,x3,x4,x5,.val G,.val T,.val c,x9]).bind Bk=Ga (.nx [.val R,.val w,.val k,.val h,.val a,.val m,.val G,.val T,.val c',y9]):=by
 refine⟨.val (.list ms),?_⟩;unfold Bk;generalize lz=A at *;generalize rK=DI at *;cases t1<;>cases t2<;>cases t3<;>cases t4<;>simp only[Ja,JH,qm,Bool.false_and,Bool.or_true,vp,Bool.true_or,JQ,Bool.or_self,Bool.and_self] at hi<;>simp[tT,nR,Ge hl,hc,lT,g2,lM,g4,b1,b3,hi,ad]
def WN (A:List D->Option D)(k m:D)(b q r:Int)(hb:A [k]=Ga (.int b))(d1:gy m (.int b)=Ga (.int q))(d2:fW (.int q) (.int 2)=Ga (.int r)):gz gw (fv fW (fv gy eS (fT A dC)) dW) dY [.val k,.val m]=Ga (decide (r=0)):=by
 simp[hb,d1,d2]
def WD:∀ m:Fin 32,∀ k:Fin 5,decide ((m.val:Int)/2^k.val%2=0)=!bt m.val k.val:=by nofun
def zCS (f:Fl)(hm:f.m<32)(U:List Nat)(hU:∀ x∈U,x<5):gd (gz gw (fv fW (fv gy eS (fT lz dC)) dW) dY) eQ [.val (.int (f.m:Int))] (il U)=Ga (il (U.filter λh=>!bt f.m h)):=by
 unfold il;refine zZ (λ(k:Nat)=>jd (k:Int)) (λh=>!bt f.m h) (λ(k:Nat)=>jd (k:Int)) (λh hh=>?_) λ_ _ _=>rfl;have h5:=hU h hh;have hp:(0:Int)<2^h:=Int.pow_pos (by decide);have hlt:(2:Int)^h<1073741824:=by
  have:h=0\/h=1\/h=2\/h=3\/h=4:=by omega
  rcases this with rfl|rfl|rfl|rfl|rfl<;>decide
 rw[WN lz _ _ (2^h) ((f.m:Int)/2^h) ((f.m:Int)/2^h%2) (EC h5) ?_ ?_]
 .exact congrArg Ga (WD ⟨f.m,hm⟩ ⟨h,h5⟩)
 .show(if _ then _ else _)=_;rw[Ge (by show(decide _&&decide _)=true;rw[Gc hp,Gc hlt];rfl)]
 .rfl
def zGJ (a b:Int):gw (.int a) (.int b)=Ga (.bool (decide (a=b))):=by
 show(if _ then _ else _)=_;rw[Ge (by rfl)];rw[show ku (.int a) (.int b)=decide (a=b) from by show(a==b)=_;exact rfl]
def zCT (R N F w w2 k c cw:D)(G T:List D)(L6 LF:List D)(n:Int)(x2 x3 x4 x5 x6 x7 x8 x9 y3 y4 y5 y9:Sl)(i0:gf R (.int 0)=Ga N)(i1:gf R (.int 1)=Ga F)(tF:toS F=Ga LF)(lF:LF.length<=1000000)(hG:gd cS (oN eQ) [.val k] LF=Ga G)(lN:gZ N=Ga (.int n))(hr:gO (.int n)=Ga L6)(l6:L6.length<=1000000)(hT:gd dm eQ [.val (.list G)] L6=Ga T)
  (lp:gk aX Bk LF [.val R,.val w,.val k,x3,x4,x5,.val (.list G),.val (.list T),.val (.int 0),x9]=Ga (.nx [.val R,.val w,.val k,y3,y4,y5,.val (.list G),.val (.list T),.val c,y9])) (sb:iZ c k=Ga cw) (mx_:zq w cw=Ga w2) :
  (iE 2 k [.val R,.val w,x2,x3,x4,x5,x6,x7,x8,x9]).bind Az=Ga (.nx [.val R,.val w2,.val k,y3,y4,y5,.val (.list G),.val (.list T),.val c,y9]):=by
 unfold Az;unfold Bk at lp;generalize fK (oS 9 (nh 9 (gh eM (gz gw (fv fW (fv gy eS (fT lz dC)) dW) dY) eQ [5]))) (gR 8 (fv fy fj (gi rK ac)))=B at *;simp[i0,i1,tF,nR,Ge lF,hG,lN,hr,Ge l6,hT,lp,sb,mx_]
def zCU (fs:List Fl)(k:Int):gd cS (oN eQ) [.val (.int k)] (fs.map fd)=Ga (il ((fs.filter λf=>decide (f.a<=k)).map Fl.h)):=by
 rw[zZ fd (λf=>decide (f.a<=k)) (λf=>jd (f.h:Int)) (λf _=>rfl) (λf _ _=>rfl)];unfold il;rw[jE];rfl
def VB (w:Nat)(A:List Nat):xg (.int w) (.list (il A))=Ga (.bool (!decide (w∈A))):=by
 have h:=Tt w A;have h':(if pv (.int (w:Int)) (il A) then Ga (jS ((il A).any λy=>ku y (.int (w:Int)))) else Gb)=Ga (.bool (decide (w∈A))):=h;show(if pv (.int (w:Int)) (il A) then Ga (jS (!(il A).any λy=>ku y (.int (w:Int)))) else Gb)=_;split at h'
 .rename_i c;rw[Ge c];have:=PyData.bool.inj (jK h');rw[this]
 .cases h'
def YH (fs:List Fl)(nd:(fs.map Fl.h).Nodup)(h:Nat)(k:Int):(!decide (h∈(fs.filter λf=>decide (f.a<=k)).map Fl.h))=up fs h k:=by
 rw[<- zFn fs nd h k,jQ,jR,kX,decide_eq_false_iff_not,jr];constructor
 .intro z f hf;cases q:(f.h==h&&decide (f.a<=k)) with
  | false=>rfl
  | true =>
   rw[jl,beq_iff_eq,decide_eq_true_eq] at q;exact absurd ⟨f,jY.mpr ⟨hf,Gc q.2⟩,q.1⟩ z
 .rintro z ⟨f,hf,e⟩;obtain⟨h1,h2⟩:=jY.mp hf;have:=z f h1;rw[e,beq_self_eq_true,h2] at this;cases this
def zAi (n:Nat)(fs:List Fl)(nd:(fs.map Fl.h).Nodup)(k:Nat):gd dm eQ [.val (.list (il ((fs.filter λf=>decide (f.a<=(k:Int))).map Fl.h)))] ((jq n).map λ(h:Nat)=>jd (h:Int))=Ga (il (upL n fs k)):=by
 rw[zZ (λ(h:Nat)=>jd (h:Int)) (λh=>up fs h (k:Int)) (λ(h:Nat)=>jd (h:Int)) (λh _=>?_) (λ_ _ _=>rfl)]
 .rfl
 .have e:=VB h ((fs.filter λf=>decide (f.a<=(k:Int))).map Fl.h);rw[YH fs nd] at e;generalize uR (il ((fs.filter λf=>decide (f.a<=(k:Int))).map Fl.h))=GG at *;generalize up fs h (k:Int)=b at *;simp[e]
def VQ (a b:Int):zq (.int a) (.int b)=Ga (.int (mx a b)):=rfl
def FU (A:List Nat):(il A).length=A.length:=jc ..
def zCW (R w G:D)(fs:List Fl)(hm:∀ f∈fs,f.m<32)(U:List Nat)(hU:∀ x∈U,x<5)(lU:U.length<=5)(k:Nat)(x3 x4 x5 x9:Sl)(lf:fs.length<=5):∃ y3 y4 y5 y9,gk aX Bk (fs.map fd) [.val R,.val w,.val (.int (k:Int)),x3,x4,x5,.val G,.val (.list (il U)),.val (.int 0),x9]=Ga (.nx [.val R,.val w,.val (.int (k:Int)),y3,y4,y5,.val G,.val (.list (il U)),.val (.int ((fs.filter (sk U k)).length:Int)),y9]):=by
 have Z:∀ (pre suf:List Fl) (x3 x4 x5 x9:Sl),fs=pre++suf->∃ y3 y4 y5 y9,gk aX Bk (suf.map fd) [.val R,.val w,.val (.int (k:Int)),x3,x4,x5,.val G,.val (.list (il U)),.val (.int ((pre.filter (sk U k)).length:Int)),x9]=Ga (.nx [.val R,.val w,.val (.int (k:Int)),y3,y4,y5,.val G,.val (.list (il U)),.val (.int ((fs.filter (sk U k)).length:Int)),y9]):=by
  intro pre suf;induction suf generalizing pre with
  | nil=>intro x3 x4 x5 x9 e;rw[kf] at e;subst e;exact⟨x3,x4,x5,x9,rfl⟩
  | cons f suf ih =>
   intro x3 x4 x5 x9 e;have hmf:=hm f (by rw[e];exact jD _ jf);obtain⟨y9,st⟩:=YB R w G (.list (il U)) (.int (f.h:Int)) (.int ((pre.filter (sk U k)).length:Int)) (.int (if sk U k f then 1 else 0)) (.int (((pre++[f]).filter (sk U k)).length:Int)) (.int (f.m:Int)) (.int f.a) (.int (k:Int)) (U.length:Int) ((U.filter λh=>!bt f.m h).length:Int) (il U) (il (U.filter λh=>!bt f.m h)) x3 x4 x5 x9 (decide (f.a<(k:Int))) (decide (0<U.length)) (decide (f.a=(k:Int))) (decide (0<(U.filter λh=>!bt f.m h).length))
    rfl (by rw[FU];omega) (zCS f hmf U hU) (by rw[<- FU U];rfl) (by rw[jQ,decide_eq_true_eq,decide_eq_true_eq];omega) (by rw[<- FU (U.filter λh=>!bt f.m h)];rfl) (by rw[jQ,decide_eq_true_eq,decide_eq_true_eq];omega) rfl (zGJ _ _) (by show rK (.bool (sk U k f))=_;cases sk U k f<;>rfl) (by
     rw[qO,je];show Ga (jd _)=_
     congr 2
     cases q:sk U k f with
     | true=>rw[Jh,q];simp
     | false=>rw[Jh,q];simp)
   rw[jO,sT (x:=fd f) st];exact ih (pre++[f]) _ _ _ _ (by rw[e,j3];rfl)
 exact Z [] fs x3 x4 x5 x9 rfl
def WY (ns:List D)(fs:List Fl)(G:lR ns.length fs)(lf:fs.length<=5)(k:Nat)(m:Int)(x2 x3 x4 x5 x6 x7 x8 x9:Sl):∃ y3 y4 y5 y6 y7 y8 y9,(iE 2 (.int (k:Int)) [.val (rd ns fs),.val (.int m),x2,x3,x4,x5,x6,x7,x8,x9]).bind Az=Ga (.nx [.val (rd ns fs),.val (.int (mx m (ii ns.length fs k-(k:Int)))),.val (.int (k:Int)),y3,y4,y5,y6,y7,y8,y9]):=by
 have n5:=G.n5;obtain⟨y3,y4,y5,y9,lp⟩:=zCW (rd ns fs) (.int m) (.list (il ((fs.filter λf=>decide (f.a<=(k:Int))).map Fl.h))) fs G.mb (upL ns.length fs k) (λx hx=>jx (QZ hx) n5) (jI (Qy _ _ _) n5) k x3 x4 x5 x9 lf;rw[zFy] at lp;have lm:(fs.map fd).length<=1000000:=by rw[jc];omega
 have lr:((jq ns.length).map λ(h:Nat)=>jd (h:Int)).length<=1000000:=by rw[jc,jV];omega
 refine⟨y3,y4,y5,_,_,_,y9,zCT (rd ns fs) (.tuple ns) (.tuple (fs.map fd)) (.int m) _ (.int (k:Int)) (.int (ii ns.length fs k)) (.int (ii ns.length fs k-(k:Int))) _ _ _ (fs.map fd) (ns.length:Int) x2 x3 x4 x5 x6 x7 x8 x9 y3 y4 y5 y9 rfl rfl rfl lm (zCU fs k) rfl (Ds (by omega)) lr (zAi ns.length fs G.nd k) lp rfl (VQ _ _)⟩
def zGK (ns:List D)(fs:List Fl)(G:lR ns.length fs)(lf:fs.length<=5):zd [rd ns fs]=Ga (.int (wst (ii ns.length fs))):=by
 rw[znY];unfold OH;have T:=WY ns fs G lf;obtain⟨a3,a4,a5,a6,a7,a8,a9,t1⟩:=T 1 0 .no .no .no .no .no .no .no .no;obtain⟨b3,b4,b5,b6,b7,b8,b9,t2⟩:=T 2 (mx 0 (ii ns.length fs 1-((1:Nat):Int))) (.val (.int ((1:Nat):Int))) a3 a4 a5 a6 a7 a8 a9;obtain⟨c3,c4,c5,c6,c7,c8,c9,t3⟩:=T 3 _ (.val (.int ((2:Nat):Int))) b3 b4 b5 b6 b7 b8 b9;obtain⟨d3,d4,d5,d6,d7,d8,d9,t4⟩:=T 4 _ (.val (.int ((3:Nat):Int))) c3 c4 c5 c6 c7 c8 c9;obtain⟨e3,e4,e5,e6,e7,e8,e9,t5⟩:=T 5 _ (.val (.int ((4:Nat):Int))) d3 d4 d5 d6 d7 d8 d9;have lp:gk (iE 2) Az [.int 1,.int 2,.int 3,.int 4,.int 5] [.val (rd ns fs),.val (.int 0),.no,.no,.no,.no,.no,.no,.no,.no]=Ga (.nx [.val (rd ns fs),.val (.int (wst (ii ns.length fs))),.val (.int 5),e3,e4,e5,e6,e7,e8,e9]):=by
  rw[sT (x:=.int 1) t1,sT (x:=.int 2) t2,sT (x:=.int 3) t3,sT (x:=.int 4) t4,sT (x:=.int 5) t5];rfl
 have hr:mU (.int 1) (.int 6)=Ga [.int 1,.int 2,.int 3,.int 4,.int 5]:=rfl;unfold Az at lp;generalize fK aj (fK ah (fK du (fK (sd bV aX (fK (oS 9 (nh 9 (gh eM (gz gw (fv fW (fv gy eS (fT lz dC)) dW) dY) eQ [5]))) (gR 8 (fv fy fj (gi rK ac))))) bc)))=B at *;generalize rd ns fs=R at *;generalize wst (ii ns.length fs)=ww at *;simp[hr,lp]
abbrev Bd (v:Int):Prop:=-((10:Int)^60)<v/\v<(10:Int)^60
def pr (o:Nat)(v:Int):Str:=gr (sg (gH o)++[58]++sg (nt v))
def MQ (o:Nat)(v:Int)(h:Bd v):(pr o v).length<=63:=by
 have l:=GH v h.1 h.2;unfold pr;rw[ib,lg];simp only[je];rw[<- ib (nt v)];show 1+1+(nt v).length<=63;omega
def GR:S_ ":"=gr [58]:=by nofun
def Wf (a b c:Str):sB vH [a,b,c]=gr (sg a++sg b++sg c):=by
 refine sQ ?_;show sg (((vH++a)++b)++c)=_;rw[lg];show(((#[]++a.cps)++b.cps)++c.cps:Array Nat).toList=_;rw[k8,k8,k8];rfl
def zCY (F h v a b c Z:D)(i0:gb F (.int 0)=Ga h)(i1:gb F (.int 1)=Ga v)(f1:pL h=Ga a)(f2:pL v=Ga b)(hg:wc [a,.str (S_ ":"),b]=Ga Z):yW [F]=Ga Z:=by
 rw[znV];unfold OM;simp[i0,i1,f1,f2,hg]
def zCZ (o:Nat)(v:Int)(ho:o<10)(h:Bd v):yW [.tuple [.int (o:Int),.int v]]=Ga (.str (pr o v)):=by
 refine zCY _ (.int (o:Int)) (.int v) (.str (gH o)) (.str (nt v)) .none _ (oA _ 0 _ rfl) (oA _ 1 _ rfl) (FJ o ho) (yV v h.1 h.2) ?_;have e:sB vH [gH o,S_ ":",nt v]=pr o v:=by rw[Wf,GR,lg];rfl
 show(if _ then _ else _)=_;rw[e,Ge (jI (MQ o v h) (by decide))]
def Qu (l:List Str)(hl:l.length<=11)(hB:∀ y∈l,y.length<=63):mF (.str (S_ " ")) (l.map jp)=Ga (.str (ug (S_ " ") l)):=by
 have ok:JoinOk (S_ " ") l=true:=by
  have h1:(ja " ").length=1:=by nofun
  unfold JoinOk qD;rw[J7,h1];have s:=qX l hB;have z:(1000:Nat)<=sizeLine:=by decide
  rw[Gd (by omega)];rfl
 show(mw _).bind _=_;rw[EE,jh,Ge ok]
def yM (vs:List Int)(fs:List Fl)(q k:Nat):Str:=if k<vs.length/\up fs k (q:Int)=true then ug (S_ " ") ((kn fs vs.length q k).map λo=>pr o (vs.getD o 0)) else S_ "gone"
def Zj (R k q:D)(L:List D)(hw:wM [R,q]=Ga L)(hn:mJ k (.list L)=Ga (.bool true)):wj [R,k,q]=Ga (.str (S_ "gone")):=by
 rw[Sz];unfold HA;generalize wM=A at *;simp[hw,hn]
def zFC (R k q V v K S:D)(L LK ys:List D)(hw:wM [R,q]=Ga L)(hn:mJ k (.list L)=Ga (.bool false))(hv:DR [R,q]=Ga V)(iv:gb V k=Ga v)(hk:Ey [v]=Ga K)(tk:lq K=Ga LK)(lk:LK.length<=1000000)(hc:gd (λ_=>Ga true) (fT yW dC) [] LK=Ga ys)(hj:mF (.str (S_ " ")) ys=Ga S):wj [R,k,q]=Ga S:=by
 rw[Sz];unfold HA;generalize wM=A at *;generalize DR=A1 at *;generalize Ey=A2 at *;generalize yW=A3 at *;simp[hw,hn,hv,iv,hk,tk,nR,Ge lk,hc,hj]
def zFD (vs:List Int)(o:Nat)(h:o<vs.length):(vD vs).getD o .none=.int (vs.getD o 0):=by
 unfold vD;rw[ji,jz,jg h,ji,jg h];rfl
def oB (vs:List Int):(vD vs).length=vs.length:=jc ..
def zFE (vs:List Int):∀ d∈vD vs,∃ i:Int,d=.int i:=λd h=>by
 obtain⟨i,_,rfl⟩:=jr.mp h;exact⟨i,rfl⟩
def Hw(hv:∀ v∈vs,Bd v){o:Nat}(h:o<vs.length):Bd (vs.getD o 0):=by
 rw[ji,jg h];exact hv _ (k0 h)
def zC0 (w:Nat)(A:List Nat):mJ (.int w) (.list (il A))=Ga (.bool (!decide (w∈A))):=VB w A
variable {n:Nat}
def zC1(hn:vs.length=n)(G:lR n fs)(hv:∀ v∈vs,Bd v)(k q:Nat)(hq:q<=4):wj [RD vs fs,.int (k:Int),.int (q:Int)]=Ga (.str (yM vs fs q k)):=by
 subst hn;have G':lR (vD vs).length fs:=by rwa[oB]
 have n5:=G.n5;have hw:=Ko (vD vs) fs (q:Int) (by rwa[oB]);rw[oB] at hw;have hm:∀ w,w∈(jq vs.length).filter (λh=>up fs h (q:Int))↔w<vs.length/\up fs w (q:Int)=true:=λw=>by rw[jY,jF]
 have hnn:=zC0 k ((jq vs.length).filter λh=>up fs h (q:Int));unfold yM;by_cases c:k<vs.length/\up fs k (q:Int)=true
 .rw[Ge c];rw[Gc ((hm k).mpr c)] at hnn;have hk:=XY (vD vs) fs (zFE vs) (by rwa[oB]) q k hq (by rw[oB];exact c.1);have hvw:=zsA (vD vs) fs G' q (by omega);have iv:gb (.list (vL (vD vs) fs q)) (.int (k:Int))=Ga (vw (vD vs) fs q k):=by
   have:=UI (ns:=vD vs) (fs:=fs) (r:=q) (h:=k) (by rw[oB];exact c.1);unfold wV at this;rw[Ge c.2] at this;exact this
  have kl:=HC fs vs.length q k;refine zFC (RD vs fs) _ _ _ _ _ _ _ (zV (vD vs) fs q k) (((kn fs vs.length q k).map λo=>pr o (vs.getD o 0)).map jp) hw hnn hvw iv hk rfl ?_ ?_ ?_
  .unfold zV;rw[jc,oB];omega
  .unfold zV;rw[oB,jE];refine FZ _ _ _ _ λo ho=>?_;have hol:o<vs.length:=Ef ho;show yW [.tuple [.int (o:Int),(vD vs).getD o .none]]=_;rw[zFD vs o hol];exact zCZ o _ (by omega) (Hw hv hol)
  .refine Qu _ (by rw[jc];omega) λy hy=>?_;obtain⟨o,ho,rfl⟩:=jr.mp hy;exact MQ o _ (Hw hv (Ef ho))
 .rw[Gf c];rw[Gd (λz=>c ((hm k).mp z))] at hnn;exact Zj (RD vs fs) _ _ _ hw hnn
def VU (R N:D)(k q n:Int)(i0:gb R (.int 0)=Ga N)(lN:ig N=Ga (.int n))(g:decide (k≥n)=true):sR [R,.int k,.int q]=Ga (.str (S_ "gone")):=by
 rw[Nu];unfold EN;have g':decide (n<=k)=true:=g;generalize xW=A1 at *;generalize AJ=A2 at *;simp[i0,lN,g,g']
def Wb (R N T E:D)(k q n e:Int)(i0:gb R (.int 0)=Ga N)(lN:ig N=Ga (.int n))(g:decide (k≥n)=false)(ht:xW [R]=Ga T)(it:gb T (.int 0)=Ga E)(ie:gb E (.int k)=Ga (.int e))(le:decide (e<=q)=true):sR [R,.int k,.int q]=Ga (.str (S_ "gone")):=by
 rw[Nu];unfold EN;have g':decide (n<=k)=false:=g;generalize xW=A1 at *;generalize AJ=A2 at *;simp[i0,lN,g,g',ht,it,ie,le]
def VI (R N T E Hb K S:D)(LK ys:List D)(k q n e:Int)(i0:gb R (.int 0)=Ga N)(lN:ig N=Ga (.int n))(g:decide (k≥n)=false)(ht:xW [R]=Ga T)(it:gb T (.int 0)=Ga E)(ie:gb E (.int k)=Ga (.int e))(le:decide (e<=q)=false)(hh:AJ [R,.int q]=Ga Hb)(ik:gb Hb (.int k)=Ga K)(tk:lq K=Ga LK)(lk:LK.length<=1000000)
  (hc:gd (λ_=>Ga true) (fv fy (fv fy (gi fN eQ) (fx (.str (ja ":")))) (gi fN be)) [.val R] LK=Ga ys) (hj:mF (.str (S_ " ")) ys=Ga S):sR [R,.int k,.int q]=Ga S:=by
 rw[Nu];unfold EN;have g':decide (n<=k)=false:=g;generalize xW=A1 at *;generalize AJ=A2 at *;simp[i0,lN,g,g',ht,it,ie,le,hh,ik,tk,nR,Ge lk,hc,hj]
def zGL (R N o v a b c d:D)(s1:fN o=Ga a)(p1:fy a (.str (ja ":"))=Ga b)(i0:gb R (.int 0)=Ga N)(i1:gb N o=Ga v)(s2:fN v=Ga c)(p2:fy b c=Ga d):fv fy (fv fy (gi fN eQ) (fx (.str (ja ":")))) (gi fN be) [.val o,.val R]=Ga d:=by
 generalize fN=ds at *;simp[s1,p1,i0,i1,s2,p2]
def zxO(hn:vs.length=n)(G:lR n fs)(hv:∀ v∈vs,Bd v)(k q:Nat)(hq:q<=4):sR [RD vs fs,.int (k:Int),.int (q:Int)]=Ga (.str (yM vs fs q k)):=by
 subst hn;have G':lR (vD vs).length fs:=by rwa[oB]
 have n5:=G.n5;have i0:gb (RD vs fs) (.int 0)=Ga (.tuple (vD vs)):=oA _ 0 _ rfl;have lN:ig (.tuple (vD vs))=Ga (.int (vs.length:Int)):=by rw[Gr,oB]
 by_cases c1:k<vs.length;rotate_left
 .unfold yM;rw[Gf (λz=>c1 z.1)];exact VU _ _ _ _ _ i0 lN (Gc (by omega))
 have ht:=So (vD vs) fs G';rw[oB] at ht;have ie:gb (.list (pQ vs.length fs)) (.int (k:Int))=Ga (.int (iY fs k)):=wg _ _ _ (NU G.nd c1);have eu:=TR (fs:=fs) (h:=k) (r:=(q:Int)) (by omega);unfold yM;by_cases c2:iY fs k<=(q:Int)
 .have uf:up fs k (q:Int)=false:=by rw[eu];exact Gd (by omega)
  rw[Gf (λz=>by rw[uf] at z;cases z.2)];exact Wb _ _ _ _ _ _ _ _ i0 lN (Gd (by omega)) ht (oA _ 0 _ rfl) ie (Gc c2)
 .have ut:up fs k (q:Int)=true:=by rw[eu];exact Gc (by omega)
  rw[Ge ⟨c1,ut⟩];have hh:=zmQ (vD vs) fs G' q (by omega);rw[oB] at hh;have ik:gb (.list (me fs vs.length q)) (.int (k:Int))=Ga (.list (il (kn fs vs.length q k))):=TX c1;have kl:=HC fs vs.length q k;refine VI _ _ _ _ _ _ _ (il (kn fs vs.length q k)) (((kn fs vs.length q k).map λo=>pr o (vs.getD o 0)).map jp) _ _ _ _ i0 lN (Gd (by omega)) ht (oA _ 0 _ rfl) ie (Gd c2) hh ik rfl (by rw[FU];omega) ?_ ?_
  .unfold il;rw[jE];refine rW (λ(o:Nat)=>jd (o:Int)) _ λo ho=>?_;have hol:o<vs.length:=Ef ho;have bd:=Hw hv hol;have l:=GH _ bd.1 bd.2;refine zGL (RD vs fs) _ _ (.int (vs.getD o 0)) (.str (gH o)) (.str (gr (sg (gH o)++[58]))) (.str (nt (vs.getD o 0))) _ (zc o (by omega)) ?_ i0 (oA _ _ _ ?_) (yV _ bd.1 bd.2) ?_
   .have:=zb (sg (gH o)) [58] (by show 1+1<=1000;decide);rw[mM,<- GR] at this;exact this
   .show(vs.map jd)[o]?=_;rw[jz,jg hol,ji,jg hol];rfl
   .have:=zb (sg (gH o)++[58]) (sg (nt (vs.getD o 0))) (by rw[<- ib (nt _)];show 1+1+_<=1000;omega);rw[mM] at this;exact this
  .refine Qu _ (by rw[jc];omega) λy hy=>?_;obtain⟨o,ho,rfl⟩:=jr.mp hy;exact MQ o _ (Hw hv (Ef ho))
def QC (a:Nat)(h:a<8):pO (.str (S_ "m")) (.int (a:Int))=Ga (.str (gr (jB a 109))):=by
 match a,h with
 | 0,_=>kernel_rfl
 | 1,_=>kernel_rfl
 | 2,_=>kernel_rfl
 | 3,_=>kernel_rfl
 | 4,_=>kernel_rfl
 | 5,_=>kernel_rfl
 | 6,_=>kernel_rfl
 | 7,_=>kernel_rfl
def zGM (j:Nat)(h:j<26):gb (.str (S_ "abcdefghijklmnopqrstuvwxyz")) (.int (j:Int))=Ga (.str (gr [97+j])):=by
 match j,h with
 | 0,_=>kernel_rfl
 | 1,_=>kernel_rfl
 | 2,_=>kernel_rfl
 | 3,_=>kernel_rfl
 | 4,_=>kernel_rfl
 | 5,_=>kernel_rfl
 | 6,_=>kernel_rfl
 | 7,_=>kernel_rfl
 | 8,_=>kernel_rfl
 | 9,_=>kernel_rfl
 | 10,_=>kernel_rfl
 | 11,_=>kernel_rfl
 | 12,_=>kernel_rfl
 | 13,_=>kernel_rfl
 | 14,_=>kernel_rfl
 | 15,_=>kernel_rfl
 | 16,_=>kernel_rfl
 | 17,_=>kernel_rfl
 | 18,_=>kernel_rfl
 | 19,_=>kernel_rfl
 | 20,_=>kernel_rfl
 | 21,_=>kernel_rfl
 | 22,_=>kernel_rfl
 | 23,_=>kernel_rfl
 | 24,_=>kernel_rfl
 | 25,_=>kernel_rfl
 | j+26,h=>exact absurd h (by omega)
def EM (s a:Nat)(j:Nat):Str:=gr (jB a 109++[97+j]++jB (s-1-a) 109)
def OC (s a j:Nat)(h1:1<=s)(h8:s<=8)(ha:a<s)(hj:j<26):NM (EM s a j):=by
 have hl:(EM s a j).length=s:=by
  unfold EM;rw[ib,lg];simp only[je,j6,jC,uy];omega
 refine⟨by omega,by omega,λc hc=>?_⟩;unfold EM at hc;rw[lg] at hc;rcases jM.mp hc with hc|hc
 .rcases jM.mp hc with hc|hc
  .rw[vW hc];decide
  .rw[jn.mp hc];omega
 .rw[vW hc];decide
abbrev nE:FV:=fv fy (fv fy (fv pO (fx (.str (ja "m"))) eS) af) (fv pO (fx (.str (ja "m"))) ba)
def zGN (k c s a q n9 sm j s1 b:Int)(L M1 Lt M2 A1 A2:D)(r1:pO (.str (ja "m")) (.int a)=Ga M1)(d1:gy (.int c) (.int 64)=Ga (.int q))(m9:iT (.int 9) (.int k)=Ga (.int n9))(s26:q+n9=sm)(md:fW (.int sm) (.int 26)=Ga (.int j))(il_:gb L (.int j)=Ga Lt)(p1:fy M1 Lt=Ga A1)(e1:s-1=s1)(e2:s1-a=b)(r2:pO (.str (ja "m")) (.int b)=Ga M2)(p2:fy A1 M2=Ga A2):nE [.val (.int k),.val (.int a),.val (.int c),.val L,.val (.int s)]=Ga A2:=by
 unfold nE;generalize pO=R at *;simp[r1,d1,m9,s26,md,il_,p1,e1,e2,r2,p2]
def zAj (c s s0 a q8:Int)(ys:List D)(m8:fW (.int c) (.int 8)=Ga (.int s0))(e1:1+s0=s)(d8:gy (.int c) (.int 8)=Ga (.int q8))(ms:fW (.int q8) (.int s)=Ga (.int a))(hc:gd (λ_=>Ga true) nE [.val (.int a),.val (.int c),.val (.str (ja "abcdefghijklmnopqrstuvwxyz")),.val (.int s)] [.int 0,.int 1,.int 2]=Ga ys):xX [.int c]=Ga (.list ys):=by
 rw[znX];unfold LI;have hr:gO (.int 3)=Ga [.int 0,.int 1,.int 2]:=rfl;have hl:([.int 0,.int 1,.int 2]:List D).length<=1000000:=by decide
 unfold nE at hc;generalize fv fy (fv fy (fv pO (fx (.str (ja "m"))) eS) af) (fv pO (fx (.str (ja "m"))) ba)=B at *;generalize ([.int 0,.int 1,.int 2]:List D)=L3 at *;simp[m8,e1,d8,ms,hr,nR,Ge hl,hc]
def zAk (c:Int)(h0:0<=c):∃ n0 n1 n2:Str,NM n0/\NM n1/\NM n2/\xX [.int c]=Ga (.list [.str n0,.str n1,.str n2]):=by
 obtain⟨s0,hs0⟩:=kA (show 0<=c%8 by omega);have hs7:s0<8:=by omega
 have hsp:(0:Int)<1+(s0:Int):=by omega
 obtain⟨a,ha⟩:=kA (kP (c/8) (show(1+(s0:Int))≠0 by omega));have ha':(a:Int)<1+(s0:Int):=by rw[<- ha];exact kg _ hsp
 have el:∀ k:Nat,k<3->∃ j:Nat,j<26/\nE [.val (.int (k:Int)),.val (.int (a:Int)),.val (.int c),.val (.str (ja "abcdefghijklmnopqrstuvwxyz")),.val (.int (1+(s0:Int)))]=Ga (.str (EM (1+s0) a j)):=λk hk=>by
  obtain⟨j,hj⟩:=kA (show 0<=(c/64+9*(k:Int))%26 by omega);have hj26:j<26:=by omega
  refine⟨j,hj26,zGN _ _ _ _ (c/64) (9*(k:Int)) _ (j:Int) (s0:Int) ((1+s0-1-a:Nat):Int) _ (.str (gr (jB a 109))) (.str (gr [97+j])) (.str (gr (jB (1+s0-1-a) 109))) (.str (gr (jB a 109++[97+j]))) _ (QC a (by omega)) rfl ?_ rfl ?_ (zGM j hj26) ?_ (by omega) (by omega) (QC _ (by omega)) ?_⟩
  .have:k=0\/k=1\/k=2:=by omega
   rcases this with rfl|rfl|rfl<;>rfl
  .show Ga (jd _)=_;rw[hj]
  .exact zb _ _ (by simp only[j6,jC,uy];omega)
  .exact zb _ _ (by simp only[je,j6,jC,uy];omega)
 obtain⟨j0,b0,e0⟩:=el 0 (by decide);obtain⟨j1,b1,e1⟩:=el 1 (by decide);obtain⟨j2,b2,e2⟩:=el 2 (by decide);refine⟨_,_,_,OC (1+s0) a j0 (by omega) (by omega) (by omega) b0,OC (1+s0) a j1 (by omega) (by omega) (by omega) b1,OC (1+s0) a j2 (by omega) (by omega) (by omega) b2,?_⟩;refine zAj c (1+(s0:Int)) (s0:Int) (a:Int) (c/8) _ (by show Ga (jd _)=_;rw[hs0]) rfl rfl (by show(if _ then _ else _)=_;rw[Ge (Gc hsp)];exact congrArg (λz=>Ga (jd z)) ha) ?_;have C:∀ (x:D) (r ys:List D) (y:D) (base:En),nE (.val x::base)=Ga y->gd (λ_=>Ga true) nE base r=Ga ys->gd (λ_=>Ga true) nE base (x::r)=Ga (y::ys):=λx r ys y base h1 h2=>by
  unfold gd;rw[jh,Ge rfl,h1,jh,h2];rfl
 exact C _ _ _ _ _ e0 (C _ _ _ _ _ e1 (C _ _ _ _ _ e2 rfl))
def Eh (x:Str)(h:kM x=true):gN (.str x) (.str x)=Ga (.bool false):=by
 rw[Hr h h,Gc rfl];rfl
def zGO (c:Nat->Int)(h:∀ k,c k<=5):0<=wst c/\wst c<=5:=by
 have h1:=h 1;have h2:=h 2;have h3:=h 3;have h4:=h 4;have h5:=h 5;unfold wst mx;generalize c 1=a1 at *;generalize c 2=a2 at *;generalize c 3=a3 at *;generalize c 4=a4 at *;generalize c 5=a5 at *
 repeat' split
 all_goals omega
def ZC (n:Nat)(fs:List Fl)(h:fs.length<=5)(k:Nat):ii n fs k<=5:=by
 unfold ii EL;split
 .simp
 .have:=ky (oW (upL n fs k) k) fs;omega
def zGQ (vs:List Int)(fs:List Fl)(q k:Nat)(n5:vs.length<=5):kM (yM vs fs q k)=true:=by
 unfold yM;split
 .refine(BU _).mpr λd hd=>?_;have e:S_ " "=⟨#[32]⟩:=by nofun
  rw[e,show ug ⟨#[32]⟩ _=uQ ⟨#[32]⟩ _ from ua _ _] at hd;rcases Ig 32 d _ hd with z|⟨w,hw,z⟩
  .omega
  .obtain⟨o,ho,rfl⟩:=jr.mp hw;have hol:o<vs.length:=Ef ho;unfold pr at z;rw[lg] at z;rcases jM.mp z with z|z
   .rcases jM.mp z with z|z
    .have:d=48+o:=by simpa [gH] using z
     omega
    .rw[jn.mp z];decide
   .exact(BU _).mp (wI _) d z
 .exact wI _
abbrev Dq (C:Gk):FS:=gP (gz gN (gE 0 C (iu C) (fE (fv fy (fv fy (fv fy (fx (.str (ja "close "))) eS) (fx (.str (ja " ")))) (gi fN eX)) gc)) (gi fN bf)) di (gA)
abbrev ES (C:Gk):FS:=fK (gR 9 (fv fy (fv fy (fv fy (fv fy (fv fy (fx (.str (ja "know "))) eS) (fx (.str (ja " ")))) (gi fN fj)) (fx (.str (ja " ")))) (gi fN eZ))) (gP (gz gN (gE 0 C (iu C) dL) (fT sR bC)) di gA)
abbrev El (C r:Gk):FS:=rz (Bi (Bx (lh r 0 C (xF C) (fE (fv fy (fv fy (fv fy (fx (.str (ja "run "))) eS) (fx (.str (ja " ")))) eV) gc)) (fx (.str (ja "ok")))) (gz gN (gE 0 C (iu C) (fE (fv fy (fx (.str (ja "show "))) eS) gc)) eV)) di (gA)
def zAl (C p r:Gk)(kvs kvs':List (Str×D))(N R T W N0 F0 q:D)(c n m n1 n2 d:Int)(L1 L2:List D)(x6 x8 x9:Sl)(ht:oT [R]=Ga T)(hif:El C r [.dsk C p r kvs,.val N,.val R,.val (.int c),.val T,.no,.no,.no,.no,.no]=Ga (.nx [.dsk C p r kvs',.val N,.val R,.val (.int c),.val T,.no,.no,.no,.no,.no]))(hw:zd [R]=Ga W)
  (h4:gz gN (gE 0 C (iu C) (fE (fv fy (fx (.str (ja "waste "))) eS) gc)) (gi fN eW) [.dsk C p r kvs',.val N,.val R,.val (.int c),.val T,.val W,.no,.no,.no,.no]=Ga false)
  (i0:gb R (.int 0)=Ga N0) (i1:gb R (.int 1)=Ga F0) (ln:ig N0=Ga (.int n)) (lf:ig F0=Ga (.int m)) (e1:n-1=n1) (hr1:mU (.int m) (.int n1)=Ga L1)
  (lp1:gk (iE 6) (Dq C) L1 [.dsk C p r kvs',.val N,.val R,.val (.int c),.val T,.val W,.no,.no,.no,.no]=Ga (.nx [.dsk C p r kvs',.val N,.val R,.val (.int c),.val T,.val W,x6,.no,.no,.no]))
  (e2:n-2=n2) (id_:gb (.list [.int 5,.int 5,.int 4,.int 3]) (.int n2)=Ga (.int d)) (md:fW (.int c) (.int d)=Ga q) (hr2:gO (.int 5)=Ga L2)
  (lp2:gk (iE 8) (ES C) L2 [.dsk C p r kvs',.val N,.val R,.val (.int c),.val T,.val W,x6,.val q,.no,.no]=Ga (.nx [.dsk C p r kvs',.val N,.val R,.val (.int c),.val T,.val W,x6,.val q,x8,x9])) :
  rB C (.dsk C p r kvs) [N,R,.int c]=Ga (.bool true,kvs'):=by
 rw[Zw];unfold TB;have h6:yv C p r (oj.rc (.bool true) [.dsk C p r kvs',.val N,.val R,.val (.int c),.val T,.val W,x6,.val q,x8,x9])=Ga (.bool true,kvs'):=by
  show(if C=C/\p=p/\r=r then _ else _)=_;rw[Ge ⟨rfl,rfl,rfl⟩]
 unfold El at hif;unfold Dq at lp1;unfold ES at lp2;generalize rz (Bi (Bx (lh r 0 C (xF C) (fE (fv fy (fv fy (fv fy (fx (.str (ja "run "))) eS) (fx (.str (ja " ")))) eV) gc)) (fx (.str (ja "ok")))) (gz gN (gE 0 C (iu C) (fE (fv fy (fx (.str (ja "show "))) eS) gc)) eV)) di (gA)=B0 at *;generalize gP (gz gN (gE 0 C (iu C) (fE (fv fy (fv fy (fv fy (fx (.str (ja "close "))) eS) (fx (.str (ja " ")))) (gi fN eX)) gc)) (gi fN bf)) di (gA)=B1 at *;generalize fK (gR 9 (fv fy (fv fy (fv fy (fv fy (fv fy (fx (.str (ja "know "))) eS) (fx (.str (ja " ")))) (gi fN fj)) (fx (.str (ja " ")))) (gi fN eZ))) (gP (gz gN (gE 0 C (iu C) dL) (fT sR bC)) di gA)=B2 at *;generalize gz gN (gE 0 C (iu C) (fE (fv fy (fx (.str (ja "waste "))) eS) gc)) (gi fN eW)=B4 at *;generalize oT=A1 at *;generalize zd=A2 at *;simp[ht,hif,hw,h4,Av,i0,i1,ln,lf,e1,hr1,lp1,e2,id_,md,hr2,lp2,PH,UV,h6]
def KZ (kvs:List (Str×D))(n:Str)(R:D):atT (gK kvs n R) n=Ga R:=by
 unfold gK;split
 .rename_i h;unfold T3.atT;induction kvs with
  | nil=>simp at h
  | cons x r ih =>
   rw[jO];by_cases c:x.1=n
   .rw[Ge c,uj (a:=(x.1,R)) (p:=λ(p:Str×D)=>decide (p.1=n)) (Gc c)];rfl
   .rw[Gf c,uD (p:=λ(p:Str×D)=>decide (p.1=n)) (by simpa using c)];refine ih ?_;rw[vT,Gd c,JQ] at h;exact h
 .rename_i h;unfold T3.atT;rw[List.find?_append];have:kvs.find? (λp=>decide (p.1=n))=Gb:=by
   rw[v4];intro x hx z;exact h (u8.mpr ⟨x,hx,z⟩)
  rw[this,Option.none_or,uj (p:=λ(p:Str×D)=>decide (p.1=n)) (Gc rfl)];rfl
def Si{kvs':List (Str×D)}{fm:Sl->List D->Option (D×List (Str×D))}(e:ψ[i]?=Ga (.dsk C p r kvs))(o:tj i ψ)(h:ga ψ=Ga ds)(q:fm (.dsk C p r kvs) ds=Ga (d,kvs')):lh r i C fm ga ψ=Ga (d,ψ.set i (.dsk C p r kvs')):=by
 unfold lh;rw[e];refine(Ge ⟨rfl,rfl,o⟩).trans ?_;rw[h,jh,q];rfl
def Kt (s:Sl)(a b c d:D):tj 0 [s,.val a,.val b,.val c,.val d,.no,.no,.no,.no,.no]:=λj C p r l h=>by
 match j,h with
 | 0,_=>rfl
 | 1,h=>cases h
 | 2,h=>cases h
 | 3,h=>cases h
 | 4,h=>cases h
 | 5,h=>cases h
 | 6,h=>cases h
 | 7,h=>cases h
 | 8,h=>cases h
 | 9,h=>cases h
 | j+10,h=>simp at h
structure At (C p r:Gk)(kvs:List (Str×D))(x:Str)(n:Nat)(vs:List Int)(fs:List Fl):Prop where
 nm:NM x
 G:RG n vs fs
 g:lR n fs
 at_:atT kvs x=Ga (RD vs fs)
def At.g' (A:At C p r kvs x n vs fs):lR (vD vs).length fs:=by rw[oB,A.G.len];exact A.g
def At.wst (A:At C p r kvs x n vs fs):wH [RD vs fs]=Ga (.int (wst (ii n fs))):=by
 have:=UK (vD vs) fs A.g';rw[oB,A.G.len] at this;exact this
def At.wb (A:At C p r kvs x n vs fs):0<=Law.wst (ii n fs)/\Law.wst (ii n fs)<=5:=zGO _ (ZC n fs A.G.fg.len)
def wo (z:Int)(h:-100<=z/\z<=100):Bd z:=by
 have:(100:Int)<10^60:=by decide
 unfold Bd;omega
def At.show (A:At C p r kvs x n vs fs):iu C (.dsk C p r kvs) [.str (gr (W_ "show "++sg x))]=Ga (.str (iA vs (fs.map f3))) :=
 GI C p r kvs _ _ _ _ "show" x (YD A.nm) (by kernel_rfl) (by kernel_rfl) (wL (KZ [] kN _)) A.at_ (zAf _ _ _ (Rv A.G).1)
def At.waste (A:At C p r kvs x n vs fs):iu C (.dsk C p r kvs) [.str (gr (W_ "waste "++sg x))]=Ga (.str (nt (Law.wst (ii n fs)))):=by
 have b:=wo (Law.wst (ii n fs)) (by have:=A.wb;omega);exact GI C p r kvs _ _ _ _ "waste" x (zxG A.nm) (by kernel_rfl) (by kernel_rfl) (wL (KZ [] kN _)) A.at_ (zxI _ _ _ _ A.wst (yV _ b.1 b.2))
def At.close (A:At C p r kvs x n vs fs)(k:Nat)(h1:k+2<=n)(h2:fs.length<=k):iu C (.dsk C p r kvs) [.str (gr (W_ "close "++sg x++W_ " "++sg (gH k)))]=Ga (.str (nt ((k:Int)+1-Law.wst (ii n fs)))):=by
 have n5:=A.G.n5;have b:=wo ((k:Int)+1-Law.wst (ii n fs)) (by have:=A.wb;omega);have hc:=zuB (vD vs) fs A.g' k (by rwa[oB,A.G.len]) h2;rw[oB,A.G.len] at hc;exact GI C p r kvs _ _ _ _ "close" x (Zv A.nm k (by omega)) (by kernel_rfl) (by kernel_rfl) (wL (by kernel_rfl)) A.at_ (zxJ _ _ _ _ _ (wL (by kernel_rfl)) hc (yV _ b.1 b.2))
def At.know (A:At C p r kvs x n vs fs)(k q:Nat)(hk:k<5)(hq:q<5):iu C (.dsk C p r kvs) [.str (gr (W_ "know "++sg x++W_ " "++sg (gH k)++W_ " "++sg (gH q)))]=Ga (.str (yM vs fs q k)) :=
 GI C p r kvs _ _ _ _ "know" x (zAe A.nm k q hk hq) (by kernel_rfl) (by kernel_rfl) (wL (by kernel_rfl)) A.at_ (zAg _ _ _ _ _ (wL (by kernel_rfl)) (wL (by kernel_rfl)) (zC1 A.G.len A.g A.G.nm k q (by omega)))
def RG.good(G:RG n vs fs):lR n fs:=by
 have q:∀ f∈fs,f.h<n/\1<=f.a/\f.m<32:=λf hf=>by
  have h:=G.fg.ok f hf;unfold pF at h;simp only[jl,decide_eq_true_eq] at h;have:=CW G.n5;omega
 exact⟨G.n2,G.n5,λf hf=>(q f hf).1,λf hf=>(q f hf).2.2,Rq G.fg,λf hf=>(q f hf).2.1⟩
abbrev Dd:FV:=fv fy (fv fy (fv fy (fx (.str (ja "close "))) eS) (fx (.str (ja " ")))) (gi fN eX)
def zGR (C p r:Gk)(kvs:List (Str×D))(N R c T S:D)(b w b1 z:Int)(x6:Sl)(hm:gE 0 C (iu C) (fE Dd gc) [.dsk C p r kvs,.val N,.val R,.val c,.val T,.val (.int w),.val (.int b),.no,.no,.no]=Ga S)(e1:b+1=b1)(e2:b1-w=z)(hs:fN (.int z)=Ga S)(ne:gN S S=Ga (.bool false)) :
  (iE 6 (.int b) [.dsk C p r kvs,.val N,.val R,.val c,.val T,.val (.int w),x6,.no,.no,.no]).bind (Dq C)=Ga (.nx [.dsk C p r kvs,.val N,.val R,.val c,.val T,.val (.int w),.val (.int b),.no,.no,.no]):=by
 unfold Dq;unfold Dd at hm;generalize gE 0 C (iu C) (fE (fv fy (fv fy (fv fy (fx (.str (ja "close "))) eS) (fx (.str (ja " ")))) (gi fN eX)) gc)=MV at *;generalize fN=ds at *;simp[hm,e1,e2,hs,ne,Av]
def Zo (s0:Sl)(N R c T w b a1 a2 a3 s:D)(p1:fy (.str (ja "close ")) N=Ga a1)(p2:fy a1 (.str (ja " "))=Ga a2)(hs:fN b=Ga s)(p3:fy a2 s=Ga a3):fE Dd gc [s0,.val N,.val R,.val c,.val T,.val w,.val b,.no,.no,.no]=Ga [a3]:=by
 unfold Dd;generalize fN=ds at *;simp[p1,p2,hs,p3]
abbrev Dc:FV:=fv fy (fv fy (fv fy (fv fy (fv fy (fx (.str (ja "know "))) eS) (fx (.str (ja " ")))) (gi fN fj)) (fx (.str (ja " ")))) (gi fN eZ)
def zC3 (s0 x6 x9:Sl)(N R c T w k q a1 a2 a3 a4 a5 s s2:D)(p1:fy (.str (ja "know ")) N=Ga a1)(p2:fy a1 (.str (ja " "))=Ga a2)(hs:fN k=Ga s)(p3:fy a2 s=Ga a3)(p4:fy a3 (.str (ja " "))=Ga a4)(hs2:fN q=Ga s2)(p5:fy a4 s2=Ga a5):Dc [s0,.val N,.val R,.val c,.val T,.val w,x6,.val q,.val k,x9]=Ga a5:=by
 unfold Dc;generalize fN=ds at *;simp[p1,p2,hs,p3,p4,hs2,p5]
def zGS (C p r:Gk)(kvs:List (Str×D))(N R c T w q k X S:D)(x6 x8 x9:Sl)(hx:Dc [.dsk C p r kvs,.val N,.val R,.val c,.val T,.val w,x6,.val q,.val k,x9]=Ga X)(hm:iu C (.dsk C p r kvs) [X]=Ga S)(hk:sR [R,k,q]=Ga S)(ne:gN S S=Ga (.bool false))(f6:nG x6=x6) :
  (iE 8 k [.dsk C p r kvs,.val N,.val R,.val c,.val T,.val w,x6,.val q,x8,x9]).bind (ES C)=Ga (.nx [.dsk C p r kvs,.val N,.val R,.val c,.val T,.val w,x6,.val q,.val k,.val X]):=by
 unfold ES;unfold Dc at hx;have hm':gE 0 C (iu C) dL [.dsk C p r kvs,.val N,.val R,.val c,.val T,.val w,x6,.val q,.val k,.val X]=Ga S:=BN rfl (by simp[]) hm;generalize gE 0 C (iu C) dL=MV at *;generalize fv fy (fv fy (fv fy (fv fy (fv fy (fx (.str (ja "know "))) eS) (fx (.str (ja " ")))) (gi fN fj)) (fx (.str (ja " ")))) (gi fN eZ)=RK at *;generalize sR=A at *;simp[hx,hm',hk,ne,Av,f6]
def WO (C p r:Gk)(kvs kvs':List (Str×D))(N R c T X X2:D)(h1:xF C (.dsk C p r kvs) [X]=Ga (.str (S_ "ok"),kvs'))(hx:fv fy (fv fy (fv fy (fx (.str (ja "run "))) eS) (fx (.str (ja " ")))) eV [.dsk C p r kvs,.val N,.val R,.val c,.val T,.no,.no,.no,.no,.no]=Ga X)
  (h2:iu C (.dsk C p r kvs') [X2]=Ga T) (hx2:fy (.str (ja "show ")) N=Ga X2) (ne:gN T T=Ga (.bool false)) :
  El C r [.dsk C p r kvs,.val N,.val R,.val c,.val T,.no,.no,.no,.no,.no]=Ga (.nx [.dsk C p r kvs',.val N,.val R,.val c,.val T,.no,.no,.no,.no,.no]):=by
 have m1:lh r 0 C (xF C) (fE (fv fy (fv fy (fv fy (fx (.str (ja "run "))) eS) (fx (.str (ja " ")))) eV) gc) [.dsk C p r kvs,.val N,.val R,.val c,.val T,.no,.no,.no,.no,.no]=Ga (.str (S_ "ok"),[.dsk C p r kvs',.val N,.val R,.val c,.val T,.no,.no,.no,.no,.no]) :=
  (Si (ds:=[X]) rfl (Kt _ _ _ _ _) (by
   generalize fv fy (fv fy (fv fy (fx (.str (ja "run "))) eS) (fx (.str (ja " ")))) eV=B at *;simp[hx]) h1).trans rfl
 have m2:gE 0 C (iu C) (fE (fv fy (fx (.str (ja "show "))) eS) gc) [.dsk C p r kvs',.val N,.val R,.val c,.val T,.no,.no,.no,.no,.no]=Ga T:=BN rfl (by simp[hx2]) h2;have c2:gz gN (gE 0 C (iu C) (fE (fv fy (fx (.str (ja "show "))) eS) gc)) eV [.dsk C p r kvs',.val N,.val R,.val c,.val T,.no,.no,.no,.no,.no]=Ga false:=by
  generalize gE 0 C (iu C) (fE (fv fy (fx (.str (ja "show "))) eS) gc)=MV at *;simp[m2,ne]
 have ok:gN (.str (S_ "ok")) (.str (S_ "ok"))=Ga (.bool false):=by kernel_rfl
 unfold El rz Bi Bx;rw[m1];simp only[jh];rw[show fx (jp (ja "ok")) [.dsk C p r kvs',.val N,.val R,.val c,.val T,.no,.no,.no,.no,.no]=Ga (.str (S_ "ok")) from rfl,jh,ok,jh,show hJ (jS false)=Ga false from rfl,jh,jh,Gf jH,c2,jh,jh,Gf jH];rfl
def yD (l:List Nat)(b:Str)(h:l.length+b.length<=10000):fy (.str (gr l)) (.str b)=Ga (.str (gr (l++sg b))):=by
 show(if _ then _ else _)=_;rw[Ge (by rw[ib,lg];exact jI h (by decide))]
 congr 2
 refine sQ ?_;show(_++_:Array Nat).toList=_;rw[k8];rfl
def yk (s:String)(b:Str)(h:(W_ s).length+b.length<=10000):fy (.str (ja s)) (.str b)=Ga (.str (gr (W_ s++sg b))):=by
 have:=yD (W_ s) b h;rw[mM] at this;exact this
def Su:(W_ "run ").length=4/\(W_ "show ").length=5/\(W_ "waste ").length=6/\(W_ "close ").length=6/\(W_ "know ").length=5/\(S_ " ").length=1:=by nofun
def d4 (n:Nat)(h2:2<=n)(h5:n<=5):∃ d:Nat,3<=d/\d<=5/\gb (.list [.int 5,.int 5,.int 4,.int 3]) (.int ((n:Int)-2))=Ga (.int (d:Int)):=by
 have:n=2\/n=3\/n=4\/n=5:=by omega
 rcases this with rfl|rfl|rfl|rfl
 .exact⟨5,by decide,by decide,rfl⟩
 .exact⟨5,by decide,by decide,rfl⟩
 .exact⟨4,by decide,by decide,rfl⟩
 .exact⟨3,by decide,by decide,rfl⟩
def zAm (C p r:Gk)(kvs:List (Str×D))(x:Str)(n:Nat)(vs:List Int)(fs:List Fl)(c:Int)(G:RG n vs fs)(hx:NM x)(hl:kvs.length<1000):rB C (.dsk C p r kvs) [.str x,RD vs fs,.int c]=Ga (.bool true,gK kvs x (RD vs fs)):=by
 have A:At C p r (gK kvs x (RD vs fs)) x n vs fs:=⟨hx,G,G.good,KZ _ _ _⟩;have n2:=G.n2;have n5:=G.n5;have f5:=G.fg.len;have l8:=hx.l8;obtain⟨w1,w2,w3,w4,w5,w6⟩:=Su;have okf:=Bf G;have nv:vs.length<=5:=by rwa[G.len]
 have nf:(fs.map f3).length<=5:=by rwa[jc]
 have tl:=UH vs (fs.map f3) G.nm nv nf;have tok:=Nf vs (fs.map f3) okf;have ht:oT [RD vs fs]=Ga (.str (iA vs (fs.map f3))):=by rw[ND G];exact QW vs _ G.nm nv nf okf
 have hsp:∀ l:List Nat,l.length<=9000->fy (.str (gr l)) (.str (ja " "))=Ga (.str (gr (l++W_ " "))):=λl h=>yD l (S_ " ") (by rw[w6];omega);have b1:=yk "run " x (by rw[w1];omega);have b2:=hsp (W_ "run "++sg x) (by rw[je,w1,<- ib];omega);have b3:=yD (W_ "run "++sg x++W_ " ") (iA vs (fs.map f3)) (by rw[je,je,w1,<- ib,<- ib,w6];omega);have hif:El C r [.dsk C p r kvs,.val (.str x),.val (RD vs fs),.val (.int c),.val (.str (iA vs (fs.map f3))),.no,.no,.no,.no,.no]=Ga (.nx [.dsk C p r (gK kvs x (RD vs fs)),.val (.str x),.val (RD vs fs),.val (.int c),.val (.str (iA vs (fs.map f3))),.no,.no,.no,.no,.no]):=by
  refine WO C p r kvs _ _ _ _ _ (.str (gr (W_ "run "++sg x++W_ " "++sg (iA vs (fs.map f3))))) _ (ZB C p r kvs _ _ _ (.str (iA vs (fs.map f3))) x (zCR hx _ tl) (wL (by kernel_rfl)) (wL (by kernel_rfl)) (Rv G).2 hl) ?_ A.show (yk "show " x (by rw[w2];omega)) (Eh _ tok);generalize jp (gr (W_ "run "++sg x))=B1 at *;generalize jp (gr (W_ "run "++sg x++W_ " "))=B2 at *;generalize jp (gr (W_ "run "++sg x++W_ " "++sg (iA vs (fs.map f3))))=B3 at *;simp[b1,b2,b3]
 have hw:zd [RD vs fs]=Ga (.int (wst (ii n fs))):=by
  have:=zGK (vD vs) fs A.g' f5;rw[oB,G.len] at this;exact this
 have wb:=A.wb;have sb:=wo (wst (ii n fs)) (by omega);have h4:∀ T:D,gz gN (gE 0 C (iu C) (fE (fv fy (fx (.str (ja "waste "))) eS) gc)) (gi fN eW) [.dsk C p r (gK kvs x (RD vs fs)),.val (.str x),.val (RD vs fs),.val (.int c),.val T,.val (.int (wst (ii n fs))),.no,.no,.no,.no]=Ga false:=λT=>by
  have s:=yV _ sb.1 sb.2;have ne:=Eh (nt (wst (ii n fs))) (wI _);have a:=yk "waste " x (by rw[w3];omega);have m:=BN (i:=0) (C:=C) (p:=p) (r:=r) (kvs:=gK kvs x (RD vs fs)) (fm:=iu C) (ga:=fE (fv fy (fx (.str (ja "waste "))) eS) gc) (ψ:=[.dsk C p r (gK kvs x (RD vs fs)),.val (.str x),.val (RD vs fs),.val (.int c),.val T,.val (.int (wst (ii n fs))),.no,.no,.no,.no]) rfl (by
   generalize jp (gr (W_ "waste "++sg x))=B at *;simp[a]) A.waste
  generalize gE 0 C (iu C) (fE (fv fy (fx (.str (ja "waste "))) eS) gc)=MV at *;generalize jp (nt (wst (ii n fs)))=S at *;generalize fN=ds at *;simp[m,s,ne]
 obtain⟨d,hd3,hd5,hd⟩:=d4 n n2 n5;obtain⟨q,hq⟩:=kA (kP c (show(d:Int)≠0 by omega));have hq5:q<5:=by have:=kg c (show(0:Int)<(d:Int) by omega);omega
 have md:fW (.int c) (.int (d:Int))=Ga (.int (q:Int)):=by
  show(if _ then _ else _)=_;rw[Ge (Gc (show(0:Int)<(d:Int) by omega))];exact congrArg (λz=>Ga (jd z)) hq
 have g1:pz (λψ=>∃ x6,nG x6=x6/\ψ=[.dsk C p r (gK kvs x (RD vs fs)),.val (.str x),.val (RD vs fs),.val (.int c),.val (.str (iA vs (fs.map f3))),.val (.int (wst (ii n fs))),x6,.no,.no,.no]) (gk (iE 6) (Dq C) (ip (fs.length:Int) (((n:Int)-1)-(fs.length:Int)).toNat) [.dsk C p r (gK kvs x (RD vs fs)),.val (.str x),.val (RD vs fs),.val (.int c),.val (.str (iA vs (fs.map f3))),.val (.int (wst (ii n fs))),.no,.no,.no,.no]):=by
  refine MG _ ⟨.no,rfl,rfl⟩ ?_;rintro e he _ ⟨x6,f6,rfl⟩;unfold ip at he;obtain⟨k,hk,rfl⟩:=jr.mp he;rw[jF] at hk;rw[show(fs.length:Int)+(k:Int)=((fs.length+k:Nat):Int) by omega];obtain⟨b,hb⟩:∃ b,fs.length+k=b:=⟨_,rfl⟩;have h1:b+2<=n:=by omega
  have h2:fs.length<=b:=by omega
  rw[hb];clear hb hk he;have bz:=wo ((b:Int)+1-wst (ii n fs)) (by omega);have a1:=yk "close " x (by rw[w4];omega);have a2:=hsp (W_ "close "++sg x) (by rw[je,w4,<- ib];omega);have a3:=yD (W_ "close "++sg x++W_ " ") (gH b) (by rw[je,je,w4,<- ib,<- ib,w6];show 6+x.length+1+1<=10000;omega);exact⟨_,zGR C p r _ _ _ _ _ _ _ _ _ _ x6 (BN rfl (Zo _ _ _ _ _ _ _ _ _ _ _ a1 a2 (zc b (by omega)) a3) (A.close b h1 h2)) rfl rfl (yV _ bz.1 bz.2) (Eh _ (wI _)),_,rfl,rfl⟩
 obtain⟨_,lp1,x6,f6,rfl⟩:=g1;have g2:pz (λψ=>∃ x8 x9,ψ=[.dsk C p r (gK kvs x (RD vs fs)),.val (.str x),.val (RD vs fs),.val (.int c),.val (.str (iA vs (fs.map f3))),.val (.int (wst (ii n fs))),x6,.val (.int (q:Int)),x8,x9]) (gk (iE 8) (ES C) (ip 0 5) [.dsk C p r (gK kvs x (RD vs fs)),.val (.str x),.val (RD vs fs),.val (.int c),.val (.str (iA vs (fs.map f3))),.val (.int (wst (ii n fs))),x6,.val (.int (q:Int)),.no,.no]):=by
  refine MG _ ⟨.no,.no,rfl⟩ ?_;rintro e he _ ⟨x8,x9,rfl⟩;unfold ip at he;obtain⟨k,hk,rfl⟩:=jr.mp he;rw[jF] at hk;rw[show(0:Int)+(k:Int)=(k:Int) by omega];have a1:=yk "know " x (by rw[w5];omega);have a2:=hsp (W_ "know "++sg x) (by rw[je,w5,<- ib];omega);have a3:=yD (W_ "know "++sg x++W_ " ") (gH k) (by rw[je,je,w5,<- ib,<- ib,w6];show 5+x.length+1+1<=10000;omega);have a4:=hsp (W_ "know "++sg x++W_ " "++sg (gH k)) (by rw[je,je,je,w5,<- ib,<- ib,w6];show 5+x.length+1+1<=9000;omega);have a5:=yD (W_ "know "++sg x++W_ " "++sg (gH k)++W_ " ") (gH q) (by rw[je,je,je,je,w5,<- ib,<- ib,w6];show 5+x.length+1+1+1+1<=10000;omega);exact⟨_,zGS C p r _ _ _ _ _ _ _ _ _ _ x6 x8 x9 (zC3 _ _ _ _ _ _ _ _ _ _ _ _ _ _ _ _ _ a1 a2 (zc k (by omega)) a3 a4 (zc q (by omega)) a5) (A.know k q hk hq5) (zxO G.len G.good G.nm k q (by omega)) (Eh _ (zGQ vs fs q k nv)) f6,_,_,rfl⟩
 obtain⟨_,lp2,x8,x9,rfl⟩:=g2;refine zAl C p r kvs _ _ _ _ _ (.tuple (vD vs)) (.tuple (fs.map fd)) _ c (n:Int) (fs.length:Int) ((n:Int)-1) ((n:Int)-2) (d:Int) _ _ x6 x8 x9 ht hif hw (h4 _) (oA _ 0 _ rfl) (oA _ 1 _ rfl) ?_ ?_ rfl ?_ lp1 rfl hd md rfl lp2
 .rw[Gr,oB,G.len]
 .rw[Gr,jc]
 .unfold mU;dsimp only;rw[Ge ⟨by omega,by omega,by omega,by omega⟩]
def YT{k:Gk->FS}(h1:∀ s∈ψ,zQ s)(h2:∀ p r,k r (ψ.set i (.dsk C p r []))=Ga (.rt d)):tf i C k ψ=Ga (.rt d):=by
 unfold tf;have h:∃ d,(∀ s∈ψ,zQ s)/\∀ p r,k r (ψ.set i (.dsk C p r []))=Ga (.rt d):=⟨d,h1,h2⟩;rw[dif_pos h];have:=h.choose_spec.2 0 0;rw[h2 0 0] at this;cases this;rfl
abbrev DJ (C r:Gk):FS:=fK (gR 6 (fT mz aT)) (fK ao (fK (rz (sD (lh r 1 C (rB C) aE)) db gA) (om 3 eZ eW)))
abbrev Dj (C:Gk):FS:=gP (gz gN (gE 1 C (iu C) (fE (fv fy (fx (.str (ja "show "))) eZ) gc)) (fT oT bY)) db (gA)
abbrev xO (C r:Gk):FS:=fK (gR 2 (fT xX (fE (fv fW (fT mz bU) (fv lj dQ eD)) gc))) (fK (yx 3) (fK (sd (nJ Ar (fT xY aY)) bK (fK (gR 6 (fT mz aT)) (fK ao (fK (rz (sD (lh r 1 C (rB C) aE)) db gA) (om 3 eZ eW))))) (fK (xm 3 (iE 7) (gP (gz gN (gE 1 C (iu C) (fE (fv fy (fx (.str (ja "show "))) eZ) gc)) (fT oT bY)) db gA)) (im dA))))
def YU (C p r:Gk)(S Nm S40 Rs:D)(c5 ten c:Int)(L:List D)(kvs:List (Str×D))(x4 x5 x6 x7 y4 y5 y6 y7:Sl)(h5:mz [S,.int 5]=Ga (.int c5))(pw:lj (.int 10) (.int 6)=Ga (.int ten))(md:fW (.int c5) (.int ten)=Ga (.int c))(hn:xX [.int c]=Ga Nm)(sl:og S Gb (Ga 40)=Ga S40)(hr:xY [S40]=Ga Rs)(en:Ar Rs=Ga L)
  (lp1:gk bK (DJ C r) L [.val S,.dsk C p r [],.val Nm,.dks [],.no,.no,.no,.no]=Ga (.nx [.val S,.dsk C p r kvs,.val Nm,.dks kvs,x4,x5,x6,x7]))
  (lp2:xm 3 (iE 7) (Dj C) [.val S,.dsk C p r kvs,.val Nm,.dks kvs,x4,x5,x6,x7]=Ga (.nx [.val S,.dsk C p r kvs,.val Nm,.val (lP kvs),y4,y5,y6,y7])) :
  xO C r [.val S,.dsk C p r [],.no,.no,.no,.no,.no,.no]=Ga (.rt (.bool true)):=by
 have n3:yx 3 [.val S,.dsk C p r [],.val Nm,.no,.no,.no,.no,.no]=Ga (.nx [.val S,.dsk C p r [],.val Nm,.dks [],.no,.no,.no,.no]):=rfl;unfold xO;unfold DJ at lp1;unfold Dj at lp2;generalize fK (gR 6 (fT mz aT)) (fK ao (fK (rz (sD (lh r 1 C (rB C) aE)) db gA) (om 3 eZ eW)))=B1 at *;generalize xm 3 (iE 7) (gP (gz gN (gE 1 C (iu C) (fE (fv fy (fx (.str (ja "show "))) eZ) gc)) (fT oT bY)) db gA)=B2 at *;generalize mz=A1 at *;generalize xX=A2 at *;generalize xY=A3 at *;generalize lj=dp at *;generalize lP kvs=DD at *;simp[h5,pw,md,hn,n3,sl,hr,en,lp1,lp2]
def OT (s:Sl)(a b c d e f:D)(kvs:List (Str×D)):tj 1 [.val a,s,.val b,.dks kvs,.val c,.val d,.val e,.val f]:=λj C p r l h=>by
 match j,h with
 | 0,h=>cases h
 | 1,_=>rfl
 | 2,h=>cases h
 | 3,h=>cases h
 | 4,h=>cases h
 | 5,h=>cases h
 | 6,h=>cases h
 | 7,h=>cases h
 | j+8,h=>simp at h
abbrev Lf (C r:Gk):FS:=rz (sD (lh r 1 C (rB C) aE)) db (gA)
def zFI (C p r:Gk)(kvs kvs':List (Str×D))(S Nm k R cell N:D)(c c9:Int)(hc:cell=.int c)(d9:gy (.int c) (.int 9)=Ga (.int c9))(h:rB C (.dsk C p r kvs) [N,R,.int c9]=Ga (.bool true,kvs'))(ks:List (Str×D)):Lf C r [.val S,.dsk C p r kvs,.val Nm,.dks ks,.val k,.val R,.val cell,.val N]=Ga (.nx [.val S,.dsk C p r kvs',.val Nm,.dks ks,.val k,.val R,.val cell,.val N]):=by
 subst hc;have m1:lh r 1 C (rB C) aE [.val S,.dsk C p r kvs,.val Nm,.dks ks,.val k,.val R,.val (.int c),.val N]=Ga (.bool true,[.val S,.dsk C p r kvs',.val Nm,.dks ks,.val k,.val R,.val (.int c),.val N]) :=
  (Si (ds:=[N,R,.int c9]) rfl (OT _ _ _ _ _ _ _ _) (by simp[d9]) h).trans rfl
 unfold Lf rz sD;rw[m1];rfl
def Wt{a0 a1 a2 a4 a5 a6 a7:Sl}{n:Str}(hg:g [a0,a1,a2,.dks kvs,a4,a5,a6,a7]=Ga v)(hf:f [a0,a1,a2,.dks kvs,a4,a5,a6,a7]=Ga (.str n))(hl:kvs.length<1000):om 3 f g [a0,a1,a2,.dks kvs,a4,a5,a6,a7]=Ga (.nx [a0,a1,a2,.dks (gK kvs n v),a4,a5,a6,a7]):=by
 unfold om;rw[hg,jh,hf,jh];show(if _ then _ else _)=_;rw[Ge hl];rfl
def zGT (C p r:Gk)(kvs:List (Str×D))(S Nm R:D)(n:Str)(k k6 c c3 j c9:Int)(x4 x5 x6 x7:Sl)(e6:6+k=k6)(hc:mz [S,.int k6]=Ga (.int c))(d3:gy (.int c) (.int 3)=Ga (.int c3))(m3:fW (.int c3) (.int 3)=Ga (.int j))(ix:gb Nm (.int j)=Ga (.str n))(d9:gy (.int c) (.int 9)=Ga (.int c9))(h:rB C (.dsk C p r kvs) [.str n,R,.int c9]=Ga (.bool true,gK kvs n R))(hl:kvs.length<1000) :
  (rN cj (.tuple [.int k,R]) [.val S,.dsk C p r kvs,.val Nm,.dks kvs,x4,x5,x6,x7]).bind (DJ C r)=Ga (.nx [.val S,.dsk C p r (gK kvs n R),.val Nm,.dks (gK kvs n R),.val (.int k),.val R,.val (.int c),.val (.str n)]):=by
 have h1:=zFI C p r kvs _ S Nm (.int k) R (.int c) (.str n) c c9 rfl d9 h kvs;have h2:=Wt (f:=gv 7) (g:=gv 5) (a0:=.val S) (a1:=.dsk C p r (gK kvs n R)) (a2:=.val Nm) (a4:=.val (.int k)) (a5:=.val R) (a6:=.val (.int c)) (a7:=.val (.str n)) (kvs:=kvs) (n:=n) (v:=R) rfl rfl hl;unfold Lf at h1;unfold DJ;generalize rz (sD (lh r 1 C (rB C) aE)) db (gA)=B1 at *;generalize om 3 eZ eW=B2 at *;generalize mz=A1 at *;simp[e6,hc,d3,m3,ix,h1,h2]
def zGU (C p r:Gk)(kvs:List (Str×D))(S Nm R T X:D)(n:Str)(x4 x5 x6 x7:Sl)(hx:fy (.str (ja "show ")) (.str n)=Ga X)(hs:iu C (.dsk C p r kvs) [X]=Ga T)(ix:iQ (lP kvs) (.str n)=Ga R)(ht:oT [R]=Ga T)(ne:gN T T=Ga (.bool false))(f4:nG x4=x4)(f5:nG x5=x5)(f6:nG x6=x6) :
  (iE 7 (.str n) [.val S,.dsk C p r kvs,.val Nm,.val (lP kvs),x4,x5,x6,x7]).bind (Dj C)=Ga (.nx [.val S,.dsk C p r kvs,.val Nm,.val (lP kvs),x4,x5,x6,.val (.str n)]):=by
 generalize lP kvs=DD at *;have hm:gE 1 C (iu C) (fE (fv fy (fx (.str (ja "show "))) eZ) gc) [.val S,.dsk C p r kvs,.val Nm,.val DD,x4,x5,x6,.val (.str n)]=Ga T:=BN rfl (by simp[hx]) hs;unfold Dj;generalize gE 1 C (iu C) (fE (fv fy (fx (.str (ja "show "))) eZ) gc)=MV at *;generalize oT=A1 at *;simp[hm,ix,ht,ne,Av,f4,f5,f6]
def Uw:∀ l:List D,(∀ d∈l,∃ i:Int,d=.int i)->∃ ms:List Int,l=ms.map jd
 | [],_=>⟨[],rfl⟩
 | d::l,h=>by
  obtain⟨i,rfl⟩:=h d jf;obtain⟨ms,e⟩:=Uw l λd hd=>h d (jk _ hd);exact⟨i::ms,by rw[e];rfl⟩
def zFJ(G:RG n vs fs):oT [RD vs fs]=Ga (.str (iA vs (fs.map f3))):=by
 rw[ND G];exact QW vs _ G.nm (by rw[G.len];exact G.n5) (by rw[jc];exact G.fg.len) (Bf G)
def Gy (n:Nat)(vs:List Int)(kvs:List (Str×D)):Prop:=∀ e∈kvs,NM e.1/\∃ fs,RG n vs fs/\e.2=RD vs fs
def Gy.put(h:Gy n vs kvs)(hx:NM x)(G:RG n vs fs):Gy n vs (gK kvs x (RD vs fs)):=λe he=>by
 unfold gK at he;split at he
 .obtain⟨e0,h0,rfl⟩:=jr.mp he;split
  .exact⟨(h e0 h0).1,fs,G,rfl⟩
  .exact h e0 h0
 .rcases jM.mp he with he|he
  .exact h e he
  .rw[jn.mp he];exact⟨hx,fs,G,rfl⟩
def WP{e:Str×D}(h:e∈kvs):∃ d,T3.atT kvs e.1=Ga d/\(e.1,d)∈kvs:=by
 unfold T3.atT;cases q:kvs.find? (λp=>decide (p.1=e.1)) with
 | none=>exact absurd (Gc rfl) (v4.mp q e h)
 | some y =>
  have h1:=Jz q;have h2:=vO q;rw[decide_eq_true_eq] at h1;refine⟨y.2,rfl,?_⟩;rwa[<- h1]
def VM:lj (.int 10) (.int 6)=Ga (.int 1000000):=by kernel_rfl
def at3 {l:List Str}{j:Nat}(h3:l.length=3)(hj:j<3)(hl:∀ x∈l,NM x):∃ x,NM x/\gb (.list (l.map jp)) (.int (j:Int))=Ga (.str x):=by
 have hj':j<l.length:=by omega
 refine⟨l[j],hl _ (k0 hj'),wg _ _ _ ?_⟩;rw[jz,jg hj'];rfl
def zAn (C p r:Gk)(ns:List Int)(hn:ns.length<=63):xO C r [.val (.list (ns.map jd)),.dsk C p r [],.no,.no,.no,.no,.no,.no]=Ga (.rt (.bool true)):=by
 obtain⟨c5,h5⟩:=GB ns 5;have cells:=GB ns;obtain⟨n0,n1,n2,m0,m1,m2,hnm⟩:=zAk (c5%1000000) (by omega);have hmem:∀ d∈T3.cutD (ns.map jd) Gb (Ga 40),∃ i:Int,d=.int i:=λd hd=>by
  obtain⟨i,_,rfl⟩:=jr.mp (SL hd);exact⟨i,rfl⟩
 have hlen:(T3.cutD (ns.map jd) Gb (Ga 40)).length<=63:=jI (UZ _ _ _) (by rwa[jc]);have hsl:og (.list (ns.map jd)) Gb (Ga 40)=Ga (.list (T3.cutD (ns.map jd) Gb (Ga 40))):=rfl;obtain⟨ms,ems⟩:=Uw _ hmem;rw[ems] at hlen hsl;rw[jc] at hlen;obtain⟨n,vs,fss,hG,h64,hr⟩:=zCx ms hlen;generalize uR (ns.map jd)=S at *;generalize hNm:uR [.str n0,.str n1,.str n2]=Nm at *;have nm3:∀ j:Nat,j<3->∃ x,NM x/\gb Nm (.int (j:Int))=Ga (.str x):=λj hj=>by
  rw[<- hNm];exact at3 (l:=[n0,n1,n2]) rfl hj (λx hx=>by
   rcases jo.mp hx with rfl|hx
   .exact m0
   rcases jo.mp hx with rfl|hx
   .exact m1
   .rwa[jn.mp hx])
 have L1:=Lo (t:=rN cj) (g:=DJ C r) (ψ:=[.val S,.dsk C p r [],.val Nm,.dks [],.no,.no,.no,.no]) (λ(i:Nat)=>uC [.int (i:Int),(fss.map (RD vs)).getD i .none])
  (λpre ψ=>∃ (kvs:List (Str×D)) (x4 x5 x6 x7:Sl),Gy n vs kvs/\kvs.length<=pre.length/\nG x4=x4/\nG x5=x5/\nG x6=x6/\ψ=[.val S,.dsk C p r kvs,.val Nm,.dks kvs,x4,x5,x6,x7]) (jq fss.length)
  ⟨[],.no,.no,.no,.no,⟨λe he=>absurd he j8,jw _,rfl,rfl,rfl,rfl⟩⟩ (by
   rintro pre i suf e ψ ⟨kvs,x4,x5,x6,x7,hk,hl,f4,f5,f6,rfl⟩;have hi:i<fss.length:=jF.mp (by rw[e];exact jD _ jf);have lp:pre.length<=64:=by
    have:=congrArg uF e;rw[jV,je] at this;omega
   have eR:(fss.map (RD vs)).getD i .none=RD vs fss[i]:=by
    rw[ji,jz,jg hi];rfl
   obtain⟨c,hc⟩:=cells (6+i);have Gi:=hG fss[i] (k0 hi);obtain⟨j,hj⟩:=kA (show 0<=c/3%3 by omega);obtain⟨x,hx,ix⟩:=nm3 j (by omega);have step:=zGT C p r kvs S Nm (RD vs fss[i]) x (i:Int) ((6+i:Nat):Int) c (c/3) (j:Int) (c/9) x4 x5 x6 x7 (by omega) hc rfl (by show Ga (jd _)=_;rw[hj]) ix rfl (zAm C p r kvs x n vs fss[i] (c/9) Gi hx (by omega)) (by omega);rw[eR];refine⟨_,step,gK kvs x (RD vs fss[i]),_,_,_,_,hk.put hx Gi,?_,rfl,rfl,rfl,rfl⟩;have:=GM kvs x (RD vs fss[i]);rw[je,jU];omega)
 obtain⟨_,lp1,kvs,x4,x5,x6,x7,hk,_,f4,f5,f6,rfl⟩:=L1;have L2:pz (λψ=>∃ y7,ψ=[.val S,.dsk C p r kvs,.val Nm,.val (lP kvs),x4,x5,x6,y7]) (gk (iE 7) (Dj C) (kvs.map λe=>jp e.1) [.val S,.dsk C p r kvs,.val Nm,.val (lP kvs),x4,x5,x6,x7]):=by
  refine MG _ ⟨x7,rfl⟩ ?_;rintro d hd _ ⟨y7,rfl⟩;obtain⟨e,he,rfl⟩:=jr.mp hd;obtain⟨R,at_,hm⟩:=WP he;obtain⟨hx,fs,G,eR⟩:=hk _ hm;have eR':R=RD vs fs:=eR;subst eR';have l8:=hx.l8;have A:At C p r kvs e.1 n vs fs:=⟨hx,G,G.good,at_⟩;exact⟨_,zGU C p r kvs S Nm _ _ _ e.1 x4 x5 x6 y7 (yk "show " e.1 (by rw[Su.2.1];have:e.1.length<=8:=l8;omega)) A.show (wL at_) (zFJ G) (Eh _ (Nf vs _ (Bf G))) f4 f5 f6,_,rfl⟩
 obtain⟨_,lp2,y7,rfl⟩:=L2;refine YU C p r S Nm _ _ c5 1000000 (c5%1000000) _ kvs x4 x5 x6 x7 x4 x5 x6 y7 h5 VM rfl hnm hsl hr ?_ lp1 lp2;show Ga _=_;rw[jc]
def zxT (C:Gk)(ns:List Int)(hn:ns.length<=63):zjX C [.list (ns.map jd)]=Ga (.bool true):=by
 rw[zy8];have k:=YT (i:=1) (C:=C) (k:=λr=>xO C r) (ψ:=[.val (.list (ns.map jd)),.no,.no,.no,.no,.no,.no,.no]) (d:=.bool true) (λs hs=>by
  rcases jo.mp hs with rfl|hs
  .trivial
  .rw[show([.no,.no,.no,.no,.no,.no,.no]:List Sl)=jB 7 .no from rfl] at hs;rw[vW hs];trivial) (λp r=>zAn C p r ns hn)
 show fY (tf 1 C (λr=>xO C r) _)=_;rw[k];rfl
end
end
noncomputable section
open PySem PySem.W PySem.Spec PyProof.Rows L2
def Xn (P:Params):(G4 P).lookup 562=Ga (P7 P):=by kernel_rfl
def zFM (P:Params):(G4 P).lookup 563=Ga (N6 P):=by kernel_rfl
def zFN (P:Params):(G4 P).lookup 564=Ga (N8 P):=by kernel_rfl
def zFO (P:Params):(G4 P).lookup 565=Ga (R4 P):=by kernel_rfl
def WT (P:Params):(G4 P).lookup 566=Ga (N9 P):=by kernel_rfl
def zFQ (P:Params):(G4 P).lookup 567=Ga (R0 P):=by kernel_rfl
def zFR (P:Params):(G4 P).lookup 568=Ga (R3 P):=by kernel_rfl
def zFS (P:Params):(G4 P).lookup 569=Ga (Q4 P):=by kernel_rfl
def zFT (P:Params):(G4 P).lookup 570=Ga (P0 P):=by kernel_rfl
def zFU (P:Params):(G4 P).lookup 571=Ga (N4 P):=by kernel_rfl
def zFV (P:Params):(G4 P).lookup 572=Ga (P5 P):=by kernel_rfl
def zFW (P:Params):(G4 P).lookup 743=Ga (N5 P):=by kernel_rfl
def zFX (P:Params):(G4 P).lookup 750=Ga (Q3 P):=by kernel_rfl
def zFY (P:Params):(G4 P).lookup 757=Ga (P8 P):=by kernel_rfl
def zGV (P:Params):T3.DkC (G4 P) 760:=⟨⟨by kernel_rfl,by kernel_rfl,by kernel_rfl,by kernel_rfl⟩,show findIn (G4 P) (.ref 760) "runs"=Ga Gb by kernel_rfl⟩
def zGW (P:Params):∀ a,findIn (G4 P) (.ref 760) "__init__"=Ga (Ga (.ref a))->L2.Mk (G4 P) 760 a:=λa h=>by
 have e:findIn (G4 P) (.ref 760) "__init__"=Ga (Ga (.ref 743)):=by kernel_rfl
 rw[e] at h;cases h;exact⟨by kernel_rfl,e,by kernel_rfl,by kernel_rfl⟩
def zGX (P:Params):nsIn (G4 P) mainGlobals "Desk"=Ga (Ga (.ref 760)):=by kernel_rfl
def zn2 (P:Params):∃ fd,T3.MthW (G4 P) 760 "__init__" "Desk.__init__" Hf (.ref 742) 743 fd:=⟨_,⟨⟨_,_,_,_,_,_,_,_,zFW P,rfl,by kernel_rfl⟩,by kernel_rfl,by kernel_rfl,by kernel_rfl⟩⟩
def zp1 (P:Params):∃ fd,T3.MthW (G4 P) 760 "say" "Desk.say" AI (.ref 749) 750 fd:=⟨_,⟨⟨_,_,_,_,_,_,_,_,zFX P,rfl,by kernel_rfl⟩,by kernel_rfl,by kernel_rfl,by kernel_rfl⟩⟩
def zlI (P:Params):∃ fd,T3.MthW (G4 P) 760 "run_by" "Desk.run_by" GT (.ref 756) 757 fd:=⟨_,⟨⟨_,_,_,_,_,_,_,_,zFY P,rfl,by kernel_rfl⟩,by kernel_rfl,by kernel_rfl,by kernel_rfl⟩⟩
variable {Q:Program}{h:Heap}{mg:Str->Option Gg}{w:World}
def zAo(X:(G4 w.params).In h)(G:h.Ns mainGlobals mg):T3.GDk Q w (G4 w.params) mg "FORMS" nu:=T3.zEK (a:=563) (mg_of X G (by kernel_rfl)) (by decide) (zFM w.params) (.cons (T3.zjL (xs:=[.str (ja "name"),.str (ja "text")]) (zFN w.params) (by decide) (.cons ⟨_,rfl⟩ (.cons ⟨_,rfl⟩ (.nil))) (λ_=>.cons (.str _) (.cons (.str _) (.nil)))) (.cons (T3.zjL (xs:=[.str (ja "name")]) (zFO w.params) (by decide) (.cons ⟨_,rfl⟩ (.nil)) (λ_=>.cons (.str _) (.nil))) (.cons (T3.zjL (xs:=[.str (ja "name")]) (WT w.params) (by decide) (.cons ⟨_,rfl⟩ (.nil)) (λ_=>.cons (.str _) (.nil))) (.cons (T3.zjL (xs:=[.str (ja "name"),.str (ja "bound")]) (zFQ w.params) (by decide) (.cons ⟨_,rfl⟩ (.cons ⟨_,rfl⟩ (.nil))) (λ_=>.cons (.str _) (.cons (.str _) (.nil)))) (.cons (T3.zjL (xs:=[.str (ja "name"),.str (ja "hand"),.str (ja "rounds")]) (zFR w.params) (by decide) (.cons ⟨_,rfl⟩ (.cons ⟨_,rfl⟩ (.cons ⟨_,rfl⟩ (.nil)))) (λ_=>.cons (.str _) (.cons (.str _) (.cons (.str _) (.nil))))) (.cons (T3.zjL (xs:=[.str (ja "name"),.str (ja "rule"),.str (ja "bound"),.str (ja "rounds")]) (zFS w.params) (by decide) (.cons ⟨_,rfl⟩ (.cons ⟨_,rfl⟩ (.cons ⟨_,rfl⟩ (.cons ⟨_,rfl⟩ (.nil))))) (λ_=>.cons (.str _) (.cons (.str _) (.cons (.str _) (.cons (.str _) (.nil)))))) (.cons (T3.zjL (xs:=[.str (ja "name"),.str (ja "other"),.str (ja "rounds")]) (zFT w.params) (by decide) (.cons ⟨_,rfl⟩ (.cons ⟨_,rfl⟩ (.cons ⟨_,rfl⟩ (.nil)))) (λ_=>.cons (.str _) (.cons (.str _) (.cons (.str _) (.nil))))) (.cons (T3.zjL (xs:=[.str (ja "name"),.str (ja "bound"),.str (ja "rounds"),.str (ja "number")]) (zFU w.params) (by decide) (.cons ⟨_,rfl⟩ (.cons ⟨_,rfl⟩ (.cons ⟨_,rfl⟩ (.cons ⟨_,rfl⟩ (.nil))))) (λ_=>.cons (.str _) (.cons (.str _) (.cons (.str _) (.cons (.str _) (.nil)))))) (.cons (T3.zjL (xs:=[.str (ja "name"),.str (ja "rule"),.str (ja "bound"),.str (ja "rounds")]) (zFV w.params) (by decide) (.cons ⟨_,rfl⟩ (.cons ⟨_,rfl⟩ (.cons ⟨_,rfl⟩ (.cons ⟨_,rfl⟩ (.nil))))) (λ_=>.cons (.str _) (.cons (.str _) (.cons (.str _) (.cons (.str _) (.nil)))))) (.nil)))))))))) (by nofun)
def zC5(X:(G4 w.params).In h)(G:h.Ns mainGlobals mg):T3.GDk Q w (G4 w.params) mg "MOST" Ht:=T3.zEK (a:=562) (mg_of X G (by kernel_rfl)) (by decide) (Xn w.params) (.cons (T3.geN_) (.cons (T3.geN_) (.cons (T3.geN_) (.nil)))) (by nofun)
end
end Law
end
open PySem PySem.W PyProof.Rows
set_option maxRecDepth 100000 in
set_option maxHeartbeats 0 in
theorem PySem.Challenge.cw_roundfall_k74_a_desk_holds : PySem.Challenge.rw_roundfall_k74_a_desk.Holds := by
 w_on
 refine PySem.W.holds_law Law.R5 λsaid=>?_;refine PySem.W.holds_open (q:=Law.G9) (loose:=Law.M3) (Xt:=Law.M7) (XP:=PySem.W.XL Law.G9 []) (Yf:=PySem.W.Hook.obs (qo Law.G4 Law.G3 Law.L0)) (Ya:=PySem.W.Hook.val (qo Law.G4 Law.G3 Law.L0)) (YP:=PySem.W.Hook.says (qo Law.G4 Law.G3 Law.L0)) (N:=3870+(215+1600)) Law.R6 (PySem.W.Hook.of (qo Law.G4 Law.G3 Law.L0)) (PySem.W.Hook.keeps (qo Law.G4 Law.G3 Law.L0)) (λs e=>PySem.W.xl_of s (JJ.mp e).1) PySem.W.XL.keeps (by rfl) (by rfl) (by rfl) (λs e=>PySem.W.recFacts_of (JJ.mp e).2) (by rfl) said (by nofun) ⟨rfl,rfl,rfl,rfl,rfl,by nofun⟩ ?hw ?hc
 case hw=>w_witness2
 k_fill
 refine L2.walk_ofK (l:=PySem.Challenge.rw_roundfall_k74_a_desk) (n:=63) (k:=11) (x:="script") (CX:=L2.CX0) (sp:=λK vs H Q E=>∀ mk,T3.spV K (Law.zjX mk) vs H Q E) rfl (by decide) rfl ⟨rfl,by decide,by decide⟩ (λw h Y=>PySem.W.kIn_of Y) ?F ?S ?C
 case F =>
  intro w mg fa h KX G hmg;refine'(λz=>(Law.zEM KX G hmg z:_)) (Law.zEL KX G (Law.zGV w.params) (Law.zGW w.params) (Law.zGX w.params) (Law.zAo KX G) (Law.zC5 KX G) ?w36 ?w60 ?w39 ?w52 ?w40 ?w32 ?w_q5 ?w49 ?w53 ?w25 ?w58 ?w13 ?w54 ?w63 ?w24 ?w61 ?w64 ?w11 ?w_q2 ?w51 ?w38 ?w26 ?w43 ?w27 ?w62 ?w31 ?w_q3 ?w29 ?w47 ?w_q1 ?w28 ?w44 ?w_q7 ?w8 ?w_q4 ?w20 ?w42 ?w56 ?w23 ?w12 ?w22 ?w37 ?w46 ?w30 ?w65 ?w59 (Law.zn2 w.params).choose_spec (Law.zlI w.params).choose_spec (Law.zp1 w.params).choose_spec ?w_q6 ?w21 ?w55 ?w14 ?w10 ?w33 ?w57 ?w50 ?w45 ?w16 ?w19 ?w41 ?w15 ?w34 ?w_q0 ?w18 ?w35 ?w66 ?z_all ?z_bool ?z_enumerate ?z_int ?z_isinstance ?z_len ?z_list ?z_max ?z_range ?z_reversed ?z_set ?z_sorted ?z_str ?z_tuple ?c_LAST_ROUND ?c_LEAST_HANDS ?c_MOST_FIGURES ?c_MOST_HANDS ?c_MOST_LETTERS ?c_FIGURES ?c_LETTERS)
  all_goals first|k_is|exact rfl|(refine'⟨_,_,_,_,_,_,_,_,?x1,?x2,?x3,?x4,?x5⟩;(case x1=>k_is);(case x2=>exact rfl);(case x3=>exact rfl);(case x4=>k_is);(case x5=>k_is))|skip
 case S=>exact λK H a ns hl hO hS mk=>T3.zDh hS (Law.zxT mk ns hl)
 case C=>exact λ_ _ _ _ z=>z
