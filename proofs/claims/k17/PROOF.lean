import PyProof.Rows.All
import Wide.All
import OpenK.AllK
import Wide.FinOn
import Lean
import PyProof.EqAt
import PyProof.EqKinds
import PyProof.TupleCall
import PyProof.SetRoads
import PyProof.CollectWalk
import PyProof.ZipIter
import PyProof.TupleIter
import PyProof.NeKinds
import PyProof.AttrMissHeap
import KE.KDictOf
import PySem.Challenge.RW_castwright_k17_first_clashes
set_option Elab.async false
set_option linter.all false
set_option maxRecDepth 100000
set_option maxHeartbeats 4000000
namespace L2
open PySem PySem.Spec PyProof.Rows
def Zfo (s:Stmt):Arguments:=match s with
 | .FunctionDef _ a _ _ _ _ _ _ _ _=>a
 | _=>{ posonlyargs:=[],args:=[],vararg:=none,kwonlyargs:=[],kw_defaults:=[],kwarg:=none,defaults:=[] }
def Zax (s:Stmt):List Stmt:=match s with
 | .FunctionDef _ _ b _ _ _ _ _ _ _=>b
 | _=>[]
def Zac (s:Stmt):Scope:=match s with
 | .FunctionDef _ _ _ _ _ _ sc _ _ _=>sc
 | _=>{ kind:=.function,names:=[],isGenerator:=false,isCoroutine:=false }
end L2
namespace K6
open PySem PySem.Spec PyProof.Rows L2
 def top (i:Nat):Stmt:=PySem.Challenge.pw_castwright_k17_first_clashes.main.body.getD i (.Pass ⟨0,0,0,0⟩)
abbrev pwS:Program:=PySem.Challenge.pw_castwright_k17_first_clashes
abbrev rwS:PySem.W.OpenLaw:=PySem.Challenge.rw_castwright_k17_first_clashes
def vwS:Program:=PySem.W.view pwS [1,2,4,5,6,7,8,9,10,11,12,13,14,15,16,17,18,19,20,21,22,23,25,26,27,28,29,30,31,32,33,35,36,37,38,39,40,41,42,43,44,45]
abbrev en (P:Params) (k:Str) (t:Tok) (v:Value):DictEntry:=⟨PyData.keyHash P k,.str k t,v⟩
abbrev co (n:Str) (a l g r f e:Nat) (x y:Value) (z t u:Nat):Obj:=.mk (.type "code") Option.none (.fields #[.str n a,.str n (a+1),.str "/claim/cut.py" (a+2),.int l 0,.int g 0,.int 0 0,.int 0 0,.int 3 0,.ref r,.bool Bool.true,.int f 0,.ref e,.none,x,y,.ref z,.int t 0,.int l 0,.str "/claim/cut.py" u]) #[]
abbrev fo (n:Str) (s:Stmt) (q:Str) (t c:Nat):Obj:=.mk (.type "function") Option.none (.func (PySem.W.fnOf n n (Zfo s) (Zax s) (Zac s) .none .none .none (.str q t) Option.none (.ref c) .none)) #[]
def KF:Params→PySem.W.Frag:=fun P =>
 (nat_lit 2,.mk .none Option.none (.dict #[]) #[]) ::
 (nat_lit 3,.mk (.type "dict") Option.none (.dict #[en P "__name__" 165 (.str "law_castwright_k17_first_clashes" 451),en P "__doc__" 166 .none,en P "__package__" 167 .none,en P "__loader__" 168 (.builtin "__main__.__loader__#opaque"),en P "__spec__" 169 .none,en P "__annotations__" 170 (.ref 6),en P "__builtins__" 171 (.ref 4),en P "__file__" 173 (.str "/claim/cut.py" 172),en P "__cached__" 174 .none,en P "CastError" 206 (.ref 24),en P "NoKind" 222 (.ref 37),en P "MOST_KINDS" 226 (.int 40 225),en P "MOST_DEPTH" 228 (.int 8 227),en P "MOST_LETTERS" 230 (.int 8 229),en P "MARKS" 233 (.ref 40),en P "LENGTHS" 252 (.ref 41),en P "entry_of" 261 (.ref 48),en P "names_of" 267 (.ref 53),en P "names_of_both" 275 (.ref 60),en P "check_kind" 282 (.ref 67),en P "check_kinds" 290 (.ref 74),en P "is_kind" 297 (.ref 81),en P "is_made_of" 303 (.ref 86),en P "layer_within" 313 (.ref 93),en P "kinds_within" 319 (.ref 98),en P "has_form" 326 (.ref 105),en P "are_fields" 332 (.ref 110),en P "is_field" 339 (.ref 117),en P "is_name" 345 (.ref 122),en P "is_small_letter" 352 (.ref 129),en P "names_rise" 358 (.ref 134),en P "STEPS" 374 (.ref 135),en P "first_clash" 382 (.ref 147),en P "clashes" 391 (.ref 154),en P "behind" 399 (.ref 161),en P "clash_of" 411 (.ref 168),en P "clash_of_rows" 421 (.ref 175),en P "clash_of_entries" 429 (.ref 182),en P "clash_at" 441 (.ref 189),en P "clash_at_name" 450 (.ref 196),en P "_law_state" 461 (.ref 203),en P "_law_take" 471 (.ref 210),en P "_law_kind" 483 (.ref 217),en P "_law_renamed" 489 (.ref 222),en P "_law_some_names" 497 (.ref 229),en P "_law_near" 503 (.ref 234),en P "_law_entries" 509 (.ref 239),en P "_law_names" 515 (.ref 244),en P "_law_less" 521 (.ref 249),en P "_law_clash" 527 (.ref 254),en P "law" 542 (.ref 261)] 51) #[]) ::
 (nat_lit 15,.mk (.type "tuple") Option.none (.seq #[.type "ValueError"]) #[]) ::
 (nat_lit 22,.mk (.type "tuple") Option.none (.seq #[]) #[]) ::
 (nat_lit 23,.mk (.type "dict") Option.none (.dict #[en P "__module__" 196 (.str "castwright.errors" 187),en P "__firstlineno__" 200 (.int 2 199),en P "__static_attributes__" 201 (.ref 22),en P "__weakref__" 203 (.ref 25),en P "__doc__" 204 .none] 3) #[]) ::
 (nat_lit 24,.mk (.type "type") Option.none (.cls (.mk "CastError" [.type "ValueError"] [.ref 24,.type "ValueError",.type "Exception",.type "BaseException",.type "object"] 23 "CastError" Bool.true [] [.ref 37] Bool.false Option.none Bool.false)) #[Option.some (.ref 15),Option.none,Option.some (.str "CastError" 189),Option.some (.str "CastError" 197),Option.some (.builtin "ValueError.__new__"),Option.some (.bool Bool.true)]) ::
 (nat_lit 25,.mk (.type "getset_descriptor") Option.none (.fields #[.str "__weakref__" 202,.ref 24,.builtin "ExceptionGroup.__weakref__",.none]) #[]) ::
 (nat_lit 28,.mk (.type "tuple") Option.none (.seq #[.ref 24]) #[]) ::
 (nat_lit 35,.mk (.type "tuple") Option.none (.seq #[]) #[]) ::
 (nat_lit 36,.mk (.type "dict") Option.none (.dict #[en P "__module__" 214 (.str "castwright.errors" 187),en P "__firstlineno__" 218 (.int 4 217),en P "__static_attributes__" 219 (.ref 35),en P "__doc__" 220 .none] 2) #[]) ::
 (nat_lit 37,.mk (.type "type") Option.none (.cls (.mk "NoKind" [.ref 24] [.ref 37,.ref 24,.type "ValueError",.type "Exception",.type "BaseException",.type "object"] 36 "NoKind" Bool.true [] [] Bool.false Option.none Bool.false)) #[Option.some (.ref 28),Option.none,Option.some (.str "NoKind" 207),Option.some (.str "NoKind" 215),Option.some (.builtin "ValueError.__new__"),Option.some (.bool Bool.true)]) ::
 (nat_lit 40,.mk (.type "tuple") Option.none (.seq #[.str "must" 231,.str "may" 232]) #[]) ::
 (nat_lit 41,.mk (.type "dict") Option.none (.dict #[en P "any" 234 (.int 1 235),en P "num" 236 (.int 1 237),en P "truth" 238 (.int 1 239),en P "to" 240 (.int 3 241),en P "box" 242 (.int 2 243),en P "row" 244 (.int 3 245)] 6) #[]) ::
 (nat_lit 47,co "entry_of" 253 12 2 42 181 43 (.ref 44) (.ref 45) 46 259 260) ::
 (nat_lit 48,fo "entry_of" (top 9) "castwright.kinds" 223 47) ::
 (nat_lit 52,co "names_of" 262 17 1 49 181 50 .none .none 51 265 266) ::
 (nat_lit 53,fo "names_of" (top 10) "castwright.kinds" 223 52) ::
 (nat_lit 59,co "names_of_both" 268 19 2 54 181 55 (.ref 56) (.ref 57) 58 273 274) ::
 (nat_lit 60,fo "names_of_both" (top 11) "castwright.kinds" 223 59) ::
 (nat_lit 66,co "check_kind" 276 21 1 61 181 62 (.ref 63) (.ref 64) 65 280 281) ::
 (nat_lit 67,fo "check_kind" (top 12) "castwright.kinds" 223 66) ::
 (nat_lit 73,co "check_kinds" 283 24 2 68 181 69 (.ref 70) (.ref 71) 72 288 289) ::
 (nat_lit 74,fo "check_kinds" (top 13) "castwright.kinds" 223 73) ::
 (nat_lit 80,co "is_kind" 291 27 1 75 181 76 (.ref 77) (.ref 78) 79 295 296) ::
 (nat_lit 81,fo "is_kind" (top 14) "castwright.kinds" 223 80) ::
 (nat_lit 85,co "is_made_of" 298 29 5 82 181 83 .none .none 84 301 302) ::
 (nat_lit 86,fo "is_made_of" (top 15) "castwright.kinds" 223 85) ::
 (nat_lit 92,co "layer_within" 304 42 2 87 181 88 (.ref 89) (.ref 90) 91 311 312) ::
 (nat_lit 93,fo "layer_within" (top 16) "castwright.kinds" 223 92) ::
 (nat_lit 97,co "kinds_within" 314 47 1 94 181 95 .none .none 96 317 318) ::
 (nat_lit 98,fo "kinds_within" (top 17) "castwright.kinds" 223 97) ::
 (nat_lit 104,co "has_form" 320 51 1 99 181 100 (.ref 101) (.ref 102) 103 324 325) ::
 (nat_lit 105,fo "has_form" (top 18) "castwright.kinds" 223 104) ::
 (nat_lit 109,co "are_fields" 327 57 1 106 181 107 .none .none 108 330 331) ::
 (nat_lit 110,fo "are_fields" (top 19) "castwright.kinds" 223 109) ::
 (nat_lit 116,co "is_field" 333 61 1 111 181 112 (.ref 113) (.ref 114) 115 337 338) ::
 (nat_lit 117,fo "is_field" (top 20) "castwright.kinds" 223 116) ::
 (nat_lit 121,co "is_name" 340 65 1 118 181 119 .none .none 120 343 344) ::
 (nat_lit 122,fo "is_name" (top 21) "castwright.kinds" 223 121) ::
 (nat_lit 128,co "is_small_letter" 346 69 1 123 181 124 (.ref 125) (.ref 126) 127 350 351) ::
 (nat_lit 129,fo "is_small_letter" (top 22) "castwright.kinds" 223 128) ::
 (nat_lit 133,co "names_rise" 353 71 1 130 181 131 .none .none 132 356 357) ::
 (nat_lit 134,fo "names_rise" (top 23) "castwright.kinds" 223 133) ::
 (nat_lit 135,.mk (.type "dict") Option.none (.dict #[en P "any" 361 (.ref 136),en P "num" 362 (.ref 137),en P "truth" 363 (.ref 138),en P "to" 364 (.ref 139),en P "box" 367 (.ref 140)] 5) #[]) ::
 (nat_lit 136,.mk (.type "tuple") Option.none (.seq #[]) #[]) ::
 (nat_lit 137,.mk (.type "tuple") Option.none (.seq #[]) #[]) ::
 (nat_lit 138,.mk (.type "tuple") Option.none (.seq #[]) #[]) ::
 (nat_lit 139,.mk (.type "tuple") Option.none (.seq #[.str "in" 365,.str "out" 366]) #[]) ::
 (nat_lit 140,.mk (.type "tuple") Option.none (.seq #[.str "inside" 368]) #[]) ::
 (nat_lit 146,co "first_clash" 375 75 2 141 181 142 (.ref 143) (.ref 144) 145 380 381) ::
 (nat_lit 147,fo "first_clash" (top 26) "castwright.known" 359 146) ::
 (nat_lit 153,co "clashes" 383 78 3 148 181 149 (.ref 150) (.ref 151) 152 389 390) ::
 (nat_lit 154,fo "clashes" (top 27) "castwright.known" 359 153) ::
 (nat_lit 160,co "behind" 392 81 2 155 181 156 (.ref 157) (.ref 158) 159 397 398) ::
 (nat_lit 161,fo "behind" (top 28) "castwright.known" 359 160) ::
 (nat_lit 167,co "clash_of" 400 83 2 162 181 163 (.ref 164) (.ref 165) 166 409 410) ::
 (nat_lit 168,fo "clash_of" (top 29) "castwright.known" 359 167) ::
 (nat_lit 174,co "clash_of_rows" 412 95 2 169 181 170 (.ref 171) (.ref 172) 173 419 420) ::
 (nat_lit 175,fo "clash_of_rows" (top 30) "castwright.known" 359 174) ::
 (nat_lit 181,co "clash_of_entries" 422 101 2 176 181 177 (.ref 178) (.ref 179) 180 427 428) ::
 (nat_lit 182,fo "clash_of_entries" (top 31) "castwright.known" 359 181) ::
 (nat_lit 188,co "clash_at" 430 107 3 183 181 184 (.ref 185) (.ref 186) 187 439 440) ::
 (nat_lit 189,fo "clash_at" (top 32) "castwright.known" 359 188) ::
 (nat_lit 195,co "clash_at_name" 442 118 3 190 181 191 (.ref 192) (.ref 193) 194 448 449) ::
 (nat_lit 196,fo "clash_at_name" (top 33) "castwright.known" 359 195) ::
 (nat_lit 202,co "_law_state" 453 125 2 197 181 198 (.ref 199) (.ref 200) 201 459 460) ::
 (nat_lit 203,fo "_law_state" (top 35) "law_castwright_k17_first_clashes" 451 202) ::
 (nat_lit 209,co "_law_take" 462 132 2 204 181 205 (.ref 206) (.ref 207) 208 469 470) ::
 (nat_lit 210,fo "_law_take" (top 36) "law_castwright_k17_first_clashes" 451 209) ::
 (nat_lit 216,co "_law_kind" 472 142 2 211 181 212 (.ref 213) (.ref 214) 215 481 482) ::
 (nat_lit 217,fo "_law_kind" (top 37) "law_castwright_k17_first_clashes" 451 216) ::
 (nat_lit 221,co "_law_renamed" 484 156 2 218 181 219 .none .none 220 487 488) ::
 (nat_lit 222,fo "_law_renamed" (top 38) "law_castwright_k17_first_clashes" 451 221) ::
 (nat_lit 228,co "_law_some_names" 490 163 1 223 181 224 (.ref 225) (.ref 226) 227 495 496) ::
 (nat_lit 229,fo "_law_some_names" (top 39) "law_castwright_k17_first_clashes" 451 228) ::
 (nat_lit 233,co "_law_near" 498 166 3 230 181 231 .none .none 232 501 502) ::
 (nat_lit 234,fo "_law_near" (top 40) "law_castwright_k17_first_clashes" 451 233) ::
 (nat_lit 238,co "_law_entries" 504 184 2 235 181 236 .none .none 237 507 508) ::
 (nat_lit 239,fo "_law_entries" (top 41) "law_castwright_k17_first_clashes" 451 238) ::
 (nat_lit 243,co "_law_names" 510 188 2 240 181 241 .none .none 242 513 514) ::
 (nat_lit 244,fo "_law_names" (top 42) "law_castwright_k17_first_clashes" 451 243) ::
 (nat_lit 253,co "_law_clash" 522 206 2 250 181 251 .none .none 252 525 526) ::
 (nat_lit 254,fo "_law_clash" (top 44) "law_castwright_k17_first_clashes" 451 253) ::
 (nat_lit 260,co "law" 528 225 1 255 181 256 (.ref 257) (.ref 258) 259 540 541) ::
 (nat_lit 261,fo "law" (top 45) "law_castwright_k17_first_clashes" 451 260) ::
 []
def KL:List Addr:=2::3::15::22::23::24::25::28::35::36::37::40::41::47::48::52::53::59::60::66::67::73::74::80::81::85::86::92::93::97::98::104::105::109::110::116::117::121::122::128::129::133::134::135::136::137::138::139::140::146::147::153::154::160::161::167::168::174::175::181::182::188::189::195::196::202::203::209::210::216::217::221::222::228::229::233::234::238::239::243::244::253::254::260::261::[]
theorem kfe (P:Params):KL=(KF P).map (·.1):=by kernel_rfl
section
open PySem.W
abbrev LB (w:World):Prop:=(openEnds treeTable pwS w 3452).map (fun s=>(openSeen vwS ["LENGTHS","STEPS"] (importedModules pwS.main.body) (fun s=>xlAt vwS [] s&&recOk (RowW.records rwS.row.toRowW) s) true s,(kHook KF KL kfe).obs s))=some (openGood vwS ["LENGTHS","STEPS"],(kHook KF KL kfe).val w)
theorem lbf (w:World):LB (w.withFollow "special-get-raises" false):=by kernel_rfl
theorem lbt (w:World):LB (w.withFollow "special-get-raises" true):=by kernel_rfl
end
end K6
set_option Elab.async false
set_option linter.all false
set_option maxRecDepth 100000
namespace L2
open PySem PySem.Spec PyProof.Rows
abbrev Key:=Sum Int Str
def Zqe:Key→Value→Bool
 | .inl k,v=>Value.isInt k v
 | .inr x,v=>Value.isStrOf x v
def Zyd (w:World):Key→Int
 | .inl k=>hashInt k
 | .inr x=>hashStr w x
theorem Zbr:∀ {k:Key} {v:Value},Zqe k v=true→(∃ i t,k=Sum.inl i∧v=Value.int i t)∨(∃ x t,k=Sum.inr x∧v=Value.str x t)
 | .inl i,v,h=>by
  obtain ⟨t,e⟩:=Value.isInt_shape (k:=i) (v:=v) h
  exact .inl ⟨i,t,rfl,e⟩
 | .inr x,v,h=>by
  obtain ⟨t,e⟩:=Value.isStrOf_shape (x:=x) (v:=v) h
  exact .inr ⟨x,t,rfl,e⟩
theorem Zux (a b:Int):decide ((Sum.inl a:Key)=Sum.inl b)=(a==b):=by
 by_cases e:a=b
 ·subst e;simp
 ·have h:¬ (Sum.inl a:Key)=Sum.inl b:=fun q=>e (Sum.inl.inj q)
  rw [decide_eq_false h]
  exact (beq_eq_false_iff_ne.mpr e).symm
theorem Zu5 (a b:Str):decide ((Sum.inr a:Key)=Sum.inr b)=decide (a=b):=by
 by_cases e:a=b
 ·subst e;simp
 ·have h:¬ (Sum.inr a:Key)=Sum.inr b:=fun q=>e (Sum.inr.inj q)
  rw [decide_eq_false h,decide_eq_false e]
theorem Zt2 (a:Int) (b:Str):decide ((Sum.inl a:Key)=Sum.inr b)=false:=decide_eq_false (fun q=>nomatch q)
theorem ZvU (a:Str) (b:Int):decide ((Sum.inr a:Key)=Sum.inl b)=false:=decide_eq_false (fun q=>nomatch q)
def Zb0 (prog:Program) (w:World):PySem.KeyKind prog w Key where
 is:=Zqe
 hash:=Zyd w
 inj:=fun v a b ha hb=>by
  rcases Zbr ha with ⟨i,t,rfl,rfl⟩ | ⟨x,t,rfl,rfl⟩
  ·rcases Zbr hb with ⟨j,u,rfl,e⟩ | ⟨y,u,rfl,e⟩
   ·injection e with e1 _;rw [e1]
   ·exact nomatch e
  ·rcases Zbr hb with ⟨j,u,rfl,e⟩ | ⟨y,u,rfl,e⟩
   ·exact nomatch e
   ·injection e with e1 _;rw [e1]
 byValue:=fun k v h=>by
  rcases Zbr h with ⟨i,t,rfl,rfl⟩ | ⟨x,t,rfl,rfl⟩ <;> rfl
 pyHash:=fun hv h=>by
  rcases Zbr hv with ⟨i,t,rfl,rfl⟩ | ⟨x,t,rfl,rfl⟩
  ·exact wpAny_pyHash_int h
  ·exact wpAny_pyHash_str h
 eqBool:=fun hu hv h=>by
  rcases Zbr hu with ⟨i,t,rfl,rfl⟩ | ⟨x,t,rfl,rfl⟩
  ·rcases Zbr hv with ⟨j,u,rfl,rfl⟩ | ⟨y,u,rfl,rfl⟩
   ·rw [Zux] at h;exact wpAny_eqBool_int h
   ·rw [Zt2] at h;exact SeqAt.EqAt.int_str i t y u _ _ _ _ h
  ·rcases Zbr hv with ⟨j,u,rfl,rfl⟩ | ⟨y,u,rfl,rfl⟩
   ·rw [ZvU] at h;exact SeqAt.EqAt.str_int x t j u _ _ _ _ h
   ·rw [Zu5] at h;exact wpAny_eqBool_str h
 «strs»:=fun k x t v h=>by
  rcases Zbr h with ⟨i,u,rfl,e⟩ | ⟨y,u,rfl,e⟩
  ·exact nomatch e
  ·injection e with e1 _
   subst e1
   cases v <;> rfl
end L2
namespace L2
open PySem PySem.Spec PyProof.Rows
inductive V where
 | non | bl (b:Bool) | int (i:Int) | str (x:Str) | byt (b:Array UInt8) | flt (b:UInt64) | ref (a:Addr) | ty (n:String)
 deriving DecidableEq
def RelV:V→Value→Prop
 | .non,u=>u=Value.none
 | .bl b,u=>u=Value.bool b
 | .int i,u=>∃ t,u=Value.int i t
 | .str x,u=>∃ t,u=Value.str x t
 | .byt b,u=>∃ t,u=Value.bytes b t
 | .flt b,u=>∃ t,u=Value.float b t
 | .ref a,u=>u=Value.ref a
 | .ty n,u=>u=Value.type n
abbrev Vals:List V→List Value→Prop:=Paired RelV
theorem Vals.length {xs:List V} {us:List Value} (r:Vals xs us):xs.length=us.length:=Paired.length r
theorem Vals.get:∀ {xs:List V} {us:List Value} {i:Nat} {x:V},Vals xs us→xs[i]?=some x→∃ u,us[i]?=some u∧RelV x u
 | _,_,_,_,.nil,e=>by simp at e
 | _,_,0,_,.cons r _,e=>by simp at e;subst e;exact ⟨_,rfl,r⟩
 | _,_,i+1,x,.cons _ t,e=>by
  obtain ⟨u,h1,h2⟩:=Vals.get (i:=i) (x:=x) t (by simpa using e)
  exact ⟨u,by simpa using h1,h2⟩
theorem Vals.set {x:V} {u:Value} (r:RelV x u):∀ {xs:List V} {us:List Value} (i:Nat),Vals xs us→Vals (xs.set i x) (us.set i u)
 | _,_,_,.nil=>.nil
 | _,_,0,.cons _ t=>.cons r t
 | _,_,i+1,.cons q t=>.cons q (Vals.set r i t)
theorem Vals.append:∀ {xs ys:List V} {us ws:List Value},Vals xs us→Vals ys ws→Vals (xs++ys) (us++ws)
 | _,_,_,_,.nil,s=>s
 | _,_,_,_,.cons r t,s=>.cons r (Vals.append t s)
theorem Vals.take:∀ {xs:List V} {us:List Value} (n:Nat),Vals xs us→Vals (xs.take n) (us.take n)
 | _,_,0,_=>.nil
 | _,_,_+1,.nil=>.nil
 | _,_,n+1,.cons r t=>.cons r (Vals.take n t)
theorem Vals.drop:∀ {xs:List V} {us:List Value} (n:Nat),Vals xs us→Vals (xs.drop n) (us.drop n)
 | _,_,0,r=>r
 | _,_,_+1,.nil=>.nil
 | _,_,n+1,.cons _ t=>Vals.drop n t
def ZxL:Option V→Option Value→Prop
 | some v,some u=>RelV v u
 | none,none=>True
 | _,_=>False
def KV {κ:Type}:List (κ×V)→List (κ×Value)→Prop:=Paired fun (p:κ×V) (q:κ×Value)=>p.1=q.1∧RelV p.2 q.2
def kV:Key→V
 | .inl i=>.int i
 | .inr x=>.str x
inductive HO where
 | lst (xs:List V)
 | tup (xs:List V)
 | dK (kvs:List (Key×V)) | dT (kvs:List (List Key×V))
 | set (S:Int→Bool) (n:Nat)
 | ins (C dx:Addr) (fs:List (Str×V))
 | own (x:Addr)
 | xd (fs:List (Str×V))
 | met (f x:Addr)
 | rng (lo hi:Int)
 | frz (o:Obj) (u:HO)
 | tbl (ps:Array Value)
 | ext (φ:Heap→Prop)
abbrev Hp:=Addr→Option HO
def upd (H:Hp) (a:Addr) (o:HO):Hp:=fun b=>if b=a then some o else H b
theorem Zbj {H:Hp} {a:Addr} {o:HO}:upd H a o a=some o:=by unfold upd;rw [if_pos rfl]
theorem ZaT {H:Hp} {a b:Addr} {o:HO} (h:b≠a):upd H a o b=H b:=by unfold upd;rw [if_neg h]
theorem ZcI {H:Hp} {a b:Addr} {o:HO} (h:H a=some o) (h':H b=none):a≠b:=by
 intro e;subst e;rw [h] at h';cases h'
section
variable (P:Program) (w:World)
def ObjOk (H:Hp) (h:Heap) (a:Addr):HO→Prop
 | .lst xs=>xs.length≤sizeLine∧∃ (its:List Value) (n:Nat),Vals xs its∧h.get? a=some { cls:=.type "list",data:=.seq its.toArray n }
 | .tup xs=>xs.length≤sizeLine∧∃ its:List Value,Vals xs its∧IsTup h a its.toArray
 | .dK kvs=>kvs.length≤sizeLine∧(a==sysModules)=false∧∃ vs,KV kvs vs∧h.DictOf (Zb0 P w) a vs
 | .dT kvs=>kvs.length≤sizeLine∧(a==sysModules)=false∧∃ xs:List (List Key×Addr×Value),
   Paired (fun (p:List Key×V) (q:List Key×Addr×Value)=>p.1=q.1∧H q.2.1=some (.tup (p.1.map kV))∧RelV p.2 q.2.2) kvs xs ∧
   ∃ o es ep,h.get? a=some o∧o.ExactDict∧o.data=.dict es ep∧es.toList=xs.map (entryOfKey (tupleKind (Zb0 P w)))∧(xs.map (·.1)).Nodup
 | .set S n=>h.SetOf (intKind P w) a S n
 | .ins C dx fs=>H dx=some (.own a)∧fs.length≤1000∧dx≠a∧h.get? a=some (PySem.W.instObj C dx) ∧
   ∃ mA,h.Ns1 dx mA∧(∀ f,ZxL (fs.lookup f) (mA f))∧PySem.Within mA (fs.map (·.1))
 | .own _=>∃ o,h.get? a=some o
 | .xd fs=>∃ mA,h.Ns1 a mA∧∀ f,ZxL (fs.lookup f) (mA f)
 | .rng lo hi=>∃ t u v,h.get? a=some { cls:=.type "range",data:=.fields #[.int lo t,.int hi u,.int 1 v] }
 | .frz o u=>h.get? a=some o∧ObjOk H h a u
 | .tbl ps=>h.get? a=some { cls:=.none,data:=.fields ps }
 | .met f x=>h.get? a=some (PySem.W.methodObj (.ref f) (.ref x))
 | .ext φ=>φ h∧(∃ o,h.get? a=some o)∧∀ h1 h2:Heap,φ h1→(∀ o,h1.get? a=some o→h2.get? a=some o)→φ h2
def HOk (H:Hp) (h:Heap):Prop:=∀ a o,H a=some o→ObjOk P w H h a o
end
section
variable {P:Program} {w:World} {H H':Hp} {h h':Heap} {a:Addr} {o:HO}
theorem ObjOk.lt (x:ObjOk P w H h a o):a < h.objs.size:=by
 cases o with
 | lst xs=>obtain ⟨_,_,_,_,e⟩:=x;exact Heap.lt_size e
 | tup xs=>obtain ⟨_,_,_,p⟩:=x;exact p.lt
 | dK kvs=>obtain ⟨_,_,_,_,o,_,_,e,_⟩:=x;exact Heap.lt_size e
 | dT kvs=>obtain ⟨_,_,_,_,o,_,_,e,_⟩:=x;exact Heap.lt_size e
 | set S n=>obtain ⟨o,_,_,_,e,_⟩:=x;exact Heap.lt_size e
 | ins C dx fs=>obtain ⟨_,_,_,e,_⟩:=x;exact Heap.lt_size e
 | own y=>obtain ⟨_,e⟩:=x;exact Heap.lt_size e
 | xd fs=>obtain ⟨_,⟨_,_,_,e,_⟩,_⟩:=x;exact Heap.lt_size e
 | rng lo hi=>obtain ⟨_,_,_,e⟩:=x;exact Heap.lt_size e
 | frz ob u=>obtain ⟨e,_⟩:=x;exact Heap.lt_size e
 | tbl ps=>exact Heap.lt_size (show h.get? a=some _ from x)
 | met f y=>exact Heap.lt_size (show h.get? a=some _ from x)
 | ext φ=>obtain ⟨_,⟨_,e⟩,_⟩:=x;exact Heap.lt_size e
theorem Paired.mapP {α β:Type} {F G:α→β→Prop}:∀ {l₁:List α} {l₂:List β},Paired F l₁ l₂→(∀ a b,F a b→G a b)→Paired G l₁ l₂
 | _,_,.nil,_=>.nil
 | _,_,.cons r t,f=>.cons (f _ _ r) (Paired.mapP t f)
theorem ObjOk.stay (x:ObjOk P w H h a o) (k:∀ b u,(b=a∨H b=some (.own a))→h.get? b=some u→h'.get? b=some u)
  (ho:∀ b,H b=some (.own a)→H' b=some (.own a)) (ht:∀ b xs,H b=some (.tup xs)→H' b=some (.tup xs)):ObjOk P w H' h' a o:=by
 induction o with
 | lst xs=>obtain ⟨z,its,n,r,e⟩:=x;exact ⟨z,its,n,r,k _ _ (.inl rfl) e⟩
 | tup xs=>obtain ⟨z,its,r,ob,e,c⟩:=x;exact ⟨z,its,r,ob,k _ _ (.inl rfl) e,c⟩
 | dK kvs=>obtain ⟨z,y,vs,r,ob,es,ep,e,c⟩:=x;exact ⟨z,y,vs,r,ob,es,ep,k _ _ (.inl rfl) e,c⟩
 | dT kvs =>
  obtain ⟨z,y,xs,r,ob,es,ep,e,c⟩:=x
  exact ⟨z,y,xs,Paired.mapP r fun p q z=>⟨z.1,ht _ _ z.2.1,z.2.2⟩,ob,es,ep,k _ _ (.inl rfl) e,c⟩
 | set S n=>obtain ⟨ob,es,ep,t,e,c⟩:=x;exact ⟨ob,es,ep,t,k _ _ (.inl rfl) e,c⟩
 | ins C dx fs =>
  obtain ⟨d,z,ne,e,mA,⟨od,es,ep,e2,c⟩,r⟩:=x
  exact ⟨ho _ d,z,ne,k _ _ (.inl rfl) e,mA,⟨od,es,ep,k _ _ (.inr d) e2,c⟩,r⟩
 | own y=>obtain ⟨ob,e⟩:=x;exact ⟨ob,k _ _ (.inl rfl) e⟩
 | xd fs=>obtain ⟨mA,⟨od,es,ep,e,c⟩,r⟩:=x;exact ⟨mA,⟨od,es,ep,k _ _ (.inl rfl) e,c⟩,r⟩
 | rng lo hi=>obtain ⟨t,u,v,e⟩:=x;exact ⟨t,u,v,k _ _ (.inl rfl) e⟩
 | frz ob u ih=>obtain ⟨e,q⟩:=x;exact ⟨k _ _ (.inl rfl) e,ih q⟩
 | tbl ps =>
  have e:h.get? a=some { cls:=.none,data:=.fields ps }:=x
  show h'.get? a=some { cls:=.none,data:=.fields ps }
  exact k a _ (.inl rfl) e
 | met f y =>
  have e:h.get? a=some (PySem.W.methodObj (.ref f) (.ref y)):=x
  show h'.get? a=some (PySem.W.methodObj (.ref f) (.ref y))
  exact k a _ (.inl rfl) e
 | ext φ=>obtain ⟨p,⟨o,e⟩,st⟩:=x;exact ⟨st _ _ p fun o q=>k _ _ (.inl rfl) q,⟨o,k _ _ (.inl rfl) e⟩,st⟩
theorem HOk.lt (x:HOk P w H h) (e:H a=some o):a < h.objs.size:=(x a o e).lt
theorem HOk.fresh (x:HOk P w H h) (e:h.objs.size≤a):H a=none:=by
 cases q:H a with
 | none=>rfl
 | some u=>exact absurd (Nat.lt_of_lt_of_le (x.lt q) e) (Nat.lt_irrefl _)
theorem HOk.kept (x:HOk P w H h) (k:∀ b u,h.get? b=some u→h'.get? b=some u):HOk P w H h':=fun a o e =>
 (x a o e).stay (fun b u _ q=>k b u q) (fun _ q=>q) fun _ _ q=>q
theorem HOk.laid (x:HOk P w H h) (k:∀ b u,h.get? b=some u→h'.get? b=some u) (hp:h.objs.size≤a) (new:ObjOk P w (upd H a o) h' a o):HOk P w (upd H a o) h':=fun b u e=>by
 have hn:=x.fresh hp
 by_cases hb:b=a
 ·subst hb;rw [Zbj] at e;cases e;exact new
 ·rw [ZaT hb] at e
  exact (x b u e).stay (fun c v _ q=>k c v q) (fun c q=>by rw [ZaT (ZcI q hn)];exact q) fun c xs q=>by rw [ZaT (ZcI q hn)];exact q
end
def Rd (H:Hp) (a:Addr) (u:HO):Prop:=H a=some u∨∃ o,H a=some (.frz o u)
theorem Rd.of {H:Hp} {a:Addr} {u:HO} (h:H a=some u):Rd H a u:=.inl h
theorem Rd.ok {P:Program} {w:World} {H:Hp} {h:Heap} {a:Addr} {u:HO} (r:Rd H a u) (x:HOk P w H h):ObjOk P w H h a u:=by
 rcases r with r | ⟨o,r⟩
 ·exact x a u r
 ·obtain ⟨_,q⟩:=x a _ r
  exact q
def Mut:Option HO→Prop
 | some (.lst _)=>True
 | some (.dK _)=>True
 | some (.dT _)=>True
 | some (.set _ _)=>True
 | some (.ins _ _ _)=>True
 | some (.ext _)=>True
 | _=>False
section
variable {P:Program} {w:World} {H:Hp} {h h':Heap} {x e:Addr} {o':HO}
theorem HOk.write (ok:HOk P w H h) (mu:Mut (H x)) (he:e=x∨H e=some (.own x)) (k:∀ b u,b≠e→h.get? b=some u→h'.get? b=some u) (heo:∃ u,h'.get? e=some u)
  (new:ObjOk P w (upd H x o') h' x o'):HOk P w (upd H x o') h':=fun b u q=>by
 have nown:∀ c y,H c=some (.own y)→c≠x:=fun c y r z=>by subst z;rw [r] at mu;exact mu
 have ntup:∀ c xs,H c=some (.tup xs)→c≠x:=fun c xs r z=>by subst z;rw [r] at mu;exact mu
 by_cases hb:b=x
 ·subst hb;rw [Zbj] at q;cases q;exact new
 ·rw [ZaT hb] at q
  by_cases hbe:b=e
  ·have q':H b=some (.own x):=by
    rcases he with z | z
    ·exact absurd (hbe.trans z) hb
    ·rw [hbe];exact z
   rw [q] at q';cases q'
   obtain ⟨v,hv⟩:=heo
   exact ⟨v,by rw [hbe];exact hv⟩
  ·refine (ok b u q).stay (fun c v hc r=>k c v ?_ r) (fun c r=>by rw [ZaT (nown c b r)];exact r) fun c xs r=>by rw [ZaT (ntup c xs r)];exact r
   rcases hc with rfl | hc
   ·exact hbe
   ·rintro rfl
    rcases he with z | z
    ·exact nown c b hc z
    ·rw [hc] at z;cases z;exact hb rfl
end
structure Un (fs ex:List Addr) (H H':Hp) (h h':Heap):Prop where
 keep:∀ b o,h.get? b=some o→H b=none→b∉fs→b∉ex→h'.get? b=some o
 slot:∀ b o,h.get? b=some o→H b=none→b∈fs→b∉ex→∃ sl,h'.get? b=some { o with slots:=sl }
 free:∀ b o,h.get? b=some o→H b=none→b∉ex→H' b=none
 there:∀ b o,h.get? b=some o→b∉ex→∃ o',h'.get? b=some o'
 tups:∀ b xs,H b=some (.tup xs)→H' b=some (.tup xs)
 frzs:∀ b o u,H b=some (.frz o u)→H' b=some (.frz o u)
 tbls:∀ b ps,H b=some (.tbl ps)→∃ more,H' b=some (.tbl (ps++more))
section
variable {fs fs' ex ex':List Addr} {H H1 H2:Hp} {h h1 h2 h':Heap} {a x e:Addr} {o:HO}
theorem Un.any (u:Un fs ex H H1 h h1) {b:Addr} {ob:Obj} (q:h.get? b=some ob) (n:H b=none) (hx:b∉ex):∃ sl,h1.get? b=some { ob with slots:=sl }:=by
 by_cases hb:b∈fs
 ·exact u.slot b ob q n hb hx
 ·exact ⟨ob.slots,u.keep b ob q n hb hx⟩
theorem Un.trans (a:Un fs ex H H1 h h1) (b:Un fs ex H1 H2 h1 h2):Un fs ex H H2 h h2 where
 keep:=fun c ob q n hc hx=>b.keep c ob (a.keep c ob q n hc hx) (a.free c ob q n hx) hc hx
 slot:=fun c ob q n hc hx=>by
  obtain ⟨sl,e1⟩:=a.slot c ob q n hc hx
  obtain ⟨sl',e2⟩:=b.slot c _ e1 (a.free c ob q n hx) hc hx
  exact ⟨sl',e2⟩
 free:=fun c ob q n hx=>by
  obtain ⟨o',e1⟩:=a.there c ob q hx
  exact b.free c o' e1 (a.free c ob q n hx) hx
 there:=fun c ob q hx=>by
  obtain ⟨o',e1⟩:=a.there c ob q hx
  exact b.there c o' e1 hx
 tups:=fun c xs q=>b.tups c xs (a.tups c xs q)
 frzs:=fun c ob xs q=>b.frzs c ob xs (a.frzs c ob xs q)
 tbls:=fun c ps q=>by
  obtain ⟨m1,e1⟩:=a.tbls c ps q
  obtain ⟨m2,e2⟩:=b.tbls c _ e1
  exact ⟨m1++m2,by rw [e2,Array.append_assoc]⟩
theorem Un.kept (k:∀ b u,h.get? b=some u→h'.get? b=some u):Un fs ex H H h h' :=
 ⟨fun b ob q _ _ _=>k b ob q,fun b ob q _ _ _=>⟨ob.slots,k b ob q⟩,fun _ _ _ n _=>n,fun b ob q _=>⟨ob,k b ob q⟩,fun _ _ q=>q,fun _ _ _ q=>q,fun _ ps q=>⟨#[],by rw [q];simp⟩⟩
theorem Un.refl:Un fs ex H H h h:=Un.kept fun _ _ q=>q
theorem Un.laid (k:∀ b u,h.get? b=some u→h'.get? b=some u) (hp:h.objs.size≤a) (hn:H a=none):Un fs ex H (upd H a o) h h' where
 keep:=fun b u q _ _ _=>k b u q
 slot:=fun b u q _ _ _=>⟨u.slots,k b u q⟩
 free:=fun b u q n _=>by rw [ZaT (Nat.ne_of_lt (Nat.lt_of_lt_of_le (Heap.lt_size q) hp))];exact n
 there:=fun b u q _=>⟨u,k b u q⟩
 tups:=fun b xs q=>by rw [ZaT (ZcI q hn)];exact q
 frzs:=fun b u xs q=>by rw [ZaT (ZcI q hn)];exact q
 tbls:=fun b ps q=>⟨#[],by rw [ZaT (ZcI q hn),q];simp⟩
theorem Un.write (mu:Mut (H x)) (he:e=x∨H e=some (.own x)) (k:∀ b u,b≠e→h.get? b=some u→h'.get? b=some u) (heo:∃ u,h'.get? e=some u):Un fs ex H (upd H x o) h h':=by
 have hx:∀ b,H b=none→b≠x:=fun b n z=>by subst z;rw [n] at mu;exact mu
 have hb:∀ b,H b=none→b≠e:=fun b n z=>by
  subst z
  rcases he with r | r
  ·exact hx b n r
  ·rw [n] at r;cases r
 have hm:∀ b u,H b=some u→¬ Mut (some u)→b≠x:=fun b u q nm z=>by subst z;rw [q] at mu;exact nm mu
 refine ⟨fun b u q n _ _=>k b u (hb b n) q,fun b u q n _ _=>⟨u.slots,k b u (hb b n) q⟩,fun b u q n _=>by rw [ZaT (hx b n)];exact n,fun b u q _=>?_,
  fun b xs q=>by rw [ZaT (hm b _ q fun z=>z)];exact q,fun b u xs q=>by rw [ZaT (hm b _ q fun z=>z)];exact q,fun b ps q=>⟨#[],by rw [ZaT (hm b _ q fun z=>z),q];simp⟩⟩
 by_cases hbe:b=e
 ·subst hbe;exact heo
 ·exact ⟨u,k b u hbe q⟩
theorem Un.mono (u:Un fs ex H H1 h h1) (hs:∀ b∈fs,b∈fs') (hx:∀ b∈ex,b∈ex'):Un fs' ex' H H1 h h1 :=
 ⟨fun b ob q n hb he=>u.keep b ob q n (fun z=>hb (hs b z)) fun z=>he (hx b z),fun _ _ q n _ he=>u.any q n fun z=>he (hx _ z),fun b ob q n he=>u.free b ob q n fun z=>he (hx b z),fun b ob q he=>u.there b ob q fun z=>he (hx b z),u.tups,u.frzs,u.tbls⟩
end
def trk (h:Heap) (H:Hp):List Addr:=(List.range h.objs.size).filter fun a=>(H a).isSome
def ZqH (h:Heap) (H:Hp):Heap:=PySem.W.hideAll h (trk h H)
theorem ZoY (h:Heap) (H:Hp):(ZqH h H).objs.size=h.objs.size:=PySem.W.hideAll_size _ _
theorem Zp2 {h:Heap} {H:Hp} {b:Addr} {o:Obj} (e:h.get? b=some o) (n:H b=none):(ZqH h H).get? b=some o :=
 PySem.W.hideAll_get _ e fun hm=>by
  have q:(H b).isSome=true:=(List.mem_filter.mp hm).2
  rw [n] at q;simp at q
theorem ZsC {h:Heap} {H:Hp} {b:Addr} {o:Obj} (e:(ZqH h H).get? b=some o):h.get? b=some o∧H b=none:=by
 have e':h.get? b=some o:=PySem.W.of_hideAll (trk h H) e
 refine ⟨e',?_⟩
 cases q:H b with
 | none=>rfl
 | some x =>
  have hm:b∈trk h H:=List.mem_filter.mpr ⟨List.mem_range.mpr (Heap.lt_size e'),by simp [q]⟩
  have z:(ZqH h H).get? b=none:=PySem.W.hideAll_none (trk h H) hm
  rw [z] at e;cases e
def Zst (g h:Heap) (L:Addr):List (Addr×Obj):=(List.range h.objs.size).filterMap fun a=>if a=L∨(g.get? a).isSome=true then none else (h.get? a).map fun o=>(a,o)
def Zck (g h:Heap) (L d:Addr):List (Addr×Obj):=(Zst g h L).filter fun p=>decide (p.1≠d)
end L2
namespace L2
open PySem PySem.Spec PyProof.Rows
structure Mod (K:PySem.W.Frag) (mg:Str→Option Value) (base:Heap):Prop where
 kin:K.In base
 glob:base.Ns mainGlobals mg
 blt:∃ mb,base.Ns builtinsNs mb∧∀ x:Str,x≠"__name__"→mb x=bootBuiltins x
 nolimit:base.NoLimit
structure Cx where
 prog:Program
 w:World
 K:PySem.W.Frag
 mg:Str→Option Value
 base:Heap
 A:Around
 N:List Str
 s₀:Shared
 H₀:Hp
 env:Env
 outer:List Env
 stack:List Env
 ex:List Addr
 fn:Str→Bool
 calm:Bool
 pn:List (Addr×Obj)
 xe:Value→Shared→Prop
def frs (l:List Env):List Addr:=l.filterMap (·.frame)
abbrev Cx.fs (X:Cx):List Addr:=frs X.outer
def Vis (sc:Scope) (x:Str):Prop:=sc.names.lookup x=some .local∨sc.names.lookup x=some .cell∨sc.names.lookup x=some .free
def Loc (sc:Scope) (x:Str):Prop:=sc.names.lookup x=some .local∨sc.names.lookup x=some .cell
def Zx2 (env:Env) (h:Heap) (m:Str→Option Value) (x:Str) (u:Value):Prop :=
 (env.kindOf x=some .local∧m x=some u)∨((env.kindOf x=some .cell∨env.kindOf x=some .free)∧∃ c,env.cells.lookup x=some c∧h.IsCell c (some u))
structure Cx.Ok (X:Cx):Prop where
 mod:Mod X.K X.mg X.base
 kind:X.env.scope.kind=.function
 glob:X.env.globals=mainGlobals
 blt:X.env.builtins=builtinsNs
 above:X.s₀.heap.objs.size≤X.env.locals
 inj:∀ x y c,X.env.cells.lookup x=some c→X.env.cells.lookup y=some c→x=y
 has:∀ x,(X.env.kindOf x=some .cell∨X.env.kindOf x=some .free)→∃ c,X.env.cells.lookup x=some c
 cab:∀ x c,X.fn x=true→X.env.cells.lookup x=some c→X.s₀.heap.objs.size≤c
 hd:X.calm=true→X.A.handled=none
 frames:X.A.frames=some X.stack
 stk:X.stack=X.outer∨(X.stack=X.env::X.outer∧X.env.frame=some X.env.locals)
 exf:∀ b∈X.ex,b≠X.env.locals∧∀ x c,X.env.cells.lookup x=some c→c≠b
 bs:∀ b o,X.base.get? b=some o→X.s₀.heap.get? b=some o∧X.H₀ b=none
 bsz:X.base.objs.size≤X.s₀.heap.objs.size
 noex:∀ b o,X.base.get? b=some o→b∉X.ex
 exfs:∀ b∈X.ex,b∉X.fs
 funs:X.s₀.heap.FunFrames X.base X.outer
 frf:∀ b∈X.fs,X.H₀ b=none
structure Inv (X:Cx) (pins:List (Addr×Obj)) (σ:List (Option V)) (H:Hp) (s:Shared):Prop where
 ok:X.Ok
 os:s.os=X.s₀.os
 bare:AllBare s.gens
 base:Un X.fs X.ex X.H₀ H X.s₀.heap s.heap
 loc:∃ m,s.heap.Ns X.env.locals m∧∀ (i:Nat) (x:Str) (v:V),X.N[i]?=some x→σ[i]?=some (some v)→Vis X.env.scope x→∃ u,RelV v u∧Zx2 X.env s.heap m x u
 cell:∀ x c,X.env.cells.lookup x=some c→∃ v,s.heap.IsCell c v
 free:H X.env.locals=none
 freeC:∀ x c,X.env.cells.lookup x=some c→H c=none
 pin:∀ p∈X.pn++pins,s.heap.get? p.1=some p.2∧H p.1=none∧p.1≠X.env.locals∧p.1∉X.fs∧∀ v,p.2.data≠.cell v
 hok:HOk X.prog X.w H s.heap
 len:σ.length=X.N.length
section
variable {X:Cx} {pins:List (Addr×Obj)} {σ:List (Option V)} {H H':Hp} {s:Shared} {h':Heap}
theorem Cx.Ok.nofr (ok:X.Ok) {b:Addr} {o:Obj} (e:X.base.get? b=some o):b∉X.fs:=fun hb=>by
 have:=(ok.funs.mem hb).1
 rw [e] at this;cases this
theorem Inv.bs (I:Inv X pins σ H s):∀ b o,X.base.get? b=some o→s.heap.get? b=some o∧H b=none:=fun b o e =>
 ⟨I.base.keep b o (I.ok.bs b o e).1 (I.ok.bs b o e).2 (I.ok.nofr e) (I.ok.noex b o e),I.base.free b o (I.ok.bs b o e).1 (I.ok.bs b o e).2 (I.ok.noex b o e)⟩
theorem Inv.bk (I:Inv X pins σ H s):∀ b o,X.base.get? b=some o→s.heap.get? b=some o:=fun b o e=>(I.bs b o e).1
theorem Inv.mod (I:Inv X pins σ H s):Mod X.K X.mg X.base:=I.ok.mod
theorem Inv.kIn (I:Inv X pins σ H s):X.K.In s.heap:=I.ok.mod.kin.keeps I.bk
theorem Inv.nolimit (I:Inv X pins σ H s):s.heap.NoLimit:=I.ok.mod.nolimit.keeps I.bk
theorem Inv.fr (I:Inv X pins σ H s):∃ m,Fr X.base X.env.locals s.heap m :=
 let ⟨m,hn,_⟩:=I.loc
 ⟨m,hn,I.bk,Nat.le_trans I.ok.bsz I.ok.above⟩
theorem Inv.lt (I:Inv X pins σ H s):X.env.locals < s.heap.objs.size:=let ⟨_,hn,_⟩:=I.loc;hn.lt
theorem Inv.sz (I:Inv X pins σ H s):X.s₀.heap.objs.size≤s.heap.objs.size:=Nat.le_trans I.ok.above (Nat.le_of_lt I.lt)
theorem Inv.nofs (I:Inv X pins σ H s) {a:Addr} (h:s.heap.objs.size≤a):a∉X.fs:=fun hb=>by
 obtain ⟨_,o,ho,_⟩:=I.ok.funs.mem hb
 exact absurd (Nat.lt_of_lt_of_le (Heap.lt_size ho) (Nat.le_trans I.sz h)) (Nat.lt_irrefl _)
theorem Inv.cne (I:Inv X pins σ H s):∀ x c,X.env.cells.lookup x=some c→c≠X.env.locals:=fun x c e z=>by
 obtain ⟨v,o,ho,hd⟩:=I.cell x c e
 obtain ⟨m,⟨o',es,ep,ho',hd',_⟩,_⟩:=I.loc
 rw [z,ho'] at ho;cases ho;rw [hd'] at hd;cases hd
theorem Inv.funs (I:Inv X pins σ H s):s.heap.FunFrames X.base X.outer:=by
 have all:∀ (l:List Env),(∀ b∈frs l,b∈X.fs)→X.s₀.heap.FunFrames X.base l→s.heap.FunFrames X.base l:=by
  intro l
  induction l with
  | nil=>intro _ _;trivial
  | cons env r ih =>
   intro hs hl
   obtain ⟨hk,⟨L,o,hf,hn,ho,hd⟩,hr⟩:=hl
   have hL:L∈X.fs:=hs L (by unfold frs;rw [List.filterMap_cons,hf];exact List.mem_cons_self)
   obtain ⟨sl,e⟩:=I.base.slot L o ho (I.ok.frf L hL) hL fun z=>I.ok.exfs L z hL
   exact ⟨hk,⟨L,_,hf,hn,e,hd⟩,ih (fun b hb=>hs b (by unfold frs;rw [List.filterMap_cons,hf];exact List.mem_cons_of_mem _ hb)) hr⟩
 exact all X.outer (fun _ hb=>hb) I.ok.funs
theorem Inv.stack (I:Inv X pins σ H s):s.heap.FunFrames X.base X.stack:=by
 rcases I.ok.stk with e | ⟨e,hf⟩
 ·rw [e];exact I.funs
 ·rw [e]
  obtain ⟨m,hn,_⟩:=I.loc
  refine .cons (by rw [I.ok.kind];decide) hf hn ?_ I.funs
  exact Heap.get?_none_of_le (Nat.le_trans I.ok.bsz I.ok.above)
theorem Inv.stkSub (I:Inv X pins σ H s):∀ b∈frs X.stack,b∈X.env.locals::X.fs:=fun b hb=>by
 rcases I.ok.stk with e | ⟨e,hf⟩
 ·rw [e] at hb;exact List.mem_cons_of_mem _ hb
 ·rw [e] at hb
  unfold frs at hb
  rw [List.filterMap_cons,hf] at hb
  exact hb
theorem Inv.stkFree (I:Inv X pins σ H s):∀ b∈frs X.stack,H b=none:=fun b hb=>by
 rcases List.mem_cons.mp (I.stkSub b hb) with e | hb
 ·rw [e];exact I.free
 ·obtain ⟨_,o,ho,_⟩:=I.ok.funs.mem hb
  exact I.base.free b o ho (I.ok.frf b hb) fun z=>I.ok.exfs b z hb
theorem Inv.step {g':Array GenState} {t':Nat} {d':Drawn} {ch:List Addr} (I:Inv X pins σ H s)
  (hch:∀ b∈ch,(b∈X.ex∨X.s₀.heap.objs.size≤b)∧b≠X.env.locals∧(∀ x c,X.env.cells.lookup x=some c→c≠b)∧∀ p∈X.pn++pins,p.1≠b)
  (keep:∀ b o,b≠X.env.locals→b∉X.fs→b∉ch→s.heap.get? b=some o→H b=none→h'.get? b=some o)
  (slot:∀ b o,b≠X.env.locals→b∈X.fs→b∉ch→s.heap.get? b=some o→H b=none→∃ sl,h'.get? b=some { o with slots:=sl }) (free:∀ b o,b∉ch→s.heap.get? b=some o→H b=none→H' b=none)
  (there:∀ b o,b∉ch→s.heap.get? b=some o→∃ o',h'.get? b=some o')
  (tups:∀ b xs,H b=some (.tup xs)→H' b=some (.tup xs)) (frzs:∀ b o u,H b=some (.frz o u)→H' b=some (.frz o u)) (tbls:∀ b ps,H b=some (.tbl ps)→∃ more,H' b=some (.tbl (ps++more)))
  (ns:∀ m,s.heap.Ns X.env.locals m→h'.Ns X.env.locals m) (hok:HOk X.prog X.w H' h') (hg:AllBare g') :
  Inv X pins σ H' { s with heap:=h',gens:=g',drawn:=d',toks:=t' }:=by
 have neL:∀ b o,X.s₀.heap.get? b=some o→b≠X.env.locals:=fun b o e=>Nat.ne_of_lt (Nat.lt_of_lt_of_le (Heap.lt_size e) I.ok.above)
 have neC:∀ b o,X.s₀.heap.get? b=some o→b∉X.ex→b∉ch:=fun b o e hx hb=>by
  rcases (hch b hb).1 with z | z
  ·exact hx z
  ·exact absurd (Nat.lt_of_lt_of_le (Heap.lt_size e) z) (Nat.lt_irrefl _)
 have cellK:∀ x c,X.env.cells.lookup x=some c→∀ v,s.heap.IsCell c v→h'.IsCell c v:=by
  rintro x c e v ⟨o,ho,hd⟩
  have nch:c∉ch:=fun z=>(hch c z).2.2.1 x c e rfl
  by_cases hc:c∈X.fs
  ·obtain ⟨sl,q⟩:=slot c o (I.cne x c e) hc nch ho (I.freeC x c e)
   exact ⟨_,q,hd⟩
  ·exact ⟨o,keep c o (I.cne x c e) hc nch ho (I.freeC x c e),hd⟩
 refine ⟨I.ok,I.os,hg,⟨fun b o e n hb hx=>?_,fun b o e n hb hx=>?_,fun b o e n hx=>?_,fun b o e hx=>?_,fun b xs e=>tups b xs (I.base.tups b xs e),fun b o xs e=>frzs b o xs (I.base.frzs b o xs e),fun b ps e=>?_⟩,?_,fun x c e=>?_,?_,fun x c e=>?_,fun p hp=>?_,hok,I.len⟩
 ·exact keep b o (neL b o e) hb (neC b o e hx) (I.base.keep b o e n hb hx) (I.base.free b o e n hx)
 ·obtain ⟨sl,e1⟩:=I.base.slot b o e n hb hx
  obtain ⟨sl',e2⟩:=slot b _ (neL b o e) hb (neC b o e hx) e1 (I.base.free b o e n hx)
  exact ⟨sl',e2⟩
 ·obtain ⟨o',e1⟩:=I.base.there b o e hx
  exact free b o' (neC b o e hx) e1 (I.base.free b o e n hx)
 ·obtain ⟨o',e1⟩:=I.base.there b o e hx
  exact there b o' (neC b o e hx) e1
 ·obtain ⟨m1,e1⟩:=I.base.tbls b ps e
  obtain ⟨m2,e2⟩:=tbls b _ e1
  exact ⟨m1++m2,by rw [e2,Array.append_assoc]⟩
 ·obtain ⟨m,hn,hl⟩:=I.loc
  refine ⟨m,ns m hn,fun i x v e1 e2 e3=>?_⟩
  obtain ⟨u,r,l⟩:=hl i x v e1 e2 e3
  refine ⟨u,r,?_⟩
  rcases l with l | ⟨k,c,e,z⟩
  ·exact .inl l
  ·exact .inr ⟨k,c,e,cellK x c e _ z⟩
 ·obtain ⟨v,z⟩:=I.cell x c e
  exact ⟨v,cellK x c e v z⟩
 ·obtain ⟨m,⟨o,_,_,ho,_⟩,_⟩:=I.loc
  exact free _ o (fun z=>(hch _ z).2.1 rfl) ho I.free
 ·obtain ⟨v,o,ho,hd⟩:=I.cell x c e
  exact free c o (fun z=>(hch c z).2.2.1 x c e rfl) ho (I.freeC x c e)
 ·obtain ⟨e,n,ne,nf,d⟩:=I.pin p hp
  have nch:p.1∉ch:=fun z=>(hch p.1 z).2.2.2 p hp rfl
  exact ⟨keep p.1 p.2 ne nf nch e n,free p.1 p.2 nch e n,ne,nf,d⟩
theorem Inv.un {t':Nat} (I:Inv X pins σ H s) (u:Un X.fs [] H H' s.heap h') (hok:HOk X.prog X.w H' h'):Inv X pins σ H' { s with heap:=h',toks:=t' }:=by
 obtain ⟨m,⟨o,es,ep,ho,r⟩,_⟩:=id I.loc
 obtain ⟨sl,hL⟩:=u.any ho I.free (by simp)
 exact I.step (g':=s.gens) (d':=s.drawn) (ch:=[]) (fun _ z=>nomatch z) (fun b o _ hb _ e n=>u.keep b o e n hb (by simp)) (fun b o _ hb _ e n=>u.slot b o e n hb (by simp)) (fun b o _ e n=>u.free b o e n (by simp)) (fun b o _ e=>u.there b o e (by simp)) u.tups u.frzs u.tbls (fun m' hm=>by
  obtain ⟨o',es',ep',ho',r'⟩:=hm
  rw [ho] at ho';cases ho'
  exact ⟨_,es',ep',hL,r'⟩) hok I.bare
theorem Inv.call {g':Array GenState} {t':Nat} {d':Drawn} {ch:List Addr} (I:Inv X pins σ H s) (u:Un (frs X.stack) ch H H' s.heap h') (hok:HOk X.prog X.w H' h') (hg:AllBare g')
  (hch:∀ b∈ch,(b∈X.ex∨X.s₀.heap.objs.size≤b)∧b≠X.env.locals∧(∀ x c,X.env.cells.lookup x=some c→c≠b)∧∀ p∈X.pn++pins,p.1≠b) :
  Inv X pins σ H' { s with heap:=h',gens:=g',drawn:=d',toks:=t' }:=by
 obtain ⟨m,⟨o,es,ep,ho,r⟩,_⟩:=id I.loc
 obtain ⟨sl,hL⟩:=u.any ho I.free fun z=>(hch _ z).2.1 rfl
 exact I.step (ch:=ch) hch (fun b o hL hb hc e n=>u.keep b o e n (fun z=>(List.mem_cons.mp (I.stkSub b z)).elim hL hb) hc) (fun b o _ _ hc e n=>u.any e n hc) (fun b o hc e n=>u.free b o e n hc) (fun b o hc e=>u.there b o e hc) u.tups u.frzs u.tbls (fun m' hm=>by
  obtain ⟨o',es',ep',ho',r'⟩:=hm
  rw [ho] at ho';cases ho'
  exact ⟨_,es',ep',hL,r'⟩) hok hg
theorem Inv.turned {t':Nat} {it:Addr} (I:Inv X pins σ H s) (k:∀ b o,b≠it→s.heap.get? b=some o→h'.get? b=some o) (hn:H it=none) (hL:it≠X.env.locals)
  (h1:it∈X.ex∨X.s₀.heap.objs.size≤it) (h2:∀ x c,X.env.cells.lookup x=some c→c≠it) (h3:∀ p∈X.pn++pins,p.1≠it):Inv X pins σ H { s with heap:=h',toks:=t' }:=by
 have nit:∀ b u,H b=some u→b≠it:=fun b u e z=>by rw [z,hn] at e;cases e
 refine I.step (g':=s.gens) (d':=s.drawn) (ch:=[it]) (fun b hb=>?_) (fun b o _ _ hc e _=>k b o (fun z=>hc (by simp [z])) e) (fun b o _ _ hc e _=>⟨o.slots,k b o (fun z=>hc (by simp [z])) e⟩) (fun _ _ _ _ n=>n)
  (fun b o hc e=>⟨o,k b o (fun z=>hc (by simp [z])) e⟩) (fun _ _ e=>e) (fun _ _ _ e=>e) (fun b ps e=>⟨#[],by rw [e];simp⟩) (fun m hm=>?_) (fun b u e=>?_) I.bare
 ·have e:b=it:=by simpa using hb
  subst e
  exact ⟨h1,hL,h2,h3⟩
 ·obtain ⟨o,es,ep,ho,r⟩:=hm
  exact ⟨o,es,ep,k _ o (Ne.symm hL) ho,r⟩
 ·refine (I.hok b u e).stay (fun c v hc q=>k c v ?_ q) (fun _ q=>q) fun _ _ q=>q
  rcases hc with z | z
  ·rw [z];exact nit b u e
  ·exact nit c _ z
theorem Inv.tok (I:Inv X pins σ H s) (t:Nat):Inv X pins σ H { s with toks:=t }:=I.un (h':=s.heap) (t':=t) Un.refl I.hok
theorem Inv.kept {t':Nat} (I:Inv X pins σ H s) (k:∀ b u,s.heap.get? b=some u→h'.get? b=some u):Inv X pins σ H { s with heap:=h',toks:=t' }:=I.un (Un.kept k) (I.hok.kept k)
theorem Inv.laid {a:Addr} {o:HO} {t':Nat} (I:Inv X pins σ H s) (k:∀ b u,s.heap.get? b=some u→h'.get? b=some u) (hp:s.heap.objs.size≤a) (new:ObjOk X.prog X.w (upd H a o) h' a o) :
  Inv X pins σ (upd H a o) { s with heap:=h',toks:=t' }:=I.un (Un.laid k hp (I.hok.fresh hp)) (I.hok.laid k hp new)
theorem Inv.write {x e:Addr} {o:HO} {t':Nat} (I:Inv X pins σ H s) (mu:Mut (H x)) (he:e=x∨H e=some (.own x)) (k:∀ b u,b≠e→s.heap.get? b=some u→h'.get? b=some u) (heo:∃ u,h'.get? e=some u)
  (new:ObjOk X.prog X.w (upd H x o) h' x o):Inv X pins σ (upd H x o) { s with heap:=h',toks:=t' }:=I.un (Un.write mu he k heo) (I.hok.write mu he k heo new)
theorem Inv.pins_of {pins':List (Addr×Obj)} (I:Inv X pins σ H s) (h:∀ p∈pins',s.heap.get? p.1=some p.2∧H p.1=none∧p.1≠X.env.locals∧p.1∉X.fs∧∀ v,p.2.data≠.cell v):Inv X pins' σ H s :=
 ⟨I.ok,I.os,I.bare,I.base,I.loc,I.cell,I.free,I.freeC,fun p hp=>(List.mem_append.mp hp).elim (fun z=>I.pin p (List.mem_append_left _ z)) (h p),I.hok,I.len⟩
theorem ZmC {N:List Str} (hN:N.Nodup) {i j:Nat} {x:Str} (a:N[i]?=some x) (b:N[j]?=some x):i=j:=by
 obtain ⟨h1,e1⟩:=List.getElem?_eq_some_iff.mp a
 obtain ⟨h2,e2⟩:=List.getElem?_eq_some_iff.mp b
 exact (List.getElem_inj hN).mp (e1.trans e2.symm)
theorem Zpq {M:Model} {A:Around} {E:Value→Shared→Prop} {i:Nat} {x:Str} {v:V} {u:Value} {Q:Unit→Shared→Prop} (I:Inv X pins σ H s) (hN:X.N.Nodup) (hi:X.N[i]?=some x) (hx:Loc X.env.scope x) (r:RelV v u)
  (h:∀ s',Inv X pins (σ.set i (some v)) H s'→(∃ a,Heap.SameBut a s.heap s'.heap∧(a=X.env.locals∨X.env.cells.lookup x=some a))→Q () s') (hf:X.fn x=true∨X.env.scope.names.lookup x=some .local:=by first | exact .inl rfl | exact .inr rfl | assumption):wpAny M A (storeName X.env x u) Q E s:=by
 obtain ⟨m,hn,hl⟩:=id I.loc
 have hcls:(X.env.scope.kind==.class||(X.env.scope.kind==.module&&X.env.locals != X.env.globals))=false:=by rw [I.ok.kind];rfl
 have hiσ:i < σ.length:=by rw [I.len];exact (List.getElem?_eq_some_iff.mp hi).1
 have cne:=I.cne
 have tracked:∀ {a:Addr} {h':Heap},(∃ o,s.heap.get? a=some o∧H a=none)→Heap.SameBut a s.heap h'→HOk X.prog X.w H h':=fun {a h'} ha hs b ob e=>by
  obtain ⟨_,_,hfree⟩:=ha
  refine (I.hok b ob e).stay (fun c w' hc q=>(hs.2 c ?_).trans q) (fun _ q=>q) fun _ _ q=>q
  rintro rfl
  rcases hc with rfl | hc
  ·rw [hfree] at e;cases e
  ·rw [hfree] at hc;cases hc
 rcases hx with hk | hk
 ·refine wpAny_storeName_local hk hn (fun h' hn' hs=>?_) hcls
  obtain ⟨oL,_,_,hoL,_⟩:=id hn
  refine h _ ⟨I.ok,I.os,I.bare,⟨fun b o e n hb hx=>?_,fun b o e n hb hx=>?_,I.base.free,fun b o e hx=>?_,I.base.tups,I.base.frzs,I.base.tbls⟩,⟨_,hn',fun j y v' e1 e2 e3=>?_⟩,fun y c e=>?_,I.free,I.freeC,fun p hp=>?_,tracked ⟨oL,hoL,I.free⟩ hs,by simpa using I.len⟩ ⟨_,hs,.inl rfl⟩
  ·exact (hs.2 b (Nat.ne_of_lt (Nat.lt_of_lt_of_le (Heap.lt_size e) I.ok.above))).trans (I.base.keep b o e n hb hx)
  ·obtain ⟨sl,e1⟩:=I.base.slot b o e n hb hx
   exact ⟨sl,(hs.2 b (Nat.ne_of_lt (Nat.lt_of_lt_of_le (Heap.lt_size e) I.ok.above))).trans e1⟩
  ·obtain ⟨o',e1⟩:=I.base.there b o e hx
   exact ⟨o',(hs.2 b (Nat.ne_of_lt (Nat.lt_of_lt_of_le (Heap.lt_size e) I.ok.above))).trans e1⟩
  ·by_cases hj:j=i
   ·subst hj
    rw [hi] at e1;cases e1
    rw [List.getElem?_set_self hiσ] at e2
    cases e2
    exact ⟨u,r,.inl ⟨hk,by simp⟩⟩
   ·rw [List.getElem?_set_ne (Ne.symm hj)] at e2
    obtain ⟨u',r',q⟩:=hl j y v' e1 e2 e3
    refine ⟨u',r',?_⟩
    rcases q with ⟨k,e⟩ | ⟨k,c,e,z⟩
    ·refine .inl ⟨k,?_⟩
     have:y≠x:=fun e=>hj (ZmC hN e1 (e▸hi))
     simp [this,e]
    ·exact .inr ⟨k,c,e,z.sameBut hs (cne y c e)⟩
  ·obtain ⟨w',z⟩:=I.cell y c e
   exact ⟨w',z.sameBut hs (cne y c e)⟩
  ·obtain ⟨e,n,ne,nf,d⟩:=I.pin p hp
   exact ⟨(hs.2 p.1 ne).trans e,n,ne,nf,d⟩
 ·have hfn:X.fn x=true:=by
   rcases hf with z | z
   ·exact z
   ·rw [z] at hk;cases hk
  obtain ⟨c,hc⟩:=I.ok.has x (.inl hk)
  obtain ⟨w',z⟩:=I.cell x c hc
  refine wpAny_storeName_cell I.ok.kind hk hc z (fun h' hc' hs=>?_)
  obtain ⟨oc,hoc,hocd⟩:=id z
  refine h { s with heap:=h' } ⟨I.ok,I.os,I.bare,⟨fun b o e n hb hx=>?_,fun b o e n hb hx=>?_,I.base.free,fun b o e hx=>?_,I.base.tups,I.base.frzs,I.base.tbls⟩,⟨m,hn.sameBut hs (Ne.symm (cne x c hc)),fun j y v' e1 e2 e3=>?_⟩,fun y c' e=>?_,I.free,I.freeC,fun p hp=>?_,tracked ⟨oc,hoc,I.freeC x c hc⟩ hs,by simpa using I.len⟩ ⟨c,hs,.inr hc⟩
  ·exact (hs.2 b (Nat.ne_of_lt (Nat.lt_of_lt_of_le (Heap.lt_size e) (I.ok.cab x c hfn hc)))).trans (I.base.keep b o e n hb hx)
  ·obtain ⟨sl,e1⟩:=I.base.slot b o e n hb hx
   exact ⟨sl,(hs.2 b (Nat.ne_of_lt (Nat.lt_of_lt_of_le (Heap.lt_size e) (I.ok.cab x c hfn hc)))).trans e1⟩
  ·obtain ⟨o',e1⟩:=I.base.there b o e hx
   exact ⟨o',(hs.2 b (Nat.ne_of_lt (Nat.lt_of_lt_of_le (Heap.lt_size e) (I.ok.cab x c hfn hc)))).trans e1⟩
  ·by_cases hj:j=i
   ·subst hj
    rw [hi] at e1;cases e1
    rw [List.getElem?_set_self hiσ] at e2
    cases e2
    exact ⟨u,r,.inr ⟨.inl hk,c,hc,hc'⟩⟩
   ·rw [List.getElem?_set_ne (Ne.symm hj)] at e2
    obtain ⟨u',r',q⟩:=hl j y v' e1 e2 e3
    refine ⟨u',r',?_⟩
    rcases q with q | ⟨k,c',e,z'⟩
    ·exact .inl q
    ·refine .inr ⟨k,c',e,z'.sameBut hs ?_⟩
     rintro rfl
     exact hj (ZmC hN e1 (I.ok.inj _ _ _ e hc▸hi))
  ·by_cases hcc:c'=c
   ·subst hcc;exact ⟨_,hc'⟩
   ·obtain ⟨w2,z2⟩:=I.cell y c' e
    exact ⟨w2,z2.sameBut hs hcc⟩
  ·obtain ⟨e,n,ne,nf,d⟩:=I.pin p hp
   refine ⟨(hs.2 p.1 ?_).trans e,n,ne,nf,d⟩
   intro q
   rw [q,hoc] at e
   have q':oc=p.2:=Option.some.inj e
   exact d w' (by rw [← q'];exact hocd)
theorem ZgU {M:Model} {A:Around} {E:Value→Shared→Prop} {i:Nat} {x:Str} {v:V} {u:Value} {Q:Unit→Shared→Prop} (I:Inv X pins σ H s) (hN:X.N.Nodup) (hi:X.N[i]?=some x) (hx:Loc X.env.scope x) (r:RelV v u)
  (h:∀ s',Inv X pins (σ.set i (some v)) H s'→Q () s') (hf:X.fn x=true∨X.env.scope.names.lookup x=some .local:=by first | exact .inl rfl | exact .inr rfl | assumption):wpAny M A (storeName X.env x u) Q E s :=
 Zpq I hN hi hx r (fun s' I' _=>h s' I') hf
theorem Inv.call' {s':Shared} {ch:List Addr} (I:Inv X pins σ H s) (ho:s'.os=s.os) (u:Un (frs X.stack) ch H H' s.heap s'.heap) (hok:HOk X.prog X.w H' s'.heap) (hg:AllBare s'.gens)
  (hch:∀ b∈ch,(b∈X.ex∨X.s₀.heap.objs.size≤b)∧b≠X.env.locals∧(∀ x c,X.env.cells.lookup x=some c→c≠b)∧∀ p∈X.pn++pins,p.1≠b):Inv X pins σ H' s':=by
 obtain ⟨h',g',d',t',o'⟩:=s'
 have e:o'=s.os:=ho
 subst e
 exact I.call (g':=g') (t':=t') (d':=d') u hok hg hch
end
abbrev XK:=Value→Option Addr→Hp→Prop
abbrev St:=List (Option V)
abbrev VK:=V→Hp→Prop
abbrev TE:=St→Hp→VK→Prop
abbrev TT:=St→Hp→(Bool→Hp→Prop)→Prop
abbrev TA:=St→Hp→(List V→Hp→Prop)→Prop
structure ZtZ where
 nx:St→Hp→Prop
 rt:VK
 bk:St→Hp→Prop:=fun _ _=>False
 ct:St→Hp→Prop:=fun _ _=>False
abbrev TS:=ZtZ→St→Hp→Prop
def EP (X:Cx) (pins:List (Addr×Obj)) (σ:St) (Q:VK) (u:Value) (s':Shared):Prop:=∃ v H',Inv X pins σ H' s'∧RelV v u∧Q v H'
def TP (X:Cx) (pins:List (Addr×Obj)) (σ:St) (Q:Bool→Hp→Prop) (b:Bool) (s':Shared):Prop:=∃ H',Inv X pins σ H' s'∧Q b H'
def AP (X:Cx) (pins:List (Addr×Obj)) (σ:St) (Q:List V→Hp→Prop) (us:List Value) (s':Shared):Prop:=∃ vs H',Inv X pins σ H' s'∧Vals vs us∧Q vs H'
def SP (X:Cx) (pins:List (Addr×Obj)) (D:ZtZ) (f:Flow) (s':Shared):Prop :=
 match f with
 | .next=>∃ σ' H',Inv X pins σ' H' s'∧D.nx σ' H'
 | .brk=>∃ σ' H',Inv X pins σ' H' s'∧D.bk σ' H'
 | .cont=>∃ σ' H',Inv X pins σ' H' s'∧D.ct σ' H'
 | .ret u=>∃ v σ' H',Inv X pins σ' H' s'∧RelV v u∧D.rt v H'
def PE (X:Cx) (e:Expr) (t:TE):Prop :=
 ∀ (pins:List (Addr×Obj)) (s:Shared) (σ:St) (H:Hp) (Q:VK),Inv X pins σ H s→t σ H Q→wpAny (model X.prog X.w) X.A (eval e X.env) (EP X pins σ Q) X.xe s
def PT (X:Cx) (e:Expr) (t:TT):Prop :=
 ∀ (pins:List (Addr×Obj)) (s:Shared) (σ:St) (H:Hp) (Q:Bool→Hp→Prop),Inv X pins σ H s→t σ H Q→wpAny (model X.prog X.w) X.A (isTrue e X.env (eval e X.env)) (TP X pins σ Q) X.xe s
def PW (X:Cx) (e:Expr) (t:TT):Prop :=
 ∀ (whole:Sem Value) (pins:List (Addr×Obj)) (s:Shared) (σ:St) (H:Hp) (Q:Bool→Hp→Prop),Inv X pins σ H s→t σ H Q→wpAny (model X.prog X.w) X.A (isTrue e X.env whole) (TP X pins σ Q) X.xe s
theorem PW.pt {X:Cx} {e:Expr} {t:TT} (h:PW X e t):PT X e t:=h _
def PA (X:Cx) (es:List Expr) (t:TA):Prop :=
 ∀ (pos:Pos) (pins:List (Addr×Obj)) (s:Shared) (σ:St) (H:Hp) (Q:List V→Hp→Prop),Inv X pins σ H s→t σ H Q→wpAny (model X.prog X.w) X.A (spliced (backTo pos (starEach es X.env))) (AP X pins σ Q) X.xe s
def PS (X:Cx) (st:Stmt) (t:TS):Prop :=
 ∀ (pins:List (Addr×Obj)) (s:Shared) (σ:St) (H:Hp) (D:ZtZ),Inv X pins σ H s→t D σ H→wpAny (model X.prog X.w) X.A (exec st X.env) (SP X pins D) X.xe s
def PSs (X:Cx) (st:List Stmt) (t:TS):Prop :=
 ∀ (pins:List (Addr×Obj)) (s:Shared) (σ:St) (H:Hp) (D:ZtZ),Inv X pins σ H s→t D σ H→wpAny (model X.prog X.w) X.A (execs st X.env) (SP X pins D) X.xe s
theorem thn {α:Type} {t:Sem α} {Q Q':α→Shared→Prop} {M:Model} {A:Around} {E:Value→Shared→Prop} {s:Shared} (h:wpAny M A t Q E s) (hQ:∀ a s,Q a s→Q' a s):wpAny M A t Q' E s:=wpAny_mono h hQ fun _ _ x=>x
end L2
namespace L2
open PySem PySem.Spec PyProof.Rows
section
variable {X:Cx}
theorem bin {a b:Expr} {ta tb:TE} (ha:PE X a ta) (hb:PE X b tb) {pins:List (Addr×Obj)} {s:Shared} {σ:St} {H:Hp} {R:V→V→Hp→Prop} (I:Inv X pins σ H s) (h:ta σ H fun x H1=>tb σ H1 fun y H2=>R x y H2)
  {α:Type} {Q:α→Shared→Prop} {f:Value→Value→Sem α}
  (hf:∀ v u s2 x y H2,Inv X pins σ H2 s2→RelV x v→RelV y u→R x y H2→wpAny (model X.prog X.w) X.A (f v u) Q X.xe s2) :
  wpAny (model X.prog X.w) X.A (eval a X.env) (fun v s₁=>wpAny (model X.prog X.w) X.A (eval b X.env) (fun u s₂=>wpAny (model X.prog X.w) X.A (f v u) Q X.xe s₂) X.xe s₁) X.xe s:=by
 refine thn (ha pins s σ H _ I h) fun v s1 zz1=>?_
 obtain ⟨x,H1,I1,r1,q1⟩:=zz1
 refine thn (hb pins s1 σ H1 _ I1 q1) fun u s2 zz2=>?_
 obtain ⟨y,H2,I2,r2,q2⟩:=zz2
 exact hf v u s2 x y H2 I2 r1 r2 q2
def Zxz (i:Nat):TE:=fun σ H Q=>∃ v,σ[i]?=some (some v)∧Q v H
def tC (v:V):TE:=fun _ H Q=>Q v H
theorem ZrU {i:Nat} {x:Str} {pos:Pos} (hN:X.N[i]?=some x) (hv:Vis X.env.scope x) (hd:(x==("__debug__":Str))=false:=by decide) (hcd:(x==("__classdict__":Str))=false:=by decide):PE X (.Name x pos) (Zxz i):=by
 intro pins s σ H Q I h
 obtain ⟨v,e,h⟩:=h
 obtain ⟨m,hn,hl⟩:=I.loc
 obtain ⟨u,r,l⟩:=hl i x v hN e hv
 have fin:EP X pins σ Q u s:=⟨v,H,I,r,h⟩
 rcases l with ⟨hk,hm⟩ | ⟨hk,c,hc,hcell⟩
 ·exact wpAny_Name (wpAny_loadName_local I.ok.kind hk hn hm fin) hd
 ·rcases hk with hk | hk
  ·exact wpAny_Name (wpAny_loadName_cell I.ok.kind hk hc hcell fin) hd
  ·exact wpAny_Name (wpAny_loadName_free I.ok.kind hk hc hcell fin hcd) hd
theorem ZuV {i j pos}:PE X (.Constant (.int i) j pos) (tC (.int i)):=fun _ _ _ H _ I h=>wpAny_Constant_int ⟨.int i,H,I.tok _,⟨_,rfl⟩,h⟩
theorem Zw5 {b j pos}:PE X (.Constant (.bool b) j pos) (tC (.bl b)):=fun _ _ _ H _ I h=>Constant_bool ⟨.bl b,H,I,rfl,h⟩
theorem ZuZ {j pos}:PE X (.Constant .none j pos) (tC .non):=fun _ _ _ H _ I h=>Constant_none ⟨.non,H,I,rfl,h⟩
theorem Zum {x j pos}:PE X (.Constant (.str x) j pos) (tC (.str x)):=fun _ _ _ H _ I h=>Calls.Constant_str ⟨.str x,H,I.tok _,⟨_,rfl⟩,h⟩
def Gl (X:Cx) (x:Str):Prop:=X.env.kindOf x=some .globalImplicit
theorem ZlD {E:Value→Shared→Prop} {pins:List (Addr×Obj)} {s:Shared} {σ:St} {H:Hp} {x:Str} {u:Value} {pos:Pos} {Q:Value→Shared→Prop} (I:Inv X pins σ H s) (hg:Gl X x) (hm:X.mg x=some u) (h:Q u s)
  (hd:(x==("__debug__":Str))=false:=by decide):wpAny (model X.prog X.w) X.A (eval (.Name x pos) X.env) Q E s :=
 Calls.Name_function_global I.ok.kind hg (Calls.loadGlobal_global (by rw [I.ok.glob];exact I.mod.glob.keeps I.bk) hm h) hd
theorem Zdp {E:Value→Shared→Prop} {pins:List (Addr×Obj)} {s:Shared} {σ:St} {H:Hp} {x:Str} {u:Value} {pos:Pos} {Q:Value→Shared→Prop} (I:Inv X pins σ H s) (hg:Gl X x) (hm:X.mg x=none) (hv:bootBuiltins x=some u) (h:Q u s)
  (hn:x≠"__name__":=by decide) (hd:(x==("__debug__":Str))=false:=by decide):wpAny (model X.prog X.w) X.A (eval (.Name x pos) X.env) Q E s:=by
 obtain ⟨mb,h1,h2⟩:=I.mod.blt
 exact Calls.Name_function_global I.ok.kind hg (Calls.loadGlobal_builtin (by rw [I.ok.glob];exact I.mod.glob.keeps I.bk) hm (by rw [I.ok.blt];exact h1.keeps I.bk) ((h2 x hn).trans hv) h) hd
theorem ZoH {x:Str} {v:V} {u:Value} {pos:Pos} (hg:Gl X x) (hm:X.mg x=some u) (r:RelV v u) (hd:(x==("__debug__":Str))=false:=by decide):PE X (.Name x pos) (tC v) :=
 fun _ _ _ H _ I h=>ZlD I hg hm ⟨v,H,I,r,h⟩ hd
theorem ZsI {x:Str} {v:V} {u:Value} {pos:Pos} (hg:Gl X x) (hm:X.mg x=none) (hv:bootBuiltins x=some u) (r:RelV v u) (hn:x≠"__name__":=by decide) (hd:(x==("__debug__":Str))=false:=by decide):PE X (.Name x pos) (tC v) :=
 fun _ _ _ H _ I h=>Zdp I hg hm hv ⟨v,H,I,r,h⟩ hn hd
def t2I (ta tb:TE) (k:Int→Int→Hp→Prop):St→Hp→Prop:=fun σ H=>ta σ H fun x H1=>tb σ H1 fun y H2=>∃ i j,x=.int i∧y=.int j∧k i j H2
def ZxS (ta tb:TE):TE:=fun σ H Q=>t2I ta tb (fun i j H2=>Q (.int (i - j)) H2) σ H
variable {a b:Expr} {ta tb:TE} {pos:Pos}
theorem Zbi (ha:PE X a ta) (hb:PE X b tb):PE X (.BinOp a .Sub b pos) (ZxS ta tb):=by
 intro pins s σ H Q I h
 refine wpAny_BinOp (bin ha hb I h fun v u s2 x y H2 I2 rx ry q=>?_)
 obtain ⟨i,j,rfl,rfl,q⟩:=q
 obtain ⟨t,rfl⟩:=rx
 obtain ⟨t',rfl⟩:=ry
 exact sub_int ⟨.int _,H2,I2.tok _,⟨_,rfl⟩,q⟩
variable {tA tB':TT} {Zck:List Expr}
def ZxX (t u:TT):TT:=fun σ H Q=>t σ H fun c H1=>if c=true then u σ H1 Q else Q false H1
def tOr (t u:TT):TT:=fun σ H Q=>t σ H fun c H1=>if c=true then Q true H1 else u σ H1 Q
def Zx4 (t:TT):TT:=fun σ H Q=>t σ H fun c H1=>Q (!c) H1
theorem Zs9 (ha:PT X a tA):PW X (.BoolOp .And [a] pos) tA:=by
 intro wh pins s σ H Q I h
 refine isTrue_and (thn (ha pins s σ H Q I h) fun c s1 e=>?_)
 cases c with
 | true=>exact isTrue_and_nil e
 | false=>exact e
theorem Zt0 (ha:PT X a tA):PW X (.BoolOp .Or [a] pos) tA:=by
 intro wh pins s σ H Q I h
 refine isTrue_or (thn (ha pins s σ H Q I h) fun c s1 e=>?_)
 cases c with
 | false=>exact isTrue_or_nil e
 | true=>exact e
theorem Zv0 (ha:PT X a tA) (hb:PW X (.BoolOp .And (b::Zck) pos) tB'):PW X (.BoolOp .And (a::b::Zck) pos) (ZxX tA tB'):=by
 intro wh pins s σ H Q I h
 refine isTrue_and (thn (ha pins s σ H _ I h) fun c s1 zz7=>?_)
 obtain ⟨H1,I1,q1⟩:=zz7
 cases c with
 | true=>exact hb wh pins s1 σ H1 Q I1 q1
 | false=>exact ⟨H1,I1,q1⟩
theorem ZwC (ha:PT X a tA) (hb:PW X (.BoolOp .Or (b::Zck) pos) tB'):PW X (.BoolOp .Or (a::b::Zck) pos) (tOr tA tB'):=by
 intro wh pins s σ H Q I h
 refine isTrue_or (thn (ha pins s σ H _ I h) fun c s1 zz8=>?_)
 obtain ⟨H1,I1,q1⟩:=zz8
 cases c with
 | true=>exact ⟨H1,I1,q1⟩
 | false=>exact hb wh pins s1 σ H1 Q I1 q1
theorem Zvo (ha:PT X a tA):PT X (.UnaryOp .Not a pos) (Zx4 tA):=by
 intro pins s σ H Q I h
 exact isTrue_not (ha pins s σ H (fun c H1=>Q (!c) H1) I h)
def Zxg (ta tb:TE):TE:=fun σ H Q=>ta σ H fun x H1=>∃ c,x=.bl c∧if c=true then tb σ H1 Q else Q (.bl false) H1
def Zyg (ta tb:TE):TE:=fun σ H Q=>ta σ H fun x H1=>∃ c,x=.bl c∧if c=true then Q (.bl true) H1 else tb σ H1 Q
theorem Zvc {op} {t:TE} (h:PE X a t):PE X (.BoolOp op [a] pos) t:=fun pins s σ H Q I hw=>BoolOp_one (h pins s σ H Q I hw)
theorem Zvs (ha:PE X a ta) (hb:PE X (.BoolOp .And (b::Zck) pos) tb):PE X (.BoolOp .And (a::b::Zck) pos) (Zxg ta tb):=by
 intro pins s σ H Q I h
 refine BoolOp_and (thn (ha pins s σ H _ I h) fun v s1 zz9=>?_)
 obtain ⟨x,H1,I1,r1,q1⟩:=zz9
 obtain ⟨c,rfl,q1⟩:=q1
 cases r1
 refine wpAny_truthy_bool ?_
 cases c with
 | true=>exact hb pins s1 σ H1 Q I1 q1
 | false=>exact ⟨.bl false,H1,I1,rfl,q1⟩
theorem ZwN (ha:PE X a ta) (hb:PE X (.BoolOp .Or (b::Zck) pos) tb):PE X (.BoolOp .Or (a::b::Zck) pos) (Zyg ta tb):=by
 intro pins s σ H Q I h
 refine BoolOp_or (thn (ha pins s σ H _ I h) fun v s1 zz10=>?_)
 obtain ⟨x,H1,I1,r1,q1⟩:=zz10
 obtain ⟨c,rfl,q1⟩:=q1
 cases r1
 refine wpAny_truthy_bool ?_
 cases c with
 | false=>exact hb pins s1 σ H1 Q I1 q1
 | true=>exact ⟨.bl true,H1,I1,rfl,q1⟩
def tIf (t:TT) (ta tb:TE):TE:=fun σ H Q=>t σ H fun c H1=>if c=true then ta σ H1 Q else tb σ H1 Q
theorem Zp3 {c:Expr} (hc:PT X c tA) (ha:PE X a ta) (hb:PE X b tb):PE X (.IfExp c a b pos) (tIf tA ta tb):=by
 intro pins s σ H Q I h
 refine wpAny_IfExp (thn (hc pins s σ H _ I h) fun d s1 zz12=>?_)
 obtain ⟨H1,I1,q1⟩:=zz12
 cases d with
 | true=>exact ha pins s1 σ H1 Q I1 q1
 | false=>exact hb pins s1 σ H1 Q I1 q1
end
end L2
namespace L2
open PySem PySem.Spec PyProof.Rows
def SqL (K:PySem.W.Frag) (H:Hp) (a:Addr) (xs:List V):Prop :=
 Rd H a (.lst xs) ∨
  ∃ (o:Obj) (its:Array Value) (n:Nat),K.lookup a=some o∧o.cls=.type "list"∧o.dict=none∧o.data=.seq its n∧its.size≤sizeLine∧Vals xs its.toList
def SqT (K:PySem.W.Frag) (H:Hp) (a:Addr) (xs:List V):Prop :=
 Rd H a (.tup xs) ∨
  ∃ (o:Obj) (its:Array Value) (n:Nat),K.lookup a=some o∧o.cls=.type "tuple"∧o.data=.seq its n∧its.size≤sizeLine∧Vals xs its.toList
def Zx9:Value→Option V
 | .none=>some .non
 | .bool b=>some (.bl b)
 | .int i _=>some (.int i)
 | .str x _=>some (.str x)
 | .bytes b _=>some (.byt b)
 | .float b _=>some (.flt b)
 | .ref a=>some (.ref a)
 | .type n=>some (.ty n)
 | _=>none
theorem RelV.abs {x:V} {u:Value} (r:RelV x u):Zx9 u=some x:=by
 cases x with
 | non=>cases r;rfl
 | bl _=>cases r;rfl
 | int _=>obtain ⟨t,rfl⟩:=r;rfl
 | str _=>obtain ⟨t,rfl⟩:=r;rfl
 | byt _=>obtain ⟨t,rfl⟩:=r;rfl
 | flt _=>obtain ⟨t,rfl⟩:=r;rfl
 | ref _=>cases r;rfl
 | ty _=>cases r;rfl
theorem RelV.inj {x y:V} {u:Value} (r:RelV x u) (q:RelV y u):x=y:=Option.some.inj (r.abs.symm.trans q.abs)
theorem Vals.inj:∀ {xs ys:List V} {us:List Value},Vals xs us→Vals ys us→xs=ys
 | _,_,_,.nil,.nil=>rfl
 | _,_,_,.cons r t,.cons r' t'=>by rw [r.inj r',Vals.inj t t']
section
variable {X:Cx} {pins:List (Addr×Obj)} {σ:St} {H:Hp} {s:Shared} {a:Addr} {xs ys:List V}
theorem SqL.of {K:PySem.W.Frag} (h:H a=some (.lst xs)):SqL K H a xs:=.inl (.inl h)
theorem SqT.of {K:PySem.W.Frag} (h:H a=some (.tup xs)):SqT K H a xs:=.inl (.inl h)
theorem Inv.list (I:Inv X pins σ H s) (h:SqL X.K H a xs):∃ its:List Value,Vals xs its∧PlainL s.heap a its.toArray∧xs.length≤sizeLine:=by
 rcases h with h | ⟨o,its,n,hk,hc,hd,hs,hz,r⟩
 ·obtain ⟨z,its,n,r,e⟩:=h.ok I.hok
  exact ⟨its,r,⟨_,n,e,rfl,rfl,rfl⟩,z⟩
 ·refine ⟨its.toList,r,⟨o,n,I.kIn a o hk,hc,hd,by simpa using hs⟩,?_⟩
  have e:=r.length
  simp only [Array.length_toList] at e
  omega
theorem Inv.tuple (I:Inv X pins σ H s) (h:SqT X.K H a xs):∃ its:List Value,Vals xs its∧IsTup s.heap a its.toArray∧xs.length≤sizeLine:=by
 rcases h with h | ⟨o,its,n,hk,hc,hs,hz,r⟩
 ·obtain ⟨z,its,r,p⟩:=h.ok I.hok
  exact ⟨its,r,p,z⟩
 ·refine ⟨its.toList,r,⟨o,I.kIn a o hk,hc,n,by simpa using hs⟩,?_⟩
  have e:=r.length
  simp only [Array.length_toList] at e
  omega
theorem Inv.list_inj (I:Inv X pins σ H s) (h:SqL X.K H a xs) (h':SqL X.K H a ys):xs=ys:=by
 obtain ⟨its,r,⟨o,n,e,_,_,d⟩,_⟩:=I.list h
 obtain ⟨its',r',⟨o',n',e',_,_,d'⟩,_⟩:=I.list h'
 rw [e] at e';cases e'
 rw [d] at d'
 injection d' with d1 _
 have:its=its':=by simpa using congrArg Array.toList d1
 subst this
 exact r.inj r'
theorem Inv.tuple_inj (I:Inv X pins σ H s) (h:SqT X.K H a xs) (h':SqT X.K H a ys):xs=ys:=by
 obtain ⟨its,r,⟨o,e,_,n,d⟩,_⟩:=I.tuple h
 obtain ⟨its',r',⟨o',e',_,n',d'⟩,_⟩:=I.tuple h'
 rw [e] at e';cases e'
 rw [d] at d'
 injection d' with d1 _
 have:its=its':=by simpa using congrArg Array.toList d1
 subst this
 exact r.inj r'
end
abbrev Cx.wish (X:Cx) (E:Value→Shared→Prop):Cx:={ X with xe:=E }
abbrev Cx.nox (X:Cx):Cx:=X.wish fun _ _=>False
theorem Cx.Ok.wish {X:Cx} (ok:X.Ok) (E:Value→Shared→Prop):(X.wish E).Ok :=
 ⟨ok.mod,ok.kind,ok.glob,ok.blt,ok.above,ok.inj,ok.has,ok.cab,ok.hd,ok.frames,ok.stk,ok.exf,ok.bs,ok.bsz,ok.noex,ok.exfs,ok.funs,ok.frf⟩
theorem Cx.Ok.unwish {X:Cx} {E:Value→Shared→Prop} (ok:(X.wish E).Ok):X.Ok :=
 ⟨ok.mod,ok.kind,ok.glob,ok.blt,ok.above,ok.inj,ok.has,ok.cab,ok.hd,ok.frames,ok.stk,ok.exf,ok.bs,ok.bsz,ok.noex,ok.exfs,ok.funs,ok.frf⟩
section
variable {X:Cx} {pins:List (Addr×Obj)} {σ:St} {H:Hp} {s:Shared} {E:Value→Shared→Prop}
theorem Inv.wish (I:Inv X pins σ H s) (E:Value→Shared→Prop):Inv (X.wish E) pins σ H s:=⟨I.ok.wish E,I.os,I.bare,I.base,I.loc,I.cell,I.free,I.freeC,I.pin,I.hok,I.len⟩
theorem Inv.unwish (I:Inv (X.wish E) pins σ H s):Inv X pins σ H s:=⟨I.ok.unwish,I.os,I.bare,I.base,I.loc,I.cell,I.free,I.freeC,I.pin,I.hok,I.len⟩
theorem SP.unwish {D:ZtZ} {f:Flow} {s':Shared} (h:SP (X.wish E) pins D f s'):SP X pins D f s':=by
 cases f with
 | next=>obtain ⟨σ',H',I,q⟩:=h;exact ⟨σ',H',I.unwish,q⟩
 | brk=>obtain ⟨σ',H',I,q⟩:=h;exact ⟨σ',H',I.unwish,q⟩
 | cont=>obtain ⟨σ',H',I,q⟩:=h;exact ⟨σ',H',I.unwish,q⟩
 | ret u=>obtain ⟨v,σ',H',I,r,q⟩:=h;exact ⟨v,σ',H',I.unwish,r,q⟩
theorem PE.nox {e:Expr} {t:TE} (h:PE X.nox e t):PE X e t:=fun pins s σ H Q I hw =>
 wpAny_mono (h pins s σ H Q (I.wish _) hw) ((by rintro _ _ ⟨v,H',I',r,q⟩;exact ⟨v,H',I'.unwish,r,q⟩)) fun _ _ z=>False.elim z
theorem PT.nox {e:Expr} {t:TT} (h:PT X.nox e t):PT X e t:=fun pins s σ H Q I hw =>
 wpAny_mono (h pins s σ H Q (I.wish _) hw) ((by rintro _ _ ⟨H',I',q⟩;exact ⟨H',I'.unwish,q⟩)) fun _ _ z=>False.elim z
theorem PSs.nox {st:List Stmt} {t:TS} (h:PSs X.nox st t):PSs X st t:=fun pins s σ H D I hw =>
 wpAny_mono (h pins s σ H D (I.wish _) hw) (fun _ _ q=>q.unwish) fun _ _ z=>False.elim z
end
section
variable {X:Cx} {st:Stmt} {Zck:List Stmt} {t u:TS} {e:Expr} {te:TE} {pos:Pos}
def Zw6:TS:=fun D σ H=>D.nx σ H
def ZxZ (t u:TS):TS:=fun D σ H=>t { D with nx:=u D } σ H
theorem ZtM:PSs X [] Zw6:=fun _ _ σ H _ I h=>wpAny_execs_nil ⟨σ,H,I,h⟩
theorem Zp0 (h1:PS X st t) (h2:PSs X Zck u):PSs X (st::Zck) (ZxZ t u):=by
 intro pins s σ H D I h
 refine wpAny_execs_cons (thn (h1 pins s σ H { D with nx:=u D } I h) fun f s1 q=>?_)
 cases f with
 | next =>
  obtain ⟨σ',H',I',q⟩:=q
  exact h2 pins s1 σ' H' D I' q
 | ret v=>exact q
 | brk=>exact q
 | cont=>exact q
theorem ZsX (h1:PS X st t):PSs X [st] t:=by
 intro pins s σ H D I h
 refine wpAny_execs_cons (thn (h1 pins s σ H D I h) fun f s1 q=>?_)
 cases f with
 | next=>exact wpAny_execs_nil q
 | ret v=>exact q
 | brk=>exact q
 | cont=>exact q
theorem Inv.quiet {pins:List (Addr×Obj)} {σ:St} {H:Hp} {s:Shared} (I:Inv X pins σ H s):interactive X.env=false:=by simp [interactive,I.ok.kind]
def Zxv (te:TE):TS:=fun D σ H=>te σ H fun _ H1=>D.nx σ H1
theorem Ztu (he:PE X e te) (hs:swapsWith e none pos.line X.env=pure false:=by rfl):PS X (.Expr e pos) (Zxv te):=by
 intro pins s σ H D I h
 exact wpAny_Expr_any (thn (he pins s σ H _ I h) (by rintro v s1 ⟨x,H1,I1,r1,q1⟩;exact ⟨σ,H1,I1,q1⟩)) I.quiet hs
def Zx0 (te:TE):TS:=fun D σ H=>te σ H D.rt
theorem Zv1 (he:PE X e te):PS X (.Return (some e) pos) (Zx0 te):=by
 intro pins s σ H D I h
 exact wpAny_Return_some (thn (he pins s σ H _ I h) (by rintro v s1 ⟨x,H1,I1,r1,q1⟩;exact ⟨x,σ,H1,I1,r1,q1⟩))
def Zx6 (c:TT) (t u:TS):TS:=fun D σ H=>c σ H fun b H1=>if b=true then t D σ H1 else u D σ H1
theorem ZwS {c:Expr} {a b:List Stmt} {tc:TT} (hc:PT X c tc) (ha:PSs X a t) (hb:PSs X b u):PS X (.If c a b pos) (Zx6 tc t u):=by
 intro pins s σ H D I h
 refine wpAny_If (thn (hc pins s σ H _ I h) fun d s1 zz13=>?_)
 obtain ⟨H1,I1,q1⟩:=zz13
 cases d with
 | true=>exact ha pins s1 σ H1 D I1 q1
 | false=>exact hb pins s1 σ H1 D I1 q1
end
abbrev TG:=V→St→Hp→(St→Hp→Prop)→Prop
abbrev TGs:=List V→St→Hp→(St→Hp→Prop)→Prop
def PG (X:Cx) (target:Expr) (t:TG):Prop :=
 ∀ (pins:List (Addr×Obj)) (s:Shared) (σ:St) (H:Hp) (v:V) (u:Value) (Q:St→Hp→Prop),Inv X pins σ H s→RelV v u→t v σ H Q →
  wpAny (model X.prog X.w) X.A (assign target X.env u) (fun _ s'=>∃ σ' H',Inv X pins σ' H' s'∧Q σ' H') X.xe s
def PGs (X:Cx) (ts:List Expr) (t:TGs):Prop :=
 ∀ (pins:List (Addr×Obj)) (s:Shared) (σ:St) (H:Hp) (vs:List V) (us:List Value) (Q:St→Hp→Prop),Inv X pins σ H s→Vals vs us→t vs σ H Q →
  wpAny (model X.prog X.w) X.A (assignInOrder ((assignEach ts X.env).map (·.2)) us) (fun _ s'=>∃ σ' H',Inv X pins σ' H' s'∧Q σ' H') X.xe s
abbrev ZwO:=V→V→V→Hp→(Hp→Prop)→Prop
def Zxy (X:Cx) (t:ZwO):Prop :=
 ∀ (pins:List (Addr×Obj)) (s:Shared) (σ:St) (H:Hp) (o i v:V) (ov iv u:Value) (Q:Hp→Prop),Inv X pins σ H s→RelV o ov→RelV i iv→RelV v u→t o i v H Q →
  wpAny (model X.prog X.w) X.A (setItem ov iv u) (fun _ s'=>∃ H',Inv X pins σ H' s'∧Q H') X.xe s
abbrev TIp:=V→V→Hp→VK→Prop
def PIp (X:Cx) (op:Operator) (t:TIp):Prop :=
 ∀ (pins:List (Addr×Obj)) (s:Shared) (σ:St) (H:Hp) (x y:V) (v u:Value) (Q:VK),Inv X pins σ H s→RelV x v→RelV y u→t x y H Q →
  wpAny (model X.prog X.w) X.A (inplaceOp op v u) (EP X pins σ Q) X.xe s
section
variable {X:Cx} {pos:Pos}
def Zgf (i:Nat):TG:=fun v σ H Q=>Q (σ.set i (some v)) H
theorem ZcF {i:Nat} {x:Str} (hN:X.N.Nodup) (hi:X.N[i]?=some x) (hx:Loc X.env.scope x) (hf:X.fn x=true∨X.env.scope.names.lookup x=some .local:=by first | exact .inl rfl | exact .inr rfl | assumption):PG X (.Name x pos) (Zgf i):=by
 intro pins s σ H v u Q I r h
 exact wpAny_assign_Name (ZgU I hN hi hx r (fun s' I'=>⟨_,H,I',h⟩) hf)
def Zam:TGs:=fun vs σ H Q=>vs=[]∧Q σ H
def Zab (t:TG) (u:TGs):TGs:=fun vs σ H Q=>∃ v r,vs=v::r∧t v σ H fun σ' H'=>u r σ' H' Q
theorem Zjh:PGs X [] Zam:=by
 intro pins s σ H vs us Q I r h
 obtain ⟨e,h⟩:=h
 subst e
 cases r
 exact assignInOrder_nil ⟨σ,H,I,h⟩
theorem ZcO {e:Expr} {es:List Expr} {t:TG} {u:TGs} (h1:PG X e t) (h2:PGs X es u)
  (hs:(assignEach (e::es) X.env).map (·.2)=assign e X.env::(assignEach es X.env).map (·.2):=by rfl):PGs X (e::es) (Zab t u):=by
 intro pins s σ H vs us Q I r h
 obtain ⟨v,vr,e1,h⟩:=h
 subst e1
 cases r with
 | cons r rr =>
  rw [hs]
  refine assignInOrder_cons (thn (h1 pins s σ H _ _ _ I r h) fun _ s1 zz14=>?_)
  obtain ⟨σ1,H1,I1,q1⟩:=zz14
  exact h2 pins s1 σ1 H1 _ _ Q I1 rr q1
def Zbb (K:PySem.W.Frag) (n:Nat) (t:TGs):TG:=fun v σ H Q=>∃ a xs,v=.ref a∧SqT K H a xs∧xs.length=n∧t xs σ H Q
theorem ZmF {es:List Expr} {k:Nat} {t:TGs} {n:Nat} (hc:X.calm=true) (h:PGs X es t)
  (hn:(assignEach es X.env).length=n:=by rfl) (hst:(assignEach es X.env).findIdx? (·.1)=none:=by rfl):PG X (.Tuple es k pos) (Zbb X.K n t):=by
 intro pins s σ H v u Q I r hw
 obtain ⟨a,xs,e1,hq,hl,hw⟩:=hw
 subst e1
 cases r
 obtain ⟨its,rv,ht,hz⟩:=I.tuple hq
 refine assign_Tuple_tuple (I.ok.hd hc) ht (by simp [hn,← hl,rv.length]) hst fun h' hx=>?_
 have I1:Inv X pins σ H { s with heap:=h' }:=I.kept (t':=s.toks) fun b o e=>hx b o (Nat.ne_of_lt (Heap.lt_size e)) e
 exact h pins _ σ H xs _ Q I1 (by simpa using rv) hw
def ZxW (to ti:TE) (t:ZwO):TG:=fun v σ H Q=>to σ H fun o H1=>ti σ H1 fun i H2=>t o i v H2 fun H3=>Q σ H3
theorem ZuW {o i:Expr} {to ti:TE} {t:ZwO} (ho:PE X o to) (hi:PE X i ti) (hs:Zxy X t)
  (ha:∀ v,assign (.Subscript o i pos) X.env v=(do
   let ov ← holding [v] (eval o X.env)
   let iv ← holding [v,ov] (eval i X.env)
   standAt pos
   holding [v,ov,iv] (setItem ov iv v)
   release [v,ov,iv] []):=by intro _;rfl):PG X (.Subscript o i pos) (ZxW to ti t):=by
 intro pins s σ H v u Q I r h
 rw [ha]
 refine wpAny_bind (wpAny_holding (thn (ho pins s σ H _ I h) fun ov s1 zz15=>?_))
 obtain ⟨x,H1,I1,r1,q1⟩:=zz15
 refine wpAny_bind (wpAny_holding (thn (hi pins s1 σ H1 _ I1 q1) fun iv s2 zz16=>?_))
 obtain ⟨y,H2,I2,r2,q2⟩:=zz16
 refine wpAny_bind (wpAny_standAt (wpAny_bind (wpAny_holding (thn (hs pins s2 σ H2 x y v ov iv u _ I2 r1 r2 r q2) fun _ s3 zz17=>?_))))
 obtain ⟨H3,I3,q3⟩:=zz17
 exact wpAny_release ⟨σ,H3,I3,q3⟩
def ZwR (te:TE) (g:TG):TS:=fun D σ H=>te σ H fun x H1=>g x σ H1 D.nx
theorem Zvy {tg e:Expr} {te:TE} {g:TG} (he:PE X e te) (hg:PG X tg g) (hs:swapsWithSole [tg] e pos.line X.env=pure false:=by rfl) (hw:swappedStores [tg] e X.env=pure none:=by rfl)
  (h1:(assignEach [tg] X.env).map (·.2)=[assign tg X.env]:=by rfl):PS X (.Assign [tg] e pos) (ZwR te g):=by
 intro pins s σ H D I h
 refine wpAny_Assign_stores (thn (he pins s σ H _ I h) fun v s1 zz18=>?_) hs hw
 obtain ⟨x,H1,I1,r1,q1⟩:=zz18
 rw [h1]
 exact thn (hg pins s1 σ H1 x v _ I1 r1 q1) fun _ s2 q=>q
theorem ZuJ {i:Nat} {x:Str} {e:Expr} {te:TE} {pos':Pos} (hN:X.N.Nodup) (hi:X.N[i]?=some x) (hx:Loc X.env.scope x) (he:PE X e te) (hs:swapsWith e (some (.Name x pos')) pos.line X.env=pure false:=by rfl) (hf:X.fn x=true∨X.env.scope.names.lookup x=some .local:=by first | exact .inl rfl | exact .inr rfl | assumption) :
  PS X (.Assign [.Name x pos'] e pos) (ZwR te (Zgf i)):=by
 intro pins s σ H D I h
 refine wpAny_Assign_Name (thn (he pins s σ H _ I h) fun v s1 zz19=>?_) hs
 obtain ⟨y,H1,I1,r1,q1⟩:=zz19
 exact ZgU I1 hN hi hx r1 (fun s2 I2=>⟨_,H1,I2,q1⟩) hf
def Zye (i:Nat) (te:TE) (ti:TIp):TS:=fun D σ H=>∃ x,σ[i]?=some (some x)∧te σ H fun y H1=>ti x y H1 fun z H2=>D.nx (σ.set i (some z)) H2
theorem ZvO {i:Nat} {x:Str} {e:Expr} {te:TE} {op:Operator} {ti:TIp} {pos':Pos} (hN:X.N.Nodup) (hi:X.N[i]?=some x) (hx:Loc X.env.scope x) (he:PE X e te) (ho:PIp X op ti) (hf:X.fn x=true∨X.env.scope.names.lookup x=some .local:=by first | exact .inl rfl | exact .inr rfl | assumption) :
  PS X (.AugAssign (.Name x pos') op e pos) (Zye i te ti):=by
 intro pins s σ H D I h
 obtain ⟨v,e1,h⟩:=h
 obtain ⟨m,hn,hl⟩:=I.loc
 have vis:Vis X.env.scope x:=by rcases hx with k | k;exact .inl k;exact .inr (.inl k)
 obtain ⟨u,r,l⟩:=hl i x v hi e1 vis
 refine wpAny_AugAssign_Name ?_
 have go:wpAny (model X.prog X.w) X.A (eval e X.env) (fun w s₂=>wpAny (model X.prog X.w) X.A (inplaceOp op u w) (fun r s₃=>wpAny (model X.prog X.w) X.A (storeName X.env x r) (fun _=>SP X pins D .next) X.xe s₃) X.xe s₂) X.xe s:=by
  refine thn (he pins s σ H _ I h) fun w s1 zz21=>?_
  obtain ⟨y,H1,I1,r1,q1⟩:=zz21
  refine thn (ho pins s1 σ H1 v y u w _ I1 r r1 q1) fun z s2 zz22=>?_
  obtain ⟨zv,H2,I2,r2,q2⟩:=zz22
  exact ZgU I2 hN hi hx r2 (fun s3 I3=>⟨_,H2,I3,q2⟩) hf
 rcases l with ⟨hk,hm⟩ | ⟨hk,c,hc,hcell⟩
 ·exact wpAny_loadName_local I.ok.kind hk hn hm go
 ·rcases hk with hk | hk
  ·exact wpAny_loadName_cell I.ok.kind hk hc hcell go
  ·rcases hx with k | k
   ·have:X.env.scope.names.lookup x=some .free:=hk
    rw [k] at this;cases this
   ·have:X.env.scope.names.lookup x=some .free:=hk
    rw [k] at this;cases this
end
section
variable {X:Cx} {pos:Pos}
def Zwj (c:TT) (tb:TS):TS:=fun D σ H=>∃ W:Nat→St→Hp→Prop,(∃ m,W m σ H)∧∀ m σ H,W m σ H →
 c σ H fun b H1=>if b=true then ∃ N:St→Hp→Prop,(∀ σ' H',N σ' H'→∃ m',m' < m∧W m' σ' H')∧tb { D with nx:=N,ct:=N,bk:=D.nx } σ H1 else D.nx σ H1
theorem Zrb {c:Expr} {body:List Stmt} {tc:TT} {tb:TS} (hp:PassesOwn (model X.prog X.w) X.A X.env X.xe) (hc:PT X c tc) (hb:PSs X body tb):PS X (.While c body [] pos) (Zwj tc tb):=by
 intro pins s σ H D I h
 obtain ⟨W,⟨m0,w0⟩,turn⟩:=h
 refine wpAny_While (codeAny_whileLoop (fun n s'=>∃ σ' H',Inv X pins σ' H' s'∧W n σ' H') ?_ m0 ⟨σ,H,I,w0⟩)
 rintro n s1 ⟨σ1,H1,I1,w1⟩
 refine wpAny_passesOwn hp (thn (hc pins s1 σ1 H1 _ I1 (turn n σ1 H1 w1)) fun b s2 zz28=>?_)
 obtain ⟨H2,I2,q2⟩:=zz28
 cases b with
 | true =>
  obtain ⟨N,hN,q2⟩:=q2
  rw [if_pos rfl]
  refine wpAny_passesOwn hp (thn (hb pins s2 σ1 H2 _ I2 q2) fun f s3 q3=>?_)
  cases f with
  | next =>
   obtain ⟨σ3,H3,I3,n3⟩:=q3
   obtain ⟨m',hm,w3⟩:=hN σ3 H3 n3
   exact ⟨m',hm,σ3,H3,I3,w3⟩
  | cont =>
   obtain ⟨σ3,H3,I3,n3⟩:=q3
   obtain ⟨m',hm,w3⟩:=hN σ3 H3 n3
   exact ⟨m',hm,σ3,H3,I3,w3⟩
  | brk=>exact q3
  | ret v=>exact q3
 | false =>
  rw [if_neg Bool.false_ne_true]
  exact wpAny_execs_nil ⟨σ1,H2,I2,q2⟩
end
structure It where
 go:Nat→Hp→Prop
 yld:Nat→Hp→V→Hp→Prop
 stop:Nat→Hp→Prop
def Zpr (X:Cx) (pins:List (Addr×Obj)) (H:Hp) (b:Addr):Prop :=
 H b=none∧b≠X.env.locals∧b∉X.fs∧(b∈X.ex∨X.s₀.heap.objs.size≤b)∧(∀ x c,X.env.cells.lookup x=some c→c≠b)∧∀ p∈X.pn++pins,p.1≠b
theorem Inv.fpOk {X:Cx} {pins:List (Addr×Obj)} {σ:St} {H H':Hp} {s:Shared} {b:Addr} (I:Inv X pins σ H s) (hb:s.heap.objs.size≤b) (hn:H' b=none):Zpr X pins H' b:=by
 refine ⟨hn,Nat.ne_of_gt (Nat.lt_of_lt_of_le I.lt hb),I.nofs hb,.inr (Nat.le_trans I.sz hb),fun x c e z=>?_,fun p hp z=>?_⟩
 ·obtain ⟨v,q⟩:=I.cell x c e
  exact absurd (Nat.lt_of_lt_of_le q.lt (by rw [z];exact hb)) (Nat.lt_irrefl _)
 ·exact absurd (Nat.lt_of_lt_of_le (Heap.lt_size (I.pin p hp).1) (by rw [z];exact hb)) (Nat.lt_irrefl _)
structure Zp6 (P:Program) (w:World) (K:PySem.W.Frag) (tg:Expr) (J:It) (fp:List Addr) (it:Addr) (tn:Nat→Heap→Prop):Prop where
 mem:it∈fp
 obj:∀ i h,tn i h→∀ b∈fp,∃ o,h.get? b=some o∧∀ v,o.data≠.cell v
 keep:∀ i h h',tn i h→(∀ b∈fp,∀ o,h.get? b=some o→h'.get? b=some o)→tn i h'
 item:∀ (X:Cx),X.prog=P→X.w=w→X.K=K→X.calm=true→∀ (i:Nat) (pins:List (Addr×Obj)) (s:Shared) (σ:St) (H:Hp) (E:Value→Shared→Prop),Inv X pins σ H s→(∀ b∈fp,Zpr X pins H b)→tn i s.heap→J.go i H →
  wpAny (model P w) X.A (pyNext (.ref it)) (fun r s1=>∃ u,r=some u ∧
   wpAny (model P w) X.A (letOwnedTupleGo tg (.ref it) u) (fun _ s2=>∃ x H',Inv X pins σ H' s2∧RelV x u∧J.yld i H x H'∧tn (i+1) s2.heap∧∀ b∈fp,H' b=none) E s1) E s
 done:∀ (X:Cx),X.prog=P→X.w=w→X.K=K→X.calm=true→∀ (i:Nat) (pins:List (Addr×Obj)) (s:Shared) (σ:St) (H:Hp) (E:Value→Shared→Prop),Inv X pins σ H s→(∀ b∈fp,Zpr X pins H b)→tn i s.heap→J.stop i H →
  wpAny (model P w) X.A (pyNext (.ref it)) (fun r s1=>r=none∧Inv X pins σ H s1) E s
 self:∀ (A:Around) (i:Nat) (s:Shared) (Q:Value→Shared→Prop) (E:Value→Shared→Prop),tn i s.heap→Q (.ref it) s→wpAny (model P w) A (pyIter (.ref it)) Q E s
abbrev TI:=St→Hp→(It→Hp→Prop)→Prop
def PIE (X:Cx) (pins:List (Addr×Obj)) (σ:St) (tg:Expr) (R:It→Hp→Prop) (itv:Value) (s2:Shared):Prop :=
 ∃ (it:Addr) (fp:List Addr) (tn:Nat→Heap→Prop) (J:It) (H':Hp),itv=.ref it∧Inv X pins σ H' s2∧Zp6 X.prog X.w X.K tg J fp it tn∧tn 0 s2.heap∧(∀ b∈fp,Zpr X pins H' b)∧R J H'
def PI (X:Cx) (tg iter:Expr) (wi:TI):Prop :=
 ∀ (pins:List (Addr×Obj)) (s:Shared) (σ:St) (H:Hp) (R:It→Hp→Prop),Inv X pins σ H s→wi σ H R →
  wpAny (model X.prog X.w) X.A (eval iter X.env) (fun v s1=>wpAny (model X.prog X.w) X.A (pyIter v) (PIE X pins σ tg R) X.xe s1) X.xe s
theorem Zuc {M:Model} {A:Around} {E:Value→Shared→Prop} {s:Shared} {tg:Expr} {it:Addr} {u:Value} {o:Obj} {n:String} {vs:Array Value} {Q:Unit→Shared→Prop} (ho:s.heap.get? it=some o) (hc:o.cls=.type n) (hd:o.data=.fields vs)
  (hn:["enumerate","zip","dict_itemiterator","dict_reverseitemiterator","odict_iterator","itertools.zip_longest","itertools.pairwise"].contains n=false) (hQ:Q () s):wpAny M A (letOwnedTupleGo tg (.ref it) u) Q E s:=by
 unfold letOwnedTupleGo
 cases tg <;> first
  | exact wpAny_pure hQ
  | (cases u <;> first
    | exact wpAny_pure hQ
    | (refine wpAny_bind (wpAny_load ho ?_)
       rw [hc,hd]
       show wpAny M A (if (["enumerate","zip","dict_itemiterator","dict_reverseitemiterator","odict_iterator","itertools.zip_longest","itertools.pairwise"].contains n&&vs[0]?==some (rawInt _))=true then _ else _) Q E s
       rw [if_neg (by intro h;rw [hn,Bool.false_and] at h;cases h)]
       exact wpAny_pure hQ))
def Itl (K:PySem.W.Frag) (a:Addr):It :=
 ⟨fun i H=>∃ xs x,SqL K H a xs∧xs[i]?=some x,fun i H x H'=>H'=H∧∀ xs,SqL K H a xs→xs[i]?=some x,fun i H=>∃ xs,SqL K H a xs∧xs.length≤i⟩
def Itt (K:PySem.W.Frag) (a:Addr):It :=
 ⟨fun i H=>∃ xs x,SqT K H a xs∧xs[i]?=some x,fun i H x H'=>H'=H∧∀ xs,SqT K H a xs→xs[i]?=some x,fun i H=>∃ xs,SqT K H a xs∧xs.length≤i⟩
def Itr (lo:Int) (n:Nat):It:=⟨fun i _=>i < n,fun i H x H'=>H'=H∧x=.int (lo+i),fun i _=>n≤i⟩
theorem Zj7 {P:Program} {w:World} {K:PySem.W.Frag} {tg:Expr} (a it:Addr):Zp6 P w K tg (Itl K a) [it] it (fun i h=>h.IsListIter it a i) where
 mem:=by simp
 obj:=fun i h st b hb=>by
  have e:b=it:=by simpa using hb
  subst e
  obtain ⟨o,e,c,d⟩:=st
  exact ⟨o,e,fun v z=>by rw [d] at z;cases z⟩
 keep:=fun i h h' st k=>st.at fun o e=>k it (by simp) o e
 item:=by
  intro X hP hw hK hc i pins s σ H E I hf st hg
  subst hP hw hK
  obtain ⟨xs,x,hq,hx⟩:=hg
  obtain ⟨its,rv,p,hz⟩:=I.list hq
  obtain ⟨u,hu,ru⟩:=rv.get hx
  obtain ⟨f0,f1,f2,f3,f4,f5⟩:=hf it (by simp)
  refine wpAny_pyNext_list_item st p.isList (x:=u) (by simpa using hu) fun h' st' sb=>?_
  have I1:Inv X pins σ H { s with heap:=h' }:=I.turned (t':=s.toks) (fun b o hb e=>(sb.2 b hb).trans e) f0 f1 f3 f4 f5
  obtain ⟨o,e,c,d⟩:=id st'
  exact ⟨u,rfl,Zuc (s:={ s with heap:=h' }) e c d (by decide) ⟨x,H,I1,ru,⟨rfl,fun ys hy=>by rw [I.list_inj hy hq];exact hx⟩,st',fun b hb=>(hf b hb).1⟩⟩
 done:=by
  intro X hP hw hK hc i pins s σ H E I hf st hg
  subst hP hw hK
  obtain ⟨xs,hq,hx⟩:=hg
  obtain ⟨its,rv,p,hz⟩:=I.list hq
  obtain ⟨f0,f1,f2,f3,f4,f5⟩:=hf it (by simp)
  have hl:=rv.length
  exact wpAny_pyNext_list_end (I.ok.hd hc) st p.isList (by simp;omega) fun h' eb=>⟨rfl,I.turned (t':=s.toks) (fun b o hb e=>eb b o hb e) f0 f1 f3 f4 f5⟩
 self:=fun _ _ _ _ _ st h=>wpAny_pyIter_listiter st h
theorem Ziw {P:Program} {w:World} {K:PySem.W.Frag} {tg:Expr} (a it:Addr):Zp6 P w K tg (Itt K a) [it] it (fun i h=>h.IsTupleIter it a i) where
 mem:=by simp
 obj:=fun i h st b hb=>by
  have e:b=it:=by simpa using hb
  subst e
  obtain ⟨o,e,c,d⟩:=st
  exact ⟨o,e,fun v z=>by rw [d] at z;cases z⟩
 keep:=fun i h h' st k=>st.at fun o e=>k it (by simp) o e
 item:=by
  intro X hP hw hK hc i pins s σ H E I hf st hg
  subst hP hw hK
  obtain ⟨xs,x,hq,hx⟩:=hg
  obtain ⟨its,rv,p,hz⟩:=I.tuple hq
  obtain ⟨u,hu,ru⟩:=rv.get hx
  obtain ⟨f0,f1,f2,f3,f4,f5⟩:=hf it (by simp)
  refine wpAny_pyNext_tuple_item st (show s.heap.IsTuple a its.toArray from p) (x:=u) (by simpa using hu) fun h' st' sb=>?_
  have I1:Inv X pins σ H { s with heap:=h' }:=I.turned (t':=s.toks) (fun b o hb e=>(sb.2 b hb).trans e) f0 f1 f3 f4 f5
  obtain ⟨o,e,c,d⟩:=id st'
  exact ⟨u,rfl,Zuc (s:={ s with heap:=h' }) e c d (by decide) ⟨x,H,I1,ru,⟨rfl,fun ys hy=>by rw [I.tuple_inj hy hq];exact hx⟩,st',fun b hb=>(hf b hb).1⟩⟩
 done:=by
  intro X hP hw hK hc i pins s σ H E I hf st hg
  subst hP hw hK
  obtain ⟨xs,hq,hx⟩:=hg
  obtain ⟨its,rv,p,hz⟩:=I.tuple hq
  obtain ⟨f0,f1,f2,f3,f4,f5⟩:=hf it (by simp)
  have hl:=rv.length
  exact wpAny_pyNext_tuple_end (I.ok.hd hc) st (show s.heap.IsTuple a its.toArray from p) (by simp;omega) fun h' eb=>⟨rfl,I.turned (t':=s.toks) (fun b o hb e=>eb b o hb e) f0 f1 f3 f4 f5⟩
 self:=fun _ _ _ _ _ st h=>wpAny_pyIter_tupleiter st h
end L2
namespace L2
open PySem PySem.Spec PyProof.Rows
section
variable {X:Cx} {tg:Expr}
def Zyb (wi:TI) (g:TG) (tb:TS):TS:=fun D σ H=>wi σ H fun J H1=>∃ W:Nat→Nat→St→Hp→Prop,(∃ m,W 0 m σ H1)∧∀ i m σ H,W i m σ H →
 (J.stop i H∧D.nx σ H)∨(J.go i H∧∃ N:St→Hp→Prop,(∀ σ' H',N σ' H'→∃ m',m' < m∧W (i+1) m' σ' H')∧∀ x H',J.yld i H x H'→g x σ H' fun σ2 H2=>tb { D with nx:=N,ct:=N,bk:=D.nx } σ2 H2)
def ZiJ (fp:List Addr) (h:Heap):List (Addr×Obj):=fp.filterMap fun b=>(h.get? b).map fun o=>(b,o)
theorem ZdL {fp:List Addr} {h:Heap} {b:Addr} {o:Obj} (hb:b∈fp) (e:h.get? b=some o):(b,o)∈ZiJ fp h:=List.mem_filterMap.mpr ⟨b,hb,by rw [e];rfl⟩
theorem ZnM {fp:List Addr} {h:Heap} {p:Addr×Obj} (hp:p∈ZiJ fp h):p.1∈fp∧h.get? p.1=some p.2:=by
 obtain ⟨b,hb,e⟩:=List.mem_filterMap.mp hp
 cases q:h.get? b with
 | none=>rw [q] at e;cases e
 | some o =>
  rw [q] at e
  have e':(b,o)=p:=Option.some.inj e
  subst e'
  exact ⟨hb,q⟩
theorem Inv.pinned {pins:List (Addr×Obj)} {σ:St} {H:Hp} {s:Shared} {fp:List Addr} (I:Inv X pins σ H s) (hf:∀ b∈fp,Zpr X pins H b) (ho:∀ b∈fp,∃ o,s.heap.get? b=some o∧∀ v,o.data≠.cell v):Inv X (pins++ZiJ fp s.heap) σ H s :=
 I.pins_of fun p hp=>(List.mem_append.mp hp).elim (fun z=>I.pin p (List.mem_append_right _ z)) fun z=>by
  obtain ⟨hb,e⟩:=ZnM z
  obtain ⟨f0,f1,f2,_⟩:=hf p.1 hb
  obtain ⟨o,e',d⟩:=ho p.1 hb
  rw [e] at e';cases e'
  exact ⟨e,f0,f1,f2,d⟩
theorem Inv.unpinned {pins pl:List (Addr×Obj)} {σ:St} {H:Hp} {s:Shared} (I:Inv X (pins++pl) σ H s):Inv X pins σ H s:=I.pins_of fun p hp=>I.pin p (List.mem_append_right _ (List.mem_append_left _ hp))
theorem Zuf {iter:Expr} {body:List Stmt} {wi:TI} {g:TG} {tb:TS} {pos:Pos} (hp:PassesOwn (model X.prog X.w) X.A X.env X.xe) (hc:X.calm=true) (hi:PI X tg iter wi) (hg:PG X tg g) (hb:PSs X body tb)
  (hs:∀ x,foldedSetIterable iter X.env x=pure x:=by intro _;rfl):PS X (.For tg iter body [] pos) (Zyb wi g tb):=by
 intro pins s σ H D I h
 refine wpAny_For (thn (hi pins s σ H _ I h) fun v s1 h1=>thn h1 fun itv s2 h2=>?_) hs
 obtain ⟨it,fp,tn,J,H2,e,I2,T,st2,f2,W,⟨m0,w0⟩,turn⟩:=h2
 subst e
 have stat:∀ {H':Hp},(∀ b∈fp,H' b=none)→∀ b∈fp,Zpr X pins H' b:=fun hn b hb=>⟨hn b hb,(f2 b hb).2⟩
 refine codeAny_forLoop_any (fun n s'=>∃ i σ' H',Inv X pins σ' H' s'∧tn i s'.heap∧(∀ b∈fp,H' b=none)∧W i n σ' H') ?_ m0 ⟨0,σ,H2,I2,st2,fun b hb=>(f2 b hb).1,w0⟩
 rintro n s3 ⟨i,σ3,H3,I3,st3,fr3,w3⟩
 rcases turn i n σ3 H3 w3 with ⟨stop,qn⟩ | ⟨go,N,hN,step⟩
 ·refine wpAny_passesOwn hp (thn (T.done X rfl rfl rfl hc i pins s3 σ3 H3 X.xe I3 (stat fr3) st3 stop) fun r s4 zz33=>?_)
  obtain ⟨hr,I4⟩:=zz33
  subst hr
  exact wpAny_execs_nil ⟨σ3,H3,I4,qn⟩
 ·refine wpAny_passesOwn hp (thn (T.item X rfl rfl rfl hc i pins s3 σ3 H3 X.xe I3 (stat fr3) st3 go) fun r s4 zz34=>?_)
  obtain ⟨u,hr,h4⟩:=zz34
  subst hr
  refine wpAny_passesOwn hp (thn h4 fun _ s5 zz35=>?_)
  obtain ⟨x,H5,I5,r5,y5,st5,fr5⟩:=zz35
  have I5':=I5.pinned (stat fr5) (T.obj _ _ st5)
  refine wpAny_passesOwn hp (thn (hg _ s5 σ3 H5 x u _ I5' r5 (step x H5 y5)) fun _ s6 zz36=>?_)
  obtain ⟨σ6,H6,I6,q6⟩:=zz36
  refine wpAny_passesOwn hp (thn (hb _ s6 σ6 H6 _ I6 q6) fun f s7 q7=>?_)
  have again:∀ {σ7:St} {H7:Hp},Inv X (pins++ZiJ fp s5.heap) σ7 H7 s7→N σ7 H7→∃ m,m < n∧∃ i σ' H',Inv X pins σ' H' s7∧tn i s7.heap∧(∀ b∈fp,H' b=none)∧W i m σ' H':=fun {σ7 H7} I7 n7=>by
   obtain ⟨m',hm,w7⟩:=hN σ7 H7 n7
   refine ⟨m',hm,i+1,σ7,H7,I7.unpinned,T.keep _ _ _ st5 fun b hb o e=>(I7.pin (b,o) (List.mem_append_right _ (List.mem_append_right _ (ZdL hb e)))).1,fun b hb=>?_,w7⟩
   obtain ⟨o,e,d⟩:=T.obj _ _ st5 b hb
   exact (I7.pin (b,o) (List.mem_append_right _ (List.mem_append_right _ (ZdL hb e)))).2.1
  cases f with
  | next=>obtain ⟨σ7,H7,I7,n7⟩:=q7;exact again I7 n7
  | cont=>obtain ⟨σ7,H7,I7,n7⟩:=q7;exact again I7 n7
  | brk=>obtain ⟨σ7,H7,I7,q7⟩:=q7;exact ⟨σ7,H7,I7.unpinned,q7⟩
  | ret v=>obtain ⟨x7,σ7,H7,I7,r7,q7⟩:=q7;exact ⟨x7,σ7,H7,I7.unpinned,r7,q7⟩
end
end L2
namespace L2
open PySem PySem.Spec PyProof.Rows
abbrev R2:=V→V→Hp→VK→Prop
def OpR (X:Cx) (f:Value→Value→Sem Value) (r:R2):Prop :=
 ∀ (pins:List (Addr×Obj)) (s:Shared) (σ:St) (H:Hp) (x y:V) (v u:Value) (Q:VK),Inv X pins σ H s→RelV x v→RelV y u→r x y H Q →
  wpAny (model X.prog X.w) X.A (f v u) (EP X pins σ Q) X.xe s
def CallR (X:Cx) (f:Value) (r:List V→Hp→VK→Prop):Prop :=
 ∀ (pins:List (Addr×Obj)) (s:Shared) (σ:St) (H:Hp) (xs:List V) (us:List Value) (Q:VK),Inv X pins σ H s→Vals xs us→r xs H Q →
  wpAny (model X.prog X.w) X.A (call f us) (EP X pins σ Q) X.xe s
def Zx8 (X:Cx) (r:V→Hp→(Bool→Hp→Prop)→Prop):Prop :=
 ∀ (pins:List (Addr×Obj)) (s:Shared) (σ:St) (H:Hp) (x:V) (v:Value) (Q:Bool→Hp→Prop),Inv X pins σ H s→RelV x v→r x H Q →
  wpAny (model X.prog X.w) X.A (truthy v) (TP X pins σ Q) X.xe s
def tOp (r:R2) (ta tb:TE):TE:=fun σ H Q=>ta σ H fun x H1=>tb σ H1 fun y H2=>r x y H2 Q
def rI (C:Int→Int→Prop) (g:Int→Int→V):R2:=fun x y H Q=>∃ i j,x=.int i∧y=.int j∧C i j∧Q (g i j) H
def rI0 (g:Int→Int→V):R2:=fun x y H Q=>∃ i j,x=.int i∧y=.int j∧Q (g i j) H
section
variable {X:Cx} {a b c:Expr} {ta tb tc:TE} {pos:Pos}
theorem Zwp (ha:PE X a ta) (hb:PE X b tb) {pins:List (Addr×Obj)} {s:Shared} {σ:St} {H:Hp} {R:V→V→Hp→Prop} (I:Inv X pins σ H s)
  (h:ta σ H fun x H1=>tb σ H1 fun y H2=>R x y H2) {Q:Value→Shared→Prop} {f:Value→Value→Sem Value}
  (hf:∀ v u s2 x y H2,Inv X pins σ H2 s2→RelV x v→RelV y u→R x y H2→wpAny (model X.prog X.w) X.A (f v u) Q X.xe s2) :
  wpAny (model X.prog X.w) X.A (eval a X.env) (fun v s₁=>wpAny (model X.prog X.w) X.A (eval b X.env) (fun u s₂=>wpAny (model X.prog X.w) X.A (f v u) Q X.xe s₂) X.xe s₁) X.xe s:=by
 refine thn (ha pins s σ H _ I h) fun v s1 zz37=>?_
 obtain ⟨x,H1,I1,r1,q1⟩:=zz37
 refine thn (hb pins s1 σ H1 _ I1 q1) fun u s2 zz38=>?_
 obtain ⟨y,H2,I2,r2,q2⟩:=zz38
 exact hf v u s2 x y H2 I2 r1 r2 q2
theorem Zw0 {op:Operator} {r:R2} (ho:OpR X (binaryOp op) r) (ha:PE X a ta) (hb:PE X b tb):PE X (.BinOp a op b pos) (tOp r ta tb):=by
 intro pins s σ H Q I h
 exact wpAny_BinOp (Zwp ha hb I h fun v u s2 x y H2 I2 rx ry q=>ho pins s2 σ H2 x y v u Q I2 rx ry q)
theorem opI {f:Value→Value→Sem Value} {C:Int→Int→Prop} {g:Int→Int→Int}
  (rule:∀ (i j:Int) (t u:Tok) (s:Shared) (Q:Value→Shared→Prop) (E:Value→Shared→Prop),C i j→Q (.int (g i j) s.toks) { s with toks:=s.toks+1 }→wpAny (model X.prog X.w) X.A (f (.int i t) (.int j u)) Q E s) :
  OpR X f (rI C fun i j=>.int (g i j)):=by
 intro pins s σ H x y v u Q I rx ry h
 obtain ⟨i,j,rfl,rfl,hc,q⟩:=h
 obtain ⟨t,rfl⟩:=rx
 obtain ⟨t',rfl⟩:=ry
 exact rule i j t t' s _ _ hc ⟨.int (g i j),H,I.tok _,⟨_,rfl⟩,q⟩
theorem ZxC {f:Value→Value→Sem Value} {g:Int→Int→Int}
  (rule:∀ (i j:Int) (t u:Tok) (s:Shared) (Q:Value→Shared→Prop) (E:Value→Shared→Prop),Q (.int (g i j) s.toks) { s with toks:=s.toks+1 }→wpAny (model X.prog X.w) X.A (f (.int i t) (.int j u)) Q E s) :
  OpR X f (rI0 fun i j=>.int (g i j)):=by
 intro pins s σ H x y v u Q I rx ry h
 obtain ⟨i,j,rfl,rfl,q⟩:=h
 obtain ⟨t,rfl⟩:=rx
 obtain ⟨t',rfl⟩:=ry
 exact rule i j t t' s _ _ ⟨.int (g i j),H,I.tok _,⟨_,rfl⟩,q⟩
theorem Zwn {f:Value→Value→Sem Value} {g:Int→Int→Bool}
  (rule:∀ (i j:Int) (t u:Tok) (s:Shared) (Q:Value→Shared→Prop) (E:Value→Shared→Prop),Q (.bool (g i j)) s→wpAny (model X.prog X.w) X.A (f (.int i t) (.int j u)) Q E s) :
  OpR X f (rI0 fun i j=>.bl (g i j)):=by
 intro pins s σ H x y v u Q I rx ry h
 obtain ⟨i,j,rfl,rfl,q⟩:=h
 obtain ⟨t,rfl⟩:=rx
 obtain ⟨t',rfl⟩:=ry
 exact rule i j t t' s _ _ ⟨.bl (g i j),H,I,rfl,q⟩
def ZtU (i j:Int):Prop:=0 < j∧j < 1073741824
def Zs8 (i j:Int):Prop:=0≤j∧j≤1000000∧i.natAbs < 2 ^ 64
def CMul (i j:Int):Prop:=(-(2 ^ 64) < i∧i < 2 ^ 64)∨(-(2 ^ 64) < j∧j < 2 ^ 64)
theorem CMul.ok {i j:Int} (h:CMul i j):IntMulOk i j:=by
 rcases h with ⟨h1,h2⟩ | ⟨h1,h2⟩
 ·exact .of_left (intBits_le_64 h1 h2)
 ·exact .of_right (intBits_le_64 h1 h2)
theorem ZuK:OpR X (binaryOp .Add) (rI0 fun i j=>.int (i+j)):=ZxC fun _ _ _ _ _ _ _ q=>add_int q
theorem ZvW:OpR X (binaryOp .Mult) (rI CMul fun i j=>.int (i*j)):=opI fun _ _ _ _ _ _ _ hc q=>mul_int q hc.ok
theorem ZtP:OpR X (binaryOp .FloorDiv) (rI ZtU fun i j=>.int (i / j)):=opI fun i j _ _ _ _ _ hc q=>by
 have h1:(0:Int) < j:=hc.1
 have h2:j < 1073741824:=hc.2
 exact floordiv_int (by omega) (by rw [Int.fdiv_eq_ediv_of_nonneg i (by omega)];exact q) (.inl (PyProof.noPylong_small (by omega)))
theorem ZvV:OpR X (binaryOp .Mod) (rI (fun _ j=>0 < j) fun i j=>.int (i % j)):=opI fun i j _ _ _ _ _ hc q=>by
 have h1:(0:Int) < j:=hc
 exact mod_int' (by omega) (by rw [Int.fmod_eq_emod_of_nonneg i (by omega)];exact q)
theorem Zuv:OpR X (binaryOp .Pow) (rI Zs8 fun i j=>.int (i ^ j.toNat)):=opI fun _ _ _ _ _ _ _ hc q=>pow_int_small hc.1 hc.2.1 hc.2.2 q
theorem Ztf:OpR X (inplaceOp .Add) (rI0 fun i j=>.int (i+j)):=ZxC fun _ _ _ _ _ _ _ q=>iadd_int q
end
def ZsY:V→V→Bool
 | .non,.non=>true | .non,.int _=>true | .int _,.non=>true | .non,.bl _=>true | .bl _,.non=>true | .non,.str _=>true | .str _,.non=>true
 | .int _,.int _=>true | .bl _,.bl _=>true | .str _,.str _=>true | .byt _,.byt _=>true
 | .int _,.str _=>true | .str _,.int _=>true | .bl _,.str _=>true | .str _,.bl _=>true
 | _,_=>false
def rEq:R2:=fun x y H Q=>ZsY x y=true∧Q (.bl (decide (x=y))) H
def rNe:R2:=fun x y H Q=>ZsY x y=true∧Q (.bl (!decide (x=y))) H
theorem ZlJ {i j:Int}:decide (V.int i=V.int j)=(i==j):=by
 rw [Bool.eq_iff_iff]
 simp
theorem ZoU {i j:Bool}:decide (V.bl i=V.bl j)=(i==j):=by
 rw [Bool.eq_iff_iff]
 simp
theorem ZlE {i j:Str}:decide (V.str i=V.str j)=(i==j):=by
 rw [Bool.eq_iff_iff]
 simp
theorem Zpg {i j:Array UInt8}:decide (V.byt i=V.byt j)=(i.toList==j.toList):=by
 rw [Bool.eq_iff_iff]
 cases i
 cases j
 simp
section
variable {X:Cx} {a b c:Expr} {ta tb tc:TE} {pos:Pos}
theorem ZaU {pins:List (Addr×Obj)} {σ:St} {H:Hp} {s:Shared} {Q:VK} {k k':Bool} (I:Inv X pins σ H s) (q:Q (.bl k) H) (e:k=k'):EP X pins σ Q (.bool k') s:=by
 subst e
 exact ⟨.bl k,H,I,rfl,q⟩
theorem ZwP:OpR X (compareOp .Eq) rEq:=by
 intro pins s σ H x y v u Q I rx ry h
 obtain ⟨hs,q⟩:=h
 cases x with
 | non =>
  cases rx
  cases y with
  | non=>cases ry;exact PySem.EqNone.eq_none_none (ZaU I q (by simp))
  | bl j=>cases ry;exact PySem.EqNone.eq_none_bool (ZaU I q (by simp))
  | int j=>obtain ⟨t',rfl⟩:=ry;exact PySem.EqNone.eq_none_int (ZaU I q (by simp))
  | str j=>obtain ⟨t',rfl⟩:=ry;exact PySem.EqNone.eq_none_str (ZaU I q (by simp))
  | _=>exact absurd (show false=true from hs) Bool.false_ne_true
 | bl i =>
  cases rx
  cases y with
  | non=>cases ry;exact PySem.EqNone.eq_bool_none (ZaU I q (by simp))
  | bl j=>cases ry;exact eq_bool (ZaU I q ZoU)
  | str j=>obtain ⟨t',rfl⟩:=ry;exact PySem.EqMixed.eq_bool_str (ZaU I q (by simp))
  | _=>exact absurd (show false=true from hs) Bool.false_ne_true
 | int i =>
  obtain ⟨t,rfl⟩:=rx
  cases y with
  | non=>cases ry;exact PySem.EqNone.eq_int_none (ZaU I q (by simp))
  | int j=>obtain ⟨t',rfl⟩:=ry;exact eq_int (ZaU I q ZlJ)
  | str j=>obtain ⟨t',rfl⟩:=ry;exact PySem.EqMixed.eq_int_str (ZaU I q (by simp))
  | _=>exact absurd (show false=true from hs) Bool.false_ne_true
 | str i =>
  obtain ⟨t,rfl⟩:=rx
  cases y with
  | non=>cases ry;exact PySem.EqNone.eq_str_none (ZaU I q (by simp))
  | bl j=>cases ry;exact PySem.EqMixed.eq_str_bool (ZaU I q (by simp))
  | int j=>obtain ⟨t',rfl⟩:=ry;exact PySem.EqMixed.eq_str_int (ZaU I q (by simp))
  | str j=>obtain ⟨t',rfl⟩:=ry;exact eq_str (ZaU I q ZlE)
  | _=>exact absurd (show false=true from hs) Bool.false_ne_true
 | byt i =>
  obtain ⟨t,rfl⟩:=rx
  cases y with
  | byt j=>obtain ⟨t',rfl⟩:=ry;exact PySem.W.eq_bytes (ZaU I q Zpg)
  | _=>exact absurd (show false=true from hs) Bool.false_ne_true
 | _=>cases y <;> exact absurd (show false=true from hs) Bool.false_ne_true
theorem Zxn:OpR X (compareOp .NotEq) rNe:=by
 intro pins s σ H x y v u Q I rx ry h
 obtain ⟨hs,q⟩:=h
 cases x with
 | non =>
  cases rx
  cases y with
  | non=>cases ry;exact PySem.EqNone.ne_none_none (ZaU I q (by simp))
  | bl j=>cases ry;exact PySem.EqNone.ne_none_bool (ZaU I q (by simp))
  | int j=>obtain ⟨t',rfl⟩:=ry;exact PySem.EqNone.ne_none_int (ZaU I q (by simp))
  | str j=>obtain ⟨t',rfl⟩:=ry;exact PySem.EqNone.ne_none_str (ZaU I q (by simp))
  | _=>exact absurd (show false=true from hs) Bool.false_ne_true
 | bl i =>
  cases rx
  cases y with
  | non=>cases ry;exact PySem.EqNone.ne_bool_none (ZaU I q (by simp))
  | bl j=>cases ry;exact ne_bool (ZaU I q (congrArg not ZoU))
  | str j=>obtain ⟨t',rfl⟩:=ry;exact PySem.EqMixed.ne_bool_str (ZaU I q (by simp))
  | _=>exact absurd (show false=true from hs) Bool.false_ne_true
 | int i =>
  obtain ⟨t,rfl⟩:=rx
  cases y with
  | non=>cases ry;exact PySem.EqNone.ne_int_none (ZaU I q (by simp))
  | int j=>obtain ⟨t',rfl⟩:=ry;exact ne_int (ZaU I q (congrArg not ZlJ))
  | str j=>obtain ⟨t',rfl⟩:=ry;exact PySem.EqMixed.ne_int_str (ZaU I q (by simp))
  | _=>exact absurd (show false=true from hs) Bool.false_ne_true
 | str i =>
  obtain ⟨t,rfl⟩:=rx
  cases y with
  | non=>cases ry;exact PySem.EqNone.ne_str_none (ZaU I q (by simp))
  | bl j=>cases ry;exact PySem.EqMixed.ne_str_bool (ZaU I q (by simp))
  | int j=>obtain ⟨t',rfl⟩:=ry;exact PySem.EqMixed.ne_str_int (ZaU I q (by simp))
  | str j=>obtain ⟨t',rfl⟩:=ry;exact ne_str (ZaU I q (congrArg not ZlE))
  | _=>exact absurd (show false=true from hs) Bool.false_ne_true
 | byt i =>
  obtain ⟨t,rfl⟩:=rx
  cases y with
  | byt j=>obtain ⟨t',rfl⟩:=ry;exact PySem.W.ne_bytes (ZaU I q (congrArg not Zpg))
  | _=>exact absurd (show false=true from hs) Bool.false_ne_true
 | _=>cases y <;> exact absurd (show false=true from hs) Bool.false_ne_true
theorem Zxh:OpR X (compareOp .Lt) (rI0 fun i j=>.bl (decide (i < j))):=Zwn fun _ _ _ _ _ _ _ q=>lt_int q
theorem ZwT:OpR X (compareOp .LtE) (rI0 fun i j=>.bl (decide (i≤j))):=Zwn fun _ _ _ _ _ _ _ q=>le_int q
theorem Zxa:OpR X (compareOp .Gt) (rI0 fun i j=>.bl (decide (j < i))):=Zwn fun _ _ _ _ _ _ _ q=>gt_int q
theorem Zxl:OpR X (compareOp .GtE) (rI0 fun i j=>.bl (decide (j≤i))):=Zwn fun _ _ _ _ _ _ _ q=>ge_int q
theorem ZoI:OpR X (compareOp .Lt) (fun x y H Q=>∃ i j,x=.str i∧y=.str j∧Q (.bl (decide (i.cps.toList < j.cps.toList))) H):=by
 intro pins s σ H x y v u Q I rx ry h
 obtain ⟨i,j,rfl,rfl,q⟩:=h
 obtain ⟨t,rfl⟩:=rx
 obtain ⟨t',rfl⟩:=ry
 exact lt_str (ZaU I q rfl)
theorem Zu9:OpR X (compareOp .Is) (fun x y H Q=>y=.non∧Q (.bl (decide (x=.non))) H):=by
 intro pins s σ H x y v u Q I rx ry h
 obtain ⟨rfl,q⟩:=h
 cases ry
 refine is_none_gen (ZaU I q ?_)
 cases x <;> first
  | (cases rx;rfl)
  | (obtain ⟨t,rfl⟩:=rx;rfl)
theorem ZtG:OpR X (compareOp .IsNot) (fun x y H Q=>y=.non∧Q (.bl (!decide (x=.non))) H):=by
 intro pins s σ H x y v u Q I rx ry h
 obtain ⟨rfl,q⟩:=h
 cases ry
 refine isnot_none_gen (ZaU I q ?_)
 cases x <;> first
  | (cases rx;rfl)
  | (obtain ⟨t,rfl⟩:=rx;rfl)
theorem OpR.or {f:Value→Value→Sem Value} {r r':R2} (h:OpR X f r) (h':OpR X f r'):OpR X f (fun x y H Q=>r x y H Q∨r' x y H Q):=by
 intro pins s σ H x y v u Q I rx ry q
 rcases q with q | q
 ·exact h pins s σ H x y v u Q I rx ry q
 ·exact h' pins s σ H x y v u Q I rx ry q
theorem ZxF (b:Expr) {op:CmpOp} (h:op≠.In:=by decide) (h2:op≠.NotIn:=by decide):behindInMarks op b=false:=by
 have e1:(op==CmpOp.In)=false:=by cases op <;> first | rfl | exact absurd rfl h
 have e2:(op==CmpOp.NotIn)=false:=by cases op <;> first | rfl | exact absurd rfl h2
 cases b <;> simp [behindInMarks,e1,e2]
theorem Zss {op:CmpOp} {r:R2} (ho:OpR X (compareOp op) r) (ha:PE X a ta) (hb:PE X b tb) (hm:behindInMarks op b=false):PE X (.Compare a [op] [b] pos) (tOp r ta tb):=by
 intro pins s σ H Q I h
 exact wpAny_Compare1 (Zwp ha hb I h fun v u s2 x y H2 I2 rx ry q=>ho pins s2 σ H2 x y v u Q I2 rx ry q) hm
def Zt1 (t:TE):TT:=fun σ H Q=>t σ H fun x H'=>∃ k,x=.bl k∧Q k H'
theorem Zsp {op:CmpOp} {r:R2} (ho:OpR X (compareOp op) r) (ha:PE X a ta) (hb:PE X b tb) (hm:behindInMarks op b=false):PT X (.Compare a [op] [b] pos) (Zt1 (tOp r ta tb)):=by
 intro pins s σ H Q I h
 refine wpAny_isTrue_Compare1 (thn (ha pins s σ H _ I h) fun v s1 ⟨x,H1,I1,r1,q1⟩=>thn (hb pins s1 σ H1 _ I1 q1) fun u s2 ⟨y,H2,I2,r2,q2⟩ =>
  thn (ho pins s2 σ H2 x y v u _ I2 r1 r2 q2) fun c s3 ⟨z,H3,I3,r3,k,e,q3⟩=>?_) hm
 subst e
 cases r3
 exact wpAny_truthy_bool ⟨H3,I3,q3⟩
def Zpy (r r':R2) (ta tb tc:TE):TE:=fun σ H Q=>ta σ H fun x H1=>tb σ H1 fun y H2=>r x y H2 fun z H3=>∃ k,z=.bl k ∧
 (if k=true then tc σ H3 fun w' H4=>r' y w' H4 Q else Q (.bl false) H3)
theorem Zp5 {op op':CmpOp} {r r':R2} (ho:OpR X (compareOp op) r) (ho':OpR X (compareOp op') r') (ha:PE X a ta) (hb:PE X b tb) (hc:PE X c tc)
  (hm:lastMarks [op,op'] [b,c]=false:=by with_unfolding_all rfl):PE X (.Compare a [op,op'] [b,c] pos) (Zpy r r' ta tb tc):=by
 intro pins s σ H Q I h
 refine Compare_chain (thn (ha pins s σ H _ I h) fun v s1 ⟨x,H1,I1,r1,q1⟩=>chain_link (thn (hb pins s1 σ H1 _ I1 q1) fun u s2 ⟨y,H2,I2,r2,q2⟩ =>
  thn (ho pins s2 σ H2 x y v u _ I2 r1 r2 q2) fun d s3 ⟨z,H3,I3,r3,k,e,q3⟩=>?_)) hm
 subst e
 cases r3
 refine wpAny_truthy_bool ?_
 cases k with
 | false=>exact ite_ff ⟨.bl false,H3,I3,rfl,q3⟩
 | true=>exact ite_tt (chain_last (thn (hc pins s3 σ H3 _ I3 q3) (by rintro w' s4 ⟨z',H4,I4,r4,q4⟩;exact ho' pins s4 σ H4 y z' u w' Q I4 r2 r4 q4)))
theorem ZqB {op op':CmpOp} {r r':R2} (ho:OpR X (compareOp op) r) (ho':OpR X (compareOp op') r') (ha:PE X a ta) (hb:PE X b tb) (hc:PE X c tc)
  (hm:lastMarks [op,op'] [b,c]=false:=by with_unfolding_all rfl):PT X (.Compare a [op,op'] [b,c] pos) (Zt1 (Zpy r r' ta tb tc)):=by
 intro pins s σ H Q I h
 refine isTrue_chain (thn (ha pins s σ H _ I h) fun v s1 ⟨x,H1,I1,r1,q1⟩=>test_link (thn (hb pins s1 σ H1 _ I1 q1) fun u s2 ⟨y,H2,I2,r2,q2⟩ =>
  thn (ho pins s2 σ H2 x y v u _ I2 r1 r2 q2) fun d s3 ⟨z,H3,I3,r3,k,e,q3⟩=>?_)) hm
 subst e
 cases r3
 refine wpAny_truthy_bool ?_
 cases k with
 | false =>
  obtain ⟨k',e',q'⟩:=q3
  cases e'
  exact ite_ff ⟨H3,I3,q'⟩
 | true =>
  refine ite_tt (test_last (thn (hc pins s3 σ H3 _ I3 q3) fun w' s4 ⟨z',H4,I4,r4,q4⟩=>thn (ho' pins s4 σ H4 y z' u w' _ I4 r2 r4 q4) fun d' s5 ⟨z2,H5,I5,r5,k2,e2,q5⟩=>?_))
  subst e2
  cases r5
  exact wpAny_truthy_bool ⟨H5,I5,q5⟩
def Zxt (K:PySem.W.Frag) (x:V) (H:Hp) (k:Bool):Prop :=
 match x with
 | .non=>k=false
 | .bl b=>k=b
 | .int i=>k=(i != 0)
 | .str y=>y.length≤sizeLine∧k=((y.length:Int) != 0)
 | .byt y=>y.size≤sizeLine∧k=((y.size:Int) != 0)
 | .ref p=>(∃ xs,SqL K H p xs∧k=!xs.isEmpty)∨(∃ xs,SqT K H p xs∧k=!xs.isEmpty)∨∃ kvs,H p=some (.dK kvs)∧k=!kvs.isEmpty
 | _=>False
theorem Zm2 {κ:Type} {kvs:List (κ×V)} {vs:List (κ×Value)} (r:KV kvs vs):(!vs.isEmpty)=!kvs.isEmpty:=by
 cases r <;> rfl
theorem Zig {xs:List V} {its:List Value} (r:Vals xs its):(!its.toArray.isEmpty)=!xs.isEmpty:=by
 cases r <;> simp
theorem Zir:(sizeLine:Nat) < 2 ^ 63:=by rw [sizeLine_eq];decide
theorem Zve:Zx8 X (fun x H Q=>∃ k,Zxt X.K x H k∧Q k H):=by
 intro pins s σ H x v Q I rx h
 obtain ⟨k,e,q⟩:=h
 have hl:=Zir
 have hs:sizeLine=16777216:=sizeLine_eq
 cases x with
 | non =>
  cases rx
  have e':k=false:=e
  subst e'
  exact truthy_none ⟨H,I,q⟩
 | bl b =>
  cases rx
  have e':k=b:=e
  subst e'
  exact wpAny_truthy_bool ⟨H,I,q⟩
 | int i =>
  obtain ⟨t,rfl⟩:=rx
  have e':k=(i != 0):=e
  subst e'
  exact PySem.P.truthy_int ⟨H,I,q⟩
 | str y =>
  obtain ⟨t,rfl⟩:=rx
  obtain ⟨hy,e'⟩:y.length≤sizeLine∧k=((y.length:Int) != 0):=e
  subst e'
  exact PySem.P.truthy_str (by omega) ⟨H,I.tok _,q⟩
 | byt y =>
  obtain ⟨t,rfl⟩:=rx
  obtain ⟨hy,e'⟩:y.size≤sizeLine∧k=((y.size:Int) != 0):=e
  subst e'
  exact PySem.W.truthy_bytes (by omega) ⟨H,I.tok _,q⟩
 | ref p =>
  cases rx
  have e':(∃ xs,SqL X.K H p xs∧k=!xs.isEmpty)∨(∃ xs,SqT X.K H p xs∧k=!xs.isEmpty)∨∃ kvs,H p=some (.dK kvs)∧k=!kvs.isEmpty:=e
  rcases e' with ⟨xs,hx,e'⟩ | ⟨xs,hx,e'⟩ | ⟨kvs,hx,e'⟩
  ·subst e'
   obtain ⟨its,r,pl,hz⟩:=I.list hx
   have hlen:=r.length
   exact wpAny_truthy_list pl.isList (by simp only [List.size_toArray];omega) ⟨H,I.tok _,by rw [Zig r];exact q⟩
  ·subst e'
   obtain ⟨its,r,pl,hz⟩:=I.tuple hx
   have hlen:=r.length
   exact truthy_tuple pl (by simp only [List.size_toArray];omega) ⟨H,I.tok _,by rw [Zig r];exact q⟩
  ·subst e'
   obtain ⟨hz,hS,vs,r,m⟩:kvs.length≤sizeLine∧(p==sysModules)=false∧∃ vs,KV kvs vs∧s.heap.DictOf (Zb0 X.prog X.w) p vs:=I.hok p _ hx
   have hlen:kvs.length=vs.length:=Paired.length r
   exact wpAny_truthy_dict hS m (by omega) ⟨H,I.tok _,by rw [Zm2 r];exact q⟩
 | _=>exact (show False from e).elim
theorem ZqR (ha:PE X a ta) (he:∀ whole,isTrue a X.env whole=(do let v ← whole;standAt a.pos;holding [v] (truthy v))) :
  PT X a (fun σ H Q=>ta σ H fun x H'=>∃ k,Zxt X.K x H' k∧Q k H'):=by
 intro pins s σ H Q I h
 exact isTrue_plain (thn (ha pins s σ H _ I h) (by rintro v s1 ⟨x,H1,I1,r1,q1⟩;exact Zve pins s1 σ H1 x v Q I1 r1 q1)) (he _)
theorem Zm4:OpR X (binaryOp .Add) (fun x y H Q=>∃ i j,x=.str i∧y=.str j∧i.length+j.length≤sizeLine∧Q (.str (i++j)) H):=by
 intro pins s σ H x y v u Q I rx ry h
 obtain ⟨i,j,rfl,rfl,hz,q⟩:=h
 obtain ⟨t,rfl⟩:=rx
 obtain ⟨t',rfl⟩:=ry
 exact add_str (fun t' tk=>⟨.str (i++j),H,I.tok _,⟨_,rfl⟩,q⟩) hz
theorem Zlv:OpR X (inplaceOp .Add) (fun x y H Q=>∃ i j,x=.str i∧y=.str j∧i.length+j.length≤sizeLine∧Q (.str (i++j)) H):=by
 intro pins s σ H x y v u Q I rx ry h
 obtain ⟨i,j,rfl,rfl,hz,q⟩:=h
 obtain ⟨t,rfl⟩:=rx
 obtain ⟨t',rfl⟩:=ry
 exact iadd_str (fun t' tk=>⟨.str (i++j),H,I.tok _,⟨_,rfl⟩,q⟩) hz
theorem ZjL {x:V} {us:List Value} (r:Vals [x] us):∃ u,us=[u]∧RelV x u:=by
 cases r with
 | cons r1 r2=>cases r2;exact ⟨_,rfl,r1⟩
theorem Zvd {x y:V} {us:List Value} (r:Vals [x,y] us):∃ u w',us=[u,w']∧RelV x u∧RelV y w':=by
 cases r with
 | cons r1 r2 =>
  cases r2 with
  | cons r3 r4=>cases r4;exact ⟨_,_,rfl,r1,r3⟩
theorem Zpu:CallR X (.type "int") (fun xs H Q=>(∃ i,xs=[.int i]∧Q (.int i) H)∨∃ k,xs=[.bl k]∧Q (.int (if k then 1 else 0)) H):=by
 intro pins s σ H xs us Q I r h
 rcases h with ⟨i,rfl,q⟩ | ⟨k,rfl,q⟩
 ·obtain ⟨u,rfl,t,rfl⟩:=ZjL r
  exact call_int_int ⟨.int i,H,I,⟨_,rfl⟩,q⟩
 ·obtain ⟨u,rfl,r1⟩:=ZjL r
  cases r1
  exact call_int_bool ⟨.int (if k then 1 else 0),H,I.tok _,⟨_,rfl⟩,q⟩
def ZxH (K:PySem.W.Frag) (x:V) (H:Hp) (n:Nat):Prop :=
 match x with
 | .str y=>y.length≤sizeLine∧n=y.length
 | .byt y=>y.size≤sizeLine∧n=y.size
 | .ref p=>(∃ xs,SqL K H p xs∧n=xs.length)∨∃ xs,SqT K H p xs∧n=xs.length
 | _=>False
theorem ZqU:CallR X (.builtin "len") (fun xs H Q=>∃ x n,xs=[x]∧ZxH X.K x H n∧Q (.int n) H):=by
 intro pins s σ H xs us Q I r h
 obtain ⟨x,n,rfl,e,q⟩:=h
 obtain ⟨u,rfl,rx⟩:=ZjL r
 have hl:=Zir
 have hs:sizeLine=16777216:=sizeLine_eq
 cases x with
 | str y =>
  obtain ⟨t,rfl⟩:=rx
  obtain ⟨hy,e'⟩:y.length≤sizeLine∧n=y.length:=e
  subst e'
  exact len_str (by omega) ⟨.int _,H,I.tok _,⟨_,rfl⟩,q⟩
 | byt y =>
  obtain ⟨t,rfl⟩:=rx
  obtain ⟨hy,e'⟩:y.size≤sizeLine∧n=y.size:=e
  subst e'
  exact PySem.W.len_bytes (by omega) ⟨.int _,H,I.tok _,⟨_,rfl⟩,q⟩
 | ref p =>
  cases rx
  have e':(∃ xs,SqL X.K H p xs∧n=xs.length)∨∃ xs,SqT X.K H p xs∧n=xs.length:=e
  rcases e' with ⟨xs,hx,e'⟩ | ⟨xs,hx,e'⟩
  ·subst e'
   obtain ⟨its,r',pl,hz⟩:=I.list hx
   have hlen:=r'.length
   exact Calls.call_len_list pl.isList (by simp only [List.size_toArray];omega) ⟨.int xs.length,H,I.tok _,⟨_,by simp only [List.size_toArray];rw [hlen]⟩,q⟩
  ·subst e'
   obtain ⟨its,r',pl,hz⟩:=I.tuple hx
   have hlen:=r'.length
   exact len_tuple pl (by simp only [List.size_toArray];omega) ⟨.int xs.length,H,I.tok _,⟨_,by simp only [List.size_toArray];rw [hlen]⟩,q⟩
 | _=>exact (show False from e).elim
end
end L2
namespace L2
open PySem PySem.Spec PyProof.Rows
section
variable {prog:Program} {w:World} {A:Around} {E:Value→Shared→Prop} {s:Shared} {K:PySem.W.Frag} {x dx C f:Addr} {mA:Str→Option Value} {name:Str} {v:Value}
end
section
variable {P:Program} {w:World} {H H':Hp} {h h':Heap} {a C dx:Addr} {fs fs':List (Str×V)}
end
structure Cls (K:PySem.W.Frag) (C:Addr):Prop where
 pg:PySem.W.plainGet K C Str.empty=true
 hd:PySem.W.hasDictIn K C=true
 po:PySem.W.plainOver K C=true
 sa:PySem.W.findIn K (.ref C) "__setattr__"=some (some (.builtin "object.__setattr__"))
theorem Cls.get {K:PySem.W.Frag} {C:Addr} (c:Cls K C) (f:Str):PySem.W.plainGet K C f=true:=c.pg
section
variable {X:Cx} {pins:List (Addr×Obj)} {σ:St} {H:Hp} {s:Shared} {a C dx:Addr} {fs:List (Str×V)} {f:Str} {v:V} {A:Around} {E:Value→Shared→Prop}
theorem Inv.made (I:Inv X pins σ H s):Inv X pins σ (upd (upd H s.heap.objs.size (.own (s.heap.objs.size+1))) (s.heap.objs.size+1) (.ins C s.heap.objs.size []))
  { s with heap:=(s.heap.push PySem.W.emptyDict).push (PySem.W.instObj C s.heap.objs.size) }:=by
 have e1:(s.heap.push PySem.W.emptyDict).get? s.heap.objs.size=some PySem.W.emptyDict:=Heap.get?_push_size s.heap rfl
 have e2:((s.heap.push PySem.W.emptyDict).push (PySem.W.instObj C s.heap.objs.size)).get? (s.heap.objs.size+1)=some (PySem.W.instObj C s.heap.objs.size):=by
  have:=Heap.get?_push_size (s.heap.push PySem.W.emptyDict) (o:=PySem.W.instObj C s.heap.objs.size) rfl
  rwa [Heap.size_push] at this
 have e3:(s.heap.push PySem.W.emptyDict).Ns s.heap.objs.size (fun _=>none):=⟨PySem.W.emptyDict,#[],_,e1,rfl,(fun e he=>absurd he (by simp)),fun _=>rfl⟩
 have I1:=I.laid (a:=s.heap.objs.size) (o:=.own (s.heap.objs.size+1)) (h':=s.heap.push PySem.W.emptyDict) (t':=s.toks) (fun b u q=>Heap.get?_push_of_some _ q) (Nat.le_refl _) ⟨_,e1⟩
 refine I1.laid (a:=s.heap.objs.size+1) (o:=.ins C s.heap.objs.size []) (t':=s.toks) (fun b u q=>Heap.get?_push_of_some _ q) (Nat.le_of_eq (Heap.size_push _ _)) ?_
 have ne:s.heap.objs.size≠s.heap.objs.size+1:=Nat.ne_of_lt (Nat.lt_succ_self _)
 refine ⟨by rw [ZaT ne,Zbj],Nat.zero_le _,ne,e2,fun _=>none,(Heap.Ns1.of_empty e3).at fun o q=>Heap.get?_push_of_some _ q,fun _=>True.intro,fun y hy=>absurd rfl hy⟩
end
section
variable {X:Cx} {o e value:Expr} {f:Str} {pos pos' tpos:Pos} {ta tv:TE}
def Ze6:V→V→Hp→VK→Prop:=fun x y H Q=>∃ i j,x=.int i∧y=.int j∧Q (.int (i+j)) H
end
section
variable {X:Cx} {pins:List (Addr×Obj)} {σ:St} {H:Hp} {s:Shared} {A:Around} {E:Value→Shared→Prop} {Q:Value→Shared→Prop} {c:Value} {b:Bool}
end
end L2
namespace L2
open PySem PySem.Spec PyProof.Rows
structure Room (k:Nat) (A:Around):Prop where
 hd:A.handled=none
 dp:A.depth+3*k+5 < recursionLimit
 un:A.units+16*k+200 < cLine
theorem Room.mono {j k:Nat} {A:Around} (r:Room k A) (h:j≤k):Room j A:=⟨r.hd,by have:=r.dp;omega,by have:=r.un;omega⟩
theorem Room.deeper {k:Nat} {A:Around} (r:Room (k+1) A) (env:Env):Room k (A.deeper env) :=
 ⟨r.hd,by have:=r.dp;show A.depth+1+3*k+5 < _;omega,by have:=r.un;show A.units+3+16*k+200 < _;omega⟩
theorem Room.in1 {k:Nat} {A:Around} (r:Room (k+1) A):Room k A.in1 :=
 ⟨r.hd,by have:=r.dp;show A.depth+3*k+5 < _;omega,by have:=r.un;show A.units+1+16*k+200 < _;omega⟩
theorem Room.depth {k:Nat} {A:Around} (r:Room k A):A.depth < recursionLimit:=by have:=r.dp;omega
theorem Room.units {k:Nat} {A:Around} (r:Room k A):A.units+64 < cLine:=by have:=r.un;omega
def Zxu:TA:=fun _ H Q=>Q [] H
def ZpT (ta:TE) (tr:TA):TA:=fun σ H Q=>ta σ H fun x H1=>tr σ H1 fun xs H2=>Q (x::xs) H2
section
variable {X:Cx} {e:Expr} {es:List Expr} {te:TE} {t:TA} {pos:Pos}
theorem Zov:PA X [] Zxu:=fun _ _ _ _ H Q I h=>Calls.spliced_nil ⟨[],H,I,.nil,h⟩
theorem Zjj (ha:PE X e te) (hr:PA X es t) (hs:starEach (e::es) X.env=(false,eval e X.env)::starEach es X.env:=by rfl):PA X (e::es) (ZpT te t):=by
 intro pos pins s σ H Q I h
 rw [hs]
 show wpAny _ _ (spliced ((false,eval e X.env)::backTo pos (starEach es X.env))) _ _ s
 refine Calls.spliced_cons (thn (ha pins s σ H _ I h) fun u s1 zz43=>?_)
 obtain ⟨x,H1,I1,r1,q1⟩:=zz43
 exact thn (hr pos pins s1 σ H1 _ I1 q1) (by rintro us s2 ⟨xs,H2,I2,r2,q2⟩;exact ⟨x::xs,H2,I2,.cons r1 r2,q2⟩)
def Zx7 (t:TA):TE:=fun σ H Q=>t σ H fun xs H1=>xs.length≤sizeLine∧∀ p,H1 p=none→Q (.ref p) (upd H1 p (.tup xs))
def ZxT (t:TA):TE:=fun σ H Q=>t σ H fun xs H1=>xs.length≤sizeLine∧∀ p,H1 p=none→Q (.ref p) (upd H1 p (.lst xs))
theorem Zvt {x1} (h:PA X es t):PE X (.Tuple es x1 pos) (Zx7 t):=by
 intro pins s σ H Q I hq
 refine wpAny_Tuple_spliced (thn (h pos pins s σ H _ I hq) fun us s1 ⟨xs,H1,I1,r,z,q⟩=>⟨by rw [← r.length];exact z,?_⟩)
 have hf:H1 s1.heap.objs.size=none:=I1.hok.fresh (Nat.le_refl _)
 refine ⟨.ref s1.heap.objs.size,upd H1 s1.heap.objs.size (.tup xs),I1.laid (t':=s1.toks) (fun b u e=>Heap.get?_push_of_some _ e) (Nat.le_refl _) ?_,rfl,q _ hf⟩
 exact ⟨z,us,r,⟨_,Heap.get?_push_size _ rfl,rfl,_,rfl⟩⟩
theorem ZvN (h:PA X es t):PE X (.List es pos) (ZxT t):=by
 intro pins s σ H Q I hq
 refine wpAny_List_spliced (thn (h pos pins s σ H _ I hq) fun us s1 ⟨xs,H1,I1,r,z,q⟩=>⟨by rw [← r.length];exact z,?_⟩)
 have hf:H1 s1.heap.objs.size=none:=I1.hok.fresh (Nat.le_refl _)
 refine ⟨.ref s1.heap.objs.size,upd H1 s1.heap.objs.size (.lst xs),I1.laid (t':=s1.toks) (fun b u e=>Heap.get?_push_of_some _ e) (Nat.le_refl _) ?_,rfl,q _ hf⟩
 exact ⟨z,us,0,r,Heap.get?_push_size _ rfl⟩
end
abbrev Sp:=List V→Hp→VK→XK→Prop
abbrev CXT:=List Env→Hp→Shared→XK→Value→Shared→Prop
structure Env0 (P:Program) (w:World) (K:PySem.W.Frag) (mg:Str→Option Value) (base:Heap) (A:Around) (outer:List Env) (s:Shared) (H:Hp):Prop where
 frames:A.frames=some outer
 mod:Mod K mg base
 bs:∀ b o,base.get? b=some o→s.heap.get? b=some o∧H b=none
 bsz:base.objs.size≤s.heap.objs.size
 funs:s.heap.FunFrames base outer
 frf:∀ b∈frs outer,H b=none
 hok:HOk P w H s.heap
 bare:AllBare s.gens
def CE (outer:List Env) (P:Program) (w:World) (H:Hp) (s:Shared) (Q:VK) (u:Value) (s':Shared):Prop :=
 ∃ v H',s'.os=s.os∧AllBare s'.gens∧Un (frs outer) [] H H' s.heap s'.heap∧HOk P w H' s'.heap∧RelV v u∧Q v H'
def CR (CX:CXT) (outer:List Env) (P:Program) (w:World) (H:Hp) (s:Shared) (Q:VK) (E:XK) (r:Result) (s':Shared):Prop :=
 match r with
 | .ok (.ret u)=>CE outer P w H s Q u s'
 | .ok _=>False
 | .error e=>CX outer H s E e s'
structure FnOk (P:Program) (w:World) (K:PySem.W.Frag) (mg:Str→Option Value) (base:Heap) (CX:CXT) (k:Nat) (f:Addr) (fd:FuncData) (ps:List Str) (sp:Sp):Prop where
 len:∀ vs H Q E,sp vs H Q E→vs.length=ps.length
 run:∀ (A:Around) (outer:List Env) (s:Shared) (H:Hp) (args:Args) (us:List Value) (vs:List V) (Q:VK) (E:XK),Room k A→Env0 P w K mg base A outer s H→BindsTo s fd args (ps.zip us)→Vals vs us→sp vs H Q E →
  codeAny (model P w) A (.call (.ref f) args) (CR CX outer P w H s Q E) s
theorem FnOk.mono {P:Program} {w:World} {K:PySem.W.Frag} {mg:Str→Option Value} {base:Heap} {CX:CXT} {j k:Nat} {f:Addr} {fd:FuncData} {ps:List Str} {sp:Sp} (F:FnOk P w K mg base CX j f fd ps sp) (h:j≤k) :
  FnOk P w K mg base CX k f fd ps sp:=⟨F.len,fun A outer s H args us vs Q E hr=>F.run A outer s H args us vs Q E (hr.mono h)⟩
theorem FnOk.imp {P:Program} {w:World} {K:PySem.W.Frag} {mg:Str→Option Value} {base:Heap} {CX:CXT} {k:Nat} {f:Addr} {fd:FuncData} {ps:List Str} {sp sp':Sp} (F:FnOk P w K mg base CX k f fd ps sp)
  (h:∀ vs H Q E,sp' vs H Q E→sp vs H Q E):FnOk P w K mg base CX k f fd ps sp' :=
 ⟨fun vs H Q E q=>F.len vs H Q E (h _ _ _ _ q),fun A outer s H args us vs Q E hr he hb hv hs=>F.run A outer s H args us vs Q E hr he hb hv (h _ _ _ _ hs)⟩
theorem Env0.in1 {P:Program} {w:World} {K:PySem.W.Frag} {mg:Str→Option Value} {base:Heap} {A:Around} {outer:List Env} {s:Shared} {H:Hp} (e:Env0 P w K mg base A outer s H) :
  Env0 P w K mg base A.in1 outer s H:=⟨e.frames,e.mod,e.bs,e.bsz,e.funs,e.frf,e.hok,e.bare⟩
section
variable {X:Cx} {pins:List (Addr×Obj)} {σ:St} {H:Hp} {s s':Shared}
theorem Inv.env0 (I:Inv X pins σ H s):Env0 X.prog X.w X.K X.mg X.base X.A X.stack s H :=
 ⟨I.ok.frames,I.ok.mod,I.bs,Nat.le_trans I.ok.bsz I.sz,I.stack,I.stkFree,I.hok,I.bare⟩
theorem Inv.after {Q:VK} {u:Value} (I:Inv X pins σ H s) (h:CE X.stack X.prog X.w H s Q u s'):EP X pins σ Q u s':=by
 obtain ⟨v,H',os,bare,un,hok,r,q⟩:=h
 obtain ⟨hh,g,d,t,os'⟩:=s'
 obtain rfl:os'=s.os:=os
 exact ⟨v,H',I.call (h':=hh) (g':=g) (d':=d) (t':=t) (ch:=[]) un hok bare (fun b z=>absurd z (by simp)),r,q⟩
end
def Binds (K:PySem.W.Frag) (fd:FuncData) (ps:List Str) (ds:List Value):Prop :=
 ∀ (s:Shared) (us:List Value),K.In s.heap→(us++ds).length=ps.length→BindsTo s fd ⟨us,[]⟩ (ps.zip (us++ds))
theorem Binds.all {K:PySem.W.Frag} {fd:FuncData} {ps:List Str} (h:∀ us:List Value,us.length=ps.length→bindArgs fd ⟨us,[]⟩=pure (ps.zip us)):Binds K fd ps []:=fun s us _ hl=>by
 rw [List.append_nil] at hl ⊢
 exact .of_eq (h us hl)
section
variable {X:Cx} {CX:CXT} {k:Nat} {f C:Addr} {fd:FuncData} {ps:List Str} {sp:Sp} {dvs:List V} {ds:List Value} {E:XK} {x m:Str} {p pos apos:Pos} {e o:Expr} {es:List Expr} {ta:TE} {t:TA}
end
section
variable {X:Cx} {CX:CXT} {k:Nat} {f C:Addr} {fd:FuncData} {ps ks:List Str} {sp:Sp} {E:XK} {x m:Str} {p pos apos kpos:Pos} {e o:Expr} {es:List Expr} {kws:List Keyword} {te ta:TE} {t tk:TA} {nm:Option Str}
variable {g:List Value→List Value→List Value} {gV:List V→List V→List V}
end
structure ZaC (N P:List Str) (sc:Scope):Prop where
 kind:sc.kind=.function
 co:sc.isCoroutine=false
 gen:sc.isGenerator=false
 nd:N.Nodup
 pre:N.take P.length=P
 par:∀ x∈P,sc.names.lookup x=some .local∨sc.names.lookup x=some .cell
 nofree:∀ y∈sc.names,y.2≠.free
theorem ZjP {kindOf:Str→Option NameKind} {x:Str}:∀ {binds:List (Str×Value)} {m:Str→Option Value},(∀ v,(x,v)∉binds)→bindL kindOf binds m x=m x
 | [],_,_=>rfl
 | (n,v)::r,m,h=>by
  unfold bindL
  rw [ZjP fun w hw=>h w (List.mem_cons_of_mem _ hw)]
  split
  ·have:x≠n:=by rintro rfl;exact h v List.mem_cons_self
   simp [this]
  ·rfl
theorem Zkc {kindOf:Str→Option NameKind} {x:Str}:∀ {binds:List (Str×Value)} {m:Str→Option Value},(∀ v,(x,v)∉binds)→bindC kindOf binds m x=m x
 | [],_,_=>rfl
 | (n,v)::r,m,h=>by
  unfold bindC
  rw [Zkc fun w hw=>h w (List.mem_cons_of_mem _ hw)]
  split
  ·rfl
  ·have:x≠n:=by rintro rfl;exact h v List.mem_cons_self
   simp [this]
theorem ZkQ {kindOf:Str→Option NameKind} {x:Str} {v:Value}:∀ {P:List Str} {vs:List Value} {i:Nat} {m:Str→Option Value},P.Nodup→P[i]?=some x→vs[i]?=some v→kindOf x=some .local →
  bindL kindOf (P.zip vs) m x=some v
 | [],_,_,_,_,h,_,_=>by simp at h
 | _::_,[],_,_,_,_,h,_=>by simp at h
 | p::P,w::vs,0,m,nd,h1,h2,hk=>by
  simp at h1 h2;subst h1;subst h2
  show bindL kindOf ((p,w)::P.zip vs) m p=_
  unfold bindL
  rw [ZjP fun v hv=>(List.nodup_cons.mp nd).1 (List.of_mem_zip hv).1,if_pos hk]
  simp
 | p::P,w::vs,i+1,m,nd,h1,h2,hk=>by
  show bindL kindOf ((p,w)::P.zip vs) m x=_
  unfold bindL
  exact ZkQ (i:=i) (List.nodup_cons.mp nd).2 (by simpa using h1) (by simpa using h2) hk
theorem Zkn {kindOf:Str→Option NameKind} {x:Str} {v:Value}:∀ {P:List Str} {vs:List Value} {i:Nat} {m:Str→Option Value},P.Nodup→P[i]?=some x→vs[i]?=some v→kindOf x≠some .local →
  bindC kindOf (P.zip vs) m x=some v
 | [],_,_,_,_,h,_,_=>by simp at h
 | _::_,[],_,_,_,_,h,_=>by simp at h
 | p::P,w::vs,0,m,nd,h1,h2,hk=>by
  simp at h1 h2;subst h1;subst h2
  show bindC kindOf ((p,w)::P.zip vs) m p=_
  unfold bindC
  rw [Zkc fun v hv=>(List.nodup_cons.mp nd).1 (List.of_mem_zip hv).1,if_neg hk]
  simp
 | p::P,w::vs,i+1,m,nd,h1,h2,hk=>by
  show bindC kindOf ((p,w)::P.zip vs) m x=_
  unfold bindC
  exact Zkn (i:=i) (List.nodup_cons.mp nd).2 (by simpa using h1) (by simpa using h2) hk
def Zhk (N:List Str) (vs:List V):St:=vs.map some++List.replicate (N.length - vs.length) none
def Zso (CX:CXT) (P:Program) (w:World) (K:PySem.W.Frag) (mg:Str→Option Value) (base:Heap) (N:List Str) (qual:Str) (scope:Scope) (f:Addr) (cd:Value) (A:Around) (outer:List Env) (s:Shared) (H:Hp) (E:XK):Cx where
 prog:=P
 w:=w
 K:=K
 mg:=mg
 base:=base
 A:=A.deeper (envOfC qual scope s.heap.objs.size f cd)
 N:=N
 s₀:=s
 H₀:=H
 env:=envOfC qual scope s.heap.objs.size f cd
 outer:=outer
 stack:=envOfC qual scope s.heap.objs.size f cd::outer
 ex:=[]
 calm:=true
 fn:=fun _=>true
 pn:=[]
 xe:=fun e s'=>wpAny (model P w) (A.deeper (envOfC qual scope s.heap.objs.size f cd)) (leaving (envOfC qual scope s.heap.objs.size f cd) e) (fun _ s''=>CX outer H s E e s'') (fun e' s''=>CX outer H s E e' s'') s'
theorem Zi0 {sc:Scope} {n:Nat} {x:Str} (h:sc.names.lookup x=some .cell):∃ c,(cellsFrom n sc.names []).lookup x=some c:=by
 have q:=PySem.W.cellsFrom_some sc.names n [] (.inl h)
 exact Option.isSome_iff_exists.mp q
theorem ZoV {CX:CXT} {P:Program} {w:World} {K:PySem.W.Frag} {mg:Str→Option Value} {base:Heap} {N ps:List Str} {qual:Str} {scope:Scope} {f:Addr} {cd:Value} {A:Around} {outer:List Env} {s s1:Shared} {H:Hp} {E:XK} {us:List Value} {vs:List V}
  (S:ZaC N ps scope) (hd:A.handled=none) (e0:Env0 P w K mg base A outer s H) (hl:vs.length=ps.length) (r:Vals vs us)
  (x:InCallC s s.heap.objs.size (bindL (envOfC qual scope s.heap.objs.size f cd).kindOf (ps.zip us) fun _=>none) (cellsFrom (s.heap.objs.size+1) scope.names []) (bindC (envOfC qual scope s.heap.objs.size f cd).kindOf (ps.zip us) fun _=>none) s1) :
  Inv (Zso CX P w K mg base N qual scope f cd A outer s H E) [] (Zhk N vs) H s1:=by
 have hpl:ps.length≤N.length:=by have:=congrArg List.length S.pre;rw [List.length_take] at this;omega
 obtain ⟨h1,tk,rfl,hk⟩:=x.done
 have noA:∀ b:Addr,b∉(Zso CX P w K mg base N qual scope f cd A outer s H E).ex:=fun b z=>absurd (show b∈([]:List Addr) from z) (by simp)
 refine ⟨⟨e0.mod,S.kind,rfl,rfl,Nat.le_refl _,fun y z c h1 h2=>?_,fun y hy=>?_,fun y c _ h=>?_,fun _=>hd,Around.frames_deeper e0.frames,.inr ⟨rfl,rfl⟩,fun b z=>absurd z (noA b),e0.bs,e0.bsz,fun b _ _=>noA b,fun b z=>absurd z (noA b),e0.funs,e0.frf⟩,
  rfl,e0.bare,Un.kept hk,⟨_,x.toInCall.ns,fun i y v h1 h2 h3=>?_⟩,fun y c h=>⟨_,x.cell y c h⟩,e0.hok.fresh (Nat.le_refl _),fun y c h=>?_,fun p hp=>absurd (show p∈([]:List (Addr×Obj)) from hp) (by simp),e0.hok.kept hk,?_⟩
 ·exact name_of_addr x.apart (PySem.mem_of_lookup h1) (PySem.mem_of_lookup h2)
 ·have hy:scope.names.lookup y=some .cell∨scope.names.lookup y=some .free:=hy
  rcases hy with hy | hy
  ·exact Zi0 hy
  ·exact absurd rfl (S.nofree _ (PySem.mem_of_lookup hy))
 ·exact Nat.le_of_lt (x.above y c (PySem.mem_of_lookup h))
 ·have hi:i < vs.length:=by
   unfold Zhk at h2
   by_cases hi:i < vs.length
   ·exact hi
   ·rw [List.getElem?_append_right (by simpa using hi)] at h2
    rw [List.getElem?_replicate] at h2
    split at h2 <;> cases h2
  have ha:vs[i]?=some v:=by
   unfold Zhk at h2
   rw [List.getElem?_append_left (by simpa using hi),List.getElem?_map] at h2
   cases e:vs[i]? with
   | none=>rw [e] at h2;cases h2
   | some a=>rw [e] at h2;cases h2;rfl
  obtain ⟨u,hu,rv⟩:=r.get ha
  have hp:ps[i]?=some y:=by
   rw [← S.pre,List.getElem?_take_of_lt (by omega)];exact h1
  have ndP:ps.Nodup:=by rw [← S.pre];exact S.nd.sublist (List.take_sublist _ _)
  refine ⟨u,rv,?_⟩
  rcases S.par y (List.mem_of_getElem? hp) with k | k
  ·exact .inl ⟨k,ZkQ ndP hp hu k⟩
  ·obtain ⟨c,e⟩:=Zi0 (n:=s.heap.objs.size+1) k
   refine .inr ⟨.inl k,c,e,?_⟩
   have q:=x.cell y c e
   rw [Zkn ndP hp hu (by show scope.names.lookup y≠_;rw [k];decide)] at q
   exact q
 ·exact e0.hok.fresh (Nat.le_of_lt (x.above y c (PySem.mem_of_lookup h)))
 ·unfold Zhk
  show _=N.length
  rw [List.length_append,List.length_map,List.length_replicate]
  omega
theorem Zsi {CX:CXT} {P:Program} {w:World} {K:PySem.W.Frag} {mg:Str→Option Value} {base:Heap} {k:Nat} {f:Addr} {name qual:Str} {params:Arguments} {body:List Stmt} {scope:Scope} {dV kV doc pm cdv ct oc:Value} {an od:Option Addr}
  {osl:Array (Option Value)} {N ps:List Str} {sp:Sp} (lk:K.lookup f=some ⟨oc,od,.func (PySem.W.fnOf name qual params body scope dV kV doc pm an cdv ct),osl⟩) (hcd:PySem.W.codeIn K cdv qual=true) (S:ZaC N ps scope)
  (len:∀ vs H Q E,sp vs H Q E→vs.length=ps.length)
  (hbody:∀ (A:Around) (outer:List Env) (s:Shared) (H:Hp) (vs:List V) (Q:VK) (E:XK),Room k (A.deeper (envOfC qual scope s.heap.objs.size f cdv))→sp vs H Q E →
   ∃ t,PSs (Zso CX P w K mg base N qual scope f cdv A outer s H E) body t∧t { nx:=fun _ H'=>Q .non H',rt:=Q } (Zhk N vs) H) :
  FnOk P w K mg base CX (k+1) f (PySem.W.fnOf name qual params body scope dV kV doc pm an cdv ct) ps sp:=by
 refine ⟨len,fun A outer s H args us vs Q E hr e0 hb r hsp=>?_⟩
 have hl:=len _ _ _ _ hsp
 have KX:K.In s.heap:=e0.mod.kin.keeps fun b o e=>(e0.bs b o e).1
 have lim:s.heap.NoLimit:=e0.mod.nolimit.keeps fun b o e=>(e0.bs b o e).1
 have hkind:∀ y∈ps.zip us,scope.names.lookup y.1=some .local∨(scope.names.lookup y.1=some .cell∧((cellsFrom (s.heap.objs.size+1) scope.names []).lookup y.1).isSome=true):=by
  rintro ⟨n,v⟩ hy
  rcases S.par n (List.of_mem_zip hy).1 with q | q
  ·exact .inl q
  ·exact .inr ⟨q,PySem.W.cellsFrom_some _ _ _ (.inl q)⟩
 refine codeAny_call_function hr.depth (KX _ _ lk) rfl S.co S.gen rfl (PySem.W.codeRec_of KX hcd) (hb _ _ _ _ ?_)
 refine wpAny_newFunctionEnv_cells S.kind hkind fun env he s1 x=>?_
 subst he
 refine ⟨lim.keeps x.toInCall.keep,codeAny_func ?_⟩
 obtain ⟨t,ht,hq⟩:=hbody A outer s H vs Q E (hr.deeper _) hsp
 have I:Inv (Zso CX P w K mg base N qual scope f cdv A outer s H E) [] (Zhk N vs) H s1:=ZoV S hr.hd e0 hl r x
 refine wpAny_mono (ht [] s1 (Zhk N vs) H _ I hq) (fun fl s' hs=>?_) fun e s' hs=>hs
 have fin:∀ {σ':St} {H':Hp} {v:V} {u:Value},Inv (Zso CX P w K mg base N qual scope f cdv A outer s H E) [] σ' H' s'→RelV v u→Q v H'→CE outer P w H s Q u s' :=
  fun {σ' H' v u} J rv q=>⟨v,H',J.os,J.bare,J.base,J.hok,rv,q⟩
 cases fl with
 | ret u =>
  obtain ⟨v,σ',H',J,rv,q⟩:=hs
  exact fin J rv q
 | next =>
  obtain ⟨σ',H',J,q⟩:=hs
  exact fin (v:=V.non) (u:=Value.none) J rfl q
 | brk =>
  obtain ⟨_,_,_,q⟩:=hs
  exact False.elim q
 | cont =>
  obtain ⟨_,_,_,q⟩:=hs
  exact False.elim q
end L2
namespace L2
open PySem PySem.Spec PyProof.Rows
section
variable {X:Cx} {x:Str} {p pos:Pos} {e:Expr} {es:List Expr} {t:TA} {id T:String} {r:List V→Hp→VK→Prop}
def tCB (r:List V→Hp→VK→Prop) (t:TA):TE:=fun σ H Q=>t σ H fun vs H1=>r vs H1 Q
theorem ZqZ (hc:CallR X (.builtin id) r) (hg:Gl X x) (hm:X.mg x=none) (hv:bootBuiltins x=some (.builtin id)) (ha:PA X (e::es) t) (hn:x≠"__name__":=by decide) (hdb:(x==("__debug__":Str))=false:=by decide)
  (he:starEach (e::es) X.env=(false,eval e X.env)::starEach es X.env:=by rfl) (hpl:(backTo pos (starEach es X.env)).any (·.1)=false:=by rfl):PE X (.Call (.Name x p) (e::es) [] pos) (tCB r t):=by
 intro pins s σ H Q I h
 refine wpAny_Call_Name_kw (Zdp I hg hm hv ?_ hn hdb)
 exact PyProof.Rows.callWith_builtin1 (thn (ha pos pins s σ H _ I h) (by rintro us s1 ⟨vs,H1,I1,r1,q1⟩;exact hc pins s1 σ H1 vs us Q I1 r1 q1)) he hpl
theorem Zo8 (hc:CallR X (.type T) r) (hg:Gl X x) (hm:X.mg x=none) (hv:bootBuiltins x=some (.type T)) (ha:PA X (e::es) t) (hn:x≠"__name__":=by decide) (hdb:(x==("__debug__":Str))=false:=by decide)
  (he:starEach (e::es) X.env=(false,eval e X.env)::starEach es X.env:=by rfl) (hpl:(backTo pos (starEach es X.env)).any (·.1)=false:=by rfl):PE X (.Call (.Name x p) (e::es) [] pos) (tCB r t):=by
 intro pins s σ H Q I h
 refine wpAny_Call_Name_kw (Zdp I hg hm hv ?_ hn hdb)
 exact PyProof.Rows.callWith_type1 (thn (ha pos pins s σ H _ I h) (by rintro us s1 ⟨vs,H1,I1,r1,q1⟩;exact hc pins s1 σ H1 vs us Q I1 r1 q1)) he hpl
end
end L2
namespace HT
open PySem PyProof.Rows
section
open PySem.SeqAt
open PySem.AutoSeq1 (wpAny_loadPart')
open PySem.MeetsSeq PySem.MeetsSeq2 PySem.MeetsSeq3
end
section
variable {prog:Program} {w:World} {A:Around} {E:Value→Shared→Prop} {s:Shared}
theorem cat_tup {t b:Addr} {vs ws:List Value} {Q:Value→Shared→Prop} (ht:IsTup s.heap t vs.toArray) (hb:IsTup s.heap b ws.toArray) (hv:vs≠[])
  (h1:ws=[]→Q (.ref t) s) (h2:ws≠[]→Q (.ref s.heap.objs.size) { s with heap:=s.heap.push { cls:=.type "tuple",data:=.seq (vs++ws).toArray } })
  (hsz:vs.length+ws.length≤sizeLine):wpAny (model prog w) A (binaryOp .Add (.ref t) (.ref b)) Q E s:=by
 obtain ⟨⟨cls,dd,data,sl⟩,ho,hc,n,hd⟩:=id ht
 obtain ⟨⟨cls2,dd2,data2,sl2⟩,ho2,hc2,n2,hd2⟩:=id hb
 simp only at hc hd hc2 hd2
 subst hc hd hc2 hd2
 have e:vs.toArray++ws.toArray=(vs++ws).toArray:=by simp
 by_cases hw:ws=[]
 ·exact concat_meets ⟨_,ho,rfl⟩ ⟨_,ho2,rfl⟩ noFill_tuple_add seq_tuple_add PySem.F.slot_tuple_add PySem.F.entry_tuple_add (PySem.F.args_tuple_add_2 _ _)
   (tuple_addW1 t b vs.toArray ws.toArray n n2 dd dd2 sl sl2 (by simpa using hv) (by simp [hw])) ⟨ho,ho2,h1 hw⟩
 ·refine concat_meets ⟨_,ho,rfl⟩ ⟨_,ho2,rfl⟩ noFill_tuple_add seq_tuple_add PySem.F.slot_tuple_add PySem.F.entry_tuple_add (PySem.F.args_tuple_add_2 _ _)
   (tuple_addW2 t b vs.toArray ws.toArray n n2 dd dd2 sl sl2 (by simpa using hv) (by simpa using hw) (by rw [List.size_toArray,List.size_toArray];exact hsz)) ⟨ho,ho2,?_⟩
  rw [e]
  exact h2 hw
def sIx (n d:Nat):Option Int→Nat
 | none=>d
 | some v=>if v < 0 then (v+(n:Int)).toNat else min v.toNat n
theorem sIx_none (n d:Nat):sIx n d none=d:=rfl
theorem sIx_nat (n d k:Nat):sIx n d (some (k:Int))=min k n:=by
 show (if (k:Int) < 0 then ((k:Int)+(n:Int)).toNat else min (k:Int).toNat n)=min k n
 rw [if_neg (by omega),Int.toNat_natCast]
theorem Zu8 (n d:Nat) (hd:d≤n) (o:Option Int):sIx n d o≤n:=by
 cases o with
 | none=>exact hd
 | some v =>
  show (if v < 0 then (v+(n:Int)).toNat else min v.toNat n)≤n
  by_cases hv:v < 0
  ·rw [if_pos hv];omega
  ·rw [if_neg hv];exact Nat.min_le_right _ _
theorem Zns (v:Int) (n d:Nat):(if v < 0 then max (v+(n:Int)) 0 else min v (n:Int))=((sIx n d (some v):Nat):Int):=by
 show (if v < 0 then max (v+(n:Int)) 0 else min v (n:Int))=(((if v < 0 then (v+(n:Int)).toNat else min v.toNat n):Nat):Int)
 by_cases hv:v < 0
 ·simp only [if_pos hv];omega
 ·simp only [if_neg hv];omega
theorem ZmU (lo hi:Option Int) (n:Nat):Builtin.Slice.sliceAdjust lo hi 1 (n:Int)=(((sIx n 0 lo:Nat):Int),((sIx n n hi:Nat):Int)):=by
 have h1:¬ ((1:Int) < 0):=by omega
 unfold Builtin.Slice.sliceAdjust
 simp only [h1,if_false]
 refine Prod.ext ?_ ?_
 ·cases lo with
  | none=>rfl
  | some v=>exact Zns v n 0
 ·cases hi with
  | none=>rfl
  | some v=>exact Zns v n n
theorem Zm5 (i j:Nat):Builtin.Slice.slicePlaces (i:Int) (j:Int) 1=j - i:=by
 unfold Builtin.Slice.slicePlaces
 have h1:(1:Int) > 0:=by omega
 simp only [h1,if_true,Int.ediv_one]
 split <;> omega
theorem ZiA {v:Value} {o:Option Int} {Q:Option Int→Shared→Prop} (p:IsPart v o) (h:Q o s):wpAny (model prog w) A (Builtin.Slice.slicePartIndex v) Q E s:=by
 cases p with
 | none=>exact slicePart_none h
 | int i t=>exact slicePart_int h
theorem Zei {sl:Addr} {vl vu:Value} {lo hi:Option Int} {n:Nat} {Q:Int×Int×Nat→Shared→Prop} (hs:s.heap.IsSliceOf sl vl vu .none) (pl:IsPart vl lo) (pu:IsPart vu hi)
  (h:Q (((sIx n 0 lo:Nat):Int),1,sIx n n hi - sIx n 0 lo) s):wpAny (model prog w) A (Builtin.Slice.sliceApplied (.ref sl) (pure (n:Int))) Q E s:=by
 obtain ⟨os,hos,hcs,hds⟩:=id hs
 unfold Builtin.Slice.sliceApplied Builtin.Slice.sliceFields
 refine wpAny_bind (wpAny_bind (wpAny_field hos hds (x:=vl) rfl (wpAny_bind (wpAny_field hos hds (x:=vu) rfl (wpAny_bind (wpAny_field hos hds (x:=.none) rfl (wpAny_pure ?_)))))))
 refine wpAny_bind (slicePart_none ?_)
 show wpAny _ _ (if ((1:Int)==0)=true then _ else _) _ _ s
 rw [if_neg (by decide)]
 refine wpAny_bind (ZiA pl (wpAny_bind (ZiA pu (wpAny_bind (wpAny_pure ?_)))))
 show wpAny _ _ (match Builtin.Slice.sliceAdjust lo hi 1 (n:Int) with | (lo,hi)=>pure (lo,(1:Int),Builtin.Slice.slicePlaces lo hi 1)) _ _ s
 rw [ZmU lo hi n]
 show wpAny _ _ (pure (((sIx n 0 lo:Nat):Int),(1:Int),Builtin.Slice.slicePlaces ((sIx n 0 lo:Nat):Int) ((sIx n n hi:Nat):Int) 1)) _ _ s
 rw [Zm5]
 exact wpAny_pure h
theorem Zq6 (xs:Array Value) (i k:Nat):((List.range k).filterMap fun (m:Nat)=>xs[((i:Int)+(m:Int)*1).toNat]?).toArray=((xs.toList.drop i).take k).toArray:=by
 have e:(fun (m:Nat)=>xs[((i:Int)+(m:Int)*1).toNat]?)=fun m=>xs[i+m]?:=by
  funext m
  have:((i:Int)+(m:Int)*1).toNat=i+m:=by omega
  rw [this]
 rw [e]
 have:=pick_run xs i k
 rw [List.filterMap_map] at this
 have e2:((fun x=>xs[x]?)∘fun x=>i+x)=fun m=>xs[i+m]?:=rfl
 rw [e2] at this
 rw [this]
theorem getItem_tuple_cut {t sl:Addr} {items:Array Value} {vl vu:Value} {lo hi:Option Int} {Q:Value→Shared→Prop} (ht:IsTup s.heap t items) (hs:s.heap.IsSliceOf sl vl vu .none) (pl:IsPart vl lo) (pu:IsPart vu hi)
  (hw:¬ (sIx items.size 0 lo=0∧sIx items.size items.size hi=items.size))
  (h:Q (.ref s.heap.objs.size) { s with heap:=s.heap.push { cls:=.type "tuple",data:=.seq ((items.toList.drop (sIx items.size 0 lo)).take (sIx items.size items.size hi - sIx items.size 0 lo)).toArray } })
  (hsz:items.size≤sizeLine):wpAny (model prog w) A (getItem (.ref t) (.ref sl)) Q E s:=by
 have htake:sizeOk (.seq ((items.toList.drop (sIx items.size 0 lo)).take (sIx items.size items.size hi - sIx items.size 0 lo)).toArray):=by
  show ((items.toList.drop (sIx items.size 0 lo)).take (sIx items.size items.size hi - sIx items.size 0 lo)).toArray.size≤sizeLine
  rw [List.size_toArray,List.length_take,List.length_drop,Array.length_toList]
  omega
 have hj:sIx items.size items.size hi≤items.size:=Zu8 _ _ (Nat.le_refl _) hi
 obtain ⟨os,hos,hcs,hds⟩:=id hs
 have hTs:s.TypeIs (.ref sl) "slice":=⟨os,hos,hcs⟩
 unfold getItem
 try with_reducible refine wpAny_holding ?_
 first | refine wpAny_bind (wpAny_pure ?_) | skip
 refine wpAny_bind (wpAny_sequenceKey ht.typeIs (by decide) ?_)
 refine wpAny_bind (wpAny_callSpecial?_slot (name:=Str.ofString "__getitem__") ht.typeIs PyProof.Rows.slot_tuple_getitem
  (wpAny_call_entry PyProof.Rows.slot_tuple_getitem ht.typeIs entry_tuple_getitem ?_ (args_tuple_getitem _ _)))
 show wpAny _ _ (Builtin.Tuple.tupleItemsOf (.ref t) >>= _) _ _ s
 refine wpAny_bind (tupleItemsOf_ ht ?_)
 refine wpAny_bind (wpAny_typeOf hTs ?_)
 rw [if_pos (by decide)]
 refine wpAny_bind (Zei hs pl pu ?_)
 have hno:¬ ((((sIx items.size 0 lo:Nat):Int)==0&&(1:Int)==1&&(sIx items.size items.size hi - sIx items.size 0 lo)==items.size)=true):=by
  intro q
  rw [Bool.and_eq_true,Bool.and_eq_true] at q
  have q1:((sIx items.size 0 lo:Nat):Int)=0:=eq_of_beq q.1.1
  have q2:sIx items.size items.size hi - sIx items.size 0 lo=items.size:=eq_of_beq q.2
  exact hw ⟨by omega,by omega⟩
 show wpAny _ _ (if (((sIx items.size 0 lo:Nat):Int)==0&&(1:Int)==1&&(sIx items.size items.size hi - sIx items.size 0 lo)==items.size)=true then _ else _) _ _ s
 rw [if_neg hno,Zq6]
 first
  | exact wpAny_bind (m:=Builtin.Tuple.tupleExact _) (wpAny_newObj_type (wpAny_pure ⟨_,rfl,wpAny_pure h⟩) htake)
  | exact wpAny_bind (m:=Builtin.Tuple.tupleExact _) (wpAny_newObj_type (wpAny_bind (wpAny_pure (wpAny_pure ⟨_,rfl,wpAny_pure h⟩))) htake)
  | exact wpAny_bind (wpAny_bind (m:=Builtin.Tuple.tupleExact _) (wpAny_newObj_type (wpAny_pure (wpAny_pure ⟨_,rfl,wpAny_pure h⟩)) htake))
  | exact wpAny_bind (wpAny_bind (m:=Builtin.Tuple.tupleExact _) (wpAny_newObj_type (wpAny_pure ⟨_,rfl,wpAny_pure h⟩) htake))
end
end HT
namespace L2
open PySem PySem.Spec PyProof.Rows
abbrev TO:=St→Hp→(Option Int→Hp→Prop)→Prop
def PO (X:Cx) (e:Option Expr) (t:TO):Prop :=
 ∀ (pins:List (Addr×Obj)) (s:Shared) (σ:St) (H:Hp) (Q:Option Int→Hp→Prop),Inv X pins σ H s→t σ H Q →
  wpAny (model X.prog X.w) X.A (evalPart e X.env) (fun u s'=>∃ o H',Inv X pins σ H' s'∧IsPart u o∧Q o H') X.xe s
def ZsW:TO:=fun _ H Q=>Q none H
def ZwL (t:TE):TO:=fun σ H Q=>t σ H fun x H1=>∃ i,x=.int i∧Q (some i) H1
section
variable {X:Cx} {e:Expr} {te:TE} {lo hi:Option Expr} {tl th:TO} {pos p2:Pos}
theorem Ztx:PO X none ZsW:=by
 intro pins s σ H Q I h
 rw [evalPart_none]
 exact wpAny_pure ⟨none,H,I,.none,h⟩
theorem ZtH (h:PE X e te):PO X (some e) (ZwL te):=by
 intro pins s σ H Q I hw
 rw [evalPart_some]
 refine thn (h pins s σ H _ I hw) fun u s1 zz48=>?_
 obtain ⟨x,H1,I1,r1,q1⟩:=zz48
 obtain ⟨i,rfl,q⟩:=q1
 obtain ⟨t,rfl⟩:=r1
 exact ⟨some i,H1,I1,.int i t,q⟩
def SlR (X:Cx) (r:V→Option Int→Option Int→Hp→VK→Prop):Prop :=
 ∀ (pins:List (Addr×Obj)) (s:Shared) (σ:St) (H:Hp) (x:V) (v vl vu:Value) (lo hi:Option Int) (sl:Addr) (Q:VK),Inv X pins σ H s→RelV x v→s.heap.IsSliceOf sl vl vu .none→IsPart vl lo→IsPart vu hi→r x lo hi H Q →
  ∃ T id,typeLookup (.type T) "__getitem__"=pure (some (.builtin id))∧s.TypeIs v T∧wpAny (model X.prog X.w) X.A (getItem v (.ref sl)) (EP X pins σ Q) X.xe s
theorem SlR.or {r r':V→Option Int→Option Int→Hp→VK→Prop} (h:SlR X r) (h':SlR X r'):SlR X (fun x lo hi H Q=>r x lo hi H Q∨r' x lo hi H Q):=by
 intro pins s σ H x v vl vu lo hi sl Q I rx hs pl pu q
 rcases q with q | q
 ·exact h pins s σ H x v vl vu lo hi sl Q I rx hs pl pu q
 ·exact h' pins s σ H x v vl vu lo hi sl Q I rx hs pl pu q
def tSl (r:V→Option Int→Option Int→Hp→VK→Prop) (te:TE) (tl th:TO):TE:=fun σ H Q=>te σ H fun x H1=>tl σ H1 fun l H2=>th σ H2 fun u H3=>r x l u H3 Q
theorem Zmi {r:V→Option Int→Option Int→Hp→VK→Prop} (hr:SlR X r) (he:PE X e te) (hl:PO X lo tl) (hu:PO X hi th):PE X (.Subscript e (.Slice lo hi none p2) pos) (tSl r te tl th):=by
 intro pins s σ H Q I h
 refine Subscript_ (thn (he pins s σ H _ I h) fun v s1 zz49=>?_)
 obtain ⟨x,H1,I1,r1,q1⟩:=zz49
 refine wpAny_Slice (thn (hl pins s1 σ H1 _ I1 q1) fun vl s2 ⟨l,H2,I2,pl,q2⟩=>thn (hu pins s2 σ H2 _ I2 q2) fun vu s3 ⟨u,H3,I3,pu,q3⟩=>?_)
 rw [evalPart_none]
 refine wpAny_pure ?_
 have I4:Inv X pins σ H3 { s3 with heap:=s3.heap.push { cls:=.type "slice",data:=.fields #[vl,vu,.none] } }:=I3.kept (t':=s3.toks) fun b ob q=>Heap.get?_push_of_some _ q
 obtain ⟨T,id,hT,ht,hg⟩:=hr pins { s3 with heap:=s3.heap.push { cls:=.type "slice",data:=.fields #[vl,vu,.none] } } σ H3 x v vl vu l u s3.heap.objs.size Q I4 r1 (Heap.IsSliceOf.new ..) pl pu q3
 show wpAny (model X.prog X.w) X.A (subscriptTail e (.Slice lo hi none p2) v (.ref s3.heap.objs.size)) (EP X pins σ Q) X.xe { s3 with heap:=s3.heap.push { cls:=.type "slice",data:=.fields #[vl,vu,.none] } }
 exact tail_any (ops:=[.ref s3.heap.objs.size,v]) ht hT hg (by with_unfolding_all rfl)
def Zrw (xs:List V) (lo hi:Option Int):List V:=(xs.drop (HT.sIx xs.length 0 lo)).take (HT.sIx xs.length xs.length hi - HT.sIx xs.length 0 lo)
theorem ZhP (xs:List V) (lo hi:Option Int):(Zrw xs lo hi).length≤xs.length:=by
 unfold Zrw
 rw [List.length_take,List.length_drop]
 omega
def Zxk (K:PySem.W.Frag):V→Option Int→Option Int→Hp→VK→Prop:=fun x lo hi H Q=>∃ a xs,x=.ref a∧SqT K H a xs ∧
 ¬ (HT.sIx xs.length 0 lo=0∧HT.sIx xs.length xs.length hi=xs.length)∧∀ p,H p=none→Q (.ref p) (upd H p (.tup (Zrw xs lo hi)))
theorem ZrD:SlR X (Zxk X.K):=by
 intro pins s σ H x v vl vu lo hi sl Q I rx hs pl pu h
 obtain ⟨a,xs,rfl,hx,hw,q⟩:=h
 cases rx
 obtain ⟨its,r,ht,hz⟩:=I.tuple hx
 have hlen:its.toArray.size=xs.length:=by rw [List.size_toArray];exact r.length.symm
 refine ⟨"tuple",_,PyProof.Rows.slot_tuple_getitem.lookup,ht.typeIs,?_⟩
 refine HT.getItem_tuple_cut ht hs pl pu (by rw [hlen];exact hw) ?_ (by rw [hlen];exact hz)
 rw [hlen]
 refine ⟨.ref s.heap.objs.size,_,I.laid (t':=s.toks) (o:=.tup (Zrw xs lo hi)) (fun b ob q=>Heap.get?_push_of_some _ q) (Nat.le_refl _) ?_,rfl,q _ (I.hok.fresh (Nat.le_refl _))⟩
 exact ⟨Nat.le_trans (ZhP xs lo hi) hz,_,(r.drop (HT.sIx xs.length 0 lo)).take (HT.sIx xs.length xs.length hi - HT.sIx xs.length 0 lo),IsTup.new _ _⟩
def Ztc (K:PySem.W.Frag):R2:=fun x y H Q=>∃ a b xs ys,x=.ref a∧y=.ref b∧SqT K H a xs∧SqT K H b ys∧xs≠[]∧xs.length+ys.length≤sizeLine ∧
 (ys=[]→Q (.ref a) H)∧(ys≠[]→∀ p,H p=none→Q (.ref p) (upd H p (.tup (xs++ys))))
theorem Vals.nil_iff {xs:List V} {us:List Value} (r:Vals xs us):us=[]↔xs=[]:=by
 cases r with
 | nil=>simp
 | cons _ _=>simp
theorem Ztm:OpR X (binaryOp .Add) (Ztc X.K):=by
 intro pins s σ H x y v u Q I rx ry h
 obtain ⟨a,b,xs,ys,rfl,rfl,ha,hb,hx,hz,q1,q2⟩:=h
 cases rx
 cases ry
 obtain ⟨its,r1,p1,_⟩:=I.tuple ha
 obtain ⟨its2,r2,p2,_⟩:=I.tuple hb
 refine HT.cat_tup p1 p2 (fun z=>hx (r1.nil_iff.mp z)) (fun z=>⟨.ref a,H,I,rfl,q1 (r2.nil_iff.mp z)⟩) (fun z=>?_) (by rw [← r1.length,← r2.length];exact hz)
 refine ⟨.ref s.heap.objs.size,_,I.laid (t':=s.toks) (o:=.tup (xs++ys)) (fun b ob q=>Heap.get?_push_of_some _ q) (Nat.le_refl _) ?_,rfl,q2 (fun w=>z (r2.nil_iff.mpr w)) _ (I.hok.fresh (Nat.le_refl _))⟩
 exact ⟨by rw [List.length_append];exact hz,_,r1.append r2,IsTup.new _ _⟩
end
end L2
namespace L2
open PySem PySem.Spec PyProof.Rows
def ixN (n:Nat) (i:Int):Option Nat:=if 0≤i then (if i < n then some i.toNat else none) else if -(n:Int)≤i then some (i+n).toNat else none
def atI {α:Type} (xs:List α) (i:Int):Option α:=(ixN xs.length i).bind fun j=>xs[j]?
theorem Zpj {n:Nat} {i:Int} {j:Nat} (h:ixN n i=some j):seqIndex? i n=some j∧j < n∧-(n:Int)≤i∧i < n:=by
 unfold ixN at h
 by_cases h0:0≤i
 ·rw [if_pos h0] at h
  by_cases h1:i < n
  ·rw [if_pos h1] at h
   have e:i.toNat=j:=Option.some.inj h
   exact ⟨by rw [seqIndex_of h0 h1,e],by omega,by omega,h1⟩
  ·rw [if_neg h1] at h;cases h
 ·rw [if_neg h0] at h
  by_cases h1:-(n:Int)≤i
  ·rw [if_pos h1] at h
   have e:(i+n).toNat=j:=Option.some.inj h
   exact ⟨by rw [seqIndex_neg (by omega) h1,e],by omega,h1,by omega⟩
  ·rw [if_neg h1] at h;cases h
theorem ZlF {α:Type} {xs:List α} {i:Int} {v:α} (h:atI xs i=some v):∃ j,seqIndex? i xs.length=some j∧xs[j]?=some v∧j < xs.length∧-(xs.length:Int)≤i∧i < xs.length:=by
 unfold atI at h
 cases e:ixN xs.length i with
 | none=>rw [e] at h;cases h
 | some j =>
  rw [e] at h
  obtain ⟨h1,h2,h3,h4⟩:=Zpj e
  exact ⟨j,h1,h,h2,h3,h4⟩
theorem ZjA {α:Type} {xs:List α} {j:Nat} {v:α} (h:xs[j]?=some v):atI xs (j:Int)=some v:=by
 have hj:j < xs.length:=(List.getElem?_eq_some_iff.mp h).1
 have e:ixN xs.length (j:Int)=some j:=by
  unfold ixN
  rw [if_pos (by omega),if_pos (by omega)];simp
 unfold atI;rw [e];exact h
def ZjF (b:Expr):Prop:=∀ o i,subscripted b false o i=operate [o,i] (getItem o i)
def IxR (X:Cx) (r:R2):Prop :=
 ∀ (value slice:Expr) (pins:List (Addr×Obj)) (s:Shared) (σ:St) (H:Hp) (x y:V) (v u:Value) (Q:VK),Inv X pins σ H s→RelV x v→RelV y u→r x y H Q →
  subscripted slice false v u=operate [v,u] (getItem v u)→wpAny (model X.prog X.w) X.A (subscriptTail value slice v u) (EP X pins σ Q) X.xe s
def MtR (X:Cx) (id:String) (r:V→List V→Hp→VK→Prop):Prop :=
 ∀ (pins:List (Addr×Obj)) (s:Shared) (σ:St) (H:Hp) (x:V) (xs:List V) (v:Value) (us:List Value) (Q:VK),Inv X pins σ H s→RelV x v→Vals xs us→r x xs H Q →
  wpAny (model X.prog X.w) X.A (call (.builtin id) (v::us)) (EP X pins σ Q) X.xe s
section
variable {X:Cx} {a b:Expr} {ta tb:TE} {pos:Pos}
theorem IxR.or {r r':R2} (h:IxR X r) (h':IxR X r'):IxR X (fun x y H Q=>r x y H Q∨r' x y H Q):=by
 intro value slice pins s σ H x y v u Q I rx ry q hs
 rcases q with q | q
 ·exact h value slice pins s σ H x y v u Q I rx ry q hs
 ·exact h' value slice pins s σ H x y v u Q I rx ry q hs
theorem MtR.or {id:String} {r r':V→List V→Hp→VK→Prop} (h:MtR X id r) (h':MtR X id r'):MtR X id (fun x xs H Q=>r x xs H Q∨r' x xs H Q):=by
 intro pins s σ H x xs v us Q I rx rs q
 rcases q with q | q
 ·exact h pins s σ H x xs v us Q I rx rs q
 ·exact h' pins s σ H x xs v us Q I rx rs q
theorem Zw1 {r:R2} (hr:IxR X r) (ha:PE X a ta) (hb:PE X b tb) (hs:ZjF b):PE X (.Subscript a b pos) (tOp r ta tb):=by
 intro pins s σ H Q I h
 exact Subscript_ (Zwp ha hb I h fun v u s2 x y H2 I2 rx ry q=>hr a b pins s2 σ H2 x y v u Q I2 rx ry q (hs _ _))
def ZwG (K:PySem.W.Frag):R2:=fun x y H Q=>∃ p xs i v,x=.ref p∧y=.int i∧SqL K H p xs∧atI xs i=some v∧Q v H
def Zw8 (K:PySem.W.Frag):R2:=fun x y H Q=>∃ p xs i v,x=.ref p∧y=.int i∧SqT K H p xs∧atI xs i=some v∧Q v H
def ZwK:R2:=fun x y H Q=>∃ z i c,x=.str z∧y=.int i∧z.length≤sizeLine∧atI z.cps.toList i=some c∧Q (.str ⟨#[c]⟩) H
theorem ZtD:IxR X (ZwG X.K):=by
 intro value slice pins s σ H x y v u Q I rx ry h hs
 obtain ⟨p,xs,i,z,rfl,rfl,hq,he,q⟩:=h
 cases rx
 obtain ⟨t,rfl⟩:=ry
 obtain ⟨its,r,pl,hz⟩:=I.list hq
 obtain ⟨j,h1,h2,h3,h4,h5⟩:=ZlF he
 obtain ⟨w,ew,rw'⟩:=r.get h2
 have hl:=r.length
 have hn:=Zir
 have fin:EP X pins σ Q w s:=⟨z,H,I,rw',q⟩
 by_cases h0:0≤i
 ·have hj:i.toNat=j:=by
   rw [seqIndex_of h0 h5] at h1
   exact Option.some.inj h1
  exact item_listR pl.isList h0 (by omega) (by rw [hj];simpa using ew) fin hs
 ·have hj:(i+(its.toArray.size:Int)).toNat=j:=by
   rw [seqIndex_neg (by omega) h4] at h1
   rw [List.size_toArray,← hl]
   exact Option.some.inj h1
  exact subscriptTail_builtinR (x:=w) pl.isList.typeIs slot_list_getitem.lookup
   (wpAny_getItem_list_neg (Q:=fun r s'=>r=w∧EP X pins σ Q r s') pl.isList (by omega) (by rw [List.size_toArray] <;> omega) (by omega) (by rw [hj];simpa using ew) ⟨rfl,fin⟩) hs
theorem Zuk:IxR X (Zw8 X.K):=by
 intro value slice pins s σ H x y v u Q I rx ry h hs
 obtain ⟨p,xs,i,z,rfl,rfl,hq,he,q⟩:=h
 cases rx
 obtain ⟨t,rfl⟩:=ry
 obtain ⟨its,r,pl,hz⟩:=I.tuple hq
 obtain ⟨j,h1,h2,h3,h4,h5⟩:=ZlF he
 obtain ⟨w,ew,rw'⟩:=r.get h2
 have hl:=r.length
 have hn:=Zir
 have fin:EP X pins σ Q w s:=⟨z,H,I,rw',q⟩
 exact subscriptTail_builtinR (x:=w) pl.typeIs slot_tuple_getitem.lookup
  (getItem_tuple (j:=j) (Q:=fun r s'=>r=w∧EP X pins σ Q r s') pl (by omega) (by omega) (by rw [List.size_toArray,← hl];exact h1) (by simpa using ew) ⟨rfl,fin⟩) hs
theorem ZuL:IxR X ZwK:=by
 intro value slice pins s σ H x y v u Q I rx ry h hs
 obtain ⟨z,i,c,rfl,rfl,hz,he,q⟩:=h
 obtain ⟨t,rfl⟩:=rx
 obtain ⟨t',rfl⟩:=ry
 obtain ⟨j,h1,h2,h3,h4,h5⟩:=ZlF he
 have hl:z.cps.toList.length=z.length:=by simp [Str.length]
 rw [hl] at h1 h4 h5
 have hn:=Zir
 exact tail_any (typeIs_str s z t) slot_str_getitem.lookup (getItem_str (c:=c) (by
  have e1:decide (i < -(2 ^ 63:Int))=false:=decide_eq_false (by omega)
  have e2:decide (i≥2 ^ 63)=false:=decide_eq_false (by omega)
  rw [e1,e2,Bool.or_false]) (by rw [h1];simpa using h2) ⟨.str ⟨#[c]⟩,H,I.tok _,⟨_,rfl⟩,q⟩) hs
theorem ZmS (its:List Value) (n j:Nat) (u:Value):Obj.mapSeq (·.setIfInBounds j u) { cls:=.type "list",data:=.seq its.toArray n }={ cls:=.type "list",data:=.seq (its.set j u).toArray n }:=by
 simp [Obj.mapSeq]
theorem Inv.lst {pins:List (Addr×Obj)} {σ:St} {H:Hp} {s:Shared} {p:Addr} {xs:List V} (I:Inv X pins σ H s) (h:H p=some (.lst xs)) :
  ∃ (its:List Value) (n:Nat),Vals xs its∧s.heap.get? p=some { cls:=.type "list",data:=.seq its.toArray n }∧xs.length≤sizeLine:=by
 obtain ⟨z,its,n,r,e⟩:=I.hok p _ h
 exact ⟨its,n,r,e,z⟩
theorem Inv.lstUpd {pins:List (Addr×Obj)} {σ:St} {H:Hp} {s:Shared} {p:Addr} {xs ys:List V} {its its':List Value} {n n':Nat} {f:Obj→Obj} (I:Inv X pins σ H s) (h:H p=some (.lst xs))
  (ho:s.heap.get? p=some { cls:=.type "list",data:=.seq its.toArray n }) (hf:f { cls:=.type "list",data:=.seq its.toArray n }={ cls:=.type "list",data:=.seq its'.toArray n' }) (r:Vals ys its') (hz:ys.length≤sizeLine) (t:Nat) :
  Inv X pins σ (upd H p (.lst ys)) { s with heap:=s.heap.update p f,toks:=t }:=by
 have e:(s.heap.update p f).get? p=some { cls:=.type "list",data:=.seq its'.toArray n' }:=by
  rw [Heap.get?_update_self f ho (by rw [hf] <;> rfl),hf]
 refine I.write (x:=p) (e:=p) (by rw [h];trivial) (.inl rfl) (fun b u hb q=>(Heap.get?_update_other _ _ (Ne.symm hb)).trans q) ⟨_,e⟩ ?_
 exact ⟨hz,its',n',r,e⟩
def Zva:V→V→V→Hp→(Hp→Prop)→Prop:=fun o i v H Q=>∃ p xs k j,o=.ref p∧i=.int k∧H p=some (.lst xs)∧ixN xs.length k=some j∧Q (upd H p (.lst (xs.set j v)))
theorem Zrs:Zxy X Zva:=by
 intro pins s σ H o i v ov iv u Q I ro ri rv h
 obtain ⟨p,xs,k,j,rfl,rfl,hp,hj,q⟩:=h
 cases ro
 obtain ⟨t,rfl⟩:=ri
 obtain ⟨its,n,r,ho,hz⟩:=I.lst hp
 obtain ⟨h1,h2,h3,h4⟩:=Zpj hj
 have hl:=r.length
 have hn:=Zir
 have I':Inv X pins σ (upd H p (.lst (xs.set j v))) { s with heap:=s.heap.update p (Obj.mapSeq (·.setIfInBounds j u)) } :=
  I.lstUpd hp ho (ZmS its n j u) (r.set rv j) (by rw [List.length_set];exact hz) s.toks
 by_cases h0:0≤k
 ·have hk:k.toNat=j:=by
   rw [seqIndex_of h0 h4] at h1
   exact Option.some.inj h1
  exact PySem.W.ki_setAt ho h0 (by omega) (by rw [List.size_toArray,← hl];exact h4) (by rw [hk];exact ⟨_,I',q⟩)
 ·have hk:(k+(its.toArray.size:Int)).toNat=j:=by
   rw [seqIndex_neg (by omega) h3] at h1
   rw [List.size_toArray,← hl]
   exact Option.some.inj h1
  exact PySem.W.ki_setBack ho (by omega) (by rw [List.size_toArray,← hl];exact h3) (by omega) (by rw [hk];exact ⟨_,I',q⟩)
theorem ZjK (lo hi:Option Int) (n:Nat):(sliceBounds lo hi none n).1=((HT.sIx n 0 lo:Nat):Int)∧(sliceBounds lo hi none n).2.1=((HT.sIx n n hi:Nat):Int)∧(sliceBounds lo hi none n).2.2=1:=by
 refine ⟨?_,?_,rfl⟩
 ·cases lo with
  | none=>simp [sliceBounds,HT.sIx]
  | some i =>
   simp only [sliceBounds,HT.sIx,Option.getD_none,show (1:Int) > 0 by decide,if_true]
   by_cases h:i < 0
   ·simp only [h,if_true] <;> omega
   ·simp only [h,if_false] <;> omega
 ·cases hi with
  | none=>simp [sliceBounds,HT.sIx]
  | some i =>
   simp only [sliceBounds,HT.sIx,Option.getD_none,show (1:Int) > 0 by decide,if_true]
   by_cases h:i < 0
   ·simp only [h,if_true] <;> omega
   ·simp only [h,if_false] <;> omega
theorem Zjm (its:List Value) (lo hi:Option Int):slicePick its.toArray lo hi none=((its.drop (HT.sIx its.length 0 lo)).take (HT.sIx its.length its.length hi - HT.sIx its.length 0 lo)).toArray:=by
 obtain ⟨h1,h2,h3⟩:=ZjK lo hi its.toArray.size
 unfold slicePick
 rw [h1,h2,h3]
 simp only [sliceRange_one,pick_run,List.size_toArray] <;> rfl
def Zxd (K:PySem.W.Frag):V→Option Int→Option Int→Hp→VK→Prop:=fun x lo hi H Q=>∃ a xs,x=.ref a∧SqL K H a xs∧∀ p,H p=none→Q (.ref p) (upd H p (.lst (Zrw xs lo hi)))
theorem ZoK:SlR X (Zxd X.K):=by
 intro pins s σ H x v vl vu lo hi sl Q I rx hs pl pu h
 obtain ⟨a,xs,rfl,hx,q⟩:=h
 cases rx
 obtain ⟨its,r,ht,hz⟩:=I.list hx
 have hlen:=r.length
 refine ⟨"list",_,slot_list_getitem.lookup,ht.isList.typeIs,?_⟩
 refine wpAny_getItem_list_slice ht.isList hs pl pu .none (by simp) ?_ (by rw [List.size_toArray] <;> omega)
 rw [Zjm,← hlen]
 refine ⟨.ref s.heap.objs.size,_,I.laid (t':=s.toks) (o:=.lst (Zrw xs lo hi)) (fun b ob q=>Heap.get?_push_of_some _ q) (Nat.le_refl _) ?_,rfl,q _ (I.hok.fresh (Nat.le_refl _))⟩
 exact ⟨Nat.le_trans (ZhP xs lo hi) hz,_,0,(r.drop (HT.sIx xs.length 0 lo)).take (HT.sIx xs.length xs.length hi - HT.sIx xs.length 0 lo),Heap.get?_push_size _ rfl⟩
def Zh6:V→Bool
 | .non=>true
 | .bl _=>true
 | .int _=>true
 | .str _=>true
 | _=>false
def eqV:V→V→Bool
 | .non,.non=>true
 | .bl a,.bl b=>a==b
 | .bl a,.int b=>(if a then 1 else 0)==b
 | .int a,.bl b=>a==(if b then 1 else 0)
 | .int a,.int b=>a==b
 | .str a,.str b=>a==b
 | _,_=>false
theorem ZkF {A:Around} {s:Shared} {y x:V} {u v:Value} (ry:RelV y u) (rx:RelV x v) (fy:Zh6 y=true) (fx:Zh6 x=true):SeqAt.EqAt A s u v (eqV y x):=by
 cases y with
 | non =>
  cases ry
  cases x with
  | non=>cases rx;exact SeqAt.EqAt.same _
  | bl b=>cases rx;exact SeqAt.EqAt.none_bool b
  | int b=>obtain ⟨t,rfl⟩:=rx;exact SeqAt.EqAt.none_int b t
  | str b=>obtain ⟨t,rfl⟩:=rx;exact SeqAt.EqAt.none_str b t
  | _=>exact absurd (show false=true from fx) Bool.false_ne_true
 | bl a =>
  cases ry
  cases x with
  | non=>cases rx;exact SeqAt.EqAt.bool_none a
  | bl b=>cases rx;exact SeqAt.EqAt.bool_bool a b
  | int b=>obtain ⟨t,rfl⟩:=rx;exact SeqAt.EqAt.bool_int a b t
  | str b=>obtain ⟨t,rfl⟩:=rx;exact SeqAt.EqAt.bool_str a b t
  | _=>exact absurd (show false=true from fx) Bool.false_ne_true
 | int a =>
  obtain ⟨t',rfl⟩:=ry
  cases x with
  | non=>cases rx;exact SeqAt.EqAt.int_none a t'
  | bl b=>cases rx;exact SeqAt.EqAt.int_bool a t' b
  | int b=>obtain ⟨t,rfl⟩:=rx;exact SeqAt.EqAt.int_int a t' b t
  | str b=>obtain ⟨t,rfl⟩:=rx;exact SeqAt.EqAt.int_str a t' b t
  | _=>exact absurd (show false=true from fx) Bool.false_ne_true
 | str a =>
  obtain ⟨t',rfl⟩:=ry
  cases x with
  | non=>cases rx;exact SeqAt.EqAt.str_none a t'
  | bl b=>cases rx;exact SeqAt.EqAt.str_bool a t' b
  | int b=>obtain ⟨t,rfl⟩:=rx;exact SeqAt.EqAt.str_int a t' b t
  | str b=>obtain ⟨t,rfl⟩:=rx;exact SeqAt.EqAt.str_str a t' b t
  | _=>exact absurd (show false=true from fx) Bool.false_ne_true
 | _=>exact absurd (show false=true from fy) Bool.false_ne_true
def eqU (x:V) (u:Value):Bool:=match u with
 | .none=>eqV .non x
 | .bool b=>eqV (.bl b) x
 | .int i _=>eqV (.int i) x
 | .str z _=>eqV (.str z) x
 | _=>false
theorem Zr0 {x y:V} {u:Value} (r:RelV y u) (f:Zh6 y=true):eqU x u=eqV y x:=by
 cases y with
 | non=>cases r;rfl
 | bl b=>cases r;rfl
 | int i=>obtain ⟨t,rfl⟩:=r;rfl
 | str z=>obtain ⟨t,rfl⟩:=r;rfl
 | _=>exact absurd (show false=true from f) Bool.false_ne_true
theorem Zhw {x:V}:∀ {xs:List V} {us:List Value},Vals xs us→xs.all Zh6=true→us.any (eqU x)=xs.any fun y=>eqV y x
 | _,_,.nil,_=>rfl
 | y::xs,u::us,.cons r t,f=>by
  rw [List.all_cons,Bool.and_eq_true] at f
  rw [List.any_cons,List.any_cons,Zr0 r f.1,Zhw t f.2]
theorem ZfK {A:Around} {s:Shared} {x:V} {v:Value} (rx:RelV x v) (fx:Zh6 x=true):∀ {xs:List V} {us:List Value},Vals xs us→xs.all Zh6=true→∀ u∈us,SeqAt.EqAt A s u v (eqU x u)
 | _,_,.nil,_=>fun u hu=>by cases hu
 | y::xs,u::us,.cons r t,f=>fun u' hu=>by
  rw [List.all_cons,Bool.and_eq_true] at f
  rcases List.mem_cons.mp hu with rfl | hu
  ·rw [Zr0 r f.1];exact ZkF r rx f.1 fx
  ·exact ZfK rx fx t f.2 u' hu
def inV (x:V) (xs:List V):Bool:=xs.any fun y=>eqV y x
def rIn (K:PySem.W.Frag) (neg:Bool):R2:=fun x y H Q=>∃ p xs,y=.ref p∧(SqL K H p xs∨SqT K H p xs)∧Zh6 x=true∧xs.all Zh6=true∧Q (.bl (if neg then !inV x xs else inV x xs)) H
theorem Zoa:OpR X (compareOp .In) (rIn X.K false):=by
 intro pins s σ H x y v u Q I rx ry h
 obtain ⟨p,xs,rfl,hq,fx,fs,q⟩:=h
 cases ry
 rcases hq with hq | hq
 ·obtain ⟨its,r,pl,hz⟩:=I.list hq
  refine SeqAt.in_listAt (eqU x) pl.isList (fun w hw=>ZfK rx fx r fs w (by simpa using hw)) ⟨.bl _,H,I,rfl,?_⟩
  rw [show its.toArray.any (eqU x)=its.any (eqU x) by simp,Zhw r fs]
  exact q
 ·obtain ⟨its,r,pl,hz⟩:=I.tuple hq
  refine SeqAt.in_tupleAt (eqU x) pl (fun w hw=>ZfK rx fx r fs w (by simpa using hw)) ⟨.bl _,H,I,rfl,?_⟩
  rw [show its.toArray.any (eqU x)=its.any (eqU x) by simp,Zhw r fs]
  exact q
theorem ZkN:OpR X (compareOp .NotIn) (rIn X.K true):=by
 intro pins s σ H x y v u Q I rx ry h
 obtain ⟨p,xs,rfl,hq,fx,fs,q⟩:=h
 cases ry
 rcases hq with hq | hq
 ·obtain ⟨its,r,pl,hz⟩:=I.list hq
  refine SeqAt.notIn_listAt (eqU x) pl.isList (fun w hw=>ZfK rx fx r fs w (by simpa using hw)) ⟨.bl _,H,I,rfl,?_⟩
  rw [show its.toArray.any (eqU x)=its.any (eqU x) by simp,Zhw r fs]
  exact q
 ·obtain ⟨its,r,pl,hz⟩:=I.tuple hq
  refine SeqAt.notIn_tupleAt (eqU x) pl (fun w hw=>ZfK rx fx r fs w (by simpa using hw)) ⟨.bl _,H,I,rfl,?_⟩
  rw [show its.toArray.any (eqU x)=its.any (eqU x) by simp,Zhw r fs]
  exact q
theorem CallR.or {f:Value} {r r':List V→Hp→VK→Prop} (h:CallR X f r) (h':CallR X f r'):CallR X f (fun xs H Q=>r xs H Q∨r' xs H Q):=by
 intro pins s σ H xs us Q I rs q
 rcases q with q | q
 ·exact h pins s σ H xs us Q I rs q
 ·exact h' pins s σ H xs us Q I rs q
theorem Zku:CallR X (.type "list") (fun xs H Q=>∃ p ys,xs=[.ref p]∧(SqL X.K H p ys∨SqT X.K H p ys)∧∀ l,H l=none→Q (.ref l) (upd H l (.lst ys))):=by
 intro pins s σ H xs us Q I r h
 obtain ⟨p,ys,rfl,hq,q⟩:=h
 obtain ⟨u,rfl,rx⟩:=ZjL r
 cases rx
 have fin:∀ (its:List Value),Vals ys its→ys.length≤sizeLine→∀ (h':Heap) (c':Nat),(∀ b o',s.heap.get? b=some o'→h'.get? b=some o') →
   h'.get? s.heap.objs.size=some { cls:=.type "list",dict:=none,data:=.seq its.toArray c',slots:=#[] }→EP X pins σ Q (.ref s.heap.objs.size) { s with heap:=h' }:=fun its r' hz h' c' kp e =>
  ⟨.ref s.heap.objs.size,_,I.laid (t':=s.toks) kp (Nat.le_refl _) (show ObjOk X.prog X.w _ h' _ (.lst ys) from ⟨hz,its,c',r',e⟩),rfl,q _ (I.hok.fresh (Nat.le_refl _))⟩
 rcases hq with hq | hq
 ·obtain ⟨its,r',pl,hz⟩:=I.list hq
  have hlen:=r'.length
  obtain ⟨o,ho,hc,n,hd⟩:=pl.isList
  exact call_list_seq p (.inl rfl) ho hc hd (fun h' c' kp e=>fin its r' hz h' c' kp e) (by simp only [List.size_toArray] <;> omega)
 ·obtain ⟨its,r',pl,hz⟩:=I.tuple hq
  have hlen:=r'.length
  obtain ⟨o,ho,hc,n,hd⟩:=pl
  exact call_list_seq p (.inr rfl) ho hc hd (fun h' c' kp e=>fin its r' hz h' c' kp e) (by simp only [List.size_toArray] <;> omega)
theorem Zjq:CallR X (.type "tuple") (fun xs H Q=>∃ p ys,xs=[.ref p]∧((SqL X.K H p ys∧∀ l,H l=none→Q (.ref l) (upd H l (.tup ys)))∨(SqT X.K H p ys∧Q (.ref p) H))):=by
 intro pins s σ H xs us Q I r h
 obtain ⟨p,ys,rfl,h⟩:=h
 obtain ⟨u,rfl,rx⟩:=ZjL r
 cases rx
 rcases h with ⟨hq,q⟩ | ⟨hq,q⟩
 ·obtain ⟨its,r',pl,hz⟩:=I.list hq
  have hlen:=r'.length
  refine call_tuple_list pl.isList (fun h' kp=>?_) (by simp only [List.size_toArray] <;> omega)
  have I1:Inv X pins σ H { s with heap:=h' }:=I.kept (t':=s.toks) kp
  have I2:Inv X pins σ (upd H h'.objs.size (.tup ys)) { s with heap:=h'.push { cls:=.type "tuple",data:=.seq its.toArray } } :=
   I1.laid (t':=s.toks) (fun b o e=>Heap.get?_push_of_some _ e) (Nat.le_refl _) (show ObjOk X.prog X.w _ _ _ (.tup ys) from ⟨hz,its,r',IsTup.new _ _⟩)
  exact ⟨.ref h'.objs.size,_,I2,rfl,q _ (I1.hok.fresh (Nat.le_refl _))⟩
 ·obtain ⟨its,r',pl,hz⟩:=I.tuple hq
  exact call_tuple_same pl ⟨.ref p,H,I,rfl,q⟩
def tyV (K:PySem.W.Frag) (T:String) (x:V) (H:Hp):Prop:=match x with
 | .str _=>T="str"
 | .int _=>T="int"
 | .ref p=>(T="list"∧∃ xs,SqL K H p xs)∨(T="tuple"∧∃ o,K.lookup p=some o∧o.cls=.type "tuple"∧o.dict=none) ∨
   (T="dict"∧((∃ kvs,H p=some (.dK kvs))∨∃ kvs,H p=some (.dT kvs)))∨(T="set"∧∃ S n,H p=some (.set S n))
 | _=>False
theorem Zvv {pins:List (Addr×Obj)} {σ:St} {H:Hp} {s:Shared} {T:String} {x:V} {v:Value} (I:Inv X pins σ H s) (r:RelV x v) (ty:tyV X.K T x H) :
  s.TypeIs v T∧∀ a,v=.ref a→∃ ob,s.heap.get? a=some ob∧ob.dict=none:=by
 cases x with
 | str z =>
  obtain ⟨t,rfl⟩:=r
  cases (show T="str" from ty)
  exact ⟨typeIs_str s z t,fun _ e=>nomatch e⟩
 | int i =>
  obtain ⟨t,rfl⟩:=r
  cases (show T="int" from ty)
  exact ⟨typeIs_int s i t,fun _ e=>nomatch e⟩
 | ref p =>
  cases r
  rcases ty with ⟨rfl,xs,hq⟩ | ⟨rfl,o,hk,hc,hd⟩ | ⟨rfl,hk⟩ | ⟨rfl,S,n,hk⟩
  ·obtain ⟨its,_,pl,_⟩:=I.list hq
   refine ⟨pl.isList.typeIs,fun a e=>?_⟩
   cases e
   obtain ⟨o,n,e,c,hd,_⟩:=pl
   exact ⟨o,e,hd⟩
  ·refine ⟨⟨o,I.kIn p o hk,hc⟩,fun a e=>?_⟩
   cases e
   exact ⟨o,I.kIn _ o hk,hd⟩
  ·have z:∃ o,s.heap.get? p=some o∧o.ExactDict:=by
    rcases hk with ⟨kvs,hk⟩ | ⟨kvs,hk⟩
    ·obtain ⟨_,_,_,_,o,_,_,e,ex,_⟩:=I.hok p _ hk
     exact ⟨o,e,ex⟩
    ·obtain ⟨_,_,_,_,o,_,_,e,ex,_⟩:=I.hok p _ hk
     exact ⟨o,e,ex⟩
   obtain ⟨o,e,ex⟩:=z
   refine ⟨⟨o,e,ex.1⟩,fun a e2=>?_⟩
   cases e2
   exact ⟨o,e,ex.2.1⟩
  ·obtain ⟨o,_,_,_,e,ex,_⟩:=I.hok p _ hk
   refine ⟨⟨o,e,ex.1⟩,fun a e2=>?_⟩
   cases e2
   exact ⟨o,e,ex.2.1⟩
 | _=>exact False.elim ty
def tBM (K:PySem.W.Frag) (T:String) (r:V→List V→Hp→VK→Prop) (to:TE) (t:TA):TE:=fun σ H Q=>to σ H fun x H1=>tyV K T x H1∧t σ H1 fun xs H2=>r x xs H2 Q
variable {o e:Expr} {es:List Expr} {to:TE} {t:TA} {name:Str} {apos cpos:Pos} {T id:String} {r:V→List V→Hp→VK→Prop}
theorem Zxq (pa:PlainAttrs T) (slot:Slot T name id) (hty:typeOf (.builtin id)=pure (.type "method_descriptor")) (hm:MtR X id r) (ho:PE X o to) (ha:PA X (e::es) t)
  (hbase:attributeBase o name X.env (eval o X.env)=eval o X.env:=by rfl)
  (hfew:((backTo cpos (starEach (e::es) X.env)).all (fun x=>!x.1)&&(backToKw cpos (keywordEach [] X.env)).all (fun x=>x.1.isSome)
   && decide ((e::es).length+([]:List Keyword).length+(if ([]:List Keyword).isEmpty then 0 else 1) < 30))=true:=by rfl)
  (hline:(apos.endLine==cpos.line)=true:=by rfl) (hs:starEach (e::es) X.env=(false,eval e X.env)::starEach es X.env:=by rfl) (hplain:(backTo cpos (starEach es X.env)).any (·.1)=false:=by rfl) :
  PE X (.Call (.Attribute o name apos) (e::es) [] cpos) (tBM X.K T r to t):=by
 intro pins s σ H Q I h
 refine wpAny_Call_method_late hbase hfew hline rfl (thn (ho pins s σ H _ I h) fun v s1 zz51=>?_)
 obtain ⟨x,H1,I1,r1,ty,q1⟩:=zz51
 obtain ⟨h1,h2⟩:=Zvv I1 r1 ty
 refine ⟨T,id,pa,slot,hty,h1,h2,?_⟩
 have hA:=ha cpos pins s1 σ H1 _ I1 q1
 rw [hs] at hA ⊢
 refine Calls.callWith_builtin (by show (false||(backTo cpos (starEach es X.env)).any (·.1))=false;rw [hplain] <;> rfl) (Calls.evalArgs_plain ?_)
 exact thn hA (by rintro us s2 ⟨vs,H2,I2,r2,q2⟩;exact hm pins s2 σ H2 x vs v us Q I2 r1 r2 q2)
end
end L2
namespace L2
open PySem PySem.Spec PyProof.Rows
def MtM (X:Cx) (id:String) (r:V→List V→Hp→VK→Prop):Prop :=
 ∀ (pins:List (Addr×Obj)) (s:Shared) (σ:St) (H:Hp) (x:V) (xs:List V) (v:Value) (us:List Value) (Q:VK),Inv X pins σ H s→RelV x v→Vals xs us→r x xs H Q →
  wpAny (model X.prog X.w) X.A (call (.builtin id) (v::us)) (EP X pins σ Q) X.xe s
theorem Vals.one:∀ {x:V} {us:List Value},Vals [x] us→∃ u,us=[u]∧RelV x u
 | _,_,.cons r .nil=>⟨_,rfl,r⟩
theorem Vals.two:∀ {x y:V} {us:List Value},Vals [x,y] us→∃ u v,us=[u,v]∧RelV x u∧RelV y v
 | _,_,_,.cons r (.cons q .nil)=>⟨_,_,rfl,r,q⟩
theorem Vals.zero:∀ {us:List Value},Vals [] us→us=[]
 | _,.nil=>rfl
theorem Vals.eraseIdx:∀ {xs:List V} {us:List Value} (i:Nat),Vals xs us→Vals (xs.eraseIdx i) (us.eraseIdx i)
 | _,_,_,.nil=>.nil
 | _,_,0,.cons _ t=>t
 | _,_,i+1,.cons r t=>.cons r (Vals.eraseIdx i t)
theorem Vals.reverse {xs:List V} {us:List Value} (h:Vals xs us):Vals xs.reverse us.reverse:=by
 induction h with
 | nil=>exact .nil
 | cons r t ih=>rw [List.reverse_cons,List.reverse_cons];exact Vals.append ih (.cons r .nil)
section
variable {X:Cx} {pins:List (Addr×Obj)} {σ:St} {H:Hp} {s:Shared} {l b:Addr} {xs ys zs:List V}
theorem Inv.lset {its its':List Value} {n:Nat} {f:Array Value→Array Value} {t':Nat} (I:Inv X pins σ H s) (hH:H l=some (.lst xs))
  (e:s.heap.get? l=some { cls:=.type "list",data:=.seq its.toArray n }) (hf:f its.toArray=its'.toArray) (hv:Vals ys its') (hz:ys.length≤sizeLine) :
  Inv X pins σ (upd H l (.lst ys)) { s with heap:=s.heap.update l (Obj.mapSeq f),toks:=t' }:=by
 have q:=PySem.IsL.update e f
 rw [hf] at q
 refine I.write (x:=l) (e:=l) (by rw [hH];exact trivial) (.inl rfl) (fun b' u hb hu=>(Heap.get?_update_other s.heap (Obj.mapSeq f) (Ne.symm hb)).trans hu) ⟨_,q⟩ ?_
 exact ⟨hz,its',_,hv,q⟩
theorem Inv.lnew {its:List Value} {t':Nat} (I:Inv X pins σ H s) (hv:Vals ys its) (hz:ys.length≤sizeLine) :
  Inv X pins σ (upd H s.heap.objs.size (.lst ys)) { s with heap:=s.heap.push { cls:=.type "list",data:=.seq its.toArray },toks:=t' } :=
 I.laid (fun _ _ q=>Heap.get?_push_of_some _ q) (Nat.le_refl _) ⟨hz,its,0,hv,Heap.get?_push_size _ rfl⟩
theorem Inv.fresh (I:Inv X pins σ H s):H s.heap.objs.size=none:=I.hok.fresh (Nat.le_refl _)
theorem Inv.lstM (I:Inv X pins σ H s) (hH:H l=some (.lst xs)):xs.length≤sizeLine∧∃ (its:List Value) (n:Nat),Vals xs its∧xs.length=its.length∧s.heap.get? l=some { cls:=.type "list",data:=.seq its.toArray n }:=by
 obtain ⟨z,its,n,r,e⟩:=I.hok l _ hH
 exact ⟨z,its,n,r,r.length,e⟩
theorem Zqj {n:Nat} (h:n≤sizeLine):Builtin.List.listTooLong n=false:=by
 unfold Builtin.List.listTooLong
 exact decide_eq_false (by omega)
end
section
variable {X:Cx}
def Ztp:V→List V→Hp→VK→Prop:=fun x vs H Q=>∃ l xs y,x=.ref l∧vs=[y]∧H l=some (.lst xs)∧xs.length < sizeLine∧Q .non (upd H l (.lst (xs++[y])))
theorem Znp:MtM X "list.append" Ztp:=by
 intro pins s σ H x vs v us Q I rx rv h
 obtain ⟨l,xs,y,rfl,rfl,hH,hz,q⟩:=h
 cases rx
 obtain ⟨u,rfl,ru⟩:=rv.one
 obtain ⟨z,its,n,r,hl,e⟩:=I.lstM hH
 refine call_meets F.slot_list_append ⟨_,e,rfl⟩ F.entry_list_append (F.args_list_append_2 _ _) (PySem.list_append l its.toArray n u (by rw [List.size_toArray];omega)) ⟨e,?_⟩
 refine ⟨.non,_,I.lset (its':=its++[u]) hH e (by simp) (r.append (.cons ru .nil)) ?_,rfl,q⟩
 rw [List.length_append,List.length_singleton]
 omega
def Ztt:V→List V→Hp→VK→Prop:=fun x vs H Q=>∃ l b xs zs,x=.ref l∧vs=[.ref b]∧H l=some (.lst xs)∧H b=some (.lst zs)∧xs.length+zs.length≤sizeLine∧Q .non (upd H l (.lst (xs++zs)))
theorem ZoJ:MtM X "list.extend" Ztt:=by
 intro pins s σ H x vs v us Q I rx rv h
 obtain ⟨l,b,xs,zs,rfl,rfl,hH,hB,hz,q⟩:=h
 cases rx
 obtain ⟨u,rfl,ru⟩:=rv.one
 cases ru
 obtain ⟨z,its,n,r,hl,e⟩:=I.lstM hH
 obtain ⟨z2,its2,n2,r2,hl2,e2⟩:=I.lstM hB
 have hsz:its.toArray.size+its2.toArray.size≤sizeLine:=by rw [List.size_toArray,List.size_toArray];omega
 have hlong:¬ (!its.toArray.isEmpty&&Builtin.List.listTooLong (its.toArray.size+its2.toArray.size))=true:=by
  rw [Zqj hsz,Bool.and_false]
  exact Bool.false_ne_true
 refine call_meets F.slot_list_extend ⟨_,e,rfl⟩ F.entry_list_extend (F.args_list_extend_2 _ _)
  (AutoSeq1.list_extend_list_list_0 l its.toArray n b its2.toArray n2 hlong (by rw [List.size_toArray];omega) (by omega)) ⟨e,e2,?_⟩
 refine ⟨.non,_,I.lset (its':=its++its2) hH e (by simp) (r.append r2) ?_,rfl,q⟩
 rw [List.length_append]
 omega
def ZvC:R2:=fun x y H Q=>∃ l b xs zs,x=.ref l∧y=.ref b∧H l=some (.lst xs)∧H b=some (.lst zs)∧xs.length+zs.length≤sizeLine∧∀ p,H p=none→Q (.ref p) (upd H p (.lst (xs++zs)))
theorem ZvK:OpR X (binaryOp .Add) ZvC:=by
 intro pins s σ H x y v u Q I rx ry h
 obtain ⟨l,b,xs,zs,rfl,rfl,hH,hB,hz,q⟩:=h
 cases rx
 cases ry
 obtain ⟨z,its,n,r,hl,e⟩:=I.lstM hH
 obtain ⟨z2,its2,n2,r2,hl2,e2⟩:=I.lstM hB
 refine PySem.P.add_list e e2 ?_ (by rw [List.size_toArray,List.size_toArray];omega)
 have ea:its.toArray++its2.toArray=(its++its2).toArray:=by simp
 rw [ea]
 exact ⟨.ref _,_,I.lnew (t':=s.toks) (r.append r2) (by rw [List.length_append];omega),rfl,q _ I.fresh⟩
end
section
variable {prog:Program} {w:World} {A:Around} {E:Value→Shared→Prop} {s:Shared}
end
section
variable {X:Cx}
end
end L2
namespace Att
open PySem PySem.W PySem.Calls PyProof.Rows
theorem Zhm {P:Params} {h:Heap}:∀ (ns:List Int) (vs:List Value),WellAll P h vs (ns.map WData.int)→IntsAre vs ns:=by
 intro ns
 induction ns with
 | nil =>
  intro vs w
  rw [List.map_nil] at w
  cases w
  exact .nil
 | cons n ns ih =>
  intro vs w
  rw [List.map_cons] at w
  cases w with
  | cons a b =>
   cases a
   exact .cons _ _ (ih _ b)
theorem ZoM {l:OpenLaw} {n:Nat} (hn:l.most=some n) {P:Params} {h:Heap} {args:List WData} {vals:List Value}
  (hpre:l.row.toRowW.claim.pre args=true) (hwl:WellAll P h vals args) :
  ∃ a vs ns,vals=[Value.ref a]∧args=[WData.list (ns.map WData.int)]∧h.get? a=some { cls:=.type "list",data:=.seq vs.toArray }∧IntsAre vs ns∧ns.length≤n:=by
 have hsh:WShape.hasAll [] args [.list .int]=true:=(pre_splitW hpre).1
 have hc:l.pre.holds [] { args:=args }=true:=(pre_splitW hpre).2
 obtain ⟨d,r,rfl,h1,h2⟩:=hasAllW_cons hsh
 obtain rfl:=hasAllW_nil h2
 obtain ⟨xs,rfl,h3⟩:=hasW_list h1
 obtain ⟨ns,rfl⟩:=items_int h3
 have hlen:ns.length≤n:=by
  unfold OpenLaw.pre at hc
  have h4:(WTm.not (.lt (.lit (.int (n:Int))) (.len (.arg 0)))).holds [] { args:=[.list (ns.map .int)] }=true:=by
   have h4:=(holds_andW hc).1
   rw [hn] at h4
   exact h4
  have h5:=condW_of h4 (w_not (w_lt w_lit (w_len_list (w_arg rfl))))
  rw [List.length_map] at h5
  refine Nat.le_of_not_lt fun q=>?_
  have q':(n:Int) < ((ns.length:Nat):Int):=by omega
  first
   | (rw [decide_eq_true q'] at h5;exact absurd h5 (by decide))
   | (simp at h5;omega)
 cases hwl with
 | cons w1 w2 =>
  cases w2
  cases w1 with
  | list ho hall=>exact ⟨_,_,ns,rfl,rfl,ho,Zhm ns _ hall,hlen⟩
theorem Zpk (l:OpenLaw) (args:List WData):l.row.toRowW.claim.post args (.bool true) args=true :=
 postW_of (r:=l.row.toRowW) (X:=(true==true))
  (show WShape.has [] (.bool true) .bool=true by first | rfl | decide | simp [WShape.has,WShape.arms,WShape.armsAll])
  (show (WTm.eq .res (.lit (.bool true))).value [] { args:=args,res:=some (.bool true),after:=args }=some (.bool (true==true)) from w_eq_bool (w_res rfl) w_lit) rfl
theorem attach_call {l:OpenLaw} {n:Nat} {q:Program} {loose:List Str} {XP:(Str→Option Value)→Heap→Prop} {YP:World→Heap→Prop} {d:DefRec}
  (hn:l.most=some n) (hdf:d.params.defaults=[])
  (call:∀ (w:World) (s₀ s₁:Shared) (mg mb:Str→Option Value) (fa:Addr) (o:Obj) (pm cd doc:Value) (a:Addr) (vs:List Value) (ns:List Int),
   Ground q loose [] XP w s₀ mg mb s₁.heap→YP w s₁.heap →
   s₁.heap.get? fa=some o→o.data=.func (docDef d.name d.params d.body d.scope pm cd doc)→s₁.heap.CodeRec cd d.name→mg d.name=some (.ref fa) →
   s₁.heap.get? a=some { cls:=.type "list",data:=.seq vs.toArray }→IntsAre vs ns→ns.length≤n→s₁.gens=#[] →
   codeAny (model l.prog w) callerA (.call (.ref fa) ⟨[.ref a],[]⟩) (fun r s'=>r=.ok (.ret (.bool true))∧OldK s₁.heap s'.heap∧s'.os=s₁.os∧AllBare s'.gens) s₁) :
  WalkO q loose XP YP l.row.toRowW d [] (fun f vs=>PySem.call f vs):=by
 intro w s₀ s₁ mg mb G Y fa o pm cd doc dV kV ho hd hcd hD hmg hg args vals as hpre hlay hrd hwl hlo
 obtain rfl:dV=.none:=Dflts.none hD hdf
 obtain rfl:kV=.none:=Dflts.noKw hD
 obtain ⟨a,vs,ns,rfl,rfl,hobj,hints,hlen⟩:=ZoM hn hpre hwl
 refine enter_call (codeAny_mono (call w s₀ s₁ mg mb fa o pm cd doc a vs ns G Y ho (fd_plain hd) hcd hmg hobj hints hlen hg) fun r s' hq=>?_)
 obtain ⟨rfl,h2,h3,h4⟩:=hq
 exact ⟨.inl ⟨.bool true,.bool true,[],rfl,fun _=>rfl,.bool true,Zpk l _,fun _=>⟨List.Pairwise.nil,fun _ hm=>(nomatch hm)⟩⟩,h2,h3,h4⟩
section
variable {prog:Program} {w:World} {A:Around} {E:Value→Shared→Prop} {s:Shared} {K:Frag}
end
end Att
namespace L2
open PySem PySem.Spec PyProof.Rows
theorem Zkf:∀ {vs:List Value} {ns:List Int},IntsAre vs ns→Vals (ns.map V.int) vs
 | _,_,.nil=>.nil
 | _,_,.cons n t h=>.cons ⟨t,rfl⟩ (Zkf h)
def Zwq (H:Hp):Prop:=∀ b,H b=none∨∃ o xs,H b=some (.frz o (.lst xs))
theorem Zqt {P:Program} {w:World} {K:PySem.W.Frag} {mg mb:Str→Option Value} {CX:CXT} {k:Nat} {fa a:Addr} {fd:FuncData} {x:Str} {sp:Sp} {s₁:Shared} {vs:List Value} {ns:List Int}
  (KX:K.In s₁.heap) (hns:s₁.heap.Ns mainGlobals mg) (hb:s₁.heap.Ns builtinsNs mb) (hbb:∀ x:Str,x≠"__name__"→mb x=bootBuiltins x) (hlim:s₁.heap.NoLimit) (hg:s₁.gens=#[])
  (ha:s₁.heap.get? a=some { cls:=.type "list",data:=.seq vs.toArray }) (hi:IntsAre vs ns) (hl:ns.length≤sizeLine) (hr:Room k callerA)
  (F:∀ base:Heap,K.In base→base.Ns mainGlobals mg→FnOk P w K mg base CX k fa fd [x] sp) (hbind:∀ (s:Shared) (u:Value),BindsTo s fd ⟨[u],[]⟩ [(x,u)])
  (hsp:∀ H:Hp,Zwq H→SqL K H a (ns.map V.int)→sp [.ref a] H (fun v _=>v=.bl true) fun _ _ _=>False)
  (hCX:∀ H e s',CX [] H s₁ (fun _ _ _=>False) e s'→False) :
  codeAny (model P w) callerA (.call (.ref fa) ⟨[.ref a],[]⟩) (fun r s'=>r=.ok (.ret (.bool true))∧OldK s₁.heap s'.heap∧s'.os=s₁.os∧AllBare s'.gens) s₁:=by
 have rv:=Zkf hi
 have lenV:=hi.length
 have core:∀ H:Hp,Zwq H→SqL K H a (ns.map V.int)→HOk P w H s₁.heap→(∀ b,H b≠none→b=a)→(H a≠none→K.lookup a=none) →
   codeAny (model P w) callerA (.call (.ref fa) ⟨[.ref a],[]⟩) (fun r s'=>r=.ok (.ret (.bool true))∧OldK s₁.heap s'.heap∧s'.os=s₁.os∧AllBare s'.gens) s₁:=by
  intro H hO hS hok hA hK
  have base_of:∀ {b:Addr} {o:Obj},s₁.heap.get? b=some o→H b=none→(ZqH s₁.heap H).get? b=some o:=fun e n=>Zp2 e n
  have noA:∀ {b:Addr} {o:Obj} {es:Array DictEntry} {ep:Nat},s₁.heap.get? b=some o→o.data=.dict es ep→H b=none:=fun {b o es ep} e d=>by
   cases q:H b with
   | none=>rfl
   | some u =>
    have e':b=a:=hA b (by rw [q];simp)
    subst e'
    rw [ha] at e;cases e
    have d':Data.seq vs.toArray _=Data.dict es ep:=d
    cases d'
  have nsK:∀ {b:Addr} {m:Str→Option Value},s₁.heap.Ns b m→(ZqH s₁.heap H).Ns b m:=fun {b m} ⟨o,es,ep,e,d,r⟩=>⟨o,es,ep,base_of e (noA e d),d,r⟩
  have hKb:K.In (ZqH s₁.heap H):=fun b o e=>base_of (KX b o e) (by
   cases q:H b with
   | none=>rfl
   | some u =>
    have e':b=a:=hA b (by rw [q];simp)
    subst e'
    rw [hK (by rw [q];simp)] at e;cases e)
  have hM:Mod K mg (ZqH s₁.heap H):=⟨hKb,nsK hns,⟨mb,nsK hb,hbb⟩,let ⟨mc,h1,h2⟩:=hlim;⟨mc,nsK h1,h2⟩⟩
  have e0:Env0 P w K mg (ZqH s₁.heap H) callerA [] s₁ H:=⟨rfl,hM,fun b o e=>ZsC e,Nat.le_of_eq (ZoY _ _),trivial,fun b hb=>absurd (show b∈([]:List Addr) from hb) (by simp),hok,.of_eq hg⟩
  refine codeAny_mono ((F _ hKb (nsK hns)).run callerA [] s₁ H ⟨[.ref a],[]⟩ [.ref a] [.ref a] _ _ hr e0 (hbind s₁ (.ref a)) (.cons rfl .nil) (hsp H hO hS)) fun r s' h=>?_
  cases r with
  | error e=>exact (hCX H e s' h).elim
  | ok fl =>
   cases fl with
   | next=>exact False.elim h
   | brk=>exact False.elim h
   | cont=>exact False.elim h
   | ret u =>
    obtain ⟨v,H',os,bare,un,hok',r',q⟩:=h
    have q':v=.bl true:=q
    subst q'
    obtain rfl:u=Value.bool true:=r'
    refine ⟨rfl,OldK.of_keep fun b o e=>?_,os,bare⟩
    cases q:H b with
    | none=>exact un.keep b o e q (by intro z;exact absurd (show b∈([]:List Addr) from z) (by simp)) (by simp)
    | some u =>
     rcases hO b with z | ⟨ob,xs,z⟩
     ·rw [q] at z;cases z
     ·have z2:=un.frzs b ob _ z
      obtain ⟨e1,_⟩:=hok b _ z
      obtain ⟨e2,_⟩:=hok' b _ z2
      rw [e] at e1;cases e1
      exact e2
 cases hk:K.lookup a with
 | some o =>
  have e:=KX a o hk
  rw [ha] at e
  cases e
  refine core (fun _=>none) (fun _=>.inl rfl) (.inr ⟨_,vs.toArray,_,hk,rfl,rfl,rfl,by rw [List.size_toArray,lenV];exact hl,by simpa using rv⟩) (fun b u z=>by have z':(none:Option HO)=some u:=z;cases z') (fun b z=>absurd rfl z) fun z=>absurd rfl z
 | none =>
  refine core (fun b=>if b=a then some (.frz { cls:=.type "list",data:=.seq vs.toArray } (.lst (ns.map V.int))) else none) (fun b=>?_) (.inl (.inr ⟨{ cls:=.type "list",data:=.seq vs.toArray },if_pos rfl⟩)) (fun b u z=>?_) (fun b z=>?_) fun _=>hk
  ·by_cases hb:b=a
   ·exact .inr ⟨_,_,if_pos hb⟩
   ·exact .inl (if_neg hb)
  ·by_cases hb:b=a
   ·have z':=(if_pos hb).symm.trans z
    cases z'
    subst hb
    exact ⟨ha,by rw [List.length_map];exact hl,vs,_,rv,ha⟩
   ·have z':=(if_neg hb).symm.trans z
    cases z'
  ·by_cases hb:b=a
   ·exact hb
   ·exact absurd (if_neg hb) z
end L2
namespace L2
open PySem PySem.Spec PyProof.Rows
abbrev KOf {K:PySem.W.Frag} {h:Heap} (_:K.In h):PySem.W.Frag:=K
theorem Zsl {l:PySem.W.OpenLaw} {n k:Nat} {q:Program} {loose:List Str} {XP:(Str→Option Value)→Heap→Prop} {YP:World→Heap→Prop} {d:DefRec} {K:Params→PySem.W.Frag} {CX:World→CXT} {sp:World→Sp} {x:Str}
  (hn:l.most=some n) (hn2:n≤sizeLine) (hdf:d.params.defaults=[]) (hr:Room k callerA)
  (hY:∀ (w:World) (h:Heap),YP w h→(K w.params).In h)
  (F:∀ (w:World) (mg:Str→Option Value) (fa:Addr) (h:Heap),(K w.params).In h→h.Ns mainGlobals mg→mg d.name=some (.ref fa) →
   ∃ fd:FuncData,(∀ (s:Shared) (u:Value),BindsTo s fd ⟨[u],[]⟩ [(x,u)]) ∧
    ∀ base:Heap,(K w.params).In base→base.Ns mainGlobals mg→FnOk l.prog w (K w.params) mg base (CX w) k fa fd [x] (sp w))
  (hsp:∀ (w:World) (H:Hp) (a:Addr) (ns:List Int),ns.length≤n→Zwq H→SqL (K w.params) H a (ns.map V.int)→sp w [.ref a] H (fun v _=>v=.bl true) fun _ _ _=>False)
  (hCX:∀ (w:World) (H:Hp) (s:Shared) (e:Value) (s':Shared),CX w [] H s (fun _ _ _=>False) e s'→False) :
  PySem.W.WalkO q loose XP YP l.row.toRowW d [] (fun f vs=>PySem.call f vs):=by
 refine Att.attach_call hn hdf fun w s₀ s₁ mg mb fa o pm cd doc a vs ns G Y ho hd hcd hmg hobj hints hlen hg=>?_
 have KX:=hY w _ Y
 obtain ⟨fd,hb,hF⟩:=F w mg fa _ KX G.T.g hmg
 exact Zqt KX G.T.g G.T.b G.T.builtins G.T.nolimit hg hobj hints (Nat.le_trans hlen hn2) hr hF hb (fun H hO hS=>hsp w H a ns hlen hO hS) fun H e s'=>hCX w H s₁ e s'
end L2
namespace L2
open PySem PySem.Spec PyProof.Rows
abbrev CX0:CXT:=fun _ _ _ _ _ _=>False
structure Fun (K:PySem.W.Frag) (x qual:Str) (st:Stmt) (f:Addr) (fd:FuncData):Prop where
 ex:∃ (oc:Value) (od:Option Addr) (kV doc pm:Value) (an:Option Addr) (cdv ct:Value) (osl:Array (Option Value)),
  fd=PySem.W.fnOf x qual (Zfo st) (Zax st) (Zac st) .none kV doc pm an cdv ct∧K.lookup f=some ⟨oc,od,.func fd,osl⟩∧PySem.W.codeIn K cdv qual=true
 kp:PySem.W.keepIn K (.ref f)=true
section
variable {P:Program} {w:World} {K:PySem.W.Frag} {mg:Str→Option Value} {base:Heap}
theorem Fun.ok {x qual:Str} {st:Stmt} {f:Addr} {fd:FuncData} {N ps:List Str} {k:Nat} {sp:Sp} (F:Fun K x qual st f fd) (S:ZaC N ps (Zac st)) (len:∀ vs H Q E,sp vs H Q E→vs.length=ps.length)
  (hbody:∀ (cdv:Value) (A:Around) (outer:List Env) (s:Shared) (H:Hp) (vs:List V) (Q:VK) (E:XK),Room k (A.deeper (envOfC qual (Zac st) s.heap.objs.size f cdv))→sp vs H Q E →
   ∃ t,PSs (Zso CX0 P w K mg base N qual (Zac st) f cdv A outer s H E).nox (Zax st) t∧t { nx:=fun _ H'=>Q .non H',rt:=Q } (Zhk N vs) H):FnOk P w K mg base CX0 (k+1) f fd ps sp:=by
 obtain ⟨oc,od,kV,doc,pm,an,cdv,ct,osl,rfl,lk,hcd⟩:=F.ex
 refine Zsi lk hcd S len fun A outer s H vs Q E hr hsp=>?_
 obtain ⟨t,h,q⟩:=hbody cdv A outer s H vs Q E hr hsp
 exact ⟨t,h.nox,q⟩
theorem Fun.binds {x qual:Str} {st:Stmt} {f:Addr} {fd:FuncData} {ps:List Str} (F:Fun K x qual st f fd)
  (h:∀ (kV doc pm:Value) (an:Option Addr) (cdv ct:Value) (us:List Value),us.length=ps.length→bindArgs (PySem.W.fnOf x qual (Zfo st) (Zax st) (Zac st) .none kV doc pm an cdv ct) ⟨us,[]⟩=pure (ps.zip us)):Binds K fd ps []:=by
 obtain ⟨oc,od,kV,doc,pm,an,cdv,ct,osl,rfl,lk,hcd⟩:=F.ex
 exact .all (h kV doc pm an cdv ct)
theorem ZrK {x qual:Str} {st:Stmt} {f:Addr} {oc:Value} {od an:Option Addr} {osl:Array (Option Value)} {kV doc pm cdv ct:Value} (l:K.lookup f=some ⟨oc,od,.func (PySem.W.fnOf x qual (Zfo st) (Zax st) (Zac st) .none kV doc pm an cdv ct),osl⟩)
  (c:PySem.W.codeIn K cdv qual=true) (k:PySem.W.keepIn K (.ref f)=true):Fun K x qual st f (PySem.W.fnOf x qual (Zfo st) (Zax st) (Zac st) .none kV doc pm an cdv ct):=⟨⟨oc,od,kV,doc,pm,an,cdv,ct,osl,rfl,l,c⟩,k⟩
end
section
variable {X:Cx}
theorem pv (i:Nat) {x:Str} {pos:Pos} (hN:X.N[i]?=some x:=by rfl) (hv:Vis X.env.scope x:=by first | exact Or.inl rfl | exact Or.inr (Or.inl rfl) | exact Or.inr (Or.inr rfl)) (hd:(x==("__debug__":Str))=false:=by decide)
  (hcd:(x==("__classdict__":Str))=false:=by decide):PE X (.Name x pos) (Zxz i):=ZrU hN hv hd hcd
end
theorem Zsk {c A B:Prop} [Decidable c] (h1:c→A) (h2:¬ c→B):if c then A else B:=by
 by_cases h:c
 ·rw [if_pos h]
  exact h1 h
 ·rw [if_neg h]
  exact h2 h
def Same (H H':Hp):Prop:=∀ b o,H b=some o→H' b=some o
theorem Same.refl (H:Hp):Same H H:=fun _ _ h=>h
theorem Same.trans {H H1 H2:Hp} (a:Same H H1) (b:Same H1 H2):Same H H2:=fun c o h=>b c o (a c o h)
theorem Same.free {H H':Hp} (e:Same H H') {l:Addr} (h:H' l=Option.none):H l=Option.none:=by
 cases q:H l with
 | none=>rfl
 | some o =>
  rw [e l o q] at h
  cases h
theorem Same.seq {K:PySem.W.Frag} {H H':Hp} {a:Addr} {xs:List V} (e:Same H H') (h:SqL K H a xs):SqL K H' a xs:=by
 rcases h with (h | ⟨o,h⟩) | h
 ·exact .inl (.inl (e _ _ h))
 ·exact .inl (.inr ⟨o,e _ _ h⟩)
 ·exact .inr h
end L2
set_option Elab.async false
set_option linter.all false
set_option maxRecDepth 100000
set_option maxHeartbeats 4000000
namespace L2
open PySem PySem.Spec PyProof.Rows
section
variable {prog:Program} {w:World} {A:Around} {R:Result→Shared→Prop} {s:Shared}
theorem Zfj {elt target iter:Expr} {ifs:List Expr} {scope:Scope} {pos:Pos} {it acc:Value} {env:Env} {E':Value→Shared→Prop} (I:Nat→Shared→Prop)
  (hE:∀ e s',E' e s'→notedBy (model prog w) A env (fun e s'=>R (.error e) s') e s')
  (turn:∀ n s,I n s→wpAny (model prog w) A (pyNext it) (fun r s₁=>match r with
   | none=>R (.ok .next) s₁
   | some v=>wpAny (model prog w) A (letOwnedTupleGo target it v) (fun _ s₁'=>wpAny (model prog w) A (assign target env v) (fun _ s₂ =>
     wpAny (model prog w) A (forIn ifs true fun c r=>if r=true then do let ok ← isTrue c env (eval c env);pure (ForInStep.yield ok) else pure (ForInStep.yield r)) (fun ok s₃ =>
      if ok=true then wpAny (model prog w) A (eval elt env) (fun x s₄ =>
       wpAny (model prog w) A (call (.builtin "list.append") [acc,x]) (fun _ s₅=>∃ m,m < n∧I m s₅) E' s₄) E' s₃
      else ∃ m,m < n∧I m s₃) E' s₂) E' s₁') E' s₁) E' s)
  (n:Nat) (h:I n s) :
  codeAny (model prog w) A (.compLoop (.ListComp elt [⟨target,iter,ifs,0⟩] scope pos) 0 it acc env) R s:=by
 refine codeAny_loop rfl I (fun n s hI=>?_) n h
 show wpAny _ A ((compTurn (.ListComp elt [⟨target,iter,ifs,0⟩] scope pos) 0 it acc env).onRaise (fun x=>do noteFrame x env;theTreesLotGoes x)) _ _ s
 refine wpAny_noted ?_
 rw [compTurn_list]
 refine wpAny_bind (wpAny_standAt (wpAny_bind (wpAny_mono (turn n s hI) (fun r s₁ h₁=>?_) hE)))
 cases r with
 | none=>exact wpAny_pure h₁
 | some v =>
  refine wpAny_bind (wpAny_mono h₁ (fun _ s₁' h₁'=>?_) hE)
  refine wpAny_bind (wpAny_mono h₁' (fun _ s₂ h₂=>wpAny_bind (wpAny_mono h₂ (fun ok s₃ h₃=>?_) hE)) hE)
  cases ok with
  | false=>exact wpAny_pure ⟨rfl,h₃⟩
  | true =>
   exact wpAny_bind (wpAny_bind (wpAny_mono h₃ (fun x s₄ h₄=>wpAny_bind (wpAny_mono h₄ (fun _ s₅ h₅=>wpAny_pure (wpAny_pure ⟨rfl,h₅⟩)) hE)) hE))
end
def PF (X:Cx) (ifs:List Expr) (t:TT):Prop :=
 ∀ (pins:List (Addr×Obj)) (s:Shared) (σ:St) (H:Hp) (Q:Bool→Hp→Prop),Inv X pins σ H s→t σ H Q →
  wpAny (model X.prog X.w) X.A (forIn ifs true fun c r=>if r=true then do let ok ← isTrue c X.env (eval c X.env);pure (ForInStep.yield ok) else pure (ForInStep.yield r)) (TP X pins σ Q) X.xe s
def Zya:TT:=fun _ H Q=>Q true H
theorem Zwl {X:Cx}:PF X [] Zya:=fun _ _ _ H _ I h=>wpAny_tests_nil ⟨H,I,h⟩
def cxB (X:Cx) (Nc:List Str) (scope:Scope) (cl:List (Str×Addr)) (C:Addr) (fp:List Addr) (s:Shared) (H:Hp):Cx :=
 { X with N:=Nc,s₀:=s,H₀:=H,env:=compEnvC scope cl C X.env,outer:=X.stack,ex:=fp,fn:=fun _=>false,pn:=[],xe:=fun _ _=>False }
structure Blk (X:Cx) (Nc:List Str) (scope:Scope) (cl:List (Str×Addr)) (cap:St→St):Prop where
 clos:closureFor scope X.env=pure cl
 kind:scope.kind=.function
 names:∀ x∈scope.names,x.2=.local→scope.names.lookup x.1=some .local
 nocell:∀ y∈scope.names,y.2≠.cell
 sub:∀ y c,cl.lookup y=some c→X.env.cells.lookup y=some c
 has:∀ y,((relabel scope X.env).names.lookup y=some .cell∨(relabel scope X.env).names.lookup y=some .free)→∃ c,cl.lookup y=some c
 take:∀ (σ:St) (i:Nat) (y:Str) (v:V),Nc[i]?=some y→(cap σ)[i]?=some (some v)→Vis (relabel scope X.env) y →
  ((relabel scope X.env).names.lookup y=some .cell∨(relabel scope X.env).names.lookup y=some .free)∧Vis X.env.scope y∧X.env.scope.names.lookup y≠some .local∧∃ j:Nat,X.N[j]?=some y∧σ[j]?=some (some v)
 len:∀ σ:St,(cap σ).length=Nc.length
theorem ZhY {scope:Scope} {env:Env} (h:∀ y∈scope.names,y.2≠.free):relabel scope env=scope:=by
 unfold relabel
 rw [map_eq_self (l:=scope.names) (fun x hx=>by
  obtain ⟨n,k⟩:=x
  have:(k==NameKind.free)=false:=by simpa using h _ hx
  simp [this])]
theorem Zfn {names:List (Str×NameKind)} {x:Str} {k:NameKind} (h:names.lookup x=some k):(x,k)∈names:=PySem.mem_of_lookup h
theorem ZrV {X:Cx} {Nc:List Str} {scope:Scope} (kind:scope.kind=.function) (all:∀ y∈scope.names,y.2≠.free∧y.2≠.cell) (names:∀ x∈scope.names,x.2=.local→scope.names.lookup x.1=some .local) :
  Blk X Nc scope [] (fun _=>List.replicate Nc.length none) where
 clos:=closureFor_none fun x hx=>(all x hx).1
 kind:=kind
 names:=names
 nocell:=fun y hy=>(all y hy).2
 sub:=fun y c h=>by cases h
 has:=fun y h=>by
  rw [ZhY fun z hz=>(all z hz).1] at h
  rcases h with h | h
  ·exact absurd rfl (all _ (Zfn h)).2
  ·exact absurd rfl (all _ (Zfn h)).1
 take:=fun σ i y v h1 h2 h3=>by
  rw [List.getElem?_replicate] at h2
  split at h2 <;> cases h2
 len:=fun σ=>List.length_replicate ..
def cOk (cap:St→St) (g:TG) (tt:TT) (te:TE) (K:List V→Hp→Prop) (σ:St) (J:It) (H1:Hp):Prop :=
 ∃ W:Nat→Nat→St→Hp→List V→Prop,(∃ m,W 0 m (cap σ) H1 [])∧∀ i m σ' H' ys,W i m σ' H' ys →
  (J.stop i H'∧K ys H') ∨
  (J.go i H'∧ys.length < sizeLine∧∃ N:St→Hp→List V→Prop,(∀ σ2 H2 ys2,N σ2 H2 ys2→∃ m',m' < m∧W (i+1) m' σ2 H2 ys2) ∧
   ∀ x H2,J.yld i H' x H2→g x σ' H2 fun σ3 H3=>tt σ3 H3 fun b H4=>if b=true then te σ3 H4 fun y H5=>N σ3 H5 (ys++[y]) else N σ3 H4 ys)
def ZpL (wi:TI) (cap:St→St) (g:TG) (tt:TT) (te:TE):TE:=fun σ H Q=>wi σ H fun J H1=>cOk cap g tt te (fun ys H'=>∀ a,H' a=none→Q (.ref a) (upd H' a (.lst ys))) σ J H1
section
variable {X:Cx} {elt tg iter:Expr} {ifs:List Expr} {scope:Scope} {pos:Pos} {g:TG} {tt:TT} {te:TE} {Nc:List Str} {cap:St→St} {cl:List (Str×Addr)}
theorem ZiK (hc:X.calm=true) (B:Blk X Nc scope cl cap) (hg:∀ C fp s H,PG (cxB X Nc scope cl C fp s H) tg g) (ht:∀ C fp s H,PF (cxB X Nc scope cl C fp s H) ifs tt) (he:∀ C fp s H,PE (cxB X Nc scope cl C fp s H) elt te)
  {pins:List (Addr×Obj)} {σ:St} {H2:Hp} {s2:Shared} {E:Value→Shared→Prop} {RR:Value→Addr→Result→Shared→Prop} {J:It} {fp:List Addr} {it:Addr} {tn:Nat→Heap→Prop} {K:List V→Hp→Prop}
  (I2:Inv X pins σ H2 s2) (T:Zp6 X.prog X.w X.K tg J fp it tn) (st2:tn 0 s2.heap) (f2:∀ b∈fp,Zpr X pins H2 b) (w2:cOk cap g tt te K σ J H2)
  (fin:∀ (D C:Addr) (s':Shared) (H':Hp) (ys:List V) (oC:Obj),H' D=none→K ys H'→Inv X pins σ (upd H' D (.lst ys)) s'→Zpr X pins (upd H' D (.lst ys)) C→s'.heap.get? C=some oC→(∀ v,oC.data≠.cell v)→(∃ m,s'.heap.Ns C m)→RR (.ref D) C (.ok .next) s') :
  wpAny (model X.prog X.w) X.A (newList []) (fun acc s₃=>wpAny (model X.prog X.w) X.A (newFunctionEnv scope X.env.globals cl [] X.env.qual none .none (some X.env)) (fun cenv s₄ =>
   codeAny (model X.prog X.w) X.A (.compStart (.ListComp elt [⟨tg,iter,ifs,0⟩] scope pos) 0 (.ref it) acc { cenv with scope:=relabel scope X.env }) (RR acc cenv.locals) s₄) E s₃) E s2:=by
 refine wpAny_newObj_type (wpAny_newFunctionEnv B.nocell (by intro y hy;simp at hy) (fun h₁ hns₁ hsb₁=>?_) B.kind)
 dsimp only at hns₁ hsb₁ ⊢
 generalize hP2:s2.heap.push { cls:=.type "list",dict:=none,data:=.seq ([]:List Value).toArray }=P2 at hns₁ hsb₁ ⊢
 generalize hDD:s2.heap.objs.size=D at hns₁ hsb₁ ⊢
 have hCs:P2.objs.size=D+1:=by rw [← hP2,Heap.size_push,hDD]
 generalize hCC:P2.objs.size=C at hns₁ hsb₁ hCs ⊢
 have hDC:D≠C:=Nat.ne_of_lt (by rw [hCs];exact Nat.lt_succ_self _)
 have ltC:∀ b:Addr,b < D→b≠C:=fun b h=>Nat.ne_of_lt (by rw [hCs];exact Nat.lt_succ_of_lt h)
 have leC:D≤C:=by rw [hCs];exact Nat.le_succ _
 have old:∀ b o,s2.heap.get? b=some o→h₁.get? b=some o:=fun b o e=>by
  have hb:=Heap.lt_size e
  rw [hDD] at hb
  refine hsb₁.extBut b o (ltC b hb) (Heap.get?_push_of_some _ ?_)
  rw [← hP2]
  exact Heap.get?_push_of_some _ e
 have hacc:h₁.get? D=some { cls:=.type "list",data:=.seq #[] }:=by
  refine hsb₁.extBut D _ hDC (Heap.get?_push_of_some _ ?_)
  rw [← hP2,← hDD]
  exact Heap.get?_push_size _ rfl
 have lt2:∀ b o,s2.heap.get? b=some o→b < D:=fun b o e=>by rw [← hDD];exact Heap.lt_size e
 have fplt:∀ b∈fp,b < D:=fun b hb=>by
  obtain ⟨o,e,_⟩:=T.obj _ _ st2 b hb
  exact lt2 b o e
 have celt:∀ x c,X.env.cells.lookup x=some c→c < D:=fun x c e=>by
  obtain ⟨v,z⟩:=I2.cell x c e
  rw [← hDD]
  exact z.lt
 have pinlt:∀ p∈X.pn++pins,p.1 < D:=fun p hp=>lt2 _ _ (I2.pin p hp).1
 have fstk:∀ b∈fp,b∉frs X.stack:=fun b hb z=>(List.mem_cons.mp (I2.stkSub b z)).elim (f2 b hb).2.1 (f2 b hb).2.2.1
 have hDn:H2 D=none:=I2.hok.fresh (by rw [hDD];exact Nat.le_refl _)
 have hCn:H2 C=none:=I2.hok.fresh (by rw [hDD];exact leC)
 have sz0:X.s₀.heap.objs.size≤D:=by rw [← hDD];exact I2.sz
 let Xc:=cxB X Nc scope cl C fp s2 H2
 have okc:Xc.Ok:=by
  refine ⟨I2.ok.mod,?_,I2.ok.glob,I2.ok.blt,?_,fun x y c h1 h2=>I2.ok.inj x y c (B.sub x c h1) (B.sub y c h2),fun x hx=>B.has x hx,(fun x c h=>by cases h),I2.ok.hd,I2.ok.frames,.inl rfl,?_,I2.bs,Nat.le_trans I2.ok.bsz I2.sz,?_,fstk,I2.stack,I2.stkFree⟩
  ·exact B.kind
  ·show s2.heap.objs.size≤C
   rw [hDD];exact leC
  ·intro b hb
   refine ⟨?_,fun x c e=>?_⟩
   ·exact ltC b (fplt b hb)
   ·exact (f2 b hb).2.2.2.2.1 x c (B.sub x c e)
  ·intro b o e hb
   rcases (f2 b hb).2.2.2.1 with z | z
   ·exact I2.ok.noex b o e z
   ·exact absurd (Nat.lt_of_lt_of_le (Heap.lt_size (I2.ok.bs b o e).1) z) (Nat.lt_irrefl _)
 have I0:∀ tk,Inv Xc (X.pn++pins) (cap σ) H2 { s2 with heap:=h₁,toks:=tk }:=fun tk=>by
  refine ⟨okc,rfl,I2.bare,Un.kept old,⟨_,hns₁,fun i y v h1 h2 h3=>?_⟩,fun x c e=>?_,hCn,fun x c e=>I2.freeC x c (B.sub x c e),fun p hp=>?_,I2.hok.kept old,B.len σ⟩
  ·obtain ⟨k1,k2,k3,j,k4,k5⟩:=B.take σ i y v h1 h2 h3
   obtain ⟨m,hn,hl⟩:=I2.loc
   obtain ⟨u,r,l⟩:=hl j y v k4 k5 k2
   refine ⟨u,r,.inr ⟨k1,?_⟩⟩
   rcases l with ⟨l,_⟩ | ⟨_,c,e,z⟩
   ·exact absurd l k3
   ·obtain ⟨c',e'⟩:=B.has y k1
    have:=B.sub y c' e'
    rw [e] at this;cases this
    obtain ⟨oc,ec,dc⟩:=z
    exact ⟨c,e',oc,old _ _ ec,dc⟩
  ·obtain ⟨v,oc,ec,dc⟩:=I2.cell x c (B.sub x c e)
   exact ⟨v,oc,old _ _ ec,dc⟩
  ·have hp':p∈X.pn++pins:=by simpa [Xc,cxB] using hp
   obtain ⟨e,n,ne,nf,d⟩:=I2.pin p hp'
   exact ⟨old _ _ e,n,ltC _ (pinlt p hp'),fun z=>(List.mem_cons.mp (I2.stkSub _ z)).elim ne nf,d⟩
 have fpc:∀ {H':Hp} {o:Obj},(∀ b∈fp,H' b=none)→∀ b∈fp,Zpr Xc ((X.pn++pins)++[(D,o)]) H' b:=fun {H' o} hn b hb=>by
  refine ⟨hn b hb,ltC b (fplt b hb),fstk b hb,.inl hb,fun x c e=>(f2 b hb).2.2.2.2.1 x c (B.sub x c e),fun p hp=>?_⟩
  ·have hp':p∈X.pn++pins∨p=(D,o):=by
    rcases List.mem_append.mp hp with z | z
    ·cases z
    ·rcases List.mem_append.mp z with z | z
     ·exact .inl z
     ·exact .inr (List.mem_singleton.mp z)
   rcases hp' with z | z
   ·exact (f2 b hb).2.2.2.2.2 p z
   ·subst z
    exact Nat.ne_of_gt (fplt b hb)
 obtain ⟨W,⟨m0,w0⟩,turn⟩:=w2
 have loop:∀ tk,codeAny (model X.prog X.w) X.A (.compLoop (.ListComp elt [⟨tg,iter,ifs,0⟩] scope pos) 0 (.ref it) (.ref D) Xc.env) (RR (.ref D) C) { s2 with heap:=h₁,toks:=tk }:=by
  intro tk
  refine Zfj (E':=fun _ _=>False)
   (fun n s'=>∃ (i:Nat) (σ':St) (H':Hp) (ys:List V) (its:List Value) (k:Nat),Inv Xc (X.pn++pins) σ' H' s'∧tn i s'.heap∧(∀ b∈fp,H' b=none)∧H' D=none∧s'.heap.get? D=some { cls:=.type "list",data:=.seq its.toArray k } ∧
    Vals ys its∧ys.length≤sizeLine∧W i n σ' H' ys) (fun _ _ z=>z.elim) ?_ m0
   ⟨0,cap σ,H2,[],[],0,I0 tk,T.keep _ _ _ st2 fun b _ o e=>old b o e,fun b hb=>(f2 b hb).1,hDn,hacc,.nil,Nat.zero_le _,w0⟩
  rintro n s3 ⟨i,σ3,H3,ys,its,k,I3,st3,fr3,hD3,o3,rv3,hz3,w3⟩
  have I3':Inv Xc ((X.pn++pins)++[(D,{ cls:=.type "list",data:=.seq its.toArray k })]) σ3 H3 s3:=I3.pins_of fun p hp=>by
   have hp':p∈X.pn++pins∨p=(D,{ cls:=.type "list",data:=.seq its.toArray k }):=by
    rcases List.mem_append.mp hp with z | z
    ·exact .inl z
    ·exact .inr (List.mem_singleton.mp z)
   rcases hp' with z | z
   ·exact I3.pin p (by simpa [Xc,cxB] using z)
   ·subst z
    refine ⟨o3,hD3,hDC,fun z=>?_,(fun v z=>by cases z)⟩
    ·obtain ⟨_,o,ho,_⟩:=I2.stack.mem z
     exact absurd (lt2 _ _ ho) (Nat.lt_irrefl _)
  rcases turn i n σ3 H3 ys w3 with ⟨stop,qn⟩ | ⟨go,hlt,N,hN,step⟩
  ·refine thn (T.done Xc rfl rfl rfl hc i _ s3 σ3 H3 _ I3' (fpc fr3) st3 stop) fun r s4 zz1=>?_
   obtain ⟨hr,I4⟩:=zz1
   subst hr
   have pD:=I4.pin (D,{ cls:=.type "list",data:=.seq its.toArray k }) (by simp)
   obtain ⟨m4,hn4,_⟩:=I4.loc
   obtain ⟨oC,es,ep,eC,dC,rC⟩:=id hn4
   have hD4:H3 D=none:=hD3
   have hC4:H3 C=none:=I4.free
   have hupd:∀ b u,H3 b=some u→upd H3 D (.lst ys) b=some u:=fun b u e=>by rw [ZaT (ZcI e hD4)];exact e
   have un:Un (frs X.stack) fp H2 (upd H3 D (.lst ys)) s2.heap s4.heap:=by
    have u:=I4.base
    refine ⟨u.keep,u.slot,fun b o e n hx=>?_,u.there,fun b xs e=>hupd _ _ (u.tups b xs e),fun b o v e=>hupd _ _ (u.frzs b o v e),fun b ps e=>?_⟩
    ·rw [ZaT (Nat.ne_of_lt (lt2 b o e))]
     exact u.free b o e n hx
    ·obtain ⟨more,q⟩:=u.tbls b ps e
     exact ⟨more,hupd _ _ q⟩
   have hok:HOk X.prog X.w (upd H3 D (.lst ys)) s4.heap:=fun b u e=>by
    by_cases hb:b=D
    ·subst hb
     rw [Zbj] at e;cases e
     exact ⟨hz3,its,k,rv3,pD.1⟩
    ·rw [ZaT hb] at e
     exact (I4.hok b u e).stay (fun _ _ _ q=>q) (fun c q=>hupd _ _ q) fun c xs q=>hupd _ _ q
   have I5:Inv X pins σ (upd H3 D (.lst ys)) s4:=I2.call' (ch:=fp) I4.os un hok I4.bare fun b hb=>⟨(f2 b hb).2.2.2.1,(f2 b hb).2.1,(f2 b hb).2.2.2.2.1,(f2 b hb).2.2.2.2.2⟩
   refine fin D C s4 H3 ys oC hD4 qn I5 ⟨?_,?_,fun z=>?_,.inr (Nat.le_trans sz0 leC),fun x c e=>?_,fun p hp=>?_⟩ eC (fun v z=>by rw [dC] at z;cases z) ⟨m4,hn4⟩
   ·rw [ZaT (Ne.symm hDC)];exact hC4
   ·have:=I2.lt
    rw [hDD] at this
    exact Ne.symm (ltC _ this)
   ·exact I2.nofs (a:=C) (by rw [hDD];exact leC) z
   ·exact ltC _ (celt x c e)
   ·exact ltC _ (pinlt p hp)
  ·refine thn (T.item Xc rfl rfl rfl hc i _ s3 σ3 H3 _ I3' (fpc fr3) st3 go) fun r s4 zz2=>?_
   obtain ⟨u,hr,h4⟩:=zz2
   subst hr
   refine thn h4 fun _ s5 zz3=>?_
   obtain ⟨x,H5,I5,r5,y5,st5,fr5⟩:=zz3
   have I5':=I5.pinned (fpc fr5) (T.obj _ _ st5)
   refine thn (hg C fp s2 H2 _ s5 σ3 H5 x u _ I5' r5 (step x H5 y5)) fun _ s6 zz4=>?_
   obtain ⟨σ6,H6,I6,q6⟩:=zz4
   refine thn (ht C fp s2 H2 _ s6 σ6 H6 _ I6 q6) fun ok s7 zz5=>?_
   obtain ⟨H7,I7,q7⟩:=zz5
   have again:∀ {σ8:St} {H8:Hp} {s8:Shared},Inv Xc (((X.pn++pins)++[(D,{ cls:=.type "list",data:=.seq its.toArray k })])++ZiJ fp s5.heap) σ8 H8 s8 →
     tn (i+1) s8.heap∧(∀ b∈fp,H8 b=none)∧s8.heap.get? D=some { cls:=.type "list",data:=.seq its.toArray k }∧H8 D=none:=fun {σ8 H8 s8} I8=>by
    refine ⟨T.keep _ _ _ st5 fun b hb o e=>(I8.pin (b,o) (List.mem_append_right _ (List.mem_append_right _ (ZdL hb e)))).1,fun b hb=>?_,?_⟩
    ·obtain ⟨o,e,d⟩:=T.obj _ _ st5 b hb
     exact (I8.pin (b,o) (List.mem_append_right _ (List.mem_append_right _ (ZdL hb e)))).2.1
    ·have:=I8.pin (D,{ cls:=.type "list",data:=.seq its.toArray k }) (by simp)
     exact ⟨this.1,this.2.1⟩
   cases ok with
   | false =>
    rw [if_neg Bool.false_ne_true] at q7 ⊢
    obtain ⟨m',hm,w7⟩:=hN _ _ _ q7
    obtain ⟨t7,f7,o7,d7⟩:=again I7
    exact ⟨m',hm,i+1,σ6,H7,ys,its,k,I7.unpinned.unpinned,t7,f7,d7,o7,rv3,hz3,w7⟩
   | true =>
    rw [if_pos rfl] at q7 ⊢
    refine thn (he C fp s2 H2 _ s7 σ6 H7 _ I7 q7) fun y s8 zz6=>?_
    obtain ⟨yv,H8,I8,r8,q8⟩:=zz6
    obtain ⟨m',hm,w8⟩:=hN _ _ _ q8
    obtain ⟨t8,f8,o8,d8⟩:=again I8
    have hlen:=rv3.length
    refine wpAny_list_append_plain (s:=s8) (items:=its.toArray) ⟨k,o8⟩ (fun h9 zz7 sb9=>?_) (by rw [List.size_toArray];omega)
    obtain ⟨k9,l9⟩:=zz7
    have I9:Inv Xc (X.pn++pins) σ6 H8 { s8 with heap:=h9 }:=by
     refine I8.unpinned.unpinned.turned (t':=s8.toks) (fun b o hb e=>(sb9.2 b hb).trans e) d8 ?_ (.inr ?_) (fun x c e=>?_) fun p hp=>?_
     ·exact hDC
     ·show s2.heap.objs.size≤D
      rw [hDD];exact Nat.le_refl _
     ·exact Nat.ne_of_lt (celt x c (B.sub x c e))
     ·exact Nat.ne_of_lt (pinlt p (by simpa [Xc,cxB] using hp))
    refine ⟨m',hm,i+1,σ6,H8,ys++[yv],its++[y],k9,I9,?_,f8,d8,?_,rv3.append (.cons r8 .nil),?_,w8⟩
    ·refine T.keep _ _ _ t8 fun b hb o e=>?_
     exact (sb9.2 b (Nat.ne_of_lt (fplt b hb))).trans e
    ·rw [l9]
     simp
    ·rw [List.length_append,List.length_singleton]
     omega
 have env_eq:Xc.env=compEnvC scope cl C X.env:=rfl
 exact codeAny_compStart_list (loop _) (T.self _ 0 _ _ _ (T.keep _ _ _ st2 fun b _ o e=>old b o e) (loop _))
theorem Znu {wi:TI} (hc:X.calm=true) (hi:PI X tg iter wi) (B:Blk X Nc scope cl cap) (hg:∀ C fp s H,PG (cxB X Nc scope cl C fp s H) tg g) (ht:∀ C fp s H,PF (cxB X Nc scope cl C fp s H) ifs tt) (he:∀ C fp s H,PE (cxB X Nc scope cl C fp s H) elt te)
  (hs:∀ x,foldedSetIterable iter X.env x=pure x:=by intro _;rfl):PE X (.ListComp elt [⟨tg,iter,ifs,0⟩] scope pos) (ZpL wi cap g tt te):=by
 intro pins s σ H Q I h
 rw [eval_ListComp]
 refine wpAny_comprehension_free (use:=none) rfl hs B.clos B.kind B.names (thn (hi pins s σ H _ I h) fun v s1 h1=>thn h1 fun itv s2 h2=>?_)
 obtain ⟨it,fp,tn,J,H2,e,I2,T,st2,f2,w2⟩:=h2
 subst e
 refine ZiK (RR:=fun acc C=>compPost (model X.prog X.w) X.A X.xe none (EP X pins σ Q) acc C) hc B hg ht he I2 T st2 f2 w2 ?_
 intro D C s' H' ys oC hD q I' F eC dC ⟨m,hn⟩
 obtain ⟨f0,f1,_,f3,f4,f5⟩:=F
 exact ⟨m,hn,fun h' sb=>⟨.ref D,_,I'.turned (t':=s'.toks) (fun b o hb e=>(sb.2 b hb).trans e) f0 f1 f3 f4 f5,rfl,q D hD⟩⟩
theorem ZmP {wi:TI} {i:Nat} {x:Str} {pos' spos:Pos} (hN:X.N.Nodup) (hix:X.N[i]?=some x) (hx:X.env.scope.names.lookup x=some .local) (hsw:swapsWith (.ListComp elt [⟨tg,iter,ifs,0⟩] scope pos) (some (.Name x pos')) spos.line X.env=pure true)
  (hc:X.calm=true) (hi:PI X tg iter wi) (B:Blk X Nc scope cl cap) (hg:∀ C fp s H,PG (cxB X Nc scope cl C fp s H) tg g) (ht:∀ C fp s H,PF (cxB X Nc scope cl C fp s H) ifs tt) (he:∀ C fp s H,PE (cxB X Nc scope cl C fp s H) elt te)
  (hs:∀ x,foldedSetIterable iter X.env x=pure x:=by intro _;rfl):PS X (.Assign [.Name x pos'] (.ListComp elt [⟨tg,iter,ifs,0⟩] scope pos) spos) (ZwR (ZpL wi cap g tt te) (Zgf i)):=by
 intro pins s σ H D0 I h
 rw [exec_Assign_Name_used _ _ _ _ hsw]
 refine wpAny_bind (wpAny_standAt (wpAny_bind ?_))
 show wpAny _ X.A (do let _ ← comprehension (.ListComp elt [⟨tg,iter,ifs,0⟩] scope pos) scope X.env _ (newList []) false (eval iter X.env) (some (assign (.Name x pos') X.env))) _ _ s
 refine wpAny_bind (wpAny_mono (wpAny_comprehension_free (use:=some (assign (.Name x pos') X.env)) (Q:=fun _ s'=>SP X pins D0 .next s') rfl hs B.clos B.kind B.names
  (thn (hi pins s σ H _ I h) fun v s1 h1=>thn h1 fun itv s2 h2=>?_)) (fun _ s' hq=>wpAny_pure (wpAny_pure hq)) fun _ _ e=>e)
 obtain ⟨it,fp,tn,J,H2,e,I2,T,st2,f2,w2⟩:=h2
 subst e
 refine ZiK (RR:=fun acc C=>compPost (model X.prog X.w) X.A X.xe (some (assign (.Name x pos') X.env)) (fun _ s'=>SP X pins D0 .next s') acc C) hc B hg ht he I2 T st2 f2 w2 ?_
 intro D C s' H' ys oC hD q I' F eC dC ⟨m,hn⟩
 obtain ⟨f0,f1,f2',f3,f4,f5⟩:=F
 have Ip:Inv X (pins++ZiJ [C] s'.heap) σ (upd H' D (.lst ys)) s':=I'.pinned (fp:=[C]) (fun b hb=>by
  have e:b=C:=by simpa using hb
  subst e
  exact ⟨f0,f1,f2',f3,f4,f5⟩) fun b hb=>by
   have e:b=C:=by simpa using hb
   subst e
   exact ⟨oC,eC,dC⟩
 show wpAny _ X.A (assign (.Name x pos') X.env (.ref D)) _ _ _
 refine wpAny_assign_Name (ZgU Ip hN hix (.inl hx) (v:=.ref D) rfl (fun s3 I3=>?_) (.inr hx))
 have pC:=I3.pin (C,oC) (List.mem_append_right _ (List.mem_append_right _ (ZdL (by simp) eC)))
 obtain ⟨oC',es,ep,eC',dC',rC'⟩:=hn
 rw [eC] at eC';cases eC'
 refine ⟨m,⟨oC,es,ep,pC.1,dC',rC'⟩,fun h' sb=>⟨_,_,I3.unpinned.turned (t':=s3.toks) (fun b o hb e=>(sb.2 b hb).trans e) f0 f1 f3 f4 f5,q D hD⟩⟩
end
end L2
namespace L2
open PySem PySem.Spec PyProof.Rows
theorem ObjOk.at {P:Program} {w:World} {H:Hp} {h:Heap} {a:Addr} {o:HO} (x:ObjOk P w H h a o):∃ u,h.get? a=some u:=by
 cases o with
 | lst xs=>obtain ⟨_,_,_,_,e⟩:=x;exact ⟨_,e⟩
 | tup xs=>obtain ⟨_,_,_,ob,e,_⟩:=x;exact ⟨_,e⟩
 | dK kvs=>obtain ⟨_,_,_,_,o,_,_,e,_⟩:=x;exact ⟨_,e⟩
 | dT kvs=>obtain ⟨_,_,_,_,o,_,_,e,_⟩:=x;exact ⟨_,e⟩
 | set S n=>obtain ⟨o,_,_,_,e,_⟩:=x;exact ⟨_,e⟩
 | ins C dx fs=>obtain ⟨_,_,_,e,_⟩:=x;exact ⟨_,e⟩
 | own y=>obtain ⟨_,e⟩:=x;exact ⟨_,e⟩
 | xd fs=>obtain ⟨_,⟨_,_,_,e,_⟩,_⟩:=x;exact ⟨_,e⟩
 | rng lo hi=>obtain ⟨_,_,_,e⟩:=x;exact ⟨_,e⟩
 | frz ob u=>obtain ⟨e,_⟩:=x;exact ⟨_,e⟩
 | tbl ps=>exact ⟨_,(show h.get? a=some _ from x)⟩
 | met f y=>exact ⟨_,(show h.get? a=some _ from x)⟩
 | ext φ=>obtain ⟨_,⟨_,e⟩,_⟩:=x;exact ⟨_,e⟩
structure Fly (P:Program) (w:World) (outer:List Env) (H0:Hp) (s0:Shared) (H':Hp) (e C:Addr) (s':Shared):Prop where
 os:s'.os=s0.os
 bare:AllBare s'.gens
 un:Un (frs outer) [] H0 H' s0.heap s'.heap
 hok:HOk P w H' s'.heap
 fly:∃ (B:Heap) (a0:Value),Heap.FlyingW B outer e (.ref C) a0 s'.heap∧∀ b,b∉frs outer→((∃ o,s0.heap.get? b=some o)∨H' b≠none)→∃ o,B.get? b=some o
 new:s0.heap.get? e=none
 free:H' e=none
def CXe (P:Program) (w:World):CXT:=fun outer H0 s0 E ev s'=>∃ (e C:Addr) (H':Hp),ev=.ref e∧Fly P w outer H0 s0 H' e C s'∧E (.ref C) none H'
section
variable {X:Cx} {pins:List (Addr×Obj)} {σ:St} {H H':Hp} {s s':Shared} {e C:Addr}
end
section
variable {P:Program} {w:World} {K:PySem.W.Frag} {mg:Str→Option Value} {base:Heap} {N:List Str} {qual:Str} {scope:Scope} {f:Addr} {cd:Value} {A:Around} {outer:List Env} {s:Shared} {H:Hp} {E:XK}
end
theorem Inv.track {X:Cx} {pins:List (Addr×Obj)} {σ:St} {H:Hp} {s:Shared} {e:Addr} {o:HO} (I:Inv X pins σ H s) (hn:H e=none) (hL:e≠X.env.locals) (hc:∀ x c,X.env.cells.lookup x=some c→c≠e) (hp:∀ p∈X.pn++pins,p.1≠e)
  (h0:X.s₀.heap.get? e=none) (ok:ObjOk X.prog X.w (upd H e o) s.heap e o):Inv X pins σ (upd H e o) s:=by
 have hupd:∀ b u,H b=some u→upd H e o b=some u:=fun b u z=>by rw [ZaT (ZcI z hn)];exact z
 refine ⟨I.ok,I.os,I.bare,⟨I.base.keep,I.base.slot,fun b ob z n hx=>?_,I.base.there,fun b xs z=>hupd _ _ (I.base.tups b xs z),fun b ob u z=>hupd _ _ (I.base.frzs b ob u z),fun b ps z=>?_⟩,I.loc,I.cell,?_,fun x c z=>?_,fun p z=>?_,fun b u z=>?_,I.len⟩
 ·rw [ZaT (fun q=>by rw [q,h0] at z;cases z)]
  exact I.base.free b ob z n hx
 ·obtain ⟨more,q⟩:=I.base.tbls b ps z
  exact ⟨more,hupd _ _ q⟩
 ·rw [ZaT (Ne.symm hL)];exact I.free
 ·rw [ZaT (hc x c z)];exact I.freeC x c z
 ·obtain ⟨q1,q2,q3⟩:=I.pin p z
  exact ⟨q1,by rw [ZaT (hp p z)];exact q2,q3⟩
 ·by_cases hb:b=e
  ·subst hb
   rw [Zbj] at z;cases z
   exact ok
  ·rw [ZaT hb] at z
   exact (I.hok b u z).stay (fun _ _ _ q=>q) (fun c q=>hupd _ _ q) fun c xs q=>hupd _ _ q
def Zxr (e C:Addr):Heap→Prop:=fun h=>∃ ox,h.get? e=some ox∧ox.cls=.ref C
def ZlA (CX:CXT) (X:Cx) (Eσ:St→XK):Prop:=∀ (pins:List (Addr×Obj)) (σ:St) (H:Hp) (s:Shared) (e:Value) (s':Shared),Inv X pins σ H s→CX X.stack H s (Eσ σ) e s'→X.xe e s'
def Zru (sp:Sp) (dvs:List V) (Eσ:St→XK) (t:TA):TE:=fun σ H Q=>t σ H fun vs H1=>sp (vs++dvs) H1 Q (Eσ σ)
section
variable {X:Cx} {CX:CXT} {k:Nat} {f:Addr} {fd:FuncData} {ps:List Str} {sp:Sp} {dvs:List V} {ds:List Value} {Eσ:St→XK} {x:Str} {p pos:Pos} {e:Expr} {es:List Expr} {t:TA}
theorem Zq4 (F:FnOk X.prog X.w X.K X.mg X.base CX k f fd ps sp) (hr:Room k X.A) (hg:Gl X x) (hm:X.mg x=some (.ref f)) (hk:PySem.W.keepIn X.K (.ref f)=true) (hb:Binds X.K fd ps ds) (hd:Vals dvs ds) (hx:ZlA CX X Eσ)
  (ha:PA X (e::es) t) (hdb:(x==("__debug__":Str))=false:=by decide) (he:starEach (e::es) X.env=(false,eval e X.env)::starEach es X.env:=by rfl) (hpl:(backTo pos (starEach es X.env)).any (·.1)=false:=by rfl) :
  PE X (.Call (.Name x p) (e::es) [] pos) (Zru sp dvs Eσ t):=by
 intro pins s σ H Q I h
 refine wpAny_Call_Name_kw (ZlD I hg hm ?_ hdb)
 refine PySem.W.callWith_K (h₀:=X.base) I.ok.mod.kin hk (thn (ha pos pins s σ H _ I h) fun us s1 ⟨vs,H1,I1,r,q⟩=>⟨I1.kIn,?_⟩) he hpl
 have r2:Vals (vs++dvs) (us++ds):=r.append hd
 have hl:(us++ds).length=ps.length:=by rw [← r2.length];exact F.len _ _ _ _ q
 refine wpAny_call (codeAny_mono (F.run X.A X.stack s1 H1 ⟨us,[]⟩ (us++ds) (vs++dvs) Q (Eσ σ) hr I1.env0 (hb s1 us I1.kIn hl) r2 q) fun r s' hq=>?_)
 cases r with
 | error e=>exact hx pins σ H1 s1 e s' I1 hq
 | ok fl =>
  cases fl with
  | ret u=>exact I1.after hq
  | next=>exact False.elim hq
  | brk=>exact False.elim hq
  | cont=>exact False.elim hq
end
section
variable {X:Cx} {k:Nat} {f:Addr} {fd:FuncData} {ps:List Str} {sp:Sp} {x:Str} {p pos:Pos} {e:Expr} {es:List Expr} {t:TA}
end
end L2
set_option Elab.async false
set_option linter.all false
set_option maxRecDepth 100000
set_option maxHeartbeats 4000000
namespace L3
open PySem PySem.Spec PyProof.Rows L2
abbrev St:=L2.St
inductive W where
 | non | bl (b:Bool) | int (i:Int) | str (x:Str) | tup (xs:List W) | rol (xs:List W) | ref (a:Addr)
inductive HW where
 | lst (xs:List W) | exc (C:Addr) | ins (C:Addr) (fs:List (Str×W)) | dct (kvs:List (Key×W))
abbrev Sw:=List (Option W)
abbrev Hw:=Addr→Option HW
def put (H:Hw) (a:Addr) (o:HW):Hw:=fun b=>if b=a then some o else H b
theorem Zah {H:Hw} {a:Addr} {o:HW}:put H a o a=some o:=by unfold put;rw [if_pos rfl]
theorem Zao {H:Hw} {a b:Addr} {o:HW} (h:b≠a):put H a o b=H b:=by unfold put;rw [if_neg h]
section
variable (K:PySem.W.Frag)
def RoL (H:Hp) (a:Addr) (xs:List V):Prop:=(∃ o,H a=some (.frz o (.lst xs))) ∨
 ∃ (o:Obj) (its:Array Value) (n:Nat),K.lookup a=some o∧o.cls=.type "list"∧o.dict=none∧o.data=.seq its n∧its.size≤sizeLine∧Vals xs its.toList
theorem RoL.sq {K:PySem.W.Frag} {H:Hp} {a:Addr} {xs:List V} (h:RoL K H a xs):SqL K H a xs:=by
 rcases h with ⟨o,h⟩ | h
 ·exact .inl (.inr ⟨o,h⟩)
 ·exact .inr h
mutual
inductive Tr (H:Hp):V→W→Prop where
 | non:Tr H .non .non
 | bl (b:Bool):Tr H (.bl b) (.bl b)
 | int (i:Int):Tr H (.int i) (.int i)
 | str (x:Str):Tr H (.str x) (.str x)
 | tup {a:Addr} {vs:List V} {ws:List W}:SqT K H a vs→TrL H vs ws→Tr H (.ref a) (.tup ws)
 | rol {a:Addr} {vs:List V} {ws:List W}:RoL K H a vs→TrL H vs ws→Tr H (.ref a) (.rol ws)
 | ref (a:Addr):Tr H (.ref a) (.ref a)
inductive TrL (H:Hp):List V→List W→Prop where
 | nil:TrL H [] []
 | cons {v:V} {w:W} {vs:List V} {ws:List W}:Tr H v w→TrL H vs ws→TrL H (v::vs) (w::ws)
end
inductive TrP {α:Type} (H:Hp):List (α×V)→List (α×W)→Prop where
 | nil:TrP H [] []
 | cons {f:α} {v:V} {w:W} {vs:List (α×V)} {ws:List (α×W)}:Tr K H v w→TrP H vs ws→TrP H ((f,v)::vs) ((f,w)::ws)
structure Mono (H H':Hp):Prop where
 tup:∀ a vs,SqT K H a vs→SqT K H' a vs
 rol:∀ a vs,RoL K H a vs→RoL K H' a vs
def RelO2 (H:Hp) (a:Addr):HW→Prop
 | .lst ws=>∃ vs,H a=some (.lst vs)∧TrL K H vs ws
 | .exc C=>H a=some (.ext (Zxr a C))
 | .ins C ws=>∃ dx vs,H a=some (.ins C dx vs)∧TrP K H vs ws
 | .dct ws=>∃ vs,H a=some (.dK vs)∧TrP K H vs ws
def RelH (H:Hp) (G:Hw):Prop:=∀ a o,G a=some o→RelO2 K H a o
structure TrSt (H:Hp) (σ:St) (ω:Sw):Prop where
 len:σ.length=ω.length
 get:∀ (i:Nat) (w:W),ω[i]?=some (some w)→∃ v,σ[i]?=some (some v)∧Tr K H v w
end
variable {K:PySem.W.Frag} {H H' H2:Hp}
theorem Mono.refl:Mono K H H:=⟨fun _ _ h=>h,fun _ _ h=>h⟩
theorem Mono.trans (m:Mono K H H') (m':Mono K H' H2):Mono K H H2:=⟨fun a vs h=>m'.tup a vs (m.tup a vs h),fun a vs h=>m'.rol a vs (m.rol a vs h)⟩
mutual
theorem Tr.mono (m:Mono K H H') {v:V} {w:W} (t:Tr K H v w):Tr K H' v w:=by
 cases t with
 | non=>exact .non
 | bl b=>exact .bl b
 | int i=>exact .int i
 | str x=>exact .str x
 | tup h l=>exact .tup (m.tup _ _ h) (TrL.mono m l)
 | rol h l=>exact .rol (m.rol _ _ h) (TrL.mono m l)
 | ref a=>exact .ref a
theorem TrL.mono (m:Mono K H H') {vs:List V} {ws:List W} (t:TrL K H vs ws):TrL K H' vs ws:=by
 cases t with
 | nil=>exact .nil
 | cons h l=>exact .cons (Tr.mono m h) (TrL.mono m l)
end
theorem TrP.mono {α:Type} (m:Mono K H H'):∀ {vs:List (α×V)} {ws:List (α×W)},TrP K H vs ws→TrP K H' vs ws
 | _,_,.nil=>.nil
 | _,_,.cons r t=>.cons (r.mono m) (TrP.mono m t)
theorem RelO2.mono (m:Mono K H H') {a:Addr} (e:H' a=H a):∀ {o:HW},RelO2 K H a o→RelO2 K H' a o
 | .lst ws,⟨vs,z,t⟩=>⟨vs,e.trans z,t.mono m⟩
 | .exc C,z=>(e.trans z:H' a=_)
 | .ins C ws,⟨dx,vs,z,t⟩=>⟨dx,vs,e.trans z,t.mono m⟩
 | .dct ws,⟨vs,z,t⟩=>⟨vs,e.trans z,t.mono m⟩
theorem RelO2.some {a:Addr}:∀ {o:HW},RelO2 K H a o→H a≠none
 | .lst ws,⟨vs,z,t⟩,q=>by rw [q] at z;cases z
 | .exc C,z,q=>by rw [show H a=_ from z] at q;cases q
 | .ins C ws,⟨dx,vs,z,t⟩,q=>by rw [q] at z;cases z
 | .dct ws,⟨vs,z,t⟩,q=>by rw [q] at z;cases z
theorem TrSt.mono {σ:St} {ω:Sw} (m:Mono K H H') (t:TrSt K H σ ω):TrSt K H' σ ω:=⟨t.len,fun i w e=>let ⟨v,e',r⟩:=t.get i w e;⟨v,e',r.mono m⟩⟩
theorem TrSt.set {σ:St} {ω:Sw} {v:V} {w:W} (t:TrSt K H σ ω) (i:Nat) (r:Tr K H v w):TrSt K H (σ.set i (some v)) (ω.set i (some w)):=by
 refine ⟨by simp [t.len],fun j u e=>?_⟩
 by_cases h:i=j
 ·subst h
  by_cases hl:i < ω.length
  ·rw [List.getElem?_set_self hl] at e
   cases e
   exact ⟨v,List.getElem?_set_self (by rw [t.len];exact hl),r⟩
  ·rw [List.getElem?_eq_none (by simp;omega)] at e;cases e
 ·rw [List.getElem?_set_ne h] at e
  obtain ⟨v',e',r'⟩:=t.get j u e
  exact ⟨v',by rw [List.getElem?_set_ne h];exact e',r'⟩
theorem TrL.length:∀ {vs:List V} {ws:List W},TrL K H vs ws→vs.length=ws.length
 | _,_,.nil=>rfl
 | _,_,.cons _ t=>congrArg (·+1) t.length
theorem TrL.get:∀ {vs:List V} {ws:List W} {i:Nat} {w:W},TrL K H vs ws→ws[i]?=some w→∃ v,vs[i]?=some v∧Tr K H v w
 | _,_,_,_,.nil,e=>by simp at e
 | _,_,0,_,.cons r _,e=>by simp at e;subst e;exact ⟨_,rfl,r⟩
 | _,_,i+1,w,.cons _ t,e=>by
  obtain ⟨v,h1,h2⟩:=TrL.get (i:=i) (w:=w) t (by simpa using e)
  exact ⟨v,by simpa using h1,h2⟩
theorem TrL.get':∀ {vs:List V} {ws:List W} {i:Nat} {v:V},TrL K H vs ws→vs[i]?=some v→∃ w,ws[i]?=some w∧Tr K H v w
 | _,_,_,_,.nil,e=>by simp at e
 | _,_,0,_,.cons r _,e=>by simp at e;subst e;exact ⟨_,rfl,r⟩
 | _,_,i+1,v,.cons _ t,e=>by
  obtain ⟨w,h1,h2⟩:=TrL.get' (i:=i) (v:=v) t (by simpa using e)
  exact ⟨w,by simpa using h1,h2⟩
theorem TrL.append:∀ {vs vs':List V} {ws ws':List W},TrL K H vs ws→TrL K H vs' ws'→TrL K H (vs++vs') (ws++ws')
 | _,_,_,_,.nil,s=>s
 | _,_,_,_,.cons r t,s=>.cons r (t.append s)
theorem TrL.set {v:V} {w:W} (r:Tr K H v w):∀ {vs:List V} {ws:List W} (i:Nat),TrL K H vs ws→TrL K H (vs.set i v) (ws.set i w)
 | _,_,_,.nil=>.nil
 | _,_,0,.cons _ t=>.cons r t
 | _,_,i+1,.cons q t=>.cons q (TrL.set r i t)
theorem TrL.take:∀ {vs:List V} {ws:List W} (n:Nat),TrL K H vs ws→TrL K H (vs.take n) (ws.take n)
 | _,_,0,_=>.nil
 | _,_,_+1,.nil=>.nil
 | _,_,n+1,.cons r t=>.cons r (TrL.take n t)
theorem TrL.drop:∀ {vs:List V} {ws:List W} (n:Nat),TrL K H vs ws→TrL K H (vs.drop n) (ws.drop n)
 | _,_,0,r=>r
 | _,_,_+1,.nil=>.nil
 | _,_,n+1,.cons _ t=>TrL.drop n t
theorem Zk4 {a b:Addr} {vs:List V} {o:HO} (h:SqT K H a vs) (hb:∀ xs,H b≠some (.tup xs)) (hf:∀ ob xs,H b≠some (.frz ob (.tup xs))):SqT K (upd H b o) a vs:=by
 rcases h with (h | ⟨ob,h⟩) | h
 ·exact .inl (.inl (by rw [ZaT (fun e=>hb _ (e▸h))];exact h))
 ·exact .inl (.inr ⟨ob,by rw [ZaT (fun e=>hf _ _ (e▸h))];exact h⟩)
 ·exact .inr h
theorem Zlw {a b:Addr} {vs:List V} {o:HO} (h:RoL K H a vs) (hf:∀ ob u,H b≠some (.frz ob u)):RoL K (upd H b o) a vs:=by
 rcases h with ⟨ob,h⟩ | h
 ·exact .inl ⟨ob,by rw [ZaT (fun e=>hf _ _ (e▸h))];exact h⟩
 ·exact .inr h
theorem Mono.new {p:Addr} (hp:H p=none) (o:HO):Mono K H (upd H p o) :=
 ⟨fun a vs h=>Zk4 h (fun xs e=>by rw [hp] at e;cases e) (fun ob xs e=>by rw [hp] at e;cases e),fun a vs h=>Zlw h (fun ob xs e=>by rw [hp] at e;cases e)⟩
theorem Mono.lst {p:Addr} {xs:List V} (hp:H p=some (.lst xs)) (o:HO):Mono K H (upd H p o) :=
 ⟨fun a vs h=>Zk4 h (fun xs e=>by rw [hp] at e;cases e) (fun ob xs e=>by rw [hp] at e;cases e),fun a vs h=>Zlw h (fun ob xs e=>by rw [hp] at e;cases e)⟩
theorem Mono.was {p:Addr} {o':HO} (hp:H p=some o') (o:HO) (h1:∀ xs,o'≠.tup xs) (h2:∀ ob u,o'≠.frz ob u):Mono K H (upd H p o) :=
 ⟨fun a vs h=>Zk4 h (fun xs e=>by rw [hp] at e;exact h1 _ (Option.some.inj e)) (fun ob xs e=>by rw [hp] at e;exact h2 _ _ (Option.some.inj e)),fun a vs h=>Zlw h (fun ob xs e=>by rw [hp] at e;exact h2 _ _ (Option.some.inj e))⟩
theorem RelH.no {G:Hw} {p:Addr} (r:RelH K H G) (hp:H p=none):G p=none:=by
 cases e:G p with
 | none=>rfl
 | some o=>exact absurd hp (r p o e).some
theorem RelH.mono0 {G:Hw} {p:Addr} {o:HO} (r:RelH K H G) (hp:H p=none):RelH K (upd H p o) G:=fun a u e =>
 have q:=r a u e
 q.mono (Mono.new hp o) (ZaT (by rintro rfl;exact q.some hp))
theorem RelH.laid {G:Hw} {p:Addr} {o:HO} {u:HW} (r:RelH K H G) (m:Mono K H (upd H p o)) (t:RelO2 K (upd H p o) p u):RelH K (upd H p o) (put G p u):=fun a u' e=>by
 by_cases h:a=p
 ·subst h
  rw [Zah] at e;cases e
  exact t
 ·rw [Zao h] at e
  exact (r a _ e).mono m (ZaT h)
theorem RelH.new {G:Hw} {p:Addr} {vs:List V} {ws:List W} (r:RelH K H G) (hp:H p=none) (t:TrL K H vs ws):RelH K (upd H p (.lst vs)) (put G p (.lst ws)) :=
 r.laid (Mono.new hp _) ⟨vs,Zbj,t.mono (Mono.new hp _)⟩
theorem RelH.chg {G:Hw} {p:Addr} {xs vs:List V} {ws:List W} (r:RelH K H G) (hp:H p=some (.lst xs)) (t:TrL K H vs ws):RelH K (upd H p (.lst vs)) (put G p (.lst ws)) :=
 r.laid (Mono.lst hp _) ⟨vs,Zbj,t.mono (Mono.lst hp _)⟩
abbrev Kw:=W→Hw→Prop
abbrev GE:=Sw→Hw→Kw→Prop
abbrev GT:=Sw→Hw→(Bool→Hw→Prop)→Prop
abbrev GA:=Sw→Hw→(List W→Hw→Prop)→Prop
structure Ew where
 nx:Sw→Hw→Prop
 rt:Kw
 bk:Sw→Hw→Prop
 ct:Sw→Hw→Prop
abbrev GS:=Ew→Sw→Hw→Prop
abbrev GG:=W→Sw→Hw→(Sw→Hw→Prop)→Prop
def GE.M (g:GE):Prop:=∀ ω G (Q Q':Kw),(∀ w G',Q w G'→Q' w G')→g ω G Q→g ω G Q'
def GT.M (g:GT):Prop:=∀ ω G (Q Q':Bool→Hw→Prop),(∀ w G',Q w G'→Q' w G')→g ω G Q→g ω G Q'
def GA.M (g:GA):Prop:=∀ ω G (Q Q':List W→Hw→Prop),(∀ w G',Q w G'→Q' w G')→g ω G Q→g ω G Q'
def GS.M (g:GS):Prop:=∀ ω G (D D':Ew),(∀ a b,D.nx a b→D'.nx a b)→(∀ a b,D.rt a b→D'.rt a b)→(∀ a b,D.bk a b→D'.bk a b)→(∀ a b,D.ct a b→D'.ct a b)→g D ω G→g D' ω G
def GG.M (g:GG):Prop:=∀ w ω G (Q Q':Sw→Hw→Prop),(∀ a b,Q a b→Q' a b)→g w ω G Q→g w ω G Q'
def dn (K:PySem.W.Frag) (H:Hp) (Q:VK):Kw:=fun w G=>∀ v H',Mono K H H'→Tr K H' v w→RelH K H' G→Q v H'
def dnT (K:PySem.W.Frag) (H:Hp) (Q:Bool→Hp→Prop):Bool→Hw→Prop:=fun b G=>∀ H',Mono K H H'→RelH K H' G→Q b H'
def dnA (K:PySem.W.Frag) (H:Hp) (Q:List V→Hp→Prop):List W→Hw→Prop:=fun ws G=>∀ vs H',Mono K H H'→TrL K H' vs ws→RelH K H' G→Q vs H'
def dnS (K:PySem.W.Frag) (H:Hp) (Q:St→Hp→Prop):Sw→Hw→Prop:=fun ω G=>∀ σ H',Mono K H H'→TrSt K H' σ ω→RelH K H' G→Q σ H'
def dnD (K:PySem.W.Frag) (H:Hp) (D:ZtZ):Ew:=⟨dnS K H D.nx,dn K H D.rt,dnS K H D.bk,dnS K H D.ct⟩
theorem ZcJ {Q:VK} (m:Mono K H H') {w:W} {G:Hw} (q:dn K H Q w G):dn K H' Q w G:=fun v H2 m2 t r=>q v H2 (m.trans m2) t r
theorem Zmz {Q:Bool→Hp→Prop} (m:Mono K H H') {w:Bool} {G:Hw} (q:dnT K H Q w G):dnT K H' Q w G:=fun H2 m2 r=>q H2 (m.trans m2) r
theorem ZqC {Q:St→Hp→Prop} (m:Mono K H H') {w:Sw} {G:Hw} (q:dnS K H Q w G):dnS K H' Q w G:=fun v H2 m2 t r=>q v H2 (m.trans m2) t r
def up (K:PySem.W.Frag) (g:GE):TE:=fun σ H Q=>∃ ω G,TrSt K H σ ω∧RelH K H G∧g ω G (dn K H Q)
def upT (K:PySem.W.Frag) (g:GT):TT:=fun σ H Q=>∃ ω G,TrSt K H σ ω∧RelH K H G∧g ω G (dnT K H Q)
def upA (K:PySem.W.Frag) (g:GA):TA:=fun σ H Q=>∃ ω G,TrSt K H σ ω∧RelH K H G∧g ω G (dnA K H Q)
def upS (K:PySem.W.Frag) (B:Hp) (g:GS):TS:=fun D σ H=>∃ ω G,TrSt K H σ ω∧RelH K H G∧Mono K B H∧g (dnD K B D) ω G
theorem Zbi {X:Cx} {e:Expr} {t t':TE} (h:PE X e t) (i:∀ σ H Q,t' σ H Q→t σ H Q):PE X e t':=fun pins s σ H Q I q=>h pins s σ H Q I (i σ H Q q)
theorem ZlK {X:Cx} {e:Expr} {t t':TT} (h:PT X e t) (i:∀ σ H Q,t' σ H Q→t σ H Q):PT X e t':=fun pins s σ H Q I q=>h pins s σ H Q I (i σ H Q q)
theorem ZrL {X:Cx} {e:List Expr} {t t':TA} (h:PA X e t) (i:∀ σ H Q,t' σ H Q→t σ H Q):PA X e t':=fun pos pins s σ H Q I q=>h pos pins s σ H Q I (i σ H Q q)
theorem Zft {X:Cx} {e:Stmt} {t t':TS} (h:PS X e t) (i:∀ D σ H,t' D σ H→t D σ H):PS X e t':=fun pins s σ H D I q=>h pins s σ H D I (i D σ H q)
theorem Zlt {X:Cx} {e:List Stmt} {t t':TS} (h:PSs X e t) (i:∀ D σ H,t' D σ H→t D σ H):PSs X e t':=fun pins s σ H D I q=>h pins s σ H D I (i D σ H q)
section
variable {X:Cx} {a b c e:Expr} {es:List Expr} {pos:Pos} {ga gb gc:GE} {gt:GT} {gs:GA}
abbrev PEw (X:Cx) (e:Expr) (g:GE):Prop:=PE X e (up X.K g)
abbrev PTw (X:Cx) (e:Expr) (g:GT):Prop:=PT X e (upT X.K g)
abbrev PAw (X:Cx) (es:List Expr) (g:GA):Prop:=PA X es (upA X.K g)
abbrev PSw (X:Cx) (P:Hp→Prop) (st:Stmt) (g:GS):Prop:=∀ B,P B→PS X st (upS X.K B g)
abbrev ZqX (X:Cx) (P:Hp→Prop) (st:List Stmt) (g:GS):Prop:=∀ B,P B→PSs X st (upS X.K B g)
abbrev ZxM:Hp→Prop:=fun _=>True
def gC (w:W):GE:=fun _ G Q=>Q w G
def Zad (i:Nat):GE:=fun ω G Q=>match ω[i]? with | some (some w)=>Q w G | _=>False
theorem ZtX {w:W}:GE.M (gC w):=fun _ _ _ _ h q=>h _ _ q
theorem Zue {i:Nat}:GE.M (Zad i):=fun ω G Q Q' h q=>by
 have z:Zad i ω G Q=(match ω[i]? with | some (some w)=>Q w G | _=>False):=rfl
 have z':Zad i ω G Q'=(match ω[i]? with | some (some w)=>Q' w G | _=>False):=rfl
 rw [z] at q
 rw [z']
 cases e:ω[i]? with
 | none=>rw [e] at q;exact q
 | some o =>
  cases o with
  | none=>rw [e] at q;exact q
  | some w=>rw [e] at q;exact h _ _ q
theorem Zus {i:Nat} {x:Str} (hN:X.N[i]?=some x) (hv:Vis X.env.scope x) (hd:(x==("__debug__":Str))=false) (hcd:(x==("__classdict__":Str))=false):PEw X (.Name x pos) (Zad i) :=
 Zbi (ZrU hN hv hd hcd) <| by
  rintro σ H Q ⟨ω,G,ts,r,q⟩
  unfold Zad at q
  split at q
  ·rename_i w z
   obtain ⟨v,e,t⟩:=ts.get i w z
   exact ⟨v,e,q v H .refl t r⟩
  ·exact q.elim
theorem Zup {i:Int} {j}:PEw X (.Constant (.int i) j pos) (gC (.int i)):=Zbi ZuV (by rintro σ H Q ⟨ω,G,ts,r,q⟩;exact q _ H .refl (.int i) r)
theorem ZwI {i:Bool} {j}:PEw X (.Constant (.bool i) j pos) (gC (.bl i)):=Zbi Zw5 (by rintro σ H Q ⟨ω,G,ts,r,q⟩;exact q _ H .refl (.bl i) r)
theorem ZvX {j}:PEw X (.Constant .none j pos) (gC .non):=Zbi ZuZ (by rintro σ H Q ⟨ω,G,ts,r,q⟩;exact q _ H .refl .non r)
theorem ZuN {i:Str} {j}:PEw X (.Constant (.str i) j pos) (gC (.str i)):=Zbi Zum (by rintro σ H Q ⟨ω,G,ts,r,q⟩;exact q _ H .refl (.str i) r)
theorem ZoP {x:Str} {v:V} {w:W} {u:Value} (hg:Gl X x) (hm:X.mg x=some u) (rv:RelV v u) (t:∀ H,Tr X.K H v w) (hd:(x==("__debug__":Str))=false):PEw X (.Name x pos) (gC w) :=
 Zbi (ZoH hg hm rv hd) (by rintro σ H Q ⟨ω,G,ts,r,q⟩;exact q _ H .refl (t H) r)
abbrev RW2:=W→W→Hw→Kw→Prop
def RW2.M (r:RW2):Prop:=∀ x y G (Q Q':Kw),(∀ w G',Q w G'→Q' w G')→r x y G Q→r x y G Q'
def Zak (r:RW2) (ga gb:GE):GE:=fun ω G Q=>ga ω G fun x G1=>gb ω G1 fun y G2=>r x y G2 Q
theorem Zet {r:RW2} (mr:r.M) (ma:ga.M) (mb:gb.M):GE.M (Zak r ga gb):=fun ω G Q Q' h q=>ma _ _ _ _ (fun x G1 q1=>mb _ _ _ _ (fun y G2 q2=>mr _ _ _ _ _ h q2) q1) q
theorem ZmE {r:RW2} {r2:R2} (mr:r.M) (ma:ga.M) (mb:gb.M)
  (hr:∀ (x y:W) (v u:V) (G:Hw) (H:Hp) (Q:VK),Tr K H v x→Tr K H u y→RelH K H G→r x y G (dn K H Q)→r2 v u H Q) (σ:St) (H:Hp) (Q:VK) (h:up K (Zak r ga gb) σ H Q):tOp r2 (up K ga) (up K gb) σ H Q:=by
 obtain ⟨ω,G,ts,rh,q⟩:=h
 refine ⟨ω,G,ts,rh,ma _ _ _ _ (fun x G1 q1 v H1 m1 tx r1=>?_) q⟩
 refine ⟨ω,G1,ts.mono m1,r1,mb _ _ _ _ (fun y G2 q2 u H2 m2 ty r2'=>?_) q1⟩
 exact hr x y v u G2 H2 Q (tx.mono m2) ty r2' (mr _ _ _ _ _ (fun w G' z=>ZcJ (m1.trans m2) z) q2)
theorem Zg6 {op:Operator} {r:RW2} {r2:R2} (ho:OpR X (binaryOp op) r2) (mr:r.M) (ma:ga.M) (mb:gb.M) (hr:∀ (x y:W) (v u:V) (G:Hw) (H:Hp) (Q:VK),Tr X.K H v x→Tr X.K H u y→RelH X.K H G→r x y G (dn X.K H Q)→r2 v u H Q)
  (ha:PEw X a ga) (hb:PEw X b gb):PEw X (.BinOp a op b pos) (Zak r ga gb):=Zbi (Zw0 ho ha hb) (ZmE mr ma mb hr)
theorem Zvl {op:CmpOp} {r:RW2} {r2:R2} (ho:OpR X (compareOp op) r2) (mr:r.M) (ma:ga.M) (mb:gb.M) (hr:∀ (x y:W) (v u:V) (G:Hw) (H:Hp) (Q:VK),Tr X.K H v x→Tr X.K H u y→RelH X.K H G→r x y G (dn X.K H Q)→r2 v u H Q)
  (ha:PEw X a ga) (hb:PEw X b gb) (hm:behindInMarks op b=false):PEw X (.Compare a [op] [b] pos) (Zak r ga gb):=Zbi (Zss ho ha hb hm) (ZmE mr ma mb hr)
theorem ZwY {r:RW2} {r2:R2} (ho:IxR X r2) (mr:r.M) (ma:ga.M) (mb:gb.M) (hr:∀ (x y:W) (v u:V) (G:Hw) (H:Hp) (Q:VK),Tr X.K H v x→Tr X.K H u y→RelH X.K H G→r x y G (dn X.K H Q)→r2 v u H Q)
  (ha:PEw X a ga) (hb:PEw X b gb) (hs:ZjF b):PEw X (.Subscript a b pos) (Zak r ga gb):=Zbi (Zw1 ho ha hb hs) (ZmE mr ma mb hr)
end
end L3
namespace L3
open PySem PySem.Spec PyProof.Rows L2
variable {K:PySem.W.Frag} {H H' H2:Hp}
abbrev Xw:=Sw→Addr→Hw→Prop
def upX (K:PySem.W.Frag) (ex:Xw):St→XK:=fun σ Cv _ H'=>∃ C ω G,Cv=.ref C∧TrSt K H' σ ω∧RelH K H' G∧ex ω C G
abbrev Zob (X:Cx) (ex:Xw):Prop:=ZlA (CXe X.prog X.w) X (upX X.K ex)
abbrev Spw:=List W→Hw→Kw→(Addr→Hw→Prop)→Prop
def dnX (K:PySem.W.Frag) (H:Hp) (E:XK):Addr→Hw→Prop:=fun C G'=>∀ H',Mono K H H'→RelH K H' G'→E (.ref C) none H'
def ZtV (K:PySem.W.Frag) (sp:Spw):Sp:=fun vs H Q E=>∃ ws G,TrL K H vs ws∧RelH K H G∧sp ws G (dn K H Q) (dnX K H E)
def Spw.M (sp:Spw):Prop:=∀ ws G (Q Q':Kw) (E E':Addr→Hw→Prop),(∀ w G',Q w G'→Q' w G')→(∀ w G',E w G'→E' w G')→sp ws G Q E→sp ws G Q' E'
structure Df (P:Program) (w:World) (K:PySem.W.Frag) (mg:Str→Option Value) (base:Heap) (x:Str) (k n:Nat) (sp:Spw):Prop where
 ex:∃ (f:Addr) (fd:FuncData) (ps:List Str),mg x=some (.ref f)∧PySem.W.keepIn K (.ref f)=true∧Binds K fd ps []∧ps.length=n∧FnOk P w K mg base (CXe P w) k f fd ps (ZtV K sp)
 mono:sp.M
section
variable {X:Cx} {e:Expr} {es:List Expr} {pos p:Pos} {ga gb:GE} {gs:GA} {ex:Xw}
def Zam:GA:=fun _ G Q=>Q [] G
def Zab (g:GE) (gs:GA):GA:=fun ω G Q=>g ω G fun x G1=>gs ω G1 fun xs G2=>Q (x::xs) G2
theorem Zv9:GA.M Zam:=fun _ _ _ _ h q=>h _ _ q
theorem Ztg (ma:ga.M) (ms:gs.M):GA.M (Zab ga gs):=fun ω G Q Q' h q=>ma _ _ _ _ (fun x G1 q1=>ms _ _ _ _ (fun xs G2 q2=>h _ _ q2) q1) q
theorem ZuA:PAw X [] Zam:=ZrL Zov (by rintro σ H Q ⟨ω,G,ts,r,q⟩;exact q [] H .refl .nil r)
theorem ZtJ (ma:ga.M) (ms:gs.M) (ha:PEw X e ga) (hs:PAw X es gs) (hst:starEach (e::es) X.env=(false,eval e X.env)::starEach es X.env:=by rfl):PAw X (e::es) (Zab ga gs) :=
 ZrL (Zjj ha hs hst) (by rintro σ H Q ⟨ω,G,ts,r,q⟩;exact ⟨ω,G,ts,r,ma _ _ _ _ (fun x G1 q1 v H1 m1 tx r1=>⟨ω,G1,ts.mono m1,r1,ms _ _ _ _ (fun xs G2 q2 vs H2 m2 txs r2=>q2 _ H2 (m1.trans m2) (.cons (tx.mono m2) txs) r2) q1⟩) q⟩)
def Zaq (sp:Spw) (ex:Xw) (gs:GA):GE:=fun ω G Q=>gs ω G fun ws G1=>sp ws G1 Q (ex ω)
theorem ZtN {sp:Spw} (m:sp.M) (ms:gs.M):GE.M (Zaq sp ex gs):=fun ω G Q Q' h q=>ms _ _ _ _ (fun ws G1 q1=>m _ _ _ _ _ _ h (fun _ _ z=>z) q1) q
theorem Zs0 {x:Str} {k n:Nat} {sp:Spw} (D:Df X.prog X.w X.K X.mg X.base x k n sp) (hr:Room k X.A) (hg:Gl X x) (hp:Zob X ex) (ms:gs.M) (ha:PAw X (e::es) gs)
  (hdb:(x==("__debug__":Str))=false:=by decide) (he:starEach (e::es) X.env=(false,eval e X.env)::starEach es X.env:=by rfl) (hpl:(backTo pos (starEach es X.env)).any (·.1)=false:=by rfl) :
  PEw X (.Call (.Name x p) (e::es) [] pos) (Zaq sp ex gs):=by
 obtain ⟨f,fd,ps,hm,hk,hb,_,F⟩:=D.ex
 refine Zbi (Zq4 F hr hg hm hk hb .nil hp ha hdb he hpl) fun σ H Q zz1=>?_
 obtain ⟨ω,G,ts,r,q⟩:=zz1
 refine ⟨ω,G,ts,r,ms _ _ _ _ (fun ws G1 q1 vs H1 m1 tvs r1=>?_) q⟩
 refine ⟨ws,G1,by rw [List.append_nil];exact tvs,r1,D.mono _ _ _ _ _ _ (fun w G' z=>ZcJ m1 z) (fun C G' z H2 m2 r2=>?_) q1⟩
 exact ⟨C,ω,G',rfl,(ts.mono m1).mono m2,r2,z⟩
end
def ZbX (N:List Str) (ws:List W):Sw:=ws.map some++List.replicate (N.length - ws.length) none
theorem Ziu {N:List Str} {vs:List V} {ws:List W} (t:TrL K H vs ws):TrSt K H (L2.Zhk N vs) (ZbX N ws):=by
 have hl:=t.length
 refine ⟨by simp [L2.Zhk,ZbX,hl],fun i w e=>?_⟩
 unfold ZbX at e
 by_cases hi:i < ws.length
 ·rw [List.getElem?_append_left (by simpa using hi),List.getElem?_map] at e
  cases z:ws[i]? with
  | none=>rw [z] at e;cases e
  | some w' =>
   rw [z] at e
   cases e
   obtain ⟨v,e1,r⟩:=t.get z
   exact ⟨v,by unfold L2.Zhk;rw [List.getElem?_append_left (by simp;omega),List.getElem?_map,e1];rfl,r⟩
 ·rw [List.getElem?_append_right (by simpa using hi),List.getElem?_replicate] at e
  split at e <;> cases e
def Sub (G G':Hw):Prop:=∀ a o,G a=some o→G' a=some o
theorem Sub.refl {G:Hw}:Sub G G:=fun _ _ h=>h
theorem Sub.trans {G G1 G2:Hw} (a:Sub G G1) (b:Sub G1 G2):Sub G G2:=fun c o h=>b c o (a c o h)
theorem Sub.put {G G':Hw} {a:Addr} {o:HW} (h:Sub G G') (hn:G a=none):Sub G (put G' a o):=fun c u z=>by
 rw [Zao (fun e=>by rw [e,hn] at z;cases z)]
 exact h c u z
theorem Sub.put2 {G G':Hw} {a:Addr} {o:HW} (h:Sub G G'):Sub (L3.put G a o) (L3.put G' a o):=fun c u z=>by
 by_cases e:c=a
 ·subst e;rw [Zah] at z ⊢;exact z
 ·rw [Zao e] at z ⊢;exact h c u z
theorem RelH.sub {G G':Hw} (r:RelH K H G') (s:Sub G G'):RelH K H G:=fun a o e=>r a o (s a o e)
def Kw.C (Q:Kw):Prop:=∀ w G G',Sub G G'→Q w G→Q w G'
def Xc (E:Addr→Hw→Prop):Prop:=∀ w G G',Sub G G'→E w G→E w G'
theorem ZxK {Q:VK}:Kw.C (dn K H Q):=fun w G G' s q v H2 m t r=>q v H2 m t (r.sub s)
def ZaW (Q:Kw):Ew:=⟨fun _ G=>Q .non G,Q,fun _ _=>False,fun _ _=>False⟩
section
variable {P:Program} {w:World} {mg:Str→Option Value} {base:Heap}
abbrev cxW (P:Program) (w:World) (K:PySem.W.Frag) (mg:Str→Option Value) (base:Heap) (N:List Str) (qual:Str) (scope:Scope) (f:Addr) (cd:Value) (A:Around) (outer:List Env) (s:Shared) (H:Hp) (E:XK):Cx :=
 Zso (CXe P w) P w K mg base N qual scope f cd A outer s H E
end
end L3
namespace L3
open PySem PySem.Spec PyProof.Rows L2
variable {K:PySem.W.Frag} {H H' H2:Hp}
section
variable {X:Cx} {a b c e:Expr} {st:Stmt} {sts sts':List Stmt} {pos pos':Pos} {ga gb gc:GE} {gt gu:GT} {g1 g2:GS} {ex:Xw} {P:Hp→Prop}
def Zar:GS:=fun D ω G=>D.nx ω G
def Zay (g1 g2:GS):GS:=fun D ω G=>g1 { D with nx:=g2 D } ω G
theorem Ztv:GS.M Zar:=fun _ _ _ _ h _ _ _ q=>h _ _ q
theorem Zud (m1:g1.M) (m2:g2.M):GS.M (Zay g1 g2):=fun ω G D D' h1 h2 h3 h4 q=>m1 _ _ { D with nx:=g2 D } _ (fun _ _ z=>m2 _ _ _ _ h1 h2 h3 h4 z) h2 h3 h4 q
theorem Ztn:ZqX X P [] Zar:=fun B hB=>Zlt ZtM (by rintro D σ H ⟨ω,G,ts,r,mb,q⟩;exact q σ H mb ts r)
theorem Zqf (m1:g1.M) (m2:g2.M) (h1:PSw X P st g1) (h2:ZqX X P sts g2):ZqX X P (st::sts) (Zay g1 g2):=fun B hB =>
 Zlt (Zp0 (h1 B hB) (h2 B hB)) (by rintro D σ H ⟨ω,G,ts,r,mb,q⟩;exact ⟨ω,G,ts,r,mb,m1 _ _ { dnD X.K B D with nx:=g2 (dnD X.K B D) } _ (fun ω' G' z σ' H' m ts' r'=>⟨ω',G',ts',r',m,z⟩) (fun _ _ z=>z) (fun _ _ z=>z) (fun _ _ z=>z) q⟩)
theorem Zsr (h1:PSw X P st g1):ZqX X P [st] g1:=fun B hB=>Zlt (ZsX (h1 B hB)) fun D σ H z=>z
def Zbn (i:Nat) (ga:GE):GS:=fun D ω G=>ga ω G fun w G1=>D.nx (ω.set i (some w)) G1
theorem Zos {i:Nat} (ma:ga.M):GS.M (Zbn i ga):=fun ω G D D' h _ _ _ q=>ma _ _ _ _ (fun _ _ z=>h _ _ z) q
theorem ZrF {i:Nat} {x:Str} (hN:X.N.Nodup) (hi:X.N[i]?=some x) (hx:Loc X.env.scope x) (ma:ga.M) (ha:PEw X e ga) (hs:swapsWith e (some (.Name x pos')) pos.line X.env=pure false) (hf:X.fn x=true∨X.env.scope.names.lookup x=some .local) :
  PSw X P (.Assign [.Name x pos'] e pos) (Zbn i ga):=fun B hB =>
 Zft (ZuJ hN hi hx ha hs hf) (by rintro D σ H ⟨ω,G,ts,r,mb,q⟩;exact ⟨ω,G,ts,r,ma _ _ _ _ (fun w G1 z v H1 m t r1=>z _ H1 (mb.trans m) ((ts.mono m).set i t) r1) q⟩)
def ZaF (ga:GE):GS:=fun D ω G=>ga ω G D.rt
theorem ZuX (ma:ga.M):GS.M (ZaF ga):=fun ω G D D' _ h _ _ q=>ma _ _ _ _ (fun _ _ z=>h _ _ z) q
theorem Zu3 (ma:ga.M) (ha:PEw X e ga):PSw X P (.Return (some e) pos) (ZaF ga):=fun B hB=>Zft (Zv1 ha) (by rintro D σ H ⟨ω,G,ts,r,mb,q⟩;exact ⟨ω,G,ts,r,ma _ _ _ _ (fun w G1 z v H1 m t r1=>z v H1 (mb.trans m) t r1) q⟩)
def Zcm (ga:GE):GS:=fun D ω G=>ga ω G fun _ G1=>D.nx ω G1
theorem ZsR (ma:ga.M):GS.M (Zcm ga):=fun ω G D D' h _ _ _ q=>ma _ _ _ _ (fun _ _ z=>h _ _ z) q
theorem Zsz (ma:ga.M) (ha:PEw X e ga) (hs:swapsWith e none pos.line X.env=pure false):PSw X P (.Expr e pos) (Zcm ga):=fun B hB =>
 Zft (Ztu ha hs) (by rintro D σ H ⟨ω,G,ts,r,mb,q⟩;exact ⟨ω,G,ts,r,ma _ _ _ _ (fun w G1 z v H1 m t r1=>z _ H1 (mb.trans m) (ts.mono m) r1) q⟩)
def gIf (gt:GT) (g1 g2:GS):GS:=fun D ω G=>gt ω G fun b G1=>if b=true then g1 D ω G1 else g2 D ω G1
theorem Zxf (mt:gt.M) (m1:g1.M) (m2:g2.M):GS.M (gIf gt g1 g2):=fun ω G D D' h1 h2 h3 h4 q=>mt _ _ _ _ (fun b G1 z=>by
 cases b with
 | true=>exact m1 _ _ _ _ h1 h2 h3 h4 z
 | false=>exact m2 _ _ _ _ h1 h2 h3 h4 z) q
theorem Zxm (mt:gt.M) (m1:g1.M) (m2:g2.M) (hc:PTw X c gt) (h1:ZqX X P sts g1) (h2:ZqX X P sts' g2):PSw X P (.If c sts sts' pos) (gIf gt g1 g2):=fun B hB =>
 Zft (ZwS hc (h1 B hB) (h2 B hB)) fun D σ H ⟨ω,G,ts,r,mb,q⟩=>⟨ω,G,ts,r,mt _ _ _ _ (fun b G1 z H1 m r1=>by
  cases b with
  | true=>exact ⟨ω,G1,ts.mono m,r1,mb.trans m,z⟩
  | false=>exact ⟨ω,G1,ts.mono m,r1,mb.trans m,z⟩) q⟩
def gTB (g:GE):GT:=fun ω G Q=>g ω G fun w G1=>match w with | .bl b=>Q b G1 | _=>False
theorem Zur (m:ga.M):GT.M (gTB ga):=fun ω G Q Q' h q=>m _ _ _ _ (fun w G1 z=>by
 cases w <;> first | exact h _ _ z | exact z) q
theorem ZmX {v:V} {b:Bool} (t:Tr K H v (.bl b)):v=.bl b:=by cases t;rfl
theorem Zv6 {v:V} {b:Int} (t:Tr K H v (.int b)):v=.int b:=by cases t;rfl
theorem ZrB {v:V} {b:Str} (t:Tr K H v (.str b)):v=.str b:=by cases t;rfl
theorem ZuB (m:ga.M) {f:Bool→Hp→Prop} {σ:St} (h:upT K (gTB ga) σ H f):up K ga σ H (fun x H1=>∃ k,x=.bl k∧f k H1):=by
 obtain ⟨ω,G,ts,r,q⟩:=h
 refine ⟨ω,G,ts,r,m _ _ _ _ (fun w G1 z v H1 m1 t r1=>?_) q⟩
 cases w with
 | bl b=>exact ⟨b,ZmX t,z H1 m1 r1⟩
 | _=>exact z.elim
theorem Zv8 {op:CmpOp} {r:RW2} {r2:R2} (ho:OpR X (compareOp op) r2) (mr:r.M) (ma:ga.M) (mb:gb.M) (hr:∀ (x y:W) (v u:V) (G:Hw) (H:Hp) (Q:VK),Tr X.K H v x→Tr X.K H u y→RelH X.K H G→r x y G (dn X.K H Q)→r2 v u H Q)
  (ha:PEw X a ga) (hb:PEw X b gb) (hm:behindInMarks op b=false):PTw X (.Compare a [op] [b] pos) (gTB (Zak r ga gb)) :=
 ZlK (Zsp ho ha hb hm) fun σ H Q z=>ZmE mr ma mb hr σ H _ (ZuB (Zet mr ma mb) z)
def ZjC (w:W) (G:Hw):Option Bool:=match w with
 | .non=>some false
 | .bl b=>some b
 | .int i=>some (i != 0)
 | .tup xs=>some (!xs.isEmpty)
 | .rol xs=>some (!xs.isEmpty)
 | .ref a=>match G a with | some (.lst xs)=>some (!xs.isEmpty) | _=>none
 | .str _=>none
def Zgk (g:GE):GT:=fun ω G Q=>g ω G fun w G1=>match ZjC w G1 with | some b=>Q b G1 | none=>False
theorem Zvp (m:ga.M):GT.M (Zgk ga):=fun ω G Q Q' h q=>m _ _ _ _ (fun w G1 z=>by
 cases e:ZjC w G1 with
 | none=>rw [e] at z;exact z
 | some b=>rw [e] at z;exact h _ _ z) q
theorem Zf3:∀ {vs:List V} {ws:List W},TrL K H vs ws→vs.isEmpty=ws.isEmpty
 | _,_,.nil=>rfl
 | _,_,.cons _ _=>rfl
theorem ZsQ {v:V} {w:W} {G:Hw} {b:Bool} (t:Tr K H v w) (r:RelH K H G) (e:ZjC w G=some b):Zxt K v H b:=by
 cases t with
 | non=>cases e;rfl
 | bl c=>cases e;rfl
 | int i=>cases e;rfl
 | str x=>cases e
 | tup h l=>cases e;exact .inr (.inl ⟨_,h,by rw [Zf3 l]⟩)
 | rol h l=>cases e;exact .inl ⟨_,h.sq,by rw [Zf3 l]⟩
 | ref a =>
  unfold ZjC at e
  dsimp only at e
  cases z:G a with
  | none=>rw [z] at e;cases e
  | some o =>
   rw [z] at e
   cases o with
   | exc C=>cases e
   | ins C fs=>cases e
   | dct kvs=>cases e
   | lst xs =>
    cases e
    obtain ⟨vs,e1,l⟩:=r a _ z
    exact .inl ⟨vs,SqL.of e1,by rw [Zf3 l]⟩
theorem ZuY (ma:ga.M) (ha:PEw X e ga) (he:∀ whole,isTrue e X.env whole=(do let v ← whole;standAt e.pos;holding [v] (truthy v)):=by intro _;rfl):PTw X e (Zgk ga) :=
 ZlK (ZqR ha he) fun σ H Q ⟨ω,G,ts,r,q⟩=>⟨ω,G,ts,r,ma _ _ _ _ (fun w G1 z v H1 m t r1=>by
  cases e1:ZjC w G1 with
  | none=>rw [e1] at z;exact z.elim
  | some b=>rw [e1] at z;exact ⟨b,ZsQ t r1 e1,z H1 m r1⟩) q⟩
def gNt (g:GT):GT:=fun ω G Q=>g ω G fun b G1=>Q (!b) G1
theorem ZwJ (m:gt.M):GT.M (gNt gt):=fun ω G Q Q' h q=>m _ _ _ _ (fun w G1 z=>h _ _ z) q
theorem ZuS (ha:PTw X a gt):PTw X (.UnaryOp .Not a pos) (gNt gt):=ZlK (Zvo ha) fun σ H Q z=>z
abbrev PWw (X:Cx) (e:Expr) (g:GT):Prop:=PW X e (upT X.K g)
theorem Zmc {e:Expr} {t t':TT} (h:PW X e t) (i:∀ σ H Q,t' σ H Q→t σ H Q):PW X e t':=fun wh pins s σ H Q I q=>h wh pins s σ H Q I (i σ H Q q)
def ZjG (g1 g2:GT):GT:=fun ω G Q=>g1 ω G fun b G1=>if b=true then g2 ω G1 Q else Q false G1
def gOr (g1 g2:GT):GT:=fun ω G Q=>g1 ω G fun b G1=>if b=true then Q true G1 else g2 ω G1 Q
theorem Zwa (m1:gt.M) (m2:gu.M):GT.M (ZjG gt gu):=fun ω G Q Q' h q=>m1 _ _ _ _ (fun b G1 z=>by
 cases b with
 | true=>exact m2 _ _ _ _ h z
 | false=>exact h _ _ z) q
theorem ZwM (m1:gt.M) (m2:gu.M):GT.M (gOr gt gu):=fun ω G Q Q' h q=>m1 _ _ _ _ (fun b G1 z=>by
 cases b with
 | true=>exact h _ _ z
 | false=>exact m2 _ _ _ _ h z) q
variable {Zck:List Expr}
theorem ZsG (ha:PTw X a gt):PWw X (.BoolOp .And [a] pos) gt:=Zmc (Zs9 ha) fun σ H Q z=>z
theorem Zuy (ha:PTw X a gt):PWw X (.BoolOp .Or [a] pos) gt:=Zmc (Zt0 ha) fun σ H Q z=>z
theorem Zuo (m1:gt.M) (m2:gu.M) (ha:PTw X a gt) (hb:PWw X (.BoolOp .And (b::Zck) pos) gu):PWw X (.BoolOp .And (a::b::Zck) pos) (ZjG gt gu) :=
 Zmc (Zv0 ha hb) fun σ H Q ⟨ω,G,ts,r,q⟩=>⟨ω,G,ts,r,m1 _ _ _ _ (fun b G1 z H1 m r1=>by
  cases b with
  | true=>exact ⟨ω,G1,ts.mono m,r1,m2 _ _ _ _ (fun _ _ z=>Zmz m z) z⟩
  | false=>exact z H1 m r1) q⟩
theorem ZwF (m1:gt.M) (m2:gu.M) (ha:PTw X a gt) (hb:PWw X (.BoolOp .Or (b::Zck) pos) gu):PWw X (.BoolOp .Or (a::b::Zck) pos) (gOr gt gu) :=
 Zmc (ZwC ha hb) fun σ H Q ⟨ω,G,ts,r,q⟩=>⟨ω,G,ts,r,m1 _ _ _ _ (fun b G1 z H1 m r1=>by
  cases b with
  | true=>exact z H1 m r1
  | false=>exact ⟨ω,G1,ts.mono m,r1,m2 _ _ _ _ (fun _ _ z=>Zmz m z) z⟩) q⟩
theorem ZtS {op:BoolOp} {vs:List Expr} (h:PWw X (.BoolOp op vs pos) gt):PTw X (.BoolOp op vs pos) gt:=PW.pt h
def Zc3 (ga gb:GE):GE:=fun ω G Q=>ga ω G fun x G1=>match x with | .bl c=>if c=true then gb ω G1 Q else Q (.bl false) G1 | _=>False
def Zkp (ga gb:GE):GE:=fun ω G Q=>ga ω G fun x G1=>match x with | .bl c=>if c=true then Q (.bl true) G1 else gb ω G1 Q | _=>False
def ZhW (gt:GT) (ga gb:GE):GE:=fun ω G Q=>gt ω G fun c G1=>if c=true then ga ω G1 Q else gb ω G1 Q
theorem Zto (ma:ga.M) (mb:gb.M):GE.M (Zc3 ga gb):=fun ω G Q Q' h q=>ma _ _ _ _ (fun x G1 z=>by
 cases x with
 | bl c =>
  cases c with
  | true=>exact mb _ _ _ _ h z
  | false=>exact h _ _ z
 | _=>exact z) q
theorem Zv4 (ma:ga.M) (mb:gb.M):GE.M (Zkp ga gb):=fun ω G Q Q' h q=>ma _ _ _ _ (fun x G1 z=>by
 cases x with
 | bl c =>
  cases c with
  | true=>exact h _ _ z
  | false=>exact mb _ _ _ _ h z
 | _=>exact z) q
theorem Zvh (mt:gt.M) (ma:ga.M) (mb:gb.M):GE.M (ZhW gt ga gb):=fun ω G Q Q' h q=>mt _ _ _ _ (fun c G1 z=>by
 cases c with
 | true=>exact ma _ _ _ _ h z
 | false=>exact mb _ _ _ _ h z) q
theorem Zu6 {op:BoolOp} (h:PEw X a ga):PEw X (.BoolOp op [a] pos) ga:=Zvc h
theorem ZvF (ma:ga.M) (mb:gb.M) (ha:PEw X a ga) (hb:PEw X (.BoolOp .And (b::Zck) pos) gb):PEw X (.BoolOp .And (a::b::Zck) pos) (Zc3 ga gb) :=
 Zbi (Zvs ha hb) fun σ H Q ⟨ω,G,ts,r,q⟩=>⟨ω,G,ts,r,ma _ _ _ _ (fun x G1 z v H1 m t r1=>by
  cases x with
  | bl c =>
   refine ⟨c,ZmX t,?_⟩
   cases c with
   | true=>exact ⟨ω,G1,ts.mono m,r1,mb _ _ _ _ (fun _ _ z=>ZcJ m z) z⟩
   | false=>exact z _ H1 m (.bl false) r1
  | _=>exact z.elim) q⟩
theorem ZwV (ma:ga.M) (mb:gb.M) (ha:PEw X a ga) (hb:PEw X (.BoolOp .Or (b::Zck) pos) gb):PEw X (.BoolOp .Or (a::b::Zck) pos) (Zkp ga gb) :=
 Zbi (ZwN ha hb) fun σ H Q ⟨ω,G,ts,r,q⟩=>⟨ω,G,ts,r,ma _ _ _ _ (fun x G1 z v H1 m t r1=>by
  cases x with
  | bl c =>
   refine ⟨c,ZmX t,?_⟩
   cases c with
   | true=>exact z _ H1 m (.bl true) r1
   | false=>exact ⟨ω,G1,ts.mono m,r1,mb _ _ _ _ (fun _ _ z=>ZcJ m z) z⟩
  | _=>exact z.elim) q⟩
theorem Zv2 (mt:gt.M) (ma:ga.M) (mb:gb.M) (hc:PTw X c gt) (ha:PEw X a ga) (hb:PEw X b gb):PEw X (.IfExp c a b pos) (ZhW gt ga gb) :=
 Zbi (Zp3 hc ha hb) fun σ H Q ⟨ω,G,ts,r,q⟩=>⟨ω,G,ts,r,mt _ _ _ _ (fun c G1 z H1 m r1=>by
  cases c with
  | true=>exact ⟨ω,G1,ts.mono m,r1,ma _ _ _ _ (fun _ _ z=>ZcJ m z) z⟩
  | false=>exact ⟨ω,G1,ts.mono m,r1,mb _ _ _ _ (fun _ _ z=>ZcJ m z) z⟩) q⟩
variable {es:List Expr} {gs:GA}
def Zbb (gs:GA):GE:=fun ω G Q=>gs ω G fun ws G1=>ws.length≤sizeLine∧Q (.tup ws) G1
def Zcn (gs:GA):GE:=fun ω G Q=>gs ω G fun ws G1=>ws.length≤sizeLine∧∀ p,G1 p=none→Q (.ref p) (put G1 p (.lst ws))
theorem ZuF (m:gs.M):GE.M (Zbb gs):=fun ω G Q Q' h q=>m _ _ _ _ (fun ws G1 z=>⟨z.1,h _ _ z.2⟩) q
theorem ZvY (m:gs.M):GE.M (Zcn gs):=fun ω G Q Q' h q=>m _ _ _ _ (fun ws G1 z=>⟨z.1,fun p hp=>h _ _ (z.2 p hp)⟩) q
theorem ZuP {x1} (m:gs.M) (h:PAw X es gs):PEw X (.Tuple es x1 pos) (Zbb gs) :=
 Zbi (Zvt h) fun σ H Q ⟨ω,G,ts,r,q⟩=>⟨ω,G,ts,r,m _ _ _ _ (fun ws G1 z vs H1 m1 t r1=>⟨by rw [t.length];exact z.1,fun p hp =>
  z.2 _ _ (m1.trans (Mono.new hp _)) (.tup (SqT.of Zbj) (t.mono (Mono.new hp _))) (r1.mono0 hp)⟩) q⟩
theorem Zt7 (m:gs.M) (h:PAw X es gs):PEw X (.List es pos) (Zcn gs) :=
 Zbi (ZvN h) fun σ H Q ⟨ω,G,ts,r,q⟩=>⟨ω,G,ts,r,m _ _ _ _ (fun ws G1 z vs H1 m1 t r1=>⟨by rw [t.length];exact z.1,fun p hp =>
  z.2 p (r1.no hp) _ _ (m1.trans (Mono.new hp _)) (.ref p) (r1.new hp t)⟩) q⟩
end
end L3
set_option Elab.async false
set_option linter.all false
set_option maxRecDepth 100000
set_option maxHeartbeats 4000000
namespace L3
open PySem PySem.Spec PyProof.Rows L2
variable {K:PySem.W.Frag} {H H' H2:Hp}
def ZhL (z:Str):List V:=z.cps.toList.map fun c=>V.str ⟨#[c]⟩
def Itk (xs:List V):It:=⟨fun i _=>i < xs.length,fun i H x H'=>H'=H∧xs[i]?=some x,fun i _=>xs.length≤i⟩
theorem Zni {P:Program} {w:World} {tg:Expr} (ht:∀ it u,letOwnedTupleGo tg it u=pure ()) (it:Addr) (z:Str) (t:Tok):Zp6 P w K tg (Itk (ZhL z)) [it] it (fun i h=>h.IsStrIter it "str_ascii_iterator" z t i) where
 mem:=by simp
 obj:=fun i h st b hb=>by
  have e:b=it:=by simpa using hb
  subst e
  obtain ⟨o,e,c,d⟩:=st
  exact ⟨o,e,fun v z=>by rw [d] at z;cases z⟩
 keep:=fun i h h' st k=>by
  obtain ⟨o,e,c,d⟩:=st
  exact ⟨o,k it (by simp) o e,c,d⟩
 item:=by
  intro X hP hw hK hc i pins s σ H E I hf st hg
  subst hP hw hK
  obtain ⟨f0,f1,f2,f3,f4,f5⟩:=hf it (by simp)
  have W:=Walks.strAscii (prog:=X.prog) (w:=X.w) (I.ok.hd hc) it z t
  have hi:i < z.cps.size:=by simpa [ZhL,Itk] using hg
  refine W.item i s _ _ hi st fun v h' tk hv st' kk=>?_
  obtain ⟨c,t',hc',rfl⟩:=hv
  have I1:Inv X pins σ H { s with heap:=h',toks:=tk }:=I.turned (fun b o hb e=>kk b o (by simpa using hb) e) f0 f1 f3 f4 f5
  exact ⟨_,rfl,wpAny_of_eq (ht _ _) ⟨.str ⟨#[c]⟩,H,I1,⟨_,rfl⟩,⟨rfl,by simp [ZhL,hc']⟩,st',fun b hb=>(hf b hb).1⟩⟩
 done:=by
  intro X hP hw hK hc i pins s σ H E I hf st hg
  subst hP hw hK
  obtain ⟨f0,f1,f2,f3,f4,f5⟩:=hf it (by simp)
  have hi:z.cps.size≤i:=by simpa [ZhL,Itk] using hg
  exact wpAny_pyNext_ascii_end (I.ok.hd hc) st (by simp [hi]) fun h' eb=>⟨rfl,I.turned (t':=s.toks) (fun b o hb e=>eb b o hb e) f0 f1 f3 f4 f5⟩
 self:=fun A i s Q E st h=>wpAny_pyIter_striter_ascii st h
theorem Zpo {P:Program} {w:World} {tg:Expr} (ht:∀ it u,letOwnedTupleGo tg it u=pure ()) (it:Addr) (z:Str) (t:Tok):Zp6 P w K tg (Itk (ZhL z)) [it] it (fun i h=>h.IsStrIter it "str_iterator" z t i) where
 mem:=by simp
 obj:=fun i h st b hb=>by
  have e:b=it:=by simpa using hb
  subst e
  obtain ⟨o,e,c,d⟩:=st
  exact ⟨o,e,fun v z=>by rw [d] at z;cases z⟩
 keep:=fun i h h' st k=>by
  obtain ⟨o,e,c,d⟩:=st
  exact ⟨o,k it (by simp) o e,c,d⟩
 item:=by
  intro X hP hw hK hc i pins s σ H E I hf st hg
  subst hP hw hK
  obtain ⟨f0,f1,f2,f3,f4,f5⟩:=hf it (by simp)
  have W:=Walks.strWide (prog:=X.prog) (w:=X.w) (I.ok.hd hc) it z t
  have hi:i < z.cps.size:=by simpa [ZhL,Itk] using hg
  refine W.item i s _ _ hi st fun v h' tk hv st' kk=>?_
  obtain ⟨c,t',hc',rfl⟩:=hv
  have I1:Inv X pins σ H { s with heap:=h',toks:=tk }:=I.turned (fun b o hb e=>kk b o (by simpa using hb) e) f0 f1 f3 f4 f5
  exact ⟨_,rfl,wpAny_of_eq (ht _ _) ⟨.str ⟨#[c]⟩,H,I1,⟨_,rfl⟩,⟨rfl,by simp [ZhL,hc']⟩,st',fun b hb=>(hf b hb).1⟩⟩
 done:=by
  intro X hP hw hK hc i pins s σ H E I hf st hg
  subst hP hw hK
  obtain ⟨f0,f1,f2,f3,f4,f5⟩:=hf it (by simp)
  have hi:z.cps.size≤i:=by simpa [ZhL,Itk] using hg
  exact wpAny_pyNext_wide_end (I.ok.hd hc) st (by simp [hi]) fun h' eb=>⟨rfl,I.turned (t':=s.toks) (fun b o hb e=>eb b o hb e) f0 f1 f3 f4 f5⟩
 self:=fun A i s Q E st h=>wpAny_pyIter_striter_wide st h
def Zx1 (K:PySem.W.Frag) (tl:TE):TI:=fun σ H R=>tl σ H fun x H1=>(∃ a,x=.ref a∧(∃ xs,SqL K H1 a xs)∧R (Itl K a) H1)∨(∃ a,x=.ref a∧(∃ xs,SqT K H1 a xs)∧R (Itt K a) H1)∨(∃ z,x=.str z∧R (Itk (ZhL z)) H1)
theorem ZuD {X:Cx} {tg l:Expr} {tl:TE} (ht:∀ it u,letOwnedTupleGo tg it u=pure ()) (hl:PE X l tl):PI X tg l (Zx1 X.K tl):=by
 intro pins s σ H R I h
 refine thn (hl pins s σ H _ I h) fun v s1 zz1=>?_
 obtain ⟨x,H1,I1,r1,q1⟩:=zz1
 rcases q1 with ⟨a,e,⟨xs,hq⟩,q⟩ | ⟨a,e,⟨xs,hq⟩,q⟩ | ⟨z,e,q⟩
 ·subst e
  cases r1
  obtain ⟨its,rv,p,hz⟩:=I1.list hq
  refine wpAny_pyIter_list p.isList ?_
  refine ⟨s1.heap.objs.size,[s1.heap.objs.size],_,_,H1,rfl,I1.kept (t':=s1.toks) fun b o e=>Heap.get?_push_of_some _ e,Zj7 a _,⟨_,Heap.get?_push_size _ rfl,rfl,rfl⟩,fun b hb=>?_,q⟩
  have e:b=s1.heap.objs.size:=by simpa using hb
  subst e
  exact I1.fpOk (Nat.le_refl _) (I1.hok.fresh (Nat.le_refl _))
 ·subst e
  cases r1
  obtain ⟨its,rv,p,hz⟩:=I1.tuple hq
  refine wpAny_pyIter_tuple (show s1.heap.IsTuple a its.toArray from p) ?_
  refine ⟨s1.heap.objs.size,[s1.heap.objs.size],_,_,H1,rfl,I1.kept (t':=s1.toks) fun b o e=>Heap.get?_push_of_some _ e,Ziw a _,⟨_,Heap.get?_push_size _ rfl,rfl,rfl⟩,fun b hb=>?_,q⟩
  have e:b=s1.heap.objs.size:=by simpa using hb
  subst e
  exact I1.fpOk (Nat.le_refl _) (I1.hok.fresh (Nat.le_refl _))
 ·subst e
  obtain ⟨t,rfl⟩:=r1
  have fp:∀ b∈[s1.heap.objs.size],Zpr X pins H1 b:=fun b hb=>by
   have e:b=s1.heap.objs.size:=by simpa using hb
   subst e
   exact I1.fpOk (Nat.le_refl _) (I1.hok.fresh (Nat.le_refl _))
  cases ha:z.cps.all (· < 128)
  ·exact wpAny_pyIter_wide ha ⟨s1.heap.objs.size,[s1.heap.objs.size],_,_,H1,rfl,I1.kept (t':=s1.toks) fun b o e=>Heap.get?_push_of_some _ e,Zpo ht _ z t,⟨_,Heap.get?_push_size _ rfl,rfl,rfl⟩,fp,q⟩
  ·exact wpAny_pyIter_ascii ha ⟨s1.heap.objs.size,[s1.heap.objs.size],_,_,H1,rfl,I1.kept (t':=s1.toks) fun b o e=>Heap.get?_push_of_some _ e,Zni ht _ z t,⟨_,Heap.get?_push_size _ rfl,rfl,rfl⟩,fp,q⟩
abbrev GI:=Sw→Hw→(List W→(Hw→Prop)→Hw→Prop)→Prop
def GI.M (g:GI):Prop:=∀ ω G (R R':List W→(Hw→Prop)→Hw→Prop),(∀ ws gd G',R ws gd G'→R' ws gd G')→g ω G R→g ω G R'
def ZhJ (z:Str):List W:=z.cps.toList.map fun c=>W.str ⟨#[c]⟩
theorem ZnR {z:Str}:TrL K H (ZhL z) (ZhJ z):=by
 unfold ZhL ZhJ
 generalize z.cps.toList=l
 induction l with
 | nil=>exact .nil
 | cons c l ih=>exact .cons (.str _) ih
def yes:Hw→Prop:=fun _=>True
def holds (a:Addr) (ws:List W):Hw→Prop:=fun G=>G a=some (.lst ws)
def ZbJ (ga:GE):GI:=fun ω G R=>ga ω G fun w G1=>match w with
 | .tup ws=>R ws yes G1
 | .rol ws=>R ws yes G1
 | .str z=>R (ZhJ z) yes G1
 | .ref a=>match G1 a with | some (.lst ws)=>R ws (holds a ws) G1 | _=>False
 | _=>False
theorem Zs6 {ga:GE} (m:ga.M):GI.M (ZbJ ga):=fun ω G R R' h q=>m _ _ _ _ (fun w G1 z=>by
 cases w with
 | tup ws=>exact h _ _ _ z
 | rol ws=>exact h _ _ _ z
 | str x=>exact h _ _ _ z
 | ref a =>
  dsimp only at z ⊢
  cases e:G1 a with
  | none=>rw [e] at z;exact z
  | some o =>
   rw [e] at z
   cases o with
   | lst ws=>exact h _ _ _ z
   | exc C=>exact z
   | ins C fs=>exact z
   | dct kvs=>exact z
 | _=>exact z) q
structure ZtY (K:PySem.W.Frag) (H1:Hp) (J:It) (ws:List W) (gd:Hw→Prop):Prop where
 go:∀ (i:Nat) (H:Hp) (G:Hw),Mono K H1 H→RelH K H G→gd G→i < ws.length→J.go i H
 yld:∀ (i:Nat) (H:Hp) (G:Hw) (x:V) (H':Hp),Mono K H1 H→RelH K H G→gd G→J.yld i H x H'→i < ws.length→Mono K H H'∧RelH K H' G∧∃ w,ws[i]?=some w∧Tr K H' x w
 stop:∀ (H:Hp) (G:Hw),Mono K H1 H→RelH K H G→gd G→J.stop ws.length H
theorem Zi1 {H H':Hp} {G:Hw} {x:V} {ws:List W} {i:Nat} (r:RelH K H G) (e:H'=H) (h:∃ w,ws[i]?=some w∧Tr K H x w):Mono K H H'∧RelH K H' G∧∃ w,ws[i]?=some w∧Tr K H' x w:=by
 subst e;exact ⟨.refl,r,h⟩
theorem ZgP {a:Addr} {ws:List W} {gd:Hw→Prop} {H1:Hp} (h:∀ H G,Mono K H1 H→RelH K H G→gd G→∃ vs,SqL K H a vs∧TrL K H vs ws):ZtY K H1 (Itl K a) ws gd where
 go:=fun i H G m r g hi=>by
  obtain ⟨vs,q,t⟩:=h H G m r g
  have hl:=t.length
  exact ⟨vs,vs[i]'(by omega),q,by simp⟩
 yld:=fun i H G x H' m r g y hi=>by
  obtain ⟨vs,q,t⟩:=h H G m r g
  obtain ⟨w,e,tw⟩:=t.get' (y.2 vs q)
  exact Zi1 r y.1 ⟨w,e,tw⟩
 stop:=fun H G m r g=>by
  obtain ⟨vs,q,t⟩:=h H G m r g
  exact ⟨vs,q,Nat.le_of_eq t.length⟩
theorem Zmb {a:Addr} {vs:List V} {ws:List W} {gd:Hw→Prop} {H1:Hp} (q:SqT K H1 a vs) (t:TrL K H1 vs ws):ZtY K H1 (Itt K a) ws gd where
 go:=fun i H G m r g hi=>by
  have hl:=t.length
  exact ⟨vs,vs[i]'(by omega),m.tup _ _ q,by simp⟩
 yld:=fun i H G x H' m r g y hi=>by
  obtain ⟨w,e,tw⟩:=(t.mono m).get' (y.2 vs (m.tup _ _ q))
  exact Zi1 r y.1 ⟨w,e,tw⟩
 stop:=fun H G m r g=>⟨vs,m.tup _ _ q,Nat.le_of_eq t.length⟩
theorem Zm0 {vs:List V} {ws:List W} {gd:Hw→Prop} {H1:Hp} (t:TrL K H1 vs ws):ZtY K H1 (Itk vs) ws gd where
 go:=fun i H G m r g hi=>by show i < vs.length;rw [t.length];exact hi
 yld:=fun i H G x H' m r g y hi=>by
  obtain ⟨w,e,tw⟩:=(t.mono m).get' y.2
  exact Zi1 r y.1 ⟨w,e,tw⟩
 stop:=fun H G m r g=>by show vs.length≤ws.length;exact Nat.le_of_eq t.length
def PIw (X:Cx) (tg l:Expr) (gi:GI):Prop:=∃ wi:TI,PI X tg l wi∧∀ (σ:St) (H:Hp) (ω:Sw) (G:Hw) (R:List W→(Hw→Prop)→Hw→Prop) (R0:It→Hp→Prop),TrSt X.K H σ ω→RelH X.K H G→gi ω G R →
 (∀ ws gd G1 H1 J,R ws gd G1→Mono X.K H H1→RelH X.K H1 G1→gd G1→ZtY X.K H1 J ws gd→R0 J H1)→wi σ H R0
theorem Zvb {X:Cx} {tg l:Expr} {ga:GE} (ht:∀ it u,letOwnedTupleGo tg it u=pure ()) (ma:ga.M) (hl:PEw X l ga):PIw X tg l (ZbJ ga):=by
 refine ⟨_,ZuD ht hl,fun σ H ω G R R0 ts r q k=>⟨ω,G,ts,r,ma _ _ _ _ (fun w G1 z v H1 m t r1=>?_) q⟩⟩
 cases t with
 | tup h l=>exact .inr (.inl ⟨_,rfl,⟨_,h⟩,k _ _ _ H1 _ z m r1 trivial (Zmb h l)⟩)
 | rol h l=>exact .inl ⟨_,rfl,⟨_,h.sq⟩,k _ _ _ H1 _ z m r1 trivial (ZgP fun H2 G2 m2 _ _=>⟨_,(m2.rol _ _ h).sq,l.mono m2⟩)⟩
 | str x=>exact .inr (.inr ⟨x,rfl,k _ _ _ H1 _ z m r1 trivial (Zm0 ZnR)⟩)
 | ref a =>
  dsimp only at z
  cases e:G1 a with
  | none=>rw [e] at z;exact z.elim
  | some o =>
   rw [e] at z
   cases o with
   | exc C=>exact z.elim
   | ins C fs=>exact z.elim
   | dct kvs=>exact z.elim
   | lst ws =>
    obtain ⟨vs,e1,t1⟩:=r1 a _ e
    exact .inl ⟨a,rfl,⟨vs,SqL.of e1⟩,k _ _ _ H1 _ z m r1 e (ZgP fun H2 G2 m2 r2 g2=>let ⟨vs,e2,t2⟩:=r2 a _ g2;⟨vs,SqL.of e2,t2⟩)⟩
 | non=>exact z.elim
 | bl b=>exact z.elim
 | int i=>exact z.elim
structure TgW (X:Cx) (tg:Expr) (gg:GG):Prop where
 ex:∃ g:TG,PG X tg g∧∀ (x:V) (w:W) (σ:St) (ω:Sw) (H:Hp) (G:Hw) (Q:St→Hp→Prop),Tr X.K H x w→TrSt X.K H σ ω→RelH X.K H G→gg w ω G (dnS X.K H Q)→g x σ H Q
 mono:gg.M
def gNm (i:Nat):GG:=fun w ω G Q=>Q (ω.set i (some w)) G
theorem ZjE {X:Cx} {x:Str} {p:Pos} {i:Nat} (hN:X.N.Nodup) (hi:X.N[i]?=some x) (hx:Loc X.env.scope x) (hf:X.fn x=true∨X.env.scope.names.lookup x=some .local):TgW X (.Name x p) (gNm i) where
 ex:=⟨_,ZcF hN hi hx hf,fun x w σ ω H G Q t ts r q=>q _ H .refl (ts.set i t) r⟩
 mono:=fun _ _ _ _ _ h q=>h _ _ q
def Znn (i j:Nat):GG:=fun w ω G Q=>match w with | .tup [a,b]=>Q ((ω.set i (some a)).set j (some b)) G | _=>False
theorem Zv3 {X:Cx} {x y:Str} {p p' pos:Pos} {k i j:Nat} (hc:X.calm=true) (hN:X.N.Nodup) (hi:X.N[i]?=some x) (hx:Loc X.env.scope x) (hf:X.fn x=true∨X.env.scope.names.lookup x=some .local)
  (hj:X.N[j]?=some y) (hy:Loc X.env.scope y) (hfy:X.fn y=true∨X.env.scope.names.lookup y=some .local):TgW X (.Tuple [.Name x p,.Name y p'] k pos) (Znn i j) where
 ex:=⟨_,ZmF hc (ZcO (ZcF hN hi hx hf) (ZcO (ZcF hN hj hy hfy) Zjh)),fun v w σ ω H G Q t ts r q=>by
  unfold Znn at q
  split at q
  ·rename_i a b
   cases t with
   | tup h l =>
    cases l with
    | cons ta l =>
     cases l with
     | cons tb l =>
      cases l
      exact ⟨_,_,rfl,h,rfl,_,_,rfl,_,_,rfl,rfl,q _ H .refl ((ts.set i ta).set j tb) r⟩
  ·exact q.elim⟩
 mono:=fun w ω G Q Q' h q=>by
  unfold Znn at q ⊢
  split
  ·exact h _ _ q
  ·rename_i z
   split at q
   ·exact (z _ _ rfl).elim
   ·exact q
def Zdo (gd:Hw→Prop) (gg:GG) (gb:GS) (D:Ew):List W→Sw→Hw→Prop
 | [],ω,G=>gd G∧D.nx ω G
 | x::xs,ω,G=>gd G∧gg x ω G fun ω1 G1=>gb { nx:=Zdo gd gg gb D xs,rt:=D.rt,bk:=D.nx,ct:=Zdo gd gg gb D xs } ω1 G1
def Zel (gi:GI) (gg:GG) (gb:GS):GS:=fun D ω G=>gi ω G fun ws gd G1=>Zdo gd gg gb D ws ω G1
theorem Zk8 {gd:Hw→Prop} {gg:GG} {gb:GS} (mg:gg.M) (mb:gb.M) {D D':Ew} (h1:∀ a b,D.nx a b→D'.nx a b) (h2:∀ a b,D.rt a b→D'.rt a b):∀ (ws:List W) (ω:Sw) (G:Hw),Zdo gd gg gb D ws ω G→Zdo gd gg gb D' ws ω G
 | [],ω,G,q=>⟨q.1,h1 _ _ q.2⟩
 | x::xs,ω,G,q=>⟨q.1,mg _ _ _ _ _ (fun ω1 G1 z=>mb _ _ { nx:=Zdo gd gg gb D xs,rt:=D.rt,bk:=D.nx,ct:=Zdo gd gg gb D xs } _ (fun a b y=>Zk8 mg mb h1 h2 xs a b y) h2 h1 (fun a b y=>Zk8 mg mb h1 h2 xs a b y) z) q.2⟩
theorem Zt5 {gi:GI} {gg:GG} {gb:GS} (mi:gi.M) (mg:gg.M) (mb:gb.M):GS.M (Zel gi gg gb):=fun ω G D D' h1 h2 h3 h4 q=>mi _ _ _ _ (fun ws gd G1 z=>Zk8 mg mb h1 h2 ws ω G1 z) q
theorem ZqT {gd:Hw→Prop} {gg:GG} {gb:GS} {D:Ew} {ws:List W} {ω:Sw} {G:Hw} (q:Zdo gd gg gb D ws ω G):gd G:=by
 cases ws with
 | nil=>exact q.1
 | cons w ws=>exact q.1
theorem Zvi {X:Cx} {P:Hp→Prop} {tg iter:Expr} {body:List Stmt} {pos:Pos} {gi:GI} {gg:GG} {gb:GS} (hp:PassesOwn (model X.prog X.w) X.A X.env X.xe) (hc:X.calm=true) (mi:gi.M) (mb:gb.M) (hi:PIw X tg iter gi) (hg:TgW X tg gg) (hb:ZqX X ZxM body gb)
  (hs:∀ x,foldedSetIterable iter X.env x=pure x:=by intro _;rfl):PSw X P (.For tg iter body [] pos) (Zel gi gg gb):=by
 intro B hB
 obtain ⟨wi,hwi,hi⟩:=hi
 obtain ⟨g,hpg,hgg⟩:=hg.ex
 have mg:=hg.mono
 have hb':PSs X body (fun D σ H=>∃ B',upS X.K B' gb D σ H):=(by rintro pins s σ H D I ⟨B',z⟩;exact hb B' trivial pins s σ H D I z)
 refine Zft (Zuf hp hc hwi hpg hb' hs) fun D σ H zz2=>?_
 obtain ⟨ω,G,ts,r,mb0,q⟩:=zz2
 refine hi σ H ω G _ _ ts r q fun ws gd G1 H1 J z m1 r1 hgd wk=>?_
 have mb1:=mb0.trans m1
 refine ⟨fun i m σ' H'=>m=ws.length - i∧i≤ws.length∧Mono X.K H1 H'∧∃ ω' G',TrSt X.K H' σ' ω'∧RelH X.K H' G'∧Zdo gd gg gb (dnD X.K B D) (ws.drop i) ω' G',⟨ws.length,by simp,Nat.zero_le _,.refl,ω,G1,ts.mono m1,r1,by simpa using z⟩,?_⟩
 rintro i m σ' H' ⟨rfl,hle,mm,ω',G',ts',r',q'⟩
 have hgd':=ZqT q'
 by_cases hlt:i < ws.length
 ·refine .inr ⟨wk.go i H' G' mm r' hgd' hlt,fun σ2 H2=>Mono X.K H1 H2∧∃ ω2 G2,TrSt X.K H2 σ2 ω2∧RelH X.K H2 G2∧Zdo gd gg gb (dnD X.K B D) (ws.drop (i+1)) ω2 G2,
   (by rintro σ2 H2 ⟨y1,y2⟩;exact ⟨ws.length - (i+1),by omega,rfl,hlt,y1,y2⟩),fun x H2 y=>?_⟩
  obtain ⟨my,ry,w,ew,tw⟩:=wk.yld i H' G' x H2 mm r' hgd' y hlt
  have mm:=mm.trans my
  have ed:ws.drop i=w::ws.drop (i+1):=by
   obtain ⟨h',e'⟩:=List.getElem?_eq_some_iff.mp ew
   rw [← e'];exact List.drop_eq_getElem_cons h'
  rw [ed] at q'
  refine hgg x w σ' ω' _ G' _ tw (ts'.mono my) ry (mg _ _ _ _ _ (fun ω1 G1' z1 σ1 H3 m3 ts3 r3=>?_) q'.2)
  exact ⟨H1,ω1,G1',ts3,r3,mm.trans m3,mb _ _ _ _ (fun a b y σ4 H4 m4 ts4 r4=>⟨m4,a,b,ts4,r4,y⟩) (fun a b y=>ZcJ mb1 y) (fun a b y=>ZqC mb1 y) (fun a b y σ4 H4 m4 ts4 r4=>⟨m4,a,b,ts4,r4,y⟩) z1⟩
 ·have e:i=ws.length:=by omega
  subst e
  rw [List.drop_length] at q'
  exact .inl ⟨wk.stop H' G' mm r' hgd',q'.2 σ' H' (mb1.trans mm) ts' r'⟩
def Zb4 (gd:Hw→Prop) (gg:GG) (gt:GT) (ge:GE) (R:List W→Hw→Prop):List W→Sw→Hw→List W→Prop
 | [],_,G,ys=>gd G∧R ys G
 | x::xs,ω,G,ys=>gd G∧ys.length < sizeLine∧gg x ω G fun ω1 G1=>gt ω1 G1 fun b G2=>if b=true then ge ω1 G2 fun y G3=>Zb4 gd gg gt ge R xs ω1 G3 (ys++[y]) else Zb4 gd gg gt ge R xs ω1 G2 ys
def ZcX (gi:GI) (n:Nat) (gg:GG) (gt:GT) (ge:GE):GE:=fun ω G Q=>gi ω G fun ws gd G1=>Zb4 gd gg gt ge (fun ys G2=>∀ p,G2 p=none→Q (.ref p) (put G2 p (.lst ys))) ws (List.replicate n none) G1 []
theorem ZgV {gd:Hw→Prop} {gg:GG} {gt:GT} {ge:GE} (mg:gg.M) (mt:gt.M) (me:ge.M) {R R':List W→Hw→Prop} (h:∀ a b,R a b→R' a b):∀ (ws:List W) (ω:Sw) (G:Hw) (ys:List W),Zb4 gd gg gt ge R ws ω G ys→Zb4 gd gg gt ge R' ws ω G ys
 | [],ω,G,ys,q=>⟨q.1,h _ _ q.2⟩
 | x::xs,ω,G,ys,q=>⟨q.1,q.2.1,mg _ _ _ _ _ (fun ω1 G1 z=>mt _ _ _ _ (fun b G2 z2=>by
   cases b with
   | true=>exact me _ _ _ _ (fun y G3 z3=>ZgV mg mt me h xs ω1 G3 _ z3) z2
   | false=>exact ZgV mg mt me h xs ω1 G2 _ z2) z) q.2.2⟩
theorem Zsg {gi:GI} {n:Nat} {gg:GG} {gt:GT} {ge:GE} (mi:gi.M) (mg:gg.M) (mt:gt.M) (me:ge.M):GE.M (ZcX gi n gg gt ge):=fun ω G Q Q' h q =>
 mi _ _ _ _ (fun ws gd G1 z=>ZgV mg mt me (fun ys G2 z p hp=>h _ _ (z p hp)) _ _ _ _ z) q
theorem ZjT {gd:Hw→Prop} {gg:GG} {gt:GT} {ge:GE} {R:List W→Hw→Prop} {ws:List W} {ω:Sw} {G:Hw} {ys:List W} (q:Zb4 gd gg gt ge R ws ω G ys):gd G:=by
 cases ws with
 | nil=>exact q.1
 | cons w ws=>exact q.1
def ZfY:GT:=fun _ G Q=>Q true G
theorem Zvq:GT.M ZfY:=fun _ _ _ _ h q=>h _ _ q
abbrev PFw (X:Cx) (ifs:List Expr) (g:GT):Prop:=PF X ifs (upT X.K g)
theorem ZvP {X:Cx}:PFw X [] ZfY:=(by rintro pins s σ H Q I ⟨ω,G,ts,r,q⟩;exact Zwl pins s σ H Q I (q H .refl r))
theorem ZnX {n:Nat} {σ:St} (h:σ=List.replicate n none):TrSt K H σ (List.replicate n none):=by
 subst h
 refine ⟨by simp,fun i w e=>?_⟩
 rw [List.getElem?_replicate] at e
 split at e <;> cases e
theorem ZsE {X:Cx} {Nc:List Str} {gi:GI} {gg:GG} {gt:GT} {ge:GE} {wi:TI} {g:TG} (hwi:∀ (σ:St) (H:Hp) (ω:Sw) (G:Hw) (R:List W→(Hw→Prop)→Hw→Prop) (R0:It→Hp→Prop),TrSt X.K H σ ω→RelH X.K H G→gi ω G R →
   (∀ ws gd G1 H1 J,R ws gd G1→Mono X.K H H1→RelH X.K H1 G1→gd G1→ZtY X.K H1 J ws gd→R0 J H1)→wi σ H R0)
  (hgg:∀ (x:V) (w:W) (σ:St) (ω:Sw) (H:Hp) (G:Hw) (Q:St→Hp→Prop),Tr X.K H x w→TrSt X.K H σ ω→RelH X.K H G→gg w ω G (dnS X.K H Q)→g x σ H Q) (mg:gg.M) (mt:gt.M) (me:ge.M) (σ:St) (H:Hp) (Q:VK) (h:up X.K (ZcX gi Nc.length gg gt ge) σ H Q) :
  ZpL wi (fun _=>List.replicate Nc.length none) g (upT X.K gt) (up X.K ge) σ H Q:=by
 obtain ⟨ω,G,ts,r,q⟩:=h
 refine hwi σ H ω G _ _ ts r q fun ws gd G1 H1 J z m1 r1 hgd wk=>?_
 refine ⟨fun i m σ' H' vs=>m=ws.length - i∧i≤ws.length∧Mono X.K H1 H'∧∃ ω' G' ys,TrSt X.K H' σ' ω'∧RelH X.K H' G'∧TrL X.K H' vs ys∧Zb4 gd gg gt ge (fun ys G2=>∀ p,G2 p=none→dn X.K H Q (.ref p) (put G2 p (.lst ys))) (ws.drop i) ω' G' ys,
  ⟨ws.length,by simp,Nat.zero_le _,.refl,_,G1,[],ZnX rfl,r1,.nil,by simpa using z⟩,?_⟩
 rintro i m σ' H' vs ⟨rfl,hle,mm,ω',G',ys,ts',r',tv,q'⟩
 have hgd':=ZjT q'
 by_cases hlt:i < ws.length
 ·have hw:∃ w,ws[i]?=some w:=⟨ws[i],by simp [hlt]⟩
  obtain ⟨w0,ew0⟩:=hw
  have ed:ws.drop i=w0::ws.drop (i+1):=by
   obtain ⟨h',e'⟩:=List.getElem?_eq_some_iff.mp ew0
   rw [← e'];exact List.drop_eq_getElem_cons h'
  rw [ed] at q'
  refine .inr ⟨wk.go i H' G' mm r' hgd' hlt,by rw [tv.length];exact q'.2.1,fun σ2 H2 vs2=>Mono X.K H1 H2∧∃ ω2 G2 ys2,TrSt X.K H2 σ2 ω2∧RelH X.K H2 G2∧TrL X.K H2 vs2 ys2∧Zb4 gd gg gt ge (fun ys G2=>∀ p,G2 p=none→dn X.K H Q (.ref p) (put G2 p (.lst ys))) (ws.drop (i+1)) ω2 G2 ys2,
   (by rintro σ2 H2 vs2 ⟨y1,y2⟩;exact ⟨ws.length - (i+1),by omega,rfl,hlt,y1,y2⟩),fun x H2 y=>?_⟩
  obtain ⟨my,ry,w,ew,tw⟩:=wk.yld i H' G' x H2 mm r' hgd' y hlt
  have mm:=mm.trans my
  have tv:=tv.mono my
  rw [ew0] at ew;cases ew
  refine hgg x _ σ' ω' _ G' _ tw (ts'.mono my) ry (mg _ _ _ _ _ (fun ω1 G1' z1 σ1 H3 m3 ts3 r3=>?_) q'.2.2)
  refine ⟨ω1,G1',ts3,r3,mt _ _ _ _ (fun b G4 z4 H4 m4 r4=>?_) z1⟩
  cases b with
  | true=>exact ⟨ω1,G4,ts3.mono m4,r4,me _ _ _ _ (fun y5 G5 z5 v5 H5 m5 t5 r5=>⟨((mm.trans m3).trans m4).trans m5,ω1,G5,_,(ts3.mono m4).mono m5,r5,(((tv.mono m3).mono m4).mono m5).append (.cons t5 .nil),z5⟩) z4⟩
  | false=>exact ⟨(mm.trans m3).trans m4,ω1,G4,_,ts3.mono m4,r4,(tv.mono m3).mono m4,z4⟩
 ·have e:i=ws.length:=by omega
  subst e
  rw [List.drop_length] at q'
  exact .inl ⟨wk.stop H' G' mm r' hgd',fun p hp=>q'.2 p (r'.no hp) _ _ ((m1.trans mm).trans (Mono.new hp _)) (.ref p) (r'.new hp tv)⟩
structure TgU (X:Cx) (Nc:List Str) (scope:Scope) (tg:Expr) (gg:GG):Prop where
 ex:∃ g:TG,(∀ C fp s H,PG (cxB X Nc scope [] C fp s H) tg g)∧∀ (x:V) (w:W) (σ:St) (ω:Sw) (H:Hp) (G:Hw) (Q:St→Hp→Prop),Tr X.K H x w→TrSt X.K H σ ω→RelH X.K H G→gg w ω G (dnS X.K H Q)→g x σ H Q
 mono:gg.M
theorem Zd2 {X:Cx} {Nc:List Str} {scope:Scope} {x:Str} {p:Pos} {i:Nat} (hN:Nc.Nodup) (hi:Nc[i]?=some x) (hx:scope.names.lookup x=some .local):TgU X Nc scope (.Name x p) (gNm i) where
 ex:=⟨Zgf i,fun C fp s H=>ZcF (X:=cxB X Nc scope [] C fp s H) hN hi (.inl (lookup_relabel_local hx)) (.inr (lookup_relabel_local hx)),fun x w σ ω H G Q t ts r q=>q _ H .refl (ts.set i t) r⟩
 mono:=fun _ _ _ _ _ h q=>h _ _ q
theorem Zv7 {i j:Nat}:GG.M (Znn i j):=fun w ω G Q Q' h q=>by
 unfold Znn at q ⊢
 split
 ·exact h _ _ q
 ·rename_i z
  split at q
  ·exact (z _ _ rfl).elim
  ·exact q
theorem ZsU {X:Cx} {Nc:List Str} {scope:Scope} {x y:Str} {p p' pos:Pos} {k i j:Nat} (hc:X.calm=true) (hN:Nc.Nodup) (hi:Nc[i]?=some x) (hx:scope.names.lookup x=some .local) (hj:Nc[j]?=some y) (hy:scope.names.lookup y=some .local) :
  TgU X Nc scope (.Tuple [.Name x p,.Name y p'] k pos) (Znn i j) where
 ex:=⟨L2.Zbb X.K 2 (L2.Zab (Zgf i) (L2.Zab (Zgf j) L2.Zam)),fun C fp s H=>ZmF (X:=cxB X Nc scope [] C fp s H) hc (ZcO (ZcF hN hi (.inl (lookup_relabel_local hx)) (.inr (lookup_relabel_local hx))) (ZcO (ZcF hN hj (.inl (lookup_relabel_local hy)) (.inr (lookup_relabel_local hy))) Zjh)),
  fun v w σ ω H G Q t ts r q=>by
   unfold Znn at q
   split at q
   ·rename_i a b
    cases t with
    | tup h l =>
     cases l with
     | cons ta l =>
      cases l with
      | cons tb l =>
       cases l
       exact ⟨_,_,rfl,h,rfl,_,_,rfl,_,_,rfl,rfl,q _ H .refl ((ts.set i ta).set j tb) r⟩
   ·exact q.elim⟩
 mono:=Zv7
theorem Zsn {X:Cx} {elt tg iter:Expr} {ifs:List Expr} {scope:Scope} {pos:Pos} {Nc:List Str} {gi:GI} {gg:GG} {gt:GT} {ge:GE} (hc:X.calm=true) (hi:PIw X tg iter gi) (B:Blk X Nc scope [] (fun _=>List.replicate Nc.length none))
  (hu:TgU X Nc scope tg gg) (mt:gt.M) (ht:∀ C fp s H,PFw (cxB X Nc scope [] C fp s H) ifs gt) (me:ge.M) (he:∀ C fp s H,PEw (cxB X Nc scope [] C fp s H) elt ge) (hs:∀ x,foldedSetIterable iter X.env x=pure x) :
  PEw X (.ListComp elt [⟨tg,iter,ifs,0⟩] scope pos) (ZcX gi Nc.length gg gt ge):=by
 obtain ⟨wi,hwi,hi⟩:=hi
 obtain ⟨g,hpg,hgg⟩:=hu.ex
 exact Zbi (Znu hc hwi B hpg ht he hs) (ZsE hi hgg hu.mono mt me)
end L3
namespace L3
open PySem PySem.Spec PyProof.Rows L2
variable {K:PySem.W.Frag} {H H' H2:Hp}
def ZbU (C:Int→Int→Prop) (f:Int→Int→Int):RW2:=fun x y G Q=>match x,y with
 | .int i,.int j=>C i j∧Q (.int (f i j)) G
 | _,_=>False
theorem ZeY {C:Int→Int→Prop} {f:Int→Int→Int}:RW2.M (ZbU C f):=fun x y G Q Q' h q=>by
 cases x <;> cases y <;> first | exact q | exact ⟨q.1,h _ _ q.2⟩
theorem ZhO {C:Int→Int→Prop} {f:Int→Int→Int} (x y:W) (v u:V) (G:Hw) (H:Hp) (Q:VK) (tx:Tr K H v x) (ty:Tr K H u y) (r:RelH K H G) (q:ZbU C f x y G (dn K H Q)):rI C (fun i j=>.int (f i j)) v u H Q:=by
 cases tx <;> first | exact q.elim | (cases ty <;> first | exact q.elim | exact ⟨_,_,rfl,rfl,q.1,q.2 _ H .refl (.int _) r⟩)
def Ze6:RW2:=fun x y G Q=>match x,y with
 | .int i,.int j=>Q (.int (i+j)) G
 | .str a,.str b=>a.length+b.length≤sizeLine∧Q (.str (a++b)) G
 | .ref a,.ref b=>(match G a,G b with
  | some (.lst xs),some (.lst ys)=>xs.length+ys.length≤sizeLine∧∀ p,G p=none→Q (.ref p) (put G p (.lst (xs++ys)))
  | _,_=>False)
 | _,_=>False
theorem Zpw:RW2.M Ze6:=fun x y G Q Q' h q=>by
 cases x <;> cases y <;> first | exact q | exact h _ _ q | exact ⟨q.1,h _ _ q.2⟩ | skip
 rename_i a b
 unfold Ze6 at q ⊢
 dsimp only at q ⊢
 cases ea:G a with
 | none=>rw [ea] at q;exact q
 | some oa =>
  cases eb:G b with
  | none=>rw [ea,eb] at q;cases oa <;> exact q
  | some ob =>
   rw [ea,eb] at q
   cases oa <;> cases ob <;> first | exact q | exact ⟨q.1,fun p hp=>h _ _ (q.2 p hp)⟩
theorem ZoZ {X:Cx}:OpR X (binaryOp .Add) (fun x y H Q=>(rI0 fun i j=>.int (i+j)) x y H Q∨(∃ i j,x=.str i∧y=.str j∧i.length+j.length≤sizeLine∧Q (.str (i++j)) H)∨ZvC x y H Q):=OpR.or ZuK (OpR.or Zm4 ZvK)
theorem Zo7 (x y:W) (v u:V) (G:Hw) (H:Hp) (Q:VK) (tx:Tr K H v x) (ty:Tr K H u y) (r:RelH K H G) (q:Ze6 x y G (dn K H Q)) :
  (rI0 fun i j=>.int (i+j)) v u H Q∨(∃ i j,v=.str i∧u=.str j∧i.length+j.length≤sizeLine∧Q (.str (i++j)) H)∨ZvC v u H Q:=by
 cases tx with
 | int i=>cases ty <;> first | exact q.elim | exact .inl ⟨_,_,rfl,rfl,q _ H .refl (.int _) r⟩
 | str i=>cases ty <;> first | exact q.elim | exact .inr (.inl ⟨_,_,rfl,rfl,q.1,q.2 _ H .refl (.str _) r⟩)
 | ref a =>
  cases ty <;> try exact q.elim
  rename_i b
  unfold Ze6 at q
  dsimp only at q
  cases ea:G a with
  | none=>rw [ea] at q;exact q.elim
  | some oa =>
   cases eb:G b with
   | none=>rw [ea,eb] at q;cases oa <;> exact q.elim
   | some ob =>
    rw [ea,eb] at q
    cases oa <;> cases ob <;> try exact q.elim
    obtain ⟨vs,e1,t1⟩:=r a _ ea
    obtain ⟨us,e2,t2⟩:=r b _ eb
    exact .inr (.inr ⟨a,b,vs,us,rfl,rfl,e1,e2,by rw [t1.length,t2.length];exact q.1,fun p hp=>q.2 p (r.no hp) _ _ (Mono.new hp _) (.ref p) (r.new hp (t1.append t2))⟩)
 | _=>exact q.elim
def Zf4 (f:Int→Int→Bool):RW2:=fun x y G Q=>match x,y with
 | .int i,.int j=>Q (.bl (f i j)) G
 | _,_=>False
theorem ZrX {f:Int→Int→Bool}:RW2.M (Zf4 f):=fun x y G Q Q' h q=>by
 cases x <;> cases y <;> first | exact q | exact h _ _ q
theorem Zn6 {f:Int→Int→Bool} (x y:W) (v u:V) (G:Hw) (H:Hp) (Q:VK) (tx:Tr K H v x) (ty:Tr K H u y) (r:RelH K H G) (q:Zf4 f x y G (dn K H Q)):rI0 (fun i j=>.bl (f i j)) v u H Q:=by
 cases tx <;> first | exact q.elim | (cases ty <;> first | exact q.elim | exact ⟨_,_,rfl,rfl,q _ H .refl (.bl _) r⟩)
def opt (o:Option W) (f:W→Prop):Prop:=match o with | some w=>f w | none=>False
theorem ZtR {o:Option W} {f f':W→Prop} (h:∀ w,f w→f' w) (q:opt o f):opt o f':=by
 cases o with
 | none=>exact q
 | some w=>exact h _ q
theorem Zeg {o:Option W} {f:W→Prop} (q:opt o f):∃ w,o=some w∧f w:=by
 cases o with
 | none=>exact q.elim
 | some w=>exact ⟨w,rfl,q⟩
def Zan (f:W→W→Hw→Option W):RW2:=fun x y G Q=>opt (f x y G) fun w=>Q w G
theorem ZeG {f:W→W→Hw→Option W}:RW2.M (Zan f):=fun x y G Q Q' h q=>ZtR (fun w z=>h _ _ z) q
def ixW (x y:W) (G:Hw):Option W:=match x,y with
 | .tup xs,.int i=>atI xs i
 | .rol xs,.int i=>atI xs i
 | .ref a,.int i=>(match G a with | some (.lst xs)=>atI xs i | _=>none)
 | .str z,.int i=>if z.length≤sizeLine then (atI z.cps.toList i).map fun c=>.str ⟨#[c]⟩ else none
 | _,_=>none
theorem Zpd {vs:List V} {ws:List W} {i:Int} {w:W} (t:TrL K H vs ws) (e:atI ws i=some w):∃ v,atI vs i=some v∧Tr K H v w:=by
 unfold atI at e ⊢
 rw [t.length]
 cases z:ixN ws.length i with
 | none=>rw [z] at e;cases e
 | some j =>
  rw [z] at e
  exact t.get e
theorem Zyc {X:Cx}:IxR X (fun x y H Q=>ZwG X.K x y H Q∨Zw8 X.K x y H Q∨ZwK x y H Q):=IxR.or ZtD (IxR.or Zuk ZuL)
theorem Zt3 (x y:W) (v u:V) (G:Hw) (H:Hp) (Q:VK) (tx:Tr K H v x) (ty:Tr K H u y) (r:RelH K H G) (q:Zan ixW x y G (dn K H Q)):ZwG K v u H Q∨Zw8 K v u H Q∨ZwK v u H Q:=by
 obtain ⟨w,e,q'⟩:=Zeg q
 cases ty with
 | int i =>
  cases tx with
  | tup h l =>
   obtain ⟨v',e',t'⟩:=Zpd l e
   exact .inr (.inl ⟨_,_,_,_,rfl,rfl,h,e',q' _ H .refl t' r⟩)
  | rol h l =>
   obtain ⟨v',e',t'⟩:=Zpd l e
   exact .inl ⟨_,_,_,_,rfl,rfl,h.sq,e',q' _ H .refl t' r⟩
  | str z =>
   unfold ixW at e;dsimp only at e
   split at e
   ·rename_i hz
    cases e1:atI z.cps.toList i with
    | none=>rw [e1] at e;cases e
    | some c =>
     rw [e1] at e;cases e
     exact .inr (.inr ⟨z,i,c,rfl,rfl,hz,e1,q' _ H .refl (.str _) r⟩)
   ·cases e
  | ref a =>
   unfold ixW at e;dsimp only at e
   cases eG:G a with
   | none=>rw [eG] at e;cases e
   | some o =>
    rw [eG] at e
    cases o with
    | exc C=>cases e
    | ins C fs=>cases e
    | dct kvs=>cases e
    | lst ws =>
     obtain ⟨vs,e1,l⟩:=r a _ eG
     obtain ⟨v',e',t'⟩:=Zpd l e
     exact .inl ⟨_,_,_,_,rfl,rfl,SqL.of e1,e',q' _ H .refl t' r⟩
  | _=>cases e
 | _=>cases x <;> cases e
end L3
set_option Elab.async false
set_option linter.all false
set_option maxRecDepth 100000
set_option maxHeartbeats 4000000
namespace L3
open PySem PySem.Spec PyProof.Rows L2
variable {K:PySem.W.Frag} {H H' H2:Hp}
structure Em (X:Cx) (e:Expr) (g:GE):Prop where
 p:PEw X e g
 m:g.M
structure Tm (X:Cx) (e:Expr) (g:GT):Prop where
 p:PTw X e g
 m:g.M
structure Wm (X:Cx) (e:Expr) (g:GT):Prop where
 p:PWw X e g
 m:g.M
structure Am (X:Cx) (es:List Expr) (g:GA):Prop where
 p:PAw X es g
 m:g.M
structure Sm (X:Cx) (P:Hp→Prop) (s:Stmt) (g:GS):Prop where
 p:PSw X P s g
 m:g.M
structure Ssm (X:Cx) (P:Hp→Prop) (s:List Stmt) (g:GS):Prop where
 p:ZqX X P s g
 m:g.M
structure Im (X:Cx) (tg l:Expr) (g:GI):Prop where
 p:PIw X tg l g
 m:g.M
def place (N:List Str) (x:Str):Option Nat:=N.findIdx? (·==x)
theorem Zrf {N:List Str} {x:Str} {i:Nat} (h:place N x=some i):N[i]?=some x:=by
 unfold place at h
 obtain ⟨hi,e,_⟩:=List.findIdx?_eq_some_iff_getElem.mp h
 rw [List.getElem?_eq_getElem hi,eq_of_beq e]
def Zwx (sc:Scope) (x:Str):Bool:=match sc.names.lookup x with | some .local=>true | some .cell=>true | some .free=>true | _=>false
theorem ZmG {sc:Scope} {x:Str} (h:Zwx sc x=true):Vis sc x:=by
 unfold Zwx at h
 split at h <;> first | (rename_i e;exact .inl e) | (rename_i e;exact .inr (.inl e)) | (rename_i e;exact .inr (.inr e)) | cases h
def Zka (sc:Scope) (x:Str):Bool:=match sc.names.lookup x with | some .local=>true | _=>false
theorem Zfr {sc:Scope} {x:Str} (h:Zka sc x=true):sc.names.lookup x=some .local:=by
 unfold Zka at h
 split at h
 ·rename_i e;exact e
 ·cases h
section
variable {X:Cx} {a b c e f:Expr} {es Zck:List Expr} {st:Stmt} {sts sts':List Stmt} {pos pos' p:Pos} {ga gb gc:GE} {gt gu:GT} {gs:GA} {g1 g2:GS} {ex:Xw} {P:Hp→Prop}
theorem Zag {i:Int} {j}:Em X (.Constant (.int i) j pos) (gC (.int i)):=⟨Zup,ZtX⟩
theorem ZfQ {i:Bool} {j}:Em X (.Constant (.bool i) j pos) (gC (.bl i)):=⟨ZwI,ZtX⟩
theorem Zdl {j}:Em X (.Constant .none j pos) (gC .non):=⟨ZvX,ZtX⟩
theorem Zat {i:Str} {j}:Em X (.Constant (.str i) j pos) (gC (.str i)):=⟨ZuN,ZtX⟩
theorem Zkm (ha:Em X a ga) (hb:Em X b gb):Em X (.BinOp a .Add b pos) (Zak Ze6 ga gb):=⟨Zg6 ZoZ Zpw ha.m hb.m Zo7 ha.p hb.p,Zet Zpw ha.m hb.m⟩
theorem Zgq (ha:Em X a ga) (hb:Em X b gb):Em X (.BinOp a .Sub b pos) (Zak (ZbU (fun _ _=>True) fun i j=>i - j) ga gb) :=
 ⟨Zg6 (r2:=rI (fun _ _=>True) fun i j=>.int (i - j)) (opI fun _ _ _ _ _ _ _ _ q=>sub_int q) ZeY ha.m hb.m ZhO ha.p hb.p,Zet ZeY ha.m hb.m⟩
theorem Zhg (ha:Em X a ga) (hb:Em X b gb):Em X (.BinOp a .Mult b pos) (Zak (ZbU CMul fun i j=>i*j) ga gb):=⟨Zg6 ZvW ZeY ha.m hb.m ZhO ha.p hb.p,Zet ZeY ha.m hb.m⟩
theorem Zli (ha:Em X a ga) (hb:Em X b gb):Em X (.BinOp a .FloorDiv b pos) (Zak (ZbU ZtU fun i j=>i / j) ga gb):=⟨Zg6 ZtP ZeY ha.m hb.m ZhO ha.p hb.p,Zet ZeY ha.m hb.m⟩
theorem Zif (ha:Em X a ga) (hb:Em X b gb):Em X (.BinOp a .Mod b pos) (Zak (ZbU (fun _ j=>0 < j) fun i j=>i % j) ga gb):=⟨Zg6 ZvV ZeY ha.m hb.m ZhO ha.p hb.p,Zet ZeY ha.m hb.m⟩
theorem ZrS (ha:Em X a ga) (hb:Em X b gb):Em X (.BinOp a .Pow b pos) (Zak (ZbU Zs8 fun i j=>i ^ j.toNat) ga gb):=⟨Zg6 Zuv ZeY ha.m hb.m ZhO ha.p hb.p,Zet ZeY ha.m hb.m⟩
theorem Zaz (hs:ZjF b) (ha:Em X a ga) (hb:Em X b gb):Em X (.Subscript a b pos) (Zak (Zan ixW) ga gb):=⟨ZwY Zyc ZeG ha.m hb.m Zt3 ha.p hb.p hs,Zet ZeG ha.m hb.m⟩
theorem ZaI {k} (h:Am X es gs):Em X (.Tuple es k pos) (Zbb gs):=⟨ZuP h.m h.p,ZuF h.m⟩
theorem Zbv (h:Am X es gs):Em X (.List es pos) (Zcn gs):=⟨Zt7 h.m h.p,ZvY h.m⟩
theorem ZiX {op:BoolOp} (h:Em X a ga):Em X (.BoolOp op [a] pos) ga:=⟨Zu6 h.p,h.m⟩
theorem Zki (ha:Em X a ga) (hb:Em X (.BoolOp .And (b::Zck) pos) gb):Em X (.BoolOp .And (a::b::Zck) pos) (Zc3 ga gb):=⟨ZvF ha.m hb.m ha.p hb.p,Zto ha.m hb.m⟩
theorem Zw4 (ha:Em X a ga) (hb:Em X (.BoolOp .Or (b::Zck) pos) gb):Em X (.BoolOp .Or (a::b::Zck) pos) (Zkp ga gb):=⟨ZwV ha.m hb.m ha.p hb.p,Zv4 ha.m hb.m⟩
theorem Zn4 (hc:Tm X c gt) (ha:Em X a ga) (hb:Em X b gb):Em X (.IfExp c a b pos) (ZhW gt ga gb):=⟨Zv2 hc.m ha.m hb.m hc.p ha.p hb.p,Zvh hc.m ha.m hb.m⟩
theorem Zae:Am X [] Zam:=⟨ZuA,Zv9⟩
theorem Zaa (hst:starEach (e::es) X.env=(false,eval e X.env)::starEach es X.env) (ha:Em X e ga) (hs:Am X es gs):Am X (e::es) (Zab ga gs):=⟨ZtJ ha.m hs.m ha.p hs.p hst,Ztg ha.m hs.m⟩
theorem Zap {x:Str} {k n:Nat} {sp:Spw} (D:Df X.prog X.w X.K X.mg X.base x k n sp) (hr:Room k X.A) (hg:Gl X x) (hp:Zob X ex) (hdb:(x==("__debug__":Str))=false) (he:starEach (e::es) X.env=(false,eval e X.env)::starEach es X.env) (hpl:(backTo pos (starEach es X.env)).any (·.1)=false)
  (ha:Am X (e::es) gs):Em X (.Call (.Name x p) (e::es) [] pos) (Zaq sp ex gs):=⟨Zs0 D hr hg hp ha.m ha.p hdb he hpl,ZtN D.mono ha.m⟩
theorem Zfv (he:∀ whole,isTrue e X.env whole=(do let v ← whole;standAt e.pos;holding [v] (truthy v))) (ha:Em X e ga):Tm X e (Zgk ga):=⟨ZuY ha.m ha.p he,Zvp ha.m⟩
theorem Zfw (ha:Tm X a gt):Tm X (.UnaryOp .Not a pos) (gNt gt):=⟨ZuS ha.p,ZwJ ha.m⟩
theorem Zf0 {op:BoolOp} {vs:List Expr} (h:Wm X (.BoolOp op vs pos) gt):Tm X (.BoolOp op vs pos) gt:=⟨ZtS h.p,h.m⟩
theorem Zsj (h:Tm X a gt):Wm X (.BoolOp .And [a] pos) gt:=⟨ZsG h.p,h.m⟩
theorem ZjQ (h:Tm X a gt):Wm X (.BoolOp .Or [a] pos) gt:=⟨Zuy h.p,h.m⟩
theorem Zut (ha:Tm X a gt) (hb:Wm X (.BoolOp .And (b::Zck) pos) gu):Wm X (.BoolOp .And (a::b::Zck) pos) (ZjG gt gu):=⟨Zuo ha.m hb.m ha.p hb.p,Zwa ha.m hb.m⟩
theorem Zlm (ha:Tm X a gt) (hb:Wm X (.BoolOp .Or (b::Zck) pos) gu):Wm X (.BoolOp .Or (a::b::Zck) pos) (gOr gt gu):=⟨ZwF ha.m hb.m ha.p hb.p,ZwM ha.m hb.m⟩
theorem Zau:Ssm X P [] Zar:=⟨Ztn,Ztv⟩
theorem Zaj (h:Sm X P st g1):Ssm X P [st] g1:=⟨Zsr h.p,h.m⟩
theorem Zai (h1:Sm X P st g1) (h2:Ssm X P sts g2):Ssm X P (st::sts) (Zay g1 g2):=⟨Zqf h1.m h2.m h1.p h2.p,Zud h1.m h2.m⟩
theorem Zas (ha:Em X e ga):Sm X P (.Return (some e) pos) (ZaF ga):=⟨Zu3 ha.m ha.p,ZuX ha.m⟩
theorem ZeD (hs:swapsWith e none pos.line X.env=pure false) (ha:Em X e ga):Sm X P (.Expr e pos) (Zcm ga):=⟨Zsz ha.m ha.p hs,ZsR ha.m⟩
theorem Zba (hc:Tm X c gt) (h1:Ssm X P sts g1) (h2:Ssm X P sts' g2):Sm X P (.If c sts sts' pos) (gIf gt g1 g2):=⟨Zxm hc.m h1.m h2.m hc.p h1.p h2.p,Zxf hc.m h1.m h2.m⟩
theorem Zdm {tg l:Expr} (ht:∀ it u,letOwnedTupleGo tg it u=pure ()) (hl:Em X l ga):Im X tg l (ZbJ ga):=⟨Zvb ht hl.m hl.p,Zs6 hl.m⟩
theorem ZeZ {tg iter:Expr} {gi:GI} {gg:GG} {gb:GS} (hp:PassesOwn (model X.prog X.w) X.A X.env X.xe) (hc:X.calm=true) (hs:∀ x,foldedSetIterable iter X.env x=pure x) (hi:Im X tg iter gi) (hg:TgW X tg gg) (hb:Ssm X ZxM sts gb):Sm X P (.For tg iter sts [] pos) (Zel gi gg gb) :=
 ⟨Zvi hp hc hi.m hb.m hi.p hg hb.p hs,Zt5 hi.m hg.mono hb.m⟩
end
end L3
namespace L3
open PySem PySem.Spec PyProof.Rows L2
variable {K:PySem.W.Frag} {H H' H2:Hp}
theorem Zpf {bs:List Bool} {its:List Value} (r:Vals (bs.map V.bl) its) {i:Nat} {v:Value} (e:its.toArray[i]?=some v):v=.bool (bs.getD i false):=by
 have e':its[i]?=some v:=by simpa using e
 have hl:=r.length
 rw [List.length_map] at hl
 have hi:i < its.length:=(List.getElem?_eq_some_iff.mp e').1
 have hb:bs[i]?=some (bs[i]'(by omega)):=List.getElem?_eq_getElem _
 obtain ⟨u,e1,r1⟩:=r.get (i:=i) (x:=.bl (bs[i]'(by omega))) (by rw [List.getElem?_map,hb];rfl)
 rw [e'] at e1;cases e1
 rw [List.getD_eq_getElem?_getD,hb]
 exact r1
theorem ZpC {bs:List Bool}:(List.range bs.length).all (fun i=>bs.getD i false)=bs.all id:=by
 rw [Bool.eq_iff_iff]
 simp only [List.all_eq_true,List.mem_range,id]
 constructor
 ·intro h b hb
  obtain ⟨i,hi,e⟩:=List.mem_iff_getElem.mp hb
  have:=h i hi
  rw [List.getD_eq_getElem?_getD,List.getElem?_eq_getElem hi] at this
  rw [← e];exact this
 ·intro h i hi
  rw [List.getD_eq_getElem?_getD,List.getElem?_eq_getElem hi]
  exact h _ (List.getElem_mem hi)
section
variable {X:Cx}
theorem ZnD (hc:X.calm=true):CallR X (.builtin "all") (fun xs H Q=>∃ (p:Addr) (bs:List Bool),xs=[.ref p]∧SqL X.K H p (bs.map V.bl)∧Q (.bl (bs.all id)) H):=by
 intro pins s σ H xs us Q I r h
 obtain ⟨p,bs,rfl,hq,q⟩:=h
 obtain ⟨u,rfl,rx⟩:=ZjL r
 cases rx
 obtain ⟨its,r',pl,hz⟩:=I.list hq
 have hl:=r'.length
 rw [List.length_map] at hl
 obtain ⟨o,n,e,_⟩:=id pl
 refine call_all_walk (wpAny_pyIter_list pl.isList ⟨s.heap.objs.size,_,_,_,_,_,fun i=>bs.getD i false,rfl,Walks.list (A:=X.A.in1) (I.ok.hd hc) _ p (Nat.ne_of_lt (Heap.lt_size e)) its.toArray,
  ⟨⟨_,Heap.get?_push_size _ rfl,rfl,rfl⟩,pl.isList.push _⟩,fun i v s Q E hp hq=>by rw [Zpf r' hp];exact wpAny_truthy_bool hq,fun h' tk k=>?_⟩)
 refine ⟨.bl (bs.all id),H,I.kept (t':=tk) fun b o e=>k b o (by simpa using Nat.ne_of_lt (Heap.lt_size e)) (Heap.get?_push_of_some _ e),?_,q⟩
 show Value.bool _=_
 rw [List.size_toArray,← hl,ZpC]
end
abbrev RWc:=List W→Hw→Kw→Prop
def RWc.M (r:RWc):Prop:=∀ ws G (Q Q':Kw),(∀ w G',Q w G'→Q' w G')→r ws G Q→r ws G Q'
def gB (r:RWc) (gs:GA):GE:=fun ω G Q=>gs ω G fun ws G1=>r ws G1 Q
theorem ZxP {r:RWc} {gs:GA} (mr:r.M) (ms:gs.M):GE.M (gB r gs):=fun ω G Q Q' h q=>ms _ _ _ _ (fun ws G1 z=>mr _ _ _ _ h z) q
theorem Zxx {r:RWc} {r1:List V→Hp→VK→Prop} {gs:GA} (mr:r.M) (ms:gs.M) (hr:∀ ws vs G H Q,TrL K H vs ws→RelH K H G→r ws G (dn K H Q)→r1 vs H Q) (σ:St) (H:Hp) (Q:VK) (h:up K (gB r gs) σ H Q):tCB r1 (upA K gs) σ H Q:=by
 obtain ⟨ω,G,ts,rh,q⟩:=h
 exact ⟨ω,G,ts,rh,ms _ _ _ _ (fun ws G1 z vs H1 m t r1'=>hr ws vs G1 H1 Q t r1' (mr _ _ _ _ (fun w G' y=>ZcJ m y) z)) q⟩
section
variable {X:Cx} {x:Str} {p pos:Pos} {e:Expr} {es:List Expr} {gs:GA} {r:RWc} {r1:List V→Hp→VK→Prop} {id T:String}
theorem ZvR (hc:CallR X (.builtin id) r1) (mr:r.M) (hr:∀ ws vs G H Q,TrL X.K H vs ws→RelH X.K H G→r ws G (dn X.K H Q)→r1 vs H Q) (hg:Gl X x) (hm:X.mg x=none) (hv:bootBuiltins x=some (.builtin id)) (hn:x≠"__name__") (hdb:(x==("__debug__":Str))=false)
  (he:starEach (e::es) X.env=(false,eval e X.env)::starEach es X.env) (hpl:(backTo pos (starEach es X.env)).any (·.1)=false) (ha:Am X (e::es) gs):Em X (.Call (.Name x p) (e::es) [] pos) (gB r gs) :=
 ⟨Zbi (ZqZ hc hg hm hv ha.p hn hdb he hpl) (Zxx mr ha.m hr),ZxP mr ha.m⟩
theorem Zt8 (hc:CallR X (.type T) r1) (mr:r.M) (hr:∀ ws vs G H Q,TrL X.K H vs ws→RelH X.K H G→r ws G (dn X.K H Q)→r1 vs H Q) (hg:Gl X x) (hm:X.mg x=none) (hv:bootBuiltins x=some (.type T)) (hn:x≠"__name__") (hdb:(x==("__debug__":Str))=false)
  (he:starEach (e::es) X.env=(false,eval e X.env)::starEach es X.env) (hpl:(backTo pos (starEach es X.env)).any (·.1)=false) (ha:Am X (e::es) gs):Em X (.Call (.Name x p) (e::es) [] pos) (gB r gs) :=
 ⟨Zbi (Zo8 hc hg hm hv ha.p hn hdb he hpl) (Zxx mr ha.m hr),ZxP mr ha.m⟩
end
def rF (f:List W→Hw→Option W):RWc:=fun ws G Q=>opt (f ws G) fun w=>Q w G
theorem Zwu {f:List W→Hw→Option W}:RWc.M (rF f):=fun ws G Q Q' h q=>ZtR (fun w z=>h _ _ z) q
def ZlB:List W→Option (List Bool)
 | []=>some []
 | .bl b::r=>(ZlB r).map (b::·)
 | _=>none
theorem Zmh:∀ {ws:List W} {bs:List Bool} {vs:List V},ZlB ws=some bs→TrL K H vs ws→vs=bs.map V.bl
 | [],bs,vs,e,t=>by cases e;cases t;rfl
 | w::ws,bs,vs,e,t=>by
  cases t with
  | cons tw t =>
   cases w with
   | bl b =>
    unfold ZlB at e
    cases z:ZlB ws with
    | none=>rw [z] at e;cases e
    | some bs' =>
     rw [z] at e;cases e
     rw [ZmX tw,Zmh z t];rfl
   | _=>cases e
def Zh0 (G:Hw) (w:W):Option (List W):=match w with
 | .ref a=>(match G a with | some (.lst xs)=>some xs | _=>none)
 | _=>none
theorem ZeR {G:Hw} {w:W} {xs:List W} {v:V} (r:RelH K H G) (t:Tr K H v w) (e:Zh0 G w=some xs):∃ a vs,v=.ref a∧w=.ref a∧G a=some (.lst xs)∧H a=some (.lst vs)∧TrL K H vs xs:=by
 cases t with
 | ref a =>
  unfold Zh0 at e;dsimp only at e
  cases z:G a with
  | none=>rw [z] at e;cases e
  | some o =>
   rw [z] at e
   cases o with
   | lst ys=>cases e;obtain ⟨vs,e1,t1⟩:=r a _ z;exact ⟨a,vs,rfl,rfl,z,e1,t1⟩
   | exc C=>cases e
   | ins C fs=>cases e
   | dct kvs=>cases e
 | _=>cases e
def Zic (ws:List W) (G:Hw):Option W:=match ws with | [w]=>(Zh0 G w).bind fun xs=>(ZlB xs).map fun bs=>.bl (bs.all id) | _=>none
theorem ZsD (ws:List W) (vs:List V) (G:Hw) (H:Hp) (Q:VK) (t:TrL K H vs ws) (r:RelH K H G) (q:rF Zic ws G (dn K H Q)):∃ (p:Addr) (bs:List Bool),vs=[.ref p]∧SqL K H p (bs.map V.bl)∧Q (.bl (bs.all id)) H:=by
 obtain ⟨w,e,q'⟩:=Zeg q
 unfold Zic at e
 split at e
 ·rename_i w0
  cases t with
  | cons tw t =>
   cases t
   obtain ⟨xs,e1,e2⟩:=Option.bind_eq_some_iff.mp e
   obtain ⟨bs,e3,e4⟩:=Option.map_eq_some_iff.mp e2
   obtain ⟨a,us,rfl,rfl,_,e5,t5⟩:=ZeR r tw e1
   subst e4
   have:=Zmh e3 t5
   subst this
   exact ⟨a,bs,rfl,SqL.of e5,q' _ H .refl (.bl _) r⟩
 ·cases e
def ZjI (w:W) (G:Hw):Option W:=match w with
 | .tup xs=>some (.int xs.length)
 | .rol xs=>some (.int xs.length)
 | .str z=>if z.length≤sizeLine then some (.int z.length) else none
 | .ref a=>(match G a with | some (.lst xs)=>some (.int xs.length) | _=>none)
 | _=>none
def ZgK (ws:List W) (G:Hw):Option W:=match ws with | [w]=>ZjI w G | _=>none
theorem ZsF (ws:List W) (vs:List V) (G:Hw) (H:Hp) (Q:VK) (t:TrL K H vs ws) (r:RelH K H G) (q:rF ZgK ws G (dn K H Q)):∃ x n,vs=[x]∧ZxH K x H n∧Q (.int n) H:=by
 obtain ⟨w,e,q'⟩:=Zeg q
 unfold ZgK at e
 split at e
 ·cases t with
  | cons tw t =>
   cases t
   cases tw with
   | tup h l=>cases e;exact ⟨_,_,rfl,.inr ⟨_,h,rfl⟩,by rw [l.length];exact q' _ H .refl (.int _) r⟩
   | rol h l=>cases e;exact ⟨_,_,rfl,.inl ⟨_,h.sq,rfl⟩,by rw [l.length];exact q' _ H .refl (.int _) r⟩
   | str z =>
    unfold ZjI at e;dsimp only at e
    split at e
    ·rename_i hz;cases e;exact ⟨_,_,rfl,⟨hz,rfl⟩,q' _ H .refl (.int _) r⟩
    ·cases e
   | ref a =>
    unfold ZjI at e;dsimp only at e
    cases z:G a with
    | none=>rw [z] at e;cases e
    | some o =>
     rw [z] at e
     cases o with
     | exc C=>cases e
     | ins C fs=>cases e
     | dct kvs=>cases e
     | lst xs =>
      cases e
      obtain ⟨us,e1,t1⟩:=r a _ z
      exact ⟨_,_,rfl,.inl ⟨_,SqL.of e1,rfl⟩,by rw [t1.length];exact q' _ H .refl (.int _) r⟩
   | _=>cases e
 ·cases e
end L3
namespace L3
open PySem PySem.Spec PyProof.Rows L2
variable {K:PySem.W.Frag} {H H' H2:Hp}
mutual
def eqD:W→W→Option Bool
 | .tup xs,.tup ys=>ZgN xs ys
 | .non,.non=>some true
 | .bl a,.bl b=>some (a==b)
 | .bl a,.int b=>some ((if a then 1 else 0)==b)
 | .int a,.bl b=>some (a==(if b then 1 else 0))
 | .int a,.int b=>some (a==b)
 | .str a,.str b=>some (a==b)
 | .non,.int _=>some false
 | .int _,.non=>some false
 | .int _,.str _=>some false
 | .str _,.int _=>some false
 | .bl _,.str _=>some false
 | .str _,.bl _=>some false
 | .non,.str _=>some false
 | .str _,.non=>some false
 | .non,.bl _=>some false
 | .bl _,.non=>some false
 | .tup _,.str _=>some false
 | .str _,.tup _=>some false
 | .tup _,.bl _=>some false
 | .bl _,.tup _=>some false
 | _,_=>none
def ZgN:List W→List W→Option Bool
 | [],[]=>some true
 | [],_::_=>some false
 | _::_,[]=>some false
 | x::xs,y::ys=>match eqD x y,ZgN xs ys with
  | some a,some b=>some (a&&b)
  | _,_=>none
end
mutual
def dpW:W→Nat
 | .tup xs=>dpL xs+1
 | _=>0
def dpL:List W→Nat
 | []=>0
 | x::xs=>max (dpW x) (dpL xs)
end
def Zoj:W→Option V
 | .non=>some .non
 | .bl b=>some (.bl b)
 | .int i=>some (.int i)
 | .str x=>some (.str x)
 | _=>none
theorem ZmL {v:V} {w:W} {f:V} (t:Tr K H v w) (e:Zoj w=some f):v=f∧Zh6 v=true:=by
 cases t <;> first | cases e;exact ⟨rfl,rfl⟩ | cases e
theorem ZgR:∀ {xs ys:List W} {b:Bool},ZgN xs ys=some b→∃ e:Nat→Bool,(∀ (i:Nat) x y,xs[i]?=some x→ys[i]?=some y→eqD x y=some (e i))∧b=((List.range (min xs.length ys.length)).all e&&xs.length==ys.length)
 | [],[],b,h=>by
  cases (show some true=some b from h)
  exact ⟨fun _=>true,fun i x y h1 h2=>by simp at h1,by simp⟩
 | [],_::_,b,h=>by
  cases (show some false=some b from h)
  exact ⟨fun _=>true,fun i x y h1 h2=>by simp at h1,by simp⟩
 | _::_,[],b,h=>by
  cases (show some false=some b from h)
  exact ⟨fun _=>true,fun i x y h1 h2=>by simp at h2,by simp⟩
 | x::xs,y::ys,b,h=>by
  have h':(match eqD x y,ZgN xs ys with | some a,some b=>some (a&&b) | _,_=>none)=some b:=by rw [← h];rfl
  cases e1:eqD x y with
  | none=>rw [e1] at h';cases h'
  | some a =>
   cases e2:ZgN xs ys with
   | none=>rw [e1,e2] at h';cases h'
   | some c =>
    rw [e1,e2] at h'
    cases h'
    obtain ⟨f,hf,hc⟩:=ZgR e2
    refine ⟨fun i=>match i with | 0=>a | j+1=>f j,fun i x' y' h1 h2=>?_,?_⟩
    ·cases i with
     | zero=>simp at h1 h2;subst h1;subst h2;exact e1
     | succ j=>exact hf j x' y' (by simpa using h1) (by simpa using h2)
    ·have em:min (x::xs).length (y::ys).length=min xs.length ys.length+1:=by simp only [List.length_cons];omega
     rw [em,List.range_succ_eq_map,List.all_cons,List.all_map,hc]
     have e5:((x::xs).length==(y::ys).length)=(xs.length==ys.length):=by simp
     rw [e5,Bool.and_assoc]
     rfl
theorem Zl3:∀ (xs:List W),(∀ x∈xs,eqD x x=some true∨eqD x x=none)→ZgN xs xs=some true∨ZgN xs xs=none
 | [],_=>.inl rfl
 | x::xs,h=>by
  have e:ZgN (x::xs) (x::xs)=(match eqD x x,ZgN xs xs with | some a,some b=>some (a&&b) | _,_=>none):=rfl
  rw [e]
  rcases h x List.mem_cons_self with h1 | h1
  ·rcases Zl3 xs (fun y hy=>h y (List.mem_cons_of_mem _ hy)) with h2 | h2
   ·rw [h1,h2];exact .inl rfl
   ·rw [h1,h2];exact .inr rfl
  ·rw [h1];exact .inr rfl
theorem ZnI:∀ (x:W),eqD x x=some true∨eqD x x=none
 | .non=>.inl rfl
 | .bl b=>.inl (by show some (b==b)=_;simp)
 | .int b=>.inl (by show some (b==b)=_;simp)
 | .str b=>.inl (by show some (b==b)=_;simp)
 | .tup xs=>Zl3 xs (fun x _=>ZnI x)
 | .rol _=>.inr rfl
 | .ref _=>.inr rfl
theorem Zff:∀ {xs:List W} {x:W},x∈xs→dpW x≤dpL xs
 | y::xs,x,h=>by
  have e:dpL (y::xs)=max (dpW y) (dpL xs):=rfl
  rw [e]
  rcases List.mem_cons.mp h with rfl | h
  ·exact Nat.le_max_left ..
  ·exact Nat.le_trans (Zff h) (Nat.le_max_right ..)
theorem ZmY:∀ (ws:List W) (ys:List W) (vs:List V),(∀ (v:V) (w y:W),w∈ws→Tr K H v w→Tr K H v y→eqD w y≠none→w=y)→TrL K H vs ws→TrL K H vs ys→ZgN ws ys≠none→ws=ys:=by
 intro ws
 induction ws with
 | nil =>
  intro ys vs _ l l' _
  cases l
  cases l'
  rfl
 | cons w ws ih =>
  intro ys vs h l l' ne
  cases l with
  | cons t l =>
   cases l' with
   | @cons _ y _ ys t' l' =>
    have e:ZgN (w::ws) (y::ys)=(match eqD w y,ZgN ws ys with | some a,some b=>some (a&&b) | _,_=>none):=rfl
    have h1:eqD w y≠none:=fun z=>ne (by rw [e,z])
    have h2:ZgN ws ys≠none:=fun z=>ne (by rw [e,z];cases eqD w y <;> rfl)
    rw [h _ w y List.mem_cons_self t t' h1,ih ys _ (fun v w y hm=>h v w y (List.mem_cons_of_mem _ hm)) l l' h2]
theorem Zuw {X:Cx} {pins:List (Addr×Obj)} {σ:St} {H:Hp} {s:Shared} (I:Inv X pins σ H s) (n:Nat):∀ (v:V) (w y:W),dpW w < n→Tr X.K H v w→Tr X.K H v y→eqD w y≠none→w=y:=by
 induction n with
 | zero=>intro v w y h;exact absurd h (Nat.not_lt_zero _)
 | succ n ih =>
  intro v w y h tw ty ne
  cases tw with
  | tup hq l =>
   rename_i a vs ws
   generalize hv:V.ref a=vr at ty
   cases ty with
   | tup hq' l' =>
    cases hv
    have e:=I.tuple_inj hq hq'
    subst e
    have hd2:dpL ws+1 < n+1:=h
    rw [ZmY ws _ _ (fun v w y hm=>ih v w y (by have:=Zff hm;omega)) l l' ne]
   | rol _ _=>exact absurd rfl ne
   | ref _=>exact absurd rfl ne
   | non=>cases hv
   | bl _=>cases hv
   | int _=>cases hv
   | str _=>cases hv
  | rol _ _=>exact absurd (by cases y <;> rfl) ne
  | ref _=>exact absurd (by cases y <;> rfl) ne
  | non=>cases ty;rfl
  | bl _=>cases ty;rfl
  | int _=>cases ty;rfl
  | str _=>cases ty;rfl
theorem Zlr {X:Cx} {pins:List (Addr×Obj)} {σ:St} {H:Hp} {s:Shared} (I:Inv X pins σ H s) (n:Nat):∀ (w y:W) (v u:V) (vv uu:Value) (b:Bool) (A:Around),dpW w < n→Tr X.K H v w→Tr X.K H u y→RelV v vv→RelV u uu→eqD w y=some b→A.units+n < cLine→SeqAt.EqAt A s vv uu b:=by
 induction n with
 | zero=>intro w _ _ _ _ _ _ _ h;exact absurd h (Nat.not_lt_zero _)
 | succ n ih =>
  intro w y v u vv uu b A h tw ty rv ru e hu
  cases tw with
  | tup hq l =>
   cases ty with
   | tup hq' l' =>
    rename_i a vs ws a' us ys
    cases rv
    cases ru
    by_cases haa:a=a'
    ·subst haa
     have ew:=Zuw I (dpW (.tup ws)+1) _ _ _ (Nat.lt_succ_self _) (.tup hq l) (.tup hq' l') (by rw [e];simp)
     cases ew
     rcases ZnI (.tup ws) with z | z
     ·rw [e] at z;cases z;exact SeqAt.EqAt.same _
     ·rw [e] at z;cases z
    ·obtain ⟨its,r1,p1,_⟩:=I.tuple hq
     obtain ⟨its',r2,p2,_⟩:=I.tuple hq'
     obtain ⟨f,hf,hb⟩:=ZgR (show ZgN ws ys=some b from e)
     have l1:=r1.length
     have l2:=r2.length
     have l3:=l.length
     have l4:=l'.length
     refine SeqAt.EqAt.of_refs haa ?_
     have key:=SeqAt.RcAt.tuples (A:=A) (s:=s) (e:=f) (show s.heap.IsTuple a its.toArray from p1) (show s.heap.IsTuple a' its'.toArray from p2) (by omega) (fun j h1 h2=>?_)
     ·rw [hb]
      have e1:its.toArray.size=ws.length:=by rw [List.size_toArray];omega
      have e2:its'.toArray.size=ys.length:=by rw [List.size_toArray];omega
      rw [e1,e2] at key
      exact key
     ·have j1:j < ws.length:=by rw [List.size_toArray] at h1;omega
      have j2:j < ys.length:=by rw [List.size_toArray] at h2;omega
      obtain ⟨v1,g1,t1⟩:=l.get (List.getElem?_eq_getElem j1)
      obtain ⟨v2,g2,t2⟩:=l'.get (List.getElem?_eq_getElem j2)
      obtain ⟨u1,g3,rr1⟩:=r1.get g1
      obtain ⟨u2,g4,rr2⟩:=r2.get g2
      have eu1:its.toArray[j]=u1:=by
       have z:its[j]?=some its[j]:=List.getElem?_eq_getElem (by omega)
       rw [g3] at z
       have z':=Option.some.inj z
       rw [z'];simp
      have eu2:its'.toArray[j]=u2:=by
       have z:its'[j]?=some its'[j]:=List.getElem?_eq_getElem (by omega)
       rw [g4] at z
       have z':=Option.some.inj z
       rw [z'];simp
      rw [eu1,eu2]
      have hd:dpW (ws[j])≤dpL ws:=Zff (List.getElem_mem j1)
      have hd2:dpL ws+1 < n+1:=h
      exact ih _ _ _ _ _ _ _ A.in1 (by omega) t1 t2 rr1 rr2 (hf j _ _ (List.getElem?_eq_getElem j1) (List.getElem?_eq_getElem j2)) (by show A.units+1+n < cLine;omega)
   | str _ =>
    cases e;cases rv;obtain ⟨t,rfl⟩:=ru
    obtain ⟨its,r1,p1,_⟩:=I.tuple hq
    exact SeqAt.EqAt.tuple_str (A:=A) _ _ p1 (by omega)
   | bl _ =>
    cases e;cases rv;cases ru
    obtain ⟨its,r1,p1,_⟩:=I.tuple hq
    exact SeqAt.EqAt.tuple_bool _ p1 (by omega)
   | _=>cases e
  | non=>cases ty <;> cases e <;> exact ZkF rv ru rfl rfl
  | bl c =>
   cases ty with
   | tup hq l =>
    cases e;cases rv;cases ru
    obtain ⟨its,r1,p1,_⟩:=I.tuple hq
    exact SeqAt.EqAt.bool_tuple _ p1 (by omega)
   | _=>cases e <;> exact ZkF rv ru rfl rfl
  | int c=>cases ty <;> cases e <;> exact ZkF rv ru rfl rfl
  | str c =>
   cases ty with
   | tup hq l =>
    cases e;cases ru;obtain ⟨t,rfl⟩:=rv
    obtain ⟨its,r1,p1,_⟩:=I.tuple hq
    exact SeqAt.EqAt.str_tuple (A:=A) _ _ p1 (by omega)
   | _=>cases e <;> exact ZkF rv ru rfl rfl
  | rol _ _=>cases y <;> cases e
  | ref _=>cases y <;> cases e
end L3
set_option Elab.async false
set_option linter.all false
set_option maxRecDepth 100000
set_option maxHeartbeats 2000000
namespace L3
open PySem PySem.Spec PyProof.Rows L2
variable {K:PySem.W.Frag} {H H' H2:Hp}
def rSq (K:PySem.W.Frag) (neg:Bool):R2:=fun v u H Q=>∃ (a b:Addr) (vs us:List V) (ws ys:List W) (c:Bool),v=.ref a∧u=.ref b∧((SqT K H a vs∧SqT K H b us)∨(SqL K H a vs∧SqL K H b us))∧TrL K H vs ws∧TrL K H us ys∧dpL ws < 90∧ZgN ws ys=some c∧Q (.bl (c != neg)) H
section
variable {X:Cx} {pins:List (Addr×Obj)} {σ:St} {H:Hp} {s:Shared}
theorem ZgT (I:Inv X pins σ H s) {A:Around} {vs us:List V} {ws ys:List W} {its its':List Value} (r1:Vals vs its) (r2:Vals us its') (t1:TrL X.K H vs ws) (t2:TrL X.K H us ys) (hd:dpL ws < 90) (hu:A.units+100 < cLine) {f:Nat→Bool}
  (hf:∀ (i:Nat) x y,ws[i]?=some x→ys[i]?=some y→eqD x y=some (f i)) (j:Nat) (h1:j < its.toArray.size) (h2:j < its'.toArray.size):SeqAt.EqAt A.in1 s its.toArray[j] its'.toArray[j] (f j):=by
 have l1:=r1.length
 have l2:=r2.length
 have l3:=t1.length
 have l4:=t2.length
 have j1:j < ws.length:=by rw [List.size_toArray] at h1;omega
 have j2:j < ys.length:=by rw [List.size_toArray] at h2;omega
 obtain ⟨v1,g1,t1'⟩:=t1.get (List.getElem?_eq_getElem j1)
 obtain ⟨v2,g2,t2'⟩:=t2.get (List.getElem?_eq_getElem j2)
 obtain ⟨u1,g3,rr1⟩:=r1.get g1
 obtain ⟨u2,g4,rr2⟩:=r2.get g2
 have eu1:its.toArray[j]=u1:=by
  have z:its[j]?=some its[j]:=List.getElem?_eq_getElem (by omega)
  rw [g3] at z
  rw [Option.some.inj z];simp
 have eu2:its'.toArray[j]=u2:=by
  have z:its'[j]?=some its'[j]:=List.getElem?_eq_getElem (by omega)
  rw [g4] at z
  rw [Option.some.inj z];simp
 rw [eu1,eu2]
 exact Zlr I 99 _ _ _ _ _ _ _ A.in1 (by have:=Zff (List.getElem_mem j1);omega) t1' t2' rr1 rr2 (hf j _ _ (List.getElem?_eq_getElem j1) (List.getElem?_eq_getElem j2)) (by show A.units+1+99 < cLine;omega)
end
theorem ZqV {X:Cx} (hu:X.A.units+100 < cLine):OpR X (compareOp .Eq) (rSq X.K false):=by
 intro pins s σ H x y v u Q I rx ry h
 obtain ⟨a,b,vs,us,ws,ys,c,rfl,rfl,hq,t1,t2,hd,e,q⟩:=h
 cases rx
 cases ry
 obtain ⟨f,hf,hb⟩:=ZgR e
 have l3:=t1.length
 have l4:=t2.length
 have fin:∀ d:Bool,d=c→EP X pins σ Q (.bool d) s:=fun d hd=>by subst hd;exact ⟨.bl d,H,I,rfl,by simpa using q⟩
 rcases hq with ⟨h1,h2⟩ | ⟨h1,h2⟩
 ·obtain ⟨its,r1,p1,_⟩:=I.tuple h1
  obtain ⟨its',r2,p2,_⟩:=I.tuple h2
  have l1:=r1.length
  have l2:=r2.length
  refine SeqAt.eq_tupleAt (e:=f) (show s.heap.IsTuple a its.toArray from p1) (show s.heap.IsTuple b its'.toArray from p2) (by omega) (ZgT I r1 r2 t1 t2 hd hu hf) (fin _ ?_)
  have e1:its.toArray.size=ws.length:=by rw [List.size_toArray];omega
  have e2:its'.toArray.size=ys.length:=by rw [List.size_toArray];omega
  rw [e1,e2,hb]
 ·obtain ⟨its,r1,p1,_⟩:=I.list h1
  obtain ⟨its',r2,p2,_⟩:=I.list h2
  have l1:=r1.length
  have l2:=r2.length
  have e1:its.toArray.size=ws.length:=by rw [List.size_toArray];omega
  have e2:its'.toArray.size=ys.length:=by rw [List.size_toArray];omega
  by_cases hl:ws.length=ys.length
  ·refine SeqAt.eq_listAt (e:=f) p1.isList p2.isList (by omega) (by omega) (ZgT I r1 r2 t1 t2 hd hu hf) (fin _ ?_)
   rw [e1,hb,hl];simp
  ·refine SeqAt.eq_list_lengthsAt p1.isList p2.isList (by rw [e1,e2];simpa using hl) (by omega) (fin _ ?_)
   rw [hb];simp [hl]
theorem ZqW {X:Cx} (hu:X.A.units+100 < cLine):OpR X (compareOp .NotEq) (rSq X.K true):=by
 intro pins s σ H x y v u Q I rx ry h
 obtain ⟨a,b,vs,us,ws,ys,c,rfl,rfl,hq,t1,t2,hd,e,q⟩:=h
 cases rx
 cases ry
 obtain ⟨f,hf,hb⟩:=ZgR e
 have l3:=t1.length
 have l4:=t2.length
 have fin:∀ d:Bool,d=!c→EP X pins σ Q (.bool d) s:=fun d hd=>by subst hd;exact ⟨.bl _,H,I,rfl,by simpa using q⟩
 rcases hq with ⟨h1,h2⟩ | ⟨h1,h2⟩
 ·obtain ⟨its,r1,p1,_⟩:=I.tuple h1
  obtain ⟨its',r2,p2,_⟩:=I.tuple h2
  have l1:=r1.length
  have l2:=r2.length
  refine SeqAt.RcNeAt.tuples (e:=f) (show s.heap.IsTuple a its.toArray from p1) (show s.heap.IsTuple b its'.toArray from p2) (by omega) (ZgT I r1 r2 t1 t2 hd hu hf) _ _ _ _ (fin _ ?_)
  have e1:its.toArray.size=ws.length:=by rw [List.size_toArray];omega
  have e2:its'.toArray.size=ys.length:=by rw [List.size_toArray];omega
  rw [e1,e2,hb]
 ·obtain ⟨its,r1,p1,_⟩:=I.list h1
  obtain ⟨its',r2,p2,_⟩:=I.list h2
  have l1:=r1.length
  have l2:=r2.length
  have e1:its.toArray.size=ws.length:=by rw [List.size_toArray];omega
  have e2:its'.toArray.size=ys.length:=by rw [List.size_toArray];omega
  by_cases hl:ws.length=ys.length
  ·refine SeqAt.RcNeAt.lists (e:=f) p1.isList p2.isList (by omega) (by omega) (ZgT I r1 r2 t1 t2 hd hu hf) _ _ _ _ (fin _ ?_)
   rw [e1,hb,hl];simp
  ·refine SeqAt.RcNeAt.lists_lengths p1.isList p2.isList (by rw [e1,e2];simpa using hl) (by omega) _ _ _ _ (fin _ ?_)
   rw [hb];simp [hl]
def eqW (x y:W) (G:Hw):Option Bool:=match x,y with
 | .tup xs,.tup ys=>if dpL xs < 90 then ZgN xs ys else none
 | .ref a,.ref b=>(match G a,G b with
  | some (.lst xs),some (.lst ys)=>if dpL xs < 90 then ZgN xs ys else none
  | _,_=>none)
 | .int a,.int b=>some (a==b)
 | .bl a,.bl b=>some (a==b)
 | .str a,.str b=>some (a==b)
 | .non,.non=>some true
 | .int _,.non=>some false
 | .non,.int _=>some false
 | .int _,.str _=>some false
 | .str _,.int _=>some false
 | .bl _,.str _=>some false
 | .str _,.bl _=>some false
 | .non,.str _=>some false
 | .str _,.non=>some false
 | .non,.bl _=>some false
 | .bl _,.non=>some false
 | _,_=>none
def eqF (neg:Bool) (x y:W) (G:Hw):Option W:=(eqW x y G).map fun c=>.bl (c != neg)
theorem ZwH (c:Bool):(c != true)=!c:=by cases c <;> rfl
theorem ZrC (neg:Bool) (x y:W) (v u:V) (G:Hw) (H:Hp) (Q:VK) (tx:Tr K H v x) (ty:Tr K H u y) (r:RelH K H G) (q:Zan (eqF neg) x y G (dn K H Q)):(ZsY v u=true∧Q (.bl (decide (v=u) != neg)) H)∨rSq K neg v u H Q:=by
 obtain ⟨w,e,q'⟩:=Zeg q
 obtain ⟨c,e1,e2⟩:=Option.map_eq_some_iff.mp e
 subst e2
 have qq:=q' (.bl (c != neg)) H .refl (.bl _) r
 have sc:∀ {i j:V},decide (i=j)=c→ZsY i j=true→(ZsY i j=true∧Q (.bl (decide (i=j) != neg)) H)∨rSq K neg i j H Q:=fun {i j} h1 h2=>.inl ⟨h2,by rw [h1];exact qq⟩
 cases tx with
 | tup hq l =>
  cases ty with
  | tup hq' l' =>
   unfold eqW at e1;dsimp only at e1
   split at e1
   ·rename_i hd
    exact .inr ⟨_,_,_,_,_,_,c,rfl,rfl,.inl ⟨hq,hq'⟩,l,l',hd,e1,qq⟩
   ·cases e1
  | _=>cases e1
 | ref a =>
  cases ty with
  | ref b =>
   unfold eqW at e1;dsimp only at e1
   cases ea:G a with
   | none=>rw [ea] at e1;cases e1
   | some oa =>
    cases eb:G b with
    | none=>rw [ea,eb] at e1;cases oa <;> cases e1
    | some ob =>
     rw [ea,eb] at e1
     cases oa <;> cases ob <;> try cases e1
     dsimp only at e1
     split at e1
     ·rename_i hd
      obtain ⟨vs,z1,t1⟩:=r a _ ea
      obtain ⟨us,z2,t2⟩:=r b _ eb
      exact .inr ⟨_,_,_,_,_,_,c,rfl,rfl,.inr ⟨SqL.of z1,SqL.of z2⟩,t1,t2,hd,e1,qq⟩
     ·cases e1
  | _=>cases e1
 | rol _ _=>cases y <;> cases e1
 | non=>cases ty <;> cases e1 <;> exact sc (by simp) rfl
 | bl b=>cases ty <;> cases e1 <;> exact sc (by first | exact ZoU | simp) rfl
 | int b=>cases ty <;> cases e1 <;> exact sc (by first | exact ZlJ | simp) rfl
 | str b=>cases ty <;> cases e1 <;> exact sc (by first | exact ZlE | simp) rfl
theorem ZuQ {X:Cx} (hu:X.A.units+100 < cLine):OpR X (compareOp .Eq) (fun x y H Q=>(ZsY x y=true∧Q (.bl (decide (x=y) != false)) H)∨rSq X.K false x y H Q):=by
 intro pins s σ H x y v u Q I rx ry h
 rcases h with ⟨h1,h2⟩ | h
 ·exact ZwP pins s σ H x y v u Q I rx ry ⟨h1,by simpa using h2⟩
 ·exact ZqV hu pins s σ H x y v u Q I rx ry h
theorem ZvA {X:Cx} (hu:X.A.units+100 < cLine):OpR X (compareOp .NotEq) (fun x y H Q=>(ZsY x y=true∧Q (.bl (decide (x=y) != true)) H)∨rSq X.K true x y H Q):=by
 intro pins s σ H x y v u Q I rx ry h
 rcases h with ⟨h1,h2⟩ | h
 ·exact Zxn pins s σ H x y v u Q I rx ry ⟨h1,by rw [← ZwH];exact h2⟩
 ·exact ZqW hu pins s σ H x y v u Q I rx ry h
section
variable {X:Cx} {a b c e:Expr} {es Zck:List Expr} {pos pos' p:Pos} {ga gb gc:GE} {gt gu:GT} {gs:GA}
def ZkX (G:Hw) (w:W):Option (List W):=match w with
 | .tup xs=>some xs
 | .rol xs=>some xs
 | .ref a=>(match G a with | some (.lst xs)=>some xs | _=>none)
 | _=>none
theorem Zjb {G:Hw} {w:W} {xs:List W} {v:V} (r:RelH K H G) (t:Tr K H v w) (e:ZkX G w=some xs):∃ a vs,v=.ref a∧(SqL K H a vs∨SqT K H a vs)∧TrL K H vs xs:=by
 cases t with
 | tup h l=>cases e;exact ⟨_,_,rfl,.inr h,l⟩
 | rol h l=>cases e;exact ⟨_,_,rfl,.inl h.sq,l⟩
 | ref a =>
  unfold ZkX at e;dsimp only at e
  cases z:G a with
  | none=>rw [z] at e;cases e
  | some o =>
   rw [z] at e
   cases o with
   | lst ys=>cases e;obtain ⟨vs,e1,t1⟩:=r a _ z;exact ⟨a,vs,rfl,.inl (SqL.of e1),t1⟩
   | exc C=>cases e
   | ins C fs=>cases e
   | dct kvs=>cases e
 | _=>cases e
def ZiZ:List W→Option (List V)
 | []=>some []
 | w::ws=>(Zoj w).bind fun v=>(ZiZ ws).map (v::·)
theorem ZlN:∀ {ws:List W} {vs us:List V},ZiZ ws=some us→TrL K H vs ws→vs=us∧vs.all Zh6=true
 | [],vs,us,e,t=>by cases e;cases t;exact ⟨rfl,rfl⟩
 | w::ws,vs,us,e,t=>by
  cases t with
  | cons tw t =>
   obtain ⟨f,e1,e2⟩:=Option.bind_eq_some_iff.mp (show (Zoj w).bind (fun v=>(ZiZ ws).map (v::·))=some us from e)
   obtain ⟨fs,e3,e4⟩:=Option.map_eq_some_iff.mp e2
   obtain ⟨h1,h2⟩:=ZmL tw e1
   obtain ⟨h3,h4⟩:=ZlN e3 t
   subst e4
   exact ⟨by rw [h1,h3],by rw [List.all_cons,h2,h4];rfl⟩
def inF (neg:Bool) (x y:W) (G:Hw):Option W:=(Zoj x).bind fun v=>(ZkX G y).bind fun xs=>(ZiZ xs).map fun us=>.bl (if neg then !inV v us else inV v us)
theorem ZrM (neg:Bool) (x y:W) (v u:V) (G:Hw) (H:Hp) (Q:VK) (tx:Tr K H v x) (ty:Tr K H u y) (r:RelH K H G) (q:Zan (inF neg) x y G (dn K H Q)):rIn K neg v u H Q:=by
 obtain ⟨w,e,q'⟩:=Zeg q
 obtain ⟨f,e1,e2⟩:=Option.bind_eq_some_iff.mp e
 obtain ⟨xs,e3,e4⟩:=Option.bind_eq_some_iff.mp e2
 obtain ⟨us,e5,e6⟩:=Option.map_eq_some_iff.mp e4
 subst e6
 obtain ⟨h1,h2⟩:=ZmL tx e1
 obtain ⟨a,vs,rfl,hq,t⟩:=Zjb r ty e3
 obtain ⟨h3,h4⟩:=ZlN e5 t
 subst h1;subst h3
 exact ⟨a,vs,rfl,hq,h2,h4,q' _ H .refl (.bl _) r⟩
end
end L3
namespace L3
open PySem PySem.Spec PyProof.Rows L2
variable {K:PySem.W.Frag} {H H' H2:Hp}
section
variable {X:Cx} {P:Hp→Prop} {a b c e o i:Expr} {sts:List Stmt} {pos pos':Pos} {ga gb gc gv go gi:GE} {gt:GT} {g:GS} {gs:GA}
def ZmB (gt:GT) (g:GS):GS:=fun D ω G=>∃ W:Nat→Sw→Hw→Prop,(∃ m,W m ω G)∧∀ m ω G,W m ω G →
 gt ω G fun b G1=>if b=true then g { nx:=fun ω' G'=>∃ m',m' < m∧W m' ω' G',rt:=D.rt,bk:=D.nx,ct:=fun ω' G'=>∃ m',m' < m∧W m' ω' G' } ω G1 else D.nx ω G1
theorem ZqK (mt:gt.M) (mb:g.M):GS.M (ZmB gt g):=fun ω G D D' h1 h2 h3 h4 ⟨W,w0,turn⟩=>⟨W,w0,fun m ω G w=>mt _ _ _ _ (fun b G1 z=>by
 cases b with
 | true=>exact mb _ _ { nx:=fun ω' G'=>∃ m',m' < m∧W m' ω' G',rt:=D.rt,bk:=D.nx,ct:=fun ω' G'=>∃ m',m' < m∧W m' ω' G' } _ (fun _ _ y=>y) h2 h1 (fun _ _ y=>y) z
 | false=>exact h1 _ _ z) (turn m ω G w)⟩
theorem Zqi (hp:PassesOwn (model X.prog X.w) X.A X.env X.xe) (mt:gt.M) (mb:g.M) (hc:PTw X c gt) (hb:ZqX X P sts g):PSw X P (.While c sts [] pos) (ZmB gt g):=fun B hB =>
 Zft (Zrb hp hc (hb B hB)) <| by
  rintro D σ H ⟨ω,G,ts,r,mb0,W,⟨m0,w0⟩,turn⟩
  refine ⟨fun m σ' H'=>Mono X.K B H'∧∃ ω' G',TrSt X.K H' σ' ω'∧RelH X.K H' G'∧W m ω' G',⟨m0,mb0,ω,G,ts,r,w0⟩,?_⟩
  rintro m σ' H' ⟨mm,ω',G',ts',r',w'⟩
  refine ⟨ω',G',ts',r',mt _ _ _ _ (fun b G1 z H1 m1 r1=>?_) (turn m ω' G' w')⟩
  cases b with
  | true =>
   rw [if_pos rfl]
   refine ⟨fun σ2 H2=>∃ m',m' < m∧Mono X.K B H2∧∃ ω2 G2,TrSt X.K H2 σ2 ω2∧RelH X.K H2 G2∧W m' ω2 G2,(by rintro σ2 H2 ⟨m',h1,h2⟩;exact ⟨m',h1,h2⟩),ω',G1,ts'.mono m1,r1,mm.trans m1,?_⟩
   exact mb _ _ { nx:=fun ω' G'=>∃ m',m' < m∧W m' ω' G',rt:=(dnD X.K B D).rt,bk:=(dnD X.K B D).nx,ct:=fun ω' G'=>∃ m',m' < m∧W m' ω' G' } _
    ((by rintro a b ⟨m',h1,h2⟩ σ2 H2 m2 ts2 r2;exact ⟨m',h1,m2,a,b,ts2,r2,h2⟩)) (fun a b y=>y) (fun a b y=>y) ((by rintro a b ⟨m',h1,h2⟩ σ2 H2 m2 ts2 r2;exact ⟨m',h1,m2,a,b,ts2,r2,h2⟩)) z
  | false =>
   rw [if_neg Bool.false_ne_true]
   exact z σ' H1 (mm.trans m1) (ts'.mono m1) r1
theorem Zql (hp:PassesOwn (model X.prog X.w) X.A X.env X.xe) (hc:Tm X c gt) (hb:Ssm X P sts g):Sm X P (.While c sts [] pos) (ZmB gt g):=⟨Zqi hp hc.m hb.m hc.p hb.p,ZqK hc.m hb.m⟩
def ZpH (ω:Sw) (i:Nat):Option W:=match ω[i]? with | some (some w)=>some w | _=>none
theorem ZsS {σ:St} {ω:Sw} {n:Nat} {w:W} (ts:TrSt K H σ ω) (e:ZpH ω n=some w):∃ v,σ[n]?=some (some v)∧Tr K H v w:=by
 unfold ZpH at e
 split at e
 ·rename_i u z
  cases e
  exact ts.get n _ z
 ·cases e
def ZjH (n:Nat) (r:RW2) (ga:GE):GS:=fun D ω G=>opt (ZpH ω n) fun x=>ga ω G fun y G1=>r x y G1 fun z G2=>D.nx (ω.set n (some z)) G2
theorem ZvE {n:Nat} {r:RW2} (mr:r.M) (ma:ga.M):GS.M (ZjH n r ga):=fun ω G D D' h1 _ _ _ q=>ZtR (fun x q=>ma _ _ _ _ (fun y G1 z=>mr _ _ _ _ _ (fun w G2 z2=>h1 _ _ z2) z) q) q
theorem Zub {op:Operator} {r:RW2} {r2:R2} {n:Nat} {x:Str} (ho:OpR X (inplaceOp op) r2) (mr:r.M) (hr:∀ (x y:W) (v u:V) (G:Hw) (H:Hp) (Q:VK),Tr X.K H v x→Tr X.K H u y→RelH X.K H G→r x y G (dn X.K H Q)→r2 v u H Q)
  (hN:X.N.Nodup) (hi:X.N[n]?=some x) (hx:Loc X.env.scope x) (hf:X.fn x=true∨X.env.scope.names.lookup x=some .local) (ma:ga.M) (ha:PEw X e ga):PSw X P (.AugAssign (.Name x pos') op e pos) (ZjH n r ga):=fun B hB =>
 Zft (ZvO hN hi hx ha (fun pins s σ H x y v u Q I r1 r2 h=>ho pins s σ H x y v u Q I r1 r2 h) hf) <| by
  rintro D σ H ⟨ω,G,ts,rh,mb,q⟩
  obtain ⟨w,e1,q⟩:=Zeg q
  obtain ⟨v,e2,t⟩:=ZsS ts e1
  refine ⟨v,e2,ω,G,ts,rh,ma _ _ _ _ (fun y G1 z u H1 m tu r1=>?_) q⟩
  exact hr w y v u G1 H1 _ (t.mono m) tu r1 (mr _ _ _ _ _ (fun w2 G2 z2 v2 H2 m2 t2 r2=>z2 _ H2 ((mb.trans m).trans m2) (((ts.mono m).mono m2).set n t2) r2) z)
def Zej:RW2:=fun x y G Q=>match x,y with
 | .int i,.int j=>Q (.int (i+j)) G
 | .str a,.str b=>a.length+b.length≤sizeLine∧Q (.str (a++b)) G
 | _,_=>False
theorem Zo4:RW2.M Zej:=fun x y G Q Q' h q=>by
 cases x <;> cases y <;> first | exact q | exact h _ _ q | exact ⟨q.1,h _ _ q.2⟩
theorem Zre (x y:W) (v u:V) (G:Hw) (H:Hp) (Q:VK) (tx:Tr K H v x) (ty:Tr K H u y) (r:RelH K H G) (q:Zej x y G (dn K H Q)) :
  (rI0 fun i j=>.int (i+j)) v u H Q∨(∃ i j,v=.str i∧u=.str j∧i.length+j.length≤sizeLine∧Q (.str (i++j)) H):=by
 cases tx with
 | int i=>cases ty <;> first | exact q.elim | exact .inl ⟨_,_,rfl,rfl,q _ H .refl (.int _) r⟩
 | str i=>cases ty <;> first | exact q.elim | exact .inr ⟨_,_,rfl,rfl,q.1,q.2 _ H .refl (.str _) r⟩
 | _=>exact q.elim
def Zh7 (o k v:W) (G:Hw) (Q:Hw→Prop):Prop:=match o,k with
 | .ref a,.int j=>(match G a with
  | some (.lst xs)=>(match ixN xs.length j with | some n=>Q (put G a (.lst (xs.set n v))) | none=>False)
  | _=>False)
 | _,_=>False
theorem ZlQ {o k v:W} {G:Hw} {Q:Hw→Prop} (q:Zh7 o k v G Q):∃ a j xs n,o=.ref a∧k=.int j∧G a=some (.lst xs)∧ixN xs.length j=some n∧Q (put G a (.lst (xs.set n v))):=by
 unfold Zh7 at q
 split at q
 ·split at q
  ·rename_i xs e
   split at q
   ·rename_i n e2;exact ⟨_,_,xs,n,rfl,rfl,e,e2,q⟩
   ·exact q.elim
  ·exact q.elim
 ·exact q.elim
theorem Zjo {v:W} {G:Hw} {Q:Hw→Prop} {a:Addr} {j:Int} {xs:List W} {n:Nat} (e:G a=some (.lst xs)) (e2:ixN xs.length j=some n) (q:Q (put G a (.lst (xs.set n v)))):Zh7 (.ref a) (.int j) v G Q:=by
 unfold Zh7
 dsimp only
 rw [e]
 dsimp only
 rw [e2]
 exact q
theorem Zsb {o k v:W} {G:Hw} {Q Q':Hw→Prop} (h:∀ G,Q G→Q' G) (q:Zh7 o k v G Q):Zh7 o k v G Q':=by
 obtain ⟨a,j,xs,n,rfl,rfl,e,e2,q⟩:=ZlQ q
 exact Zjo e e2 (h _ q)
theorem Zqd {o k v:W} {x y u:V} {G:Hw} {Pq:Hw→Prop} {R:Hp→Prop} (tx:Tr K H x v) (ty:Tr K H y o) (tu:Tr K H u k) (r:RelH K H G) (q:Zh7 o k v G Pq) (f:∀ G4 H4,Mono K H H4→RelH K H4 G4→Pq G4→R H4):Zva y u x H R:=by
 obtain ⟨a,j,xs,n,rfl,rfl,e,e2,q⟩:=ZlQ q
 cases ty
 cases tu
 obtain ⟨vs,e3,t⟩:=r a _ e
 exact ⟨a,vs,j,n,rfl,rfl,e3,by rw [t.length];exact e2,f _ _ (Mono.lst e3 _) (r.chg e3 (TrL.set tx n t)) q⟩
def ZcU (gv go gi:GE):GS:=fun D ω G=>gv ω G fun v G1=>go ω G1 fun o G2=>gi ω G2 fun k G3=>Zh7 o k v G3 fun G4=>D.nx ω G4
theorem Zqw (mv:gv.M) (mo:go.M) (mi:gi.M):GS.M (ZcU gv go gi):=fun ω G D D' h1 _ _ _ q =>
 mv _ _ _ _ (fun v G1 z=>mo _ _ _ _ (fun o G2 z=>mi _ _ _ _ (fun k G3 z=>Zsb (fun G4 z=>h1 _ _ z) z) z) z) q
theorem Zjg (ha:∀ v,assign (.Subscript o i pos') X.env v=(do
   let ov ← holding [v] (eval o X.env)
   let iv ← holding [v,ov] (eval i X.env)
   standAt pos'
   holding [v,ov,iv] (setItem ov iv v)
   release [v,ov,iv] [])) (hs:swapsWithSole [.Subscript o i pos'] e pos.line X.env=pure false) (hw:swappedStores [.Subscript o i pos'] e X.env=pure none)
  (h1:(assignEach [.Subscript o i pos'] X.env).map (·.2)=[assign (.Subscript o i pos') X.env]) (hv:Em X e gv) (ho:Em X o go) (hi:Em X i gi):Sm X P (.Assign [.Subscript o i pos'] e pos) (ZcU gv go gi) :=
 ⟨fun B hB=>Zft (Zvy hv.p (ZuW ho.p hi.p Zrs ha) hs hw h1) fun D σ H ⟨ω,G,ts,r,mb,q⟩=>⟨ω,G,ts,r,hv.m _ _ _ _ (fun v G1 z x H1 m1 tx r1 =>
  ⟨ω,G1,ts.mono m1,r1,ho.m _ _ _ _ (fun ow G2 z2 y H2 m2 ty r2 =>
   ⟨ω,G2,(ts.mono m1).mono m2,r2,hi.m _ _ _ _ (fun k G3 z3 u H3 m3 tu r3 =>
    Zqd ((tx.mono m2).mono m3) (ty.mono m3) tu r3 z3 (fun G4 H4 m4 r4 q4=>q4 σ H4 ((((mb.trans m1).trans m2).trans m3).trans m4) ((((ts.mono m1).mono m2).mono m3).mono m4) r4)) z2⟩) z⟩) q⟩,Zqw hv.m ho.m hi.m⟩
abbrev GO:=Sw→Hw→(Option Int→Hw→Prop)→Prop
def GO.M (g:GO):Prop:=∀ ω G (Q Q':Option Int→Hw→Prop),(∀ w G',Q w G'→Q' w G')→g ω G Q→g ω G Q'
def dnO (K:PySem.W.Frag) (H:Hp) (Q:Option Int→Hp→Prop):Option Int→Hw→Prop:=fun b G=>∀ H',Mono K H H'→RelH K H' G→Q b H'
def upO (K:PySem.W.Frag) (g:GO):TO:=fun σ H Q=>∃ ω G,TrSt K H σ ω∧RelH K H G∧g ω G (dnO K H Q)
structure Om (X:Cx) (e:Option Expr) (g:GO):Prop where
 p:PO X e (upO X.K g)
 m:g.M
def Zaw:GO:=fun _ G Q=>Q none G
def Zbg (ga:GE):GO:=fun ω G Q=>ga ω G fun w G1=>match w with | .int j=>Q (some j) G1 | _=>False
theorem Zco:Om X none Zaw:=⟨(by rintro pins s σ H Q I ⟨ω,G,ts,r,q⟩;exact Ztx pins s σ H Q I (q H .refl r)),fun _ _ _ _ h q=>h _ _ q⟩
theorem Zcw (h:Em X e ga):Om X (some e) (Zbg ga):=⟨fun pins s σ H Q I ⟨ω,G,ts,r,q⟩=>ZtH h.p pins s σ H Q I ⟨ω,G,ts,r,h.m _ _ _ _ (fun w G1 z v H1 m t r1=>by
  cases w with
  | int j=>exact ⟨j,Zv6 t,z H1 m r1⟩
  | _=>exact z.elim) q⟩,fun ω G Q Q' hh q=>h.m _ _ _ _ (fun w G1 z=>by cases w <;> first | exact hh _ _ z | exact z) q⟩
def Zk0 {α:Type} (xs:List α) (lo hi:Option Int):List α:=(xs.drop (HT.sIx xs.length 0 lo)).take (HT.sIx xs.length xs.length hi - HT.sIx xs.length 0 lo)
def slW (w:W) (lo hi:Option Int) (G:Hw) (Q:Kw):Prop:=match w with
 | .tup xs=>¬ (HT.sIx xs.length 0 lo=0∧HT.sIx xs.length xs.length hi=xs.length)∧Q (.tup (Zk0 xs lo hi)) G
 | .rol xs=>∀ p,G p=none→Q (.ref p) (put G p (.lst (Zk0 xs lo hi)))
 | .ref a=>(match G a with | some (.lst xs)=>∀ p,G p=none→Q (.ref p) (put G p (.lst (Zk0 xs lo hi))) | _=>False)
 | _=>False
theorem Zrr {w:W} {lo hi:Option Int} {G:Hw} {Q Q':Kw} (h:∀ w G',Q w G'→Q' w G') (q:slW w lo hi G Q):slW w lo hi G Q':=by
 cases w with
 | tup xs=>exact ⟨q.1,h _ _ q.2⟩
 | rol xs=>exact fun p hp=>h _ _ (q p hp)
 | ref a =>
  unfold slW at q ⊢
  dsimp only at q ⊢
  cases e:G a with
  | none=>rw [e] at q;exact q.elim
  | some ob =>
   rw [e] at q
   cases ob with
   | lst xs=>exact fun p hp=>h _ _ (q p hp)
   | exc C=>exact q.elim
   | ins C fs=>exact q.elim
   | dct kvs=>exact q.elim
 | _=>exact q.elim
theorem TrL.cut {vs:List V} {ws:List W} (t:TrL K H vs ws) (lo hi:Option Int):TrL K H (Zrw vs lo hi) (Zk0 ws lo hi):=by
 unfold Zrw Zk0
 rw [t.length]
 exact (t.drop _).take _
theorem Zmy {w:W} {v:V} {lo hi:Option Int} {G:Hw} {Q:VK} (t:Tr K H v w) (r:RelH K H G) (q:slW w lo hi G (dn K H Q)):Zxk K v lo hi H Q∨Zxd K v lo hi H Q:=by
 cases t with
 | tup h l =>
  refine .inl ⟨_,_,rfl,h,by rw [l.length];exact q.1,fun p hp=>?_⟩
  exact q.2 _ _ (Mono.new hp _) (.tup (SqT.of Zbj) ((l.cut lo hi).mono (Mono.new hp _))) (r.mono0 hp)
 | rol h l=>exact .inr ⟨_,_,rfl,h.sq,fun p hp=>q p (r.no hp) _ _ (Mono.new hp _) (.ref p) (r.new hp (l.cut lo hi))⟩
 | ref a =>
  unfold slW at q
  dsimp only at q
  cases e:G a with
  | none=>rw [e] at q;exact q.elim
  | some ob =>
   rw [e] at q
   cases ob with
   | lst xs =>
    obtain ⟨vs,e1,l⟩:=r a _ e
    exact .inr ⟨_,_,rfl,SqL.of e1,fun p hp=>q p (r.no hp) _ _ (Mono.new hp _) (.ref p) (r.new hp (l.cut lo hi))⟩
   | exc C=>exact q.elim
   | ins C fs=>exact q.elim
   | dct kvs=>exact q.elim
 | _=>exact q.elim
def gSl (ga:GE) (gl gh:GO):GE:=fun ω G Q=>ga ω G fun w G1=>gl ω G1 fun lo G2=>gh ω G2 fun hi G3=>slW w lo hi G3 Q
theorem Zwk {lo hi:Option Expr} {gl gh:GO} {p2:Pos} (ha:Em X e ga) (hl:Om X lo gl) (hh:Om X hi gh):Em X (.Subscript e (.Slice lo hi none p2) pos) (gSl ga gl gh) :=
 ⟨Zbi (Zmi (SlR.or ZrD ZoK) ha.p hl.p hh.p) fun σ H Q ⟨ω,G,ts,r,q⟩=>⟨ω,G,ts,r,ha.m _ _ _ _ (fun w G1 z v H1 m1 t r1=>⟨ω,G1,ts.mono m1,r1,hl.m _ _ _ _ (fun l G2 z2 H2 m2 r2 =>
   ⟨ω,G2,(ts.mono m1).mono m2,r2,hh.m _ _ _ _ (fun h G3 z3 H3 m3 r3=>Zmy ((t.mono m2).mono m3) r3 (Zrr (fun w G' z=>ZcJ ((m1.trans m2).trans m3) z) z3)) z2⟩) z⟩) q⟩,
  fun ω G Q Q' h q=>ha.m _ _ _ _ (fun w G1 z=>hl.m _ _ _ _ (fun l G2 z2=>hh.m _ _ _ _ (fun u G3 z3=>Zrr h z3) z2) z) q⟩
end
end L3
set_option Elab.async false
set_option linter.all false
set_option maxRecDepth 100000
set_option maxHeartbeats 2000000
namespace L3
open PySem PySem.Spec PyProof.Rows L2
variable {K:PySem.W.Frag} {H H' H2:Hp}
abbrev UpW (K:PySem.W.Frag) (r:RW2) (r2:R2):Prop:=∀ (x y:W) (v u:V) (G:Hw) (H:Hp) (Q:VK),Tr K H v x→Tr K H u y→RelH K H G→r x y G (dn K H Q)→r2 v u H Q
structure Cop (X:Cx) (op:CmpOp) (r:RW2):Prop where
 ex:∃ r2,OpR X (compareOp op) r2∧UpW X.K r r2
 m:r.M
def ZaP (a b:Str):Bool:=decide (a.cps.toList < b.cps.toList)
def Zgm (f:Int→Int→Bool) (g:Str→Str→Bool):RW2:=fun x y G Q=>match x,y with
 | .int i,.int j=>Q (.bl (f i j)) G
 | .str i,.str j=>Q (.bl (g i j)) G
 | _,_=>False
theorem ZrY {f:Int→Int→Bool} {g:Str→Str→Bool}:RW2.M (Zgm f g):=fun x y G Q Q' h q=>by
 cases x <;> cases y <;> first | exact q | exact h _ _ q
theorem ZnW {f:Int→Int→Bool} {g:Str→Str→Bool}:UpW K (Zgm f g) (fun x y H Q=>rI0 (fun i j=>.bl (f i j)) x y H Q∨∃ i j,x=.str i∧y=.str j∧Q (.bl (g i j)) H):=fun x y v u G H Q tx ty r q=>by
 cases tx with
 | int i=>cases ty <;> first | exact q.elim | exact .inl ⟨_,_,rfl,rfl,q _ H .refl (.bl _) r⟩
 | str i=>cases ty <;> first | exact q.elim | exact .inr ⟨_,_,rfl,rfl,q _ H .refl (.bl _) r⟩
 | _=>exact q.elim
theorem ZnU {X:Cx}:OpR X (compareOp .LtE) (fun x y H Q=>∃ i j,x=.str i∧y=.str j∧Q (.bl (!ZaP j i)) H):=by
 intro pins s σ H x y v u Q I rx ry h
 obtain ⟨i,j,rfl,rfl,q⟩:=h
 obtain ⟨t,rfl⟩:=rx
 obtain ⟨t',rfl⟩:=ry
 exact PySem.P.le_str ⟨.bl _,H,I,rfl,q⟩
theorem Zps {X:Cx}:Cop X .Lt (Zgm (fun i j=>decide (i < j)) ZaP):=⟨⟨_,OpR.or Zxh ZoI,ZnW⟩,ZrY⟩
theorem Zmg {X:Cx}:Cop X .LtE (Zgm (fun i j=>decide (i≤j)) (fun a b=>!ZaP b a)):=⟨⟨_,OpR.or ZwT ZnU,ZnW⟩,ZrY⟩
theorem ZiO {X:Cx}:Cop X .Gt (Zf4 fun i j=>decide (j < i)):=⟨⟨_,Zxa,Zn6⟩,ZrX⟩
theorem ZuI {X:Cx}:Cop X .GtE (Zf4 fun i j=>decide (j≤i)):=⟨⟨_,Zxl,Zn6⟩,ZrX⟩
theorem Zch {X:Cx} (hu:X.A.units+100 < cLine):Cop X .Eq (Zan (eqF false)):=⟨⟨_,ZuQ hu,ZrC false⟩,ZeG⟩
theorem Zdc {X:Cx} (hu:X.A.units+100 < cLine):Cop X .NotEq (Zan (eqF true)):=⟨⟨_,ZvA hu,ZrC true⟩,ZeG⟩
theorem ZjU {X:Cx}:Cop X .In (Zan (inF false)):=⟨⟨_,Zoa,ZrM false⟩,ZeG⟩
theorem Zr8 {X:Cx}:Cop X .NotIn (Zan (inF true)):=⟨⟨_,ZkN,ZrM true⟩,ZeG⟩
section
variable {X:Cx} {op op':CmpOp} {r r':RW2} {a b c e:Expr} {es:List Expr} {pos:Pos} {ga gb gc:GE}
theorem ZdM (C:Cop X op r) (hm:behindInMarks op b=false) (ha:Em X a ga) (hb:Em X b gb):Em X (.Compare a [op] [b] pos) (Zak r ga gb) :=
 let ⟨_,h1,h2⟩:=C.ex
 ⟨Zvl h1 C.m ha.m hb.m h2 ha.p hb.p hm,Zet C.m ha.m hb.m⟩
theorem ZaD (C:Cop X op r) (hm:behindInMarks op b=false) (ha:Em X a ga) (hb:Em X b gb):Tm X (.Compare a [op] [b] pos) (gTB (Zak r ga gb)) :=
 let ⟨_,h1,h2⟩:=C.ex
 ⟨Zv8 h1 C.m ha.m hb.m h2 ha.p hb.p hm,Zur (Zet C.m ha.m hb.m)⟩
def Zcu (r r':RW2) (ga gb gc:GE):GE:=fun ω G Q=>ga ω G fun x G1=>gb ω G1 fun y G2=>r x y G2 fun z G3=>match z with
 | .bl k=>if k=true then gc ω G3 fun w G4=>r' y w G4 Q else Q (.bl false) G3
 | _=>False
theorem Zi3 (mr:r.M) (mr':r'.M) (ma:ga.M) (mb:gb.M) (mc:gc.M):GE.M (Zcu r r' ga gb gc):=fun ω G Q Q' h q =>
 ma _ _ _ _ (fun x G1 z=>mb _ _ _ _ (fun y G2 z=>mr _ _ _ _ _ (fun z1 G3 z=>by
  cases z1 with
  | bl k =>
   cases k with
   | true=>exact mc _ _ _ _ (fun w G4 z=>mr' _ _ _ _ _ h z) z
   | false=>exact h _ _ z
  | _=>exact z) z) z) q
theorem ZlP {r2 r2':R2} (u:UpW K r r2) (u':UpW K r' r2') (mr:r.M) (mr':r'.M) (ma:ga.M) (mb:gb.M) (mc:gc.M) (σ:St) (H:Hp) (Q:VK) (h:up K (Zcu r r' ga gb gc) σ H Q):Zpy r2 r2' (up K ga) (up K gb) (up K gc) σ H Q:=by
 obtain ⟨ω,G,ts,rh,q⟩:=h
 refine ⟨ω,G,ts,rh,ma _ _ _ _ (fun x G1 z1 v H1 m1 tx r1=>⟨ω,G1,ts.mono m1,r1,mb _ _ _ _ (fun y G2 z2 v2 H2 m2 ty r2=>?_) z1⟩) q⟩
 refine u x y v v2 G2 H2 _ (tx.mono m2) ty r2 (mr _ _ _ _ _ (fun k G3 z3 v3 H3 m3 tk r3=>?_) z2)
 cases k with
 | bl k =>
  refine ⟨k,ZmX tk,?_⟩
  cases k with
  | true =>
   rw [if_pos rfl]
   refine ⟨ω,G3,((ts.mono m1).mono m2).mono m3,r3,mc _ _ _ _ (fun w G4 z4 v4 H4 m4 tw r4=>?_) z3⟩
   exact u' y w v2 v4 G4 H4 Q ((ty.mono m3).mono m4) tw r4 (mr' _ _ _ _ _ (fun w5 G5 z5=>ZcJ (((m1.trans m2).trans m3).trans m4) z5) z4)
  | false =>
   rw [if_neg Bool.false_ne_true]
   exact z3 _ H3 ((m1.trans m2).trans m3) (.bl false) r3
 | _=>exact z3.elim
theorem Zp1 (C:Cop X op r) (C':Cop X op' r') (hm:lastMarks [op,op'] [b,c]=false) (ha:Em X a ga) (hb:Em X b gb) (hc:Em X c gc):Em X (.Compare a [op,op'] [b,c] pos) (Zcu r r' ga gb gc) :=
 let ⟨_,h1,h2⟩:=C.ex
 let ⟨_,h3,h4⟩:=C'.ex
 ⟨Zbi (Zp5 h1 h3 ha.p hb.p hc.p hm) (ZlP h2 h4 C.m C'.m ha.m hb.m hc.m),Zi3 C.m C'.m ha.m hb.m hc.m⟩
theorem ZqD (C:Cop X op r) (C':Cop X op' r') (hm:lastMarks [op,op'] [b,c]=false) (ha:Em X a ga) (hb:Em X b gb) (hc:Em X c gc):Tm X (.Compare a [op,op'] [b,c] pos) (gTB (Zcu r r' ga gb gc)) :=
 let ⟨_,h1,h2⟩:=C.ex
 let ⟨_,h3,h4⟩:=C'.ex
 ⟨ZlK (ZqB h1 h3 ha.p hb.p hc.p hm) fun σ H Q z=>ZlP h2 h4 C.m C'.m ha.m hb.m hc.m σ H _ (ZuB (Zi3 C.m C'.m ha.m hb.m hc.m) z),Zur (Zi3 C.m C'.m ha.m hb.m hc.m)⟩
end
abbrev UpC (K:PySem.W.Frag) (r:RWc) (r1:List V→Hp→VK→Prop):Prop:=∀ ws vs G H Q,TrL K H vs ws→RelH K H G→r ws G (dn K H Q)→r1 vs H Q
structure Blt (X:Cx) (f:Value) (r:RWc):Prop where
 ex:∃ r1,CallR X f r1∧UpC X.K r r1
 m:r.M
section
variable {X:Cx} {x:Str} {p pos:Pos} {e:Expr} {es:List Expr} {gs:GA} {r:RWc} {id T:String}
theorem Zg8 (hv:bootBuiltins x=some (.builtin id)) (B:Blt X (.builtin id) r) (hg:Gl X x) (hm:X.mg x=none) (hn:x≠"__name__") (hdb:(x==("__debug__":Str))=false)
  (he:starEach (e::es) X.env=(false,eval e X.env)::starEach es X.env) (hpl:(backTo pos (starEach es X.env)).any (·.1)=false) (ha:Am X (e::es) gs):Em X (.Call (.Name x p) (e::es) [] pos) (gB r gs) :=
 let ⟨_,h1,h2⟩:=B.ex
 ZvR h1 B.m h2 hg hm hv hn hdb he hpl ha
theorem Zh3 (hv:bootBuiltins x=some (.type T)) (B:Blt X (.type T) r) (hg:Gl X x) (hm:X.mg x=none) (hn:x≠"__name__") (hdb:(x==("__debug__":Str))=false)
  (he:starEach (e::es) X.env=(false,eval e X.env)::starEach es X.env) (hpl:(backTo pos (starEach es X.env)).any (·.1)=false) (ha:Am X (e::es) gs):Em X (.Call (.Name x p) (e::es) [] pos) (gB r gs) :=
 let ⟨_,h1,h2⟩:=B.ex
 Zt8 h1 B.m h2 hg hm hv hn hdb he hpl ha
end
theorem Zfg {X:Cx}:Blt X (.builtin "len") (rF ZgK):=⟨⟨_,ZqU,ZsF⟩,Zwu⟩
theorem Zjp {X:Cx} (hc:X.calm=true):Blt X (.builtin "all") (rF Zic):=⟨⟨_,ZnD hc,ZsD⟩,Zwu⟩
def Znf:RWc:=fun ws G Q=>match ws with
 | [w]=>(match ZkX G w with | some xs=>∀ p,G p=none→Q (.ref p) (put G p (.lst xs)) | none=>False)
 | _=>False
theorem Ztz:RWc.M Znf:=fun ws G Q Q' h q=>by
 unfold Znf at q ⊢
 split at q
 ·split at q
  ·exact fun p hp=>h _ _ (q p hp)
  ·exact q.elim
 ·exact q.elim
theorem ZpU:UpC K Znf (fun xs H Q=>∃ p ys,xs=[.ref p]∧(SqL K H p ys∨SqT K H p ys)∧∀ l,H l=none→Q (.ref l) (upd H l (.lst ys))):=fun ws vs G H Q t r q=>by
 unfold Znf at q
 split at q
 ·rename_i w0
  split at q
  ·rename_i xs e
   cases t with
   | cons tw t =>
    cases t
    obtain ⟨a,us,rfl,hq,l⟩:=Zjb r tw e
    exact ⟨a,us,rfl,hq,fun p hp=>q p (r.no hp) _ _ (Mono.new hp _) (.ref p) (r.new hp l)⟩
  ·exact q.elim
 ·exact q.elim
theorem Zp4 {X:Cx}:Blt X (.type "list") Znf:=⟨⟨_,Zku,ZpU⟩,Ztz⟩
def Zhj (ws:List W) (G:Hw):Option W:=match ws with | [w]=>(ZkX G w).map W.tup | _=>none
theorem ZsP:UpC K (rF Zhj) (fun xs H Q=>∃ p ys,xs=[.ref p]∧((SqL K H p ys∧∀ l,H l=none→Q (.ref l) (upd H l (.tup ys)))∨(SqT K H p ys∧Q (.ref p) H))):=fun ws vs G H Q t r q=>by
 obtain ⟨w,e,q'⟩:=Zeg q
 unfold Zhj at e
 split at e
 ·obtain ⟨xs,e1,e2⟩:=Option.map_eq_some_iff.mp e
  subst e2
  cases t with
  | cons tw t =>
   cases t
   obtain ⟨a,us,rfl,hq,l⟩:=Zjb r tw e1
   rcases hq with hq | hq
   ·exact ⟨a,us,rfl,.inl ⟨hq,fun p hp=>q' _ _ (Mono.new hp _) (.tup (SqT.of Zbj) (l.mono (Mono.new hp _))) (r.mono0 hp)⟩⟩
   ·exact ⟨a,us,rfl,.inr ⟨hq,q' _ H .refl (.tup hq l) r⟩⟩
 ·cases e
theorem Zev {X:Cx}:Blt X (.type "tuple") (rF Zhj):=⟨⟨_,Zjq,ZsP⟩,Zwu⟩
def Zk2 (ws:List W) (_:Hw):Option W:=match ws with | [.int i]=>some (.int i) | [.bl k]=>some (.int (if k then 1 else 0)) | _=>none
theorem Zsc:UpC K (rF Zk2) (fun xs H Q=>(∃ i,xs=[.int i]∧Q (.int i) H)∨∃ k,xs=[.bl k]∧Q (.int (if k then 1 else 0)) H):=fun ws vs G H Q t r q=>by
 obtain ⟨w,e,q'⟩:=Zeg q
 unfold Zk2 at e
 split at e
 ·cases e
  cases t with
  | cons tw t=>cases t;cases tw;exact .inl ⟨_,rfl,q' _ H .refl (.int _) r⟩
 ·cases e
  cases t with
  | cons tw t=>cases t;cases tw;exact .inr ⟨_,rfl,q' _ H .refl (.int _) r⟩
 ·cases e
theorem Zlf {X:Cx}:Blt X (.type "int") (rF Zk2):=⟨⟨_,Zpu,Zsc⟩,Zwu⟩
structure Mth (X:Cx) (T:String) (name:Str) (id:String) (pre:W→Hw→Prop) (r:W→List W→Hw→Kw→Prop):Prop where
 pa:PlainAttrs T
 slot:Slot T name id
 ty:typeOf (.builtin id)=pure (.type "method_descriptor")
 ex:∃ r2,MtR X id r2∧∀ (o:W) (ws:List W) (v:V) (vs:List V) (G:Hw) (H:Hp) (Q:VK),Tr X.K H v o→TrL X.K H vs ws→RelH X.K H G→r o ws G (dn X.K H Q)→r2 v vs H Q
 pr:∀ (o:W) (v:V) (G:Hw) (H:Hp),Tr X.K H v o→RelH X.K H G→pre o G→tyV X.K T v H
 m:∀ o ws G (Q Q':Kw),(∀ w G',Q w G'→Q' w G')→r o ws G Q→r o ws G Q'
def gMt (pre:W→Hw→Prop) (r:W→List W→Hw→Kw→Prop) (go:GE) (gs:GA):GE:=fun ω G Q=>go ω G fun o G1=>pre o G1∧gs ω G1 fun ws G2=>r o ws G2 Q
section
variable {X:Cx} {o e:Expr} {es:List Expr} {go:GE} {gs:GA} {name:Str} {apos cpos:Pos} {T id:String} {pre:W→Hw→Prop} {r:W→List W→Hw→Kw→Prop}
theorem Zih (M:Mth X T name id pre r) (hbase:attributeBase o name X.env (eval o X.env)=eval o X.env)
  (hfew:((backTo cpos (starEach (e::es) X.env)).all (fun x=>!x.1)&&(backToKw cpos (keywordEach [] X.env)).all (fun x=>x.1.isSome)&&decide ((e::es).length+([]:List Keyword).length+(if ([]:List Keyword).isEmpty then 0 else 1) < 30))=true)
  (hline:(apos.endLine==cpos.line)=true) (hs:starEach (e::es) X.env=(false,eval e X.env)::starEach es X.env) (hplain:(backTo cpos (starEach es X.env)).any (·.1)=false) (ho:Em X o go) (ha:Am X (e::es) gs) :
  Em X (.Call (.Attribute o name apos) (e::es) [] cpos) (gMt pre r go gs) :=
 let ⟨_,h1,h2⟩:=M.ex
 ⟨Zbi (Zxq M.pa M.slot M.ty h1 ho.p ha.p hbase hfew hline hs hplain) fun σ H Q ⟨ω,G,ts,rh,q⟩=>⟨ω,G,ts,rh,ho.m _ _ _ _ (fun ow G1 z v H1 m1 tv r1=>⟨M.pr ow v G1 H1 tv r1 z.1,
   ω,G1,ts.mono m1,r1,ha.m _ _ _ _ (fun ws G2 z2 vs H2 m2 tvs r2=>h2 ow ws v vs G2 H2 Q (tv.mono m2) tvs r2 (M.m _ _ _ _ _ (fun w G' y=>ZcJ (m1.trans m2) y) z2)) z.2⟩) q⟩,
  fun ω G Q Q' h q=>ho.m _ _ _ _ (fun ow G1 z=>⟨z.1,ha.m _ _ _ _ (fun ws G2 z2=>M.m _ _ _ _ _ h z2) z.2⟩) q⟩
end
def Zfb (o:W) (G:Hw):Prop:=∃ xs,Zh0 G o=some xs
theorem Zi7 {o:W} {v:V} {G:Hw} (t:Tr K H v o) (r:RelH K H G) (h:Zfb o G):tyV K "list" v H:=by
 obtain ⟨xs,e⟩:=h
 obtain ⟨a,vs,rfl,_,_,e1,_⟩:=ZeR r t e
 exact .inl ⟨rfl,_,SqL.of e1⟩
def ZrN (o:W) (G:Hw) (f:List W→Option (List W)) (Q:Kw):Prop:=match o with
 | .ref a=>(match G a with | some (.lst xs)=>(match f xs with | some ys=>Q .non (put G a (.lst ys)) | none=>False) | _=>False)
 | _=>False
theorem Zlx {o:W} {G:Hw} {f:List W→Option (List W)} {Q:Kw} (q:ZrN o G f Q):∃ a xs ys,o=.ref a∧G a=some (.lst xs)∧f xs=some ys∧Q .non (put G a (.lst ys)):=by
 unfold ZrN at q
 split at q
 ·split at q
  ·rename_i xs e
   split at q
   ·rename_i ys e2;exact ⟨_,xs,ys,rfl,e,e2,q⟩
   ·exact q.elim
  ·exact q.elim
 ·exact q.elim
theorem Zlz {G:Hw} {f:List W→Option (List W)} {Q:Kw} {a:Addr} {xs ys:List W} (e:G a=some (.lst xs)) (e2:f xs=some ys) (q:Q .non (put G a (.lst ys))):ZrN (.ref a) G f Q:=by
 unfold ZrN
 dsimp only
 rw [e]
 dsimp only
 rw [e2]
 exact q
theorem Zr3 {o:W} {G:Hw} {f:List W→Option (List W)} {Q Q':Kw} (h:∀ w G',Q w G'→Q' w G') (q:ZrN o G f Q):ZrN o G f Q':=by
 obtain ⟨a,xs,ys,rfl,e,e2,q⟩:=Zlx q
 exact Zlz e e2 (h _ _ q)
def Zpb (o:W) (ws:List W) (G:Hw) (Q:Kw):Prop:=match ws with
 | [y]=>ZrN o G (fun xs=>if xs.length < sizeLine then some (xs++[y]) else none) Q
 | _=>False
theorem Zgd {X:Cx}:Mth X "list" "append" "list.append" Zfb Zpb where
 pa:=PySem.F.plainAttrs_list
 slot:=PySem.F.slot_list_append
 ty:=PySem.F.type_list_append
 ex:=⟨_,Znp,fun o ws v vs G H Q tv tvs r q=>by
  unfold Zpb at q
  split at q
  ·obtain ⟨a,xs,ys,rfl,e,e2,q⟩:=Zlx q
   split at e2
   ·rename_i hlen
    cases e2
    cases tv
    cases tvs with
    | cons ty t =>
     cases t
     obtain ⟨us,e1,l⟩:=r a _ e
     exact ⟨a,us,_,rfl,rfl,e1,by rw [l.length];exact hlen,q _ _ (Mono.lst e1 _) .non (r.chg e1 (l.append (.cons ty .nil)))⟩
   ·cases e2
  ·exact q.elim⟩
 pr:=fun o v G H t r h=>Zi7 t r h
 m:=fun o ws G Q Q' h q=>by
  unfold Zpb at q ⊢
  split at q
  ·exact Zr3 h q
  ·exact q.elim
def ZsT (o:W) (ws:List W) (G:Hw) (Q:Kw):Prop:=match ws with
 | [y]=>ZrN o G (fun xs=>(Zh0 G y).bind fun zs=>if xs.length+zs.length≤sizeLine then some (xs++zs) else none) Q
 | _=>False
theorem Zne {X:Cx}:Mth X "list" "extend" "list.extend" Zfb ZsT where
 pa:=PySem.F.plainAttrs_list
 slot:=PySem.F.slot_list_extend
 ty:=PySem.F.type_list_extend
 ex:=⟨_,ZoJ,fun o ws v vs G H Q tv tvs r q=>by
  unfold ZsT at q
  split at q
  ·obtain ⟨a,xs,ys,rfl,e,e2,q⟩:=Zlx q
   obtain ⟨zs,e3,e4⟩:=Option.bind_eq_some_iff.mp e2
   split at e4
   ·rename_i hlen
    cases e4
    cases tv
    cases tvs with
    | cons ty t =>
     cases t
     obtain ⟨us,e1,l⟩:=r a _ e
     obtain ⟨b,ws',rfl,_,_,e5,l5⟩:=ZeR r ty e3
     exact ⟨a,b,us,ws',rfl,rfl,e1,e5,by rw [l.length,l5.length];exact hlen,q _ _ (Mono.lst e1 _) .non (r.chg e1 (l.append l5))⟩
   ·cases e4
  ·exact q.elim⟩
 pr:=fun o v G H t r h=>Zi7 t r h
 m:=fun o ws G Q Q' h q=>by
  unfold ZsT at q ⊢
  split at q
  ·exact Zr3 h q
  ·exact q.elim
end L3
namespace L3
open PySem PySem.Spec PyProof.Rows L2
variable {K:PySem.W.Frag} {H H' H2:Hp}
section
variable {P:Program} {w:World} {mg:Str→Option Value} {base:Heap} {N:List Str} {qual:Str} {scope:Scope} {f:Addr} {cd:Value} {A:Around} {outer:List Env} {s:Shared} {E:XK} {Pb:Hp→Prop}
end
section
variable {X:Cx} {e:Expr} {es:List Expr} {pos p:Pos} {gs:GA}
end
def tyN (w:W) (G:Hw):Option String:=match w with
 | .non=>some "NoneType"
 | .bl _=>some "bool"
 | .int _=>some "int"
 | .str _=>some "str"
 | .tup _=>some "tuple"
 | .rol _=>some "list"
 | .ref a=>(match G a with | some (.lst _)=>some "list" | _=>none)
def Znt (n T:String):Bool:=n==T||(n=="bool"&&T=="int")
theorem Zfl {n T:String} (hn:n∈["NoneType","bool","int","str","tuple","list"]) (hT:T∈["tuple","list","str","int","bool","dict"]):PySem.W.kitOne K (.type n) (.type T)=some (Znt n T):=by
 simp only [List.mem_cons,List.not_mem_nil,or_false] at hn hT
 rcases hn with rfl | rfl | rfl | rfl | rfl | rfl <;> rcases hT with rfl | rfl | rfl | rfl | rfl | rfl <;> kernel_rfl
def Zc5 (T:String) (ge:GE):GE:=fun ω G Q=>ge ω G fun w G1=>match tyN w G1 with | some n=>Q (.bl (Znt n T)) G1 | none=>False
theorem Zsw {T:String} {ge:GE} (m:ge.M):GE.M (Zc5 T ge):=fun ω G Q Q' h q=>m _ _ _ _ (fun w G1 z=>by
 cases e:tyN w G1 with
 | none=>rw [e] at z;exact z
 | some n=>rw [e] at z;exact h _ _ z) q
theorem ZuU {X:Cx} {pins:List (Addr×Obj)} {σ:St} {s:Shared} {v:V} {u:Value} {w:W} {G:Hw} {n T:String} {Q:Value→Shared→Prop} {E:Value→Shared→Prop} (I:Inv X pins σ H s) (rv:RelV v u) (t:Tr X.K H v w) (r:RelH X.K H G) (e:tyN w G=some n)
  (hT:T∈["tuple","list","str","int","bool","dict"]) (h:∀ tk,Q (.bool (Znt n T)) { s with toks:=tk }):wpAny (model X.prog X.w) X.A (call (.builtin "isinstance") [u,.type T]) Q E s:=by
 cases t with
 | non=>cases e;cases (show u=Value.none from rv);exact PySem.W.kia_one PySem.W.kitx_none I.kIn True.intro (Zfl (by simp) hT) (fun z=>nomatch z) h
 | bl y=>cases e;cases (show u=Value.bool y from rv);exact PySem.W.kia_one PySem.W.kitx_bool I.kIn True.intro (Zfl (by simp) hT) (fun z=>nomatch z) h
 | int i=>cases e;obtain ⟨t,rfl⟩:=rv;exact PySem.W.kia_one PySem.W.kitx_int I.kIn True.intro (Zfl (by simp) hT) (fun z=>nomatch z) h
 | str y=>cases e;obtain ⟨t,rfl⟩:=rv;exact PySem.W.kia_one PySem.W.kitx_str I.kIn True.intro (Zfl (by simp) hT) (fun z=>nomatch z) h
 | tup hq l =>
  cases e
  cases rv
  obtain ⟨its,_,p,_⟩:=I.tuple hq
  obtain ⟨o,h1,h2,_⟩:=p
  exact PySem.W.kia_one PySem.W.kitx_tuple I.kIn ⟨o,h1,h2⟩ (Zfl (by simp) hT) (fun z=>nomatch z) h
 | rol hq l =>
  cases e
  cases rv
  obtain ⟨its,_,p,_⟩:=I.list hq.sq
  obtain ⟨o,h1,h2,_⟩:=p.isList
  exact PySem.W.kia_one PySem.W.kitx_list I.kIn ⟨o,h1,h2⟩ (Zfl (by simp) hT) (fun z=>nomatch z) h
 | ref a =>
  unfold tyN at e
  dsimp only at e
  cases ea:G a with
  | none=>rw [ea] at e;cases e
  | some o =>
   rw [ea] at e
   cases o with
   | exc C=>cases e
   | ins C fs=>cases e
   | dct kvs=>cases e
   | lst xs =>
    cases e
    cases rv
    obtain ⟨vs,e1,_⟩:=r a _ ea
    obtain ⟨its,_,p,_⟩:=I.list (SqL.of e1)
    obtain ⟨o,h1,h2,_⟩:=p.isList
    exact PySem.W.kia_one PySem.W.kitx_list I.kIn ⟨o,h1,h2⟩ (Zfl (by simp) hT) (fun z=>nomatch z) h
theorem ZqM:bootBuiltins "isinstance"=some (.builtin "isinstance"):=by decide +kernel
section
variable {X:Cx} {e:Expr} {p pc pos:Pos} {ge:GE}
theorem Zfc {c:Str} {T:String} (hT:T∈["tuple","list","str","int","bool","dict"]) (hv:bootBuiltins c=some (.type T)) (hmc:X.mg c=none) (hmi:X.mg "isinstance"=none) (hgi:Gl X "isinstance") (hgc:Gl X c) (hn:c≠"__name__") (hd:(c==("__debug__":Str))=false)
  (he:starEach [e,.Name c pc] X.env=[(false,eval e X.env),(false,eval (.Name c pc) X.env)]) (he2:starEach [.Name c pc] X.env=[(false,eval (.Name c pc) X.env)]) (h:Em X e ge):Em X (.Call (.Name "isinstance" p) [e,.Name c pc] [] pos) (Zc5 T ge):=by
 refine ⟨fun pins s σ H Q I zz3=>?_,Zsw h.m⟩
 obtain ⟨ω,G,ts,r,q⟩:=zz3
 have pa:PA X [e,.Name c pc] (ZpT (up X.K ge) (ZpT (tC (.ty T)) Zxu)):=Zjj h.p (Zjj (ZsI hgc hmc hv rfl hn hd) Zov (by rw [he2];rfl)) (by rw [he,he2])
 refine wpAny_Call_Name_kw (Zdp I hgi hmi ZqM ?_ (by decide) (by decide))
 refine PyProof.Rows.callWith_builtin1 (thn (pa pos pins s σ H (fun vs H1=>∃ v w G1 n,vs=[v,.ty T]∧Tr X.K H1 v w∧RelH X.K H1 G1∧tyN w G1=some n∧Q (.bl (Znt n T)) H1) I ?_) fun us s1 ⟨vs,H1,I1,r1,v,w,G1,n,e1,tv,rr,ey,qq⟩=>?_) (by rw [he,he2]) (by rw [he2];rfl)
 ·refine ⟨ω,G,ts,r,h.m _ _ _ _ (fun w G1 z v H1 m t r1=>?_) q⟩
  cases ey:tyN w G1 with
  | none=>rw [ey] at z;exact z.elim
  | some n=>rw [ey] at z;exact ⟨v,w,G1,n,rfl,t,r1,ey,z _ H1 m (.bl _) r1⟩
 ·subst e1
  obtain ⟨u,u2,rfl,rv,rt⟩:=Zvd r1
  cases rt
  exact ZuU I1 rv tv rr ey hT fun tk=>⟨.bl _,H1,I1.tok tk,rfl,qq⟩
end
structure Zx5 (K:PySem.W.Frag) (C:Addr):Prop where
 ga:PySem.W.findIn K (.ref C) "__getattribute__"=some (some (.builtin "BaseException.__getattribute__"))
 gh:PySem.W.findIn K (.ref C) "__getattr__"=some none
 cl:(PySem.W.clsIn K C).isSome=true
 fc:PySem.W.findIn K (.ref C) "__class__"=some (some (.builtin "object.__class__"))
 sp:PySem.W.specialIn K (.builtin "object.__class__") "__get__"=some (some (.builtin "getset_descriptor.__get__"))
 tk:PySem.W.takesIn K (.builtin "object.__class__")=some true
 mr:PySem.W.mroIn K C (.type "object")=some true
 mb:PySem.W.mroIn K C (.type "BaseException")=some true
end L3
set_option Elab.async false
set_option linter.all false
set_option maxRecDepth 100000
set_option maxHeartbeats 2000000
namespace L3
open PySem PySem.W PySem.Spec PySem.Calls PyProof.Rows PySem.Builtin PySem.Builtin.ObjectAttr PySem.Builtin.Getset_descriptor
section
variable {prog:Program} {w:World} {A:Around} {E:Value→Shared→Prop} {s:Shared} {K:Frag} {x C:Addr} {name:Str}
end
end L3
namespace L3
open PySem PySem.Spec PyProof.Rows L2
variable {K:PySem.W.Frag} {H H' H2:Hp}
def Zx3 (K:PySem.W.Frag) (cv:Value) (ge:GE):GE:=fun ω G Q=>ge ω G fun w G1=>match w with
 | .ref a=>(match G1 a with | some (.exc C)=>∃ b,Zx5 K C∧PySem.W.kitOne K (.ref C) cv=some b∧Q (.bl b) G1 | _=>False)
 | _=>False
section
variable {X:Cx} {e:Expr} {p pc pos:Pos} {ge:GE}
end
def Zhx (gs:GA):GI:=fun ω G R=>gs ω G fun ws G1=>match ws with
 | [.int j]=>-(2 ^ 62)≤j∧j < 2 ^ 62∧R ((List.range j.toNat).map fun i:Nat=>W.int i) yes G1
 | _=>False
theorem Inv.turneds {X:Cx} {pins:List (Addr×Obj)} {σ:St} {s:Shared} {h':Heap} {t':Nat} {fp:List Addr} (I:Inv X pins σ H s) (hf:∀ b∈fp,Zpr X pins H b) (k:∀ b o,b∉fp→s.heap.get? b=some o→h'.get? b=some o):Inv X pins σ H { s with heap:=h',toks:=t' }:=by
 have nit:∀ b u,H b=some u→b∉fp:=fun b u e z=>by rw [(hf b z).1] at e;cases e
 refine I.step (g':=s.gens) (d':=s.drawn) (ch:=fp) (fun b hb=>⟨(hf b hb).2.2.2.1,(hf b hb).2.1,(hf b hb).2.2.2.2.1,(hf b hb).2.2.2.2.2⟩) (fun b o _ _ hc e _=>k b o hc e) (fun b o _ _ hc e _=>⟨o.slots,k b o hc e⟩) (fun _ _ _ _ n=>n)
  (fun b o hc e=>⟨o,k b o hc e⟩) (fun _ _ e=>e) (fun _ _ _ e=>e) (fun b ps e=>⟨#[],by rw [e];simp⟩) (fun m hm=>?_) (fun b u e=>?_) I.bare
 ·obtain ⟨o,es,ep,ho,r⟩:=hm
  exact ⟨o,es,ep,k _ o (fun z=>(hf _ z).2.1 rfl) ho,r⟩
 ·refine (I.hok b u e).stay (fun c v hc q=>k c v ?_ q) (fun _ q=>q) fun _ _ q=>q
  rcases hc with z | z
  ·rw [z];exact nit b u e
  ·exact nit c _ z
def Itz (K:PySem.W.Frag) (l1 l2:Addr):It :=
 ⟨fun i H=>∃ xs ys,SqL K H l1 xs∧SqL K H l2 ys∧i < xs.length∧i < ys.length,
  fun i H v H'=>∃ T x y,H T=none∧v=.ref T∧H'=upd H T (.tup [x,y])∧∀ xs ys,SqL K H l1 xs→SqL K H l2 ys→xs[i]?=some x∧ys[i]?=some y,
  fun i H=>∃ xs ys,SqL K H l1 xs∧SqL K H l2 ys∧i=min xs.length ys.length⟩
theorem Zrc {P:Program} {w:World} {elts:List Expr} {k:Nat} {tpos:Pos} {z TI TO i1 i2 l1 l2:Addr} (D:ZipApart z TI TO i1 i2 l1 l2) :
  Zp6 P w K (.Tuple elts k tpos) (Itz K l1 l2) [z,TI,TO,i1,i2] z (fun i h=>IsZip h z TI TO .none∧IsPair h TI (.ref i1) (.ref i2)∧(∃ a b,IsPair h TO a b)∧h.IsListIter i1 l1 i∧h.IsListIter i2 l2 i) where
 mem:=by simp
 obj:=fun i h st b hb=>by
  obtain ⟨hz,hTI,⟨a,c,hTO⟩,⟨o1,e1,_,d1⟩,⟨o2,e2,_,d2⟩⟩:=st
  simp only [List.mem_cons,List.not_mem_nil,or_false] at hb
  rcases hb with rfl | rfl | rfl | rfl | rfl
  ·exact ⟨_,hz,fun v z=>by cases z⟩
  ·exact ⟨_,hTI,fun v z=>by cases z⟩
  ·exact ⟨_,hTO,fun v z=>by cases z⟩
  ·exact ⟨o1,e1,fun v z=>by rw [d1] at z;cases z⟩
  ·exact ⟨o2,e2,fun v z=>by rw [d2] at z;cases z⟩
 keep:=fun i h h' st kk=>by
  obtain ⟨hz,hTI,⟨a,c,hTO⟩,h1,h2⟩:=st
  exact ⟨kk z (by simp) _ hz,kk TI (by simp) _ hTI,⟨a,c,kk TO (by simp) _ hTO⟩,h1.at fun o e=>kk i1 (by simp) o e,h2.at fun o e=>kk i2 (by simp) o e⟩
 item:=by
  intro X hP hw hK hc i pins s σ H E I hf st hg
  subst hP hw hK
  obtain ⟨xs,ys,hx,hy,hix,hiy⟩:=hg
  obtain ⟨its1,r1,pl1,z1⟩:=I.list hx
  obtain ⟨its2,r2,pl2,z2⟩:=I.list hy
  have n1:=r1.length
  have n2:=r2.length
  obtain ⟨hz,hTI,hTO,h1,h2⟩:=st
  have Wk:=WalksT.zip2 (prog:=X.prog) (w:=X.w) (A:=X.A) (I.ok.hd hc) z TI TO i1 i2 l1 l2 D its1.toArray its2.toArray
  refine Wk.item i s _ _ (by simp only [List.size_toArray];omega) ⟨hz,hTI,hTO,h1,h2,pl1.isList,pl2.isList⟩ fun T vals h' tk hPt hT hTup hMid hk=>⟨.ref T,rfl,?_⟩
  refine Wk.go elts k tpos i T _ _ _ hMid fun h2' st2 hk2=>?_
  obtain ⟨v1,v2,g1,g2,rfl⟩:=hPt
  have g1':its1[i]?=some v1:=by simpa using g1
  have g2':its2[i]?=some v2:=by simpa using g2
  have gx:xs[i]?=some xs[i]:=List.getElem?_eq_getElem hix
  have gy:ys[i]?=some ys[i]:=List.getElem?_eq_getElem hiy
  obtain ⟨u1,q1,rv1⟩:=r1.get gx
  obtain ⟨u2,q2,rv2⟩:=r2.get gy
  rw [g1'] at q1;cases q1
  rw [g2'] at q2;cases q2
  have hw1:∀ b,b∉[z,TI,TO,i1,i2]→b∉[z,TO,i1,i2]:=fun b hb hc=>hb (by
   simp only [List.mem_cons,List.not_mem_nil,or_false] at hc ⊢
   rcases hc with h | h | h | h <;> simp [h])
  have I1:Inv X pins σ H { s with heap:=h2',toks:=tk }:=Inv.turneds I hf fun b o hb e=>hk2 b o (hw1 b hb) (hk b o (hw1 b hb) e)
  have hTn:H T=none:=I.hok.fresh hT
  have hTup2:IsTup h2' T #[v1,v2]:=by
   obtain ⟨o,e,c,m,d⟩:=hTup
   exact ⟨o,hk2 _ _ (Wk.apart _ _ _ hMid) e,c,m,d⟩
  have lt:∀ {b:Addr} {o:Obj},s.heap.get? b=some o→b≠T:=fun e q=>absurd (Nat.lt_of_lt_of_le (Heap.lt_size e) hT) (by rw [q];exact Nat.lt_irrefl _)
  have I2:Inv X pins σ (upd H T (.tup [xs[i],ys[i]])) { s with heap:=h2',toks:=tk }:=by
   refine I1.track hTn ?_ (fun x c e=>?_) (fun p hp=>?_) ?_ ⟨by show 2≤sizeLine;decide,[v1,v2],.cons rv1 (.cons rv2 .nil),hTup2⟩
   ·obtain ⟨m,⟨o,es,ep,ho,_⟩,_⟩:=I.loc
    exact Ne.symm (lt ho)
   ·obtain ⟨v,o,ho,_⟩:=I.cell x c e
    exact lt ho
   ·exact lt (I.pin p hp).1
   ·cases e:X.s₀.heap.get? T with
    | none=>rfl
    | some o=>exact absurd (Nat.lt_of_lt_of_le (Heap.lt_size e) (Nat.le_trans I.sz hT)) (Nat.lt_irrefl _)
  refine ⟨.ref T,_,I2,rfl,⟨T,_,_,hTn,rfl,rfl,fun xs' ys' hx' hy'=>?_⟩,⟨st2.1,st2.2.1,st2.2.2.1,st2.2.2.2.1,st2.2.2.2.2.1⟩,fun b hb=>?_⟩
  ·rw [I.list_inj hx' hx,I.list_inj hy' hy];exact ⟨gx,gy⟩
  ·have hb':=(hf b hb).1
   have:b≠T:=by
    obtain ⟨o,e,_⟩:∃ o,s.heap.get? b=some o∧True:=by
     obtain ⟨a,c,hTO'⟩:=hTO
     obtain ⟨o1,e1,_⟩:=h1
     obtain ⟨o2,e2,_⟩:=h2
     simp only [List.mem_cons,List.not_mem_nil,or_false] at hb
     rcases hb with rfl | rfl | rfl | rfl | rfl
     ·exact ⟨_,hz,trivial⟩
     ·exact ⟨_,hTI,trivial⟩
     ·exact ⟨_,hTO',trivial⟩
     ·exact ⟨_,e1,trivial⟩
     ·exact ⟨_,e2,trivial⟩
    exact lt e
   rw [ZaT this];exact hb'
 done:=by
  intro X hP hw hK hc i pins s σ H E I hf st hg
  subst hP hw hK
  obtain ⟨xs,ys,hx,hy,hi⟩:=hg
  obtain ⟨its1,r1,pl1,z1⟩:=I.list hx
  obtain ⟨its2,r2,pl2,z2⟩:=I.list hy
  have n1:=r1.length
  have n2:=r2.length
  obtain ⟨hz,hTI,hTO,h1,h2⟩:=st
  have Wk:=WalksT.zip2 (prog:=X.prog) (w:=X.w) (A:=X.A) (I.ok.hd hc) z TI TO i1 i2 l1 l2 D its1.toArray its2.toArray
  have hi':i=min its1.toArray.size its2.toArray.size:=by simp only [List.size_toArray];omega
  subst hi'
  refine Wk.done s _ _ ⟨hz,hTI,hTO,h1,h2,pl1.isList,pl2.isList⟩ fun h' tk hk=>⟨rfl,Inv.turneds I hf fun b o hb e=>hk b o (fun hc=>hb ?_) e⟩
  simp only [List.mem_cons,List.not_mem_nil,or_false] at hc ⊢
  rcases hc with h | h | h | h <;> simp [h]
 self:=fun A i s Q E st h=>wpAny_pyIter_zip st.1 h
def Zyf (K:PySem.W.Frag) (ta:TA):TI:=fun σ H R=>ta σ H fun vs H1=>∃ a b xs ys,vs=[.ref a,.ref b]∧SqL K H1 a xs∧SqL K H1 b ys∧R (Itz K a b) H1
theorem Zvf {X:Cx} {a b:Expr} {ta:TA} {p pos tpos:Pos} {elts:List Expr} {k:Nat} (hg:Gl X "zip") (hm:X.mg "zip"=none) (ha:PA X [a,b] ta) (hs:starEach [a,b] X.env=[(false,eval a X.env),(false,eval b X.env)]) (hs2:starEach [b] X.env=[(false,eval b X.env)]) :
  PI X (.Tuple elts k tpos) (.Call (.Name "zip" p) [a,b] [] pos) (Zyf X.K ta):=by
 intro pins s σ H R I h
 refine Call_ (Zdp I hg hm boot_zip (PyProof.Rows.callWith_type1 (thn (ha pos pins s σ H _ I h) fun us s1 zz2=>?_) (by rw [hs,hs2]) (by rw [hs2];rfl)))
 obtain ⟨vs,H1,I1,r1,q1⟩:=zz2
 obtain ⟨l1,l2,xs,ys,e,hx,hy,q⟩:=q1
 subst e
 obtain ⟨u,u2,rfl,ru,ru2⟩:=Zvd r1
 cases ru
 cases ru2
 obtain ⟨its1,_,pl1,_⟩:=I1.list hx
 obtain ⟨its2,_,pl2,_⟩:=I1.list hy
 have a1:l1 < s1.heap.objs.size:=by obtain ⟨_,e,_⟩:=pl1.isList;exact Heap.lt_size e
 have a2:l2 < s1.heap.objs.size:=by obtain ⟨_,e,_⟩:=pl2.isList;exact Heap.lt_size e
 refine call_zip_2 pl1.isList pl2.isList fun h' hz hTI hTO hi1 hi2 hsz hk=>wpAny_pyIter_zip hz ?_
 refine ⟨_,_,_,_,H1,rfl,I1.kept (t':=s1.toks) hk,Zrc (zipApart_new a1 a2),⟨hz,hTI,⟨_,_,hTO⟩,hi1,hi2⟩,fun b hb=>?_,q⟩
 have hge:s1.heap.objs.size≤b:=by
  simp only [List.mem_cons,List.not_mem_nil,or_false] at hb
  rcases hb with rfl | rfl | rfl | rfl | rfl
  ·exact Nat.le_add_right _ 4
  ·exact Nat.le_add_right _ 2
  ·exact Nat.le_add_right _ 3
  ·exact Nat.le_refl _
  ·exact Nat.le_add_right _ 1
 exact I1.fpOk hge (I1.hok.fresh hge)
def rdL (G:Hw) (w:W):Option (List W):=match w with
 | .rol xs=>some xs
 | .ref a=>(match G a with | some (.lst xs)=>some xs | _=>none)
 | _=>none
theorem Zc0 {G:Hw} {w:W} {xs:List W} {v:V} (r:RelH K H G) (t:Tr K H v w) (e:rdL G w=some xs):∃ a vs,v=.ref a∧SqL K H a vs∧TrL K H vs xs:=by
 cases t with
 | rol h l=>cases e;exact ⟨_,_,rfl,h.sq,l⟩
 | ref a =>
  unfold rdL at e;dsimp only at e
  cases z:G a with
  | none=>rw [z] at e;cases e
  | some o =>
   rw [z] at e
   cases o with
   | lst ys=>cases e;obtain ⟨vs,e1,t1⟩:=r a _ z;exact ⟨a,vs,rfl,SqL.of e1,t1⟩
   | exc C=>cases e
   | ins C fs=>cases e
   | dct kvs=>cases e
 | _=>cases e
def ZmK:List W→List W→List W
 | x::xs,y::ys=>.tup [x,y]::ZmK xs ys
 | _,_=>[]
theorem Zjk:∀ (xs ys:List W),(ZmK xs ys).length=min xs.length ys.length
 | [],_=>by simp [ZmK]
 | _::_,[]=>by simp [ZmK]
 | _::xs,_::ys=>by simp only [ZmK,List.length_cons,Zjk xs ys];omega
theorem ZlR:∀ (xs ys:List W) (i:Nat) {x y:W},xs[i]?=some x→ys[i]?=some y→(ZmK xs ys)[i]?=some (.tup [x,y])
 | [],_,_,_,_,h,_=>by simp at h
 | _::_,[],_,_,_,_,h=>by simp at h
 | a::xs,b::ys,0,x,y,h,h'=>by simp at h h';subst h;subst h';rfl
 | a::xs,b::ys,i+1,x,y,h,h'=>by
  have:=ZlR xs ys i (x:=x) (y:=y) (by simpa using h) (by simpa using h')
  simpa [ZmK] using this
def ZkZ (gs:GA):GI:=fun ω G R=>gs ω G fun ws G1=>match ws with
 | [x,y]=>(match rdL G1 x,rdL G1 y with
  | some xs,some ys=>R (ZmK xs ys) (fun G=>rdL G x=some xs∧rdL G y=some ys) G1
  | _,_=>False)
 | _=>False
theorem Znz {gs:GA} {R:List W→(Hw→Prop)→Hw→Prop} {ws:List W} {G1:Hw} (z:match ws with
 | [x,y]=>(match rdL G1 x,rdL G1 y with
  | some xs,some ys=>R (ZmK xs ys) (fun G=>rdL G x=some xs∧rdL G y=some ys) G1
  | _,_=>False)
 | _=>False):∃ x y xs ys,ws=[x,y]∧rdL G1 x=some xs∧rdL G1 y=some ys∧R (ZmK xs ys) (fun G=>rdL G x=some xs∧rdL G y=some ys) G1:=by
 split at z
 ·rename_i x y
  split at z
  ·rename_i xs ys e1 e2;exact ⟨x,y,xs,ys,rfl,e1,e2,z⟩
  ·exact z.elim
 ·exact z.elim
theorem ZuR {gs:GA} (m:gs.M):GI.M (ZkZ gs):=fun ω G R R' h q=>m _ _ _ _ (fun ws G1 z=>by
 obtain ⟨x,y,xs,ys,rfl,e1,e2,z⟩:=Znz (gs:=gs) z
 dsimp only
 rw [e1,e2]
 exact h _ _ _ z) q
theorem ZuC {X:Cx} {a b:Expr} {p pos tpos:Pos} {elts:List Expr} {k:Nat} {gs:GA} (hm:X.mg "zip"=none) (hg:Gl X "zip") (hs:starEach [a,b] X.env=[(false,eval a X.env),(false,eval b X.env)]) (hs2:starEach [b] X.env=[(false,eval b X.env)]) (ha:Am X [a,b] gs) :
  Im X (.Tuple elts k tpos) (.Call (.Name "zip" p) [a,b] [] pos) (ZkZ gs):=by
 refine ⟨⟨_,Zvf hg hm ha.p hs hs2,fun σ H ω G R R0 ts r q kk=>⟨ω,G,ts,r,ha.m _ _ _ _ (fun ws G1 z vs H1 m t r1=>?_) q⟩⟩,ZuR ha.m⟩
 obtain ⟨x,y,xs,ys,rfl,e1,e2,z⟩:=Znz (gs:=gs) z
 cases t with
 | cons tx t =>
  cases t with
  | cons ty t =>
   cases t
   obtain ⟨a1,us1,rfl,hq1,l1⟩:=Zc0 r1 tx e1
   obtain ⟨a2,us2,rfl,hq2,l2⟩:=Zc0 r1 ty e2
   refine ⟨a1,a2,us1,us2,rfl,hq1,hq2,kk _ _ _ H1 _ z m r1 ⟨e1,e2⟩ ⟨fun i H3 G3 m3 r3 g3 hi=>?_,fun i H3 G3 v H4 m3 r3 g3 y3 hi=>?_,fun H3 G3 m3 r3 g3=>?_⟩⟩
   ·obtain ⟨b1,vs1,e3,h3,t3⟩:=Zc0 r3 (tx.mono m3) g3.1
    obtain ⟨b2,vs2,e4,h4,t4⟩:=Zc0 r3 (ty.mono m3) g3.2
    cases e3;cases e4
    rw [Zjk] at hi
    exact ⟨vs1,vs2,h3,h4,by rw [t3.length];omega,by rw [t4.length];omega⟩
   ·obtain ⟨b1,vs1,e3,h3,t3⟩:=Zc0 r3 (tx.mono m3) g3.1
    obtain ⟨b2,vs2,e4,h4,t4⟩:=Zc0 r3 (ty.mono m3) g3.2
    cases e3;cases e4
    obtain ⟨T,v1,v2,hT,rfl,rfl,hv⟩:=y3
    obtain ⟨g1,g2⟩:=hv _ _ h3 h4
    obtain ⟨w1,q1,tw1⟩:=t3.get' g1
    obtain ⟨w2,q2,tw2⟩:=t4.get' g2
    have mn:Mono X.K H3 (upd H3 T (.tup [v1,v2])):=Mono.new hT _
    exact ⟨mn,r3.mono0 hT,_,ZlR _ _ i q1 q2,.tup (SqT.of Zbj) (.cons (tw1.mono mn) (.cons (tw2.mono mn) .nil))⟩
   ·obtain ⟨b1,vs1,e3,h3,t3⟩:=Zc0 r3 (tx.mono m3) g3.1
    obtain ⟨b2,vs2,e4,h4,t4⟩:=Zc0 r3 (ty.mono m3) g3.2
    cases e3;cases e4
    exact ⟨vs1,vs2,h3,h4,by rw [Zjk,t3.length,t4.length]⟩
end L3
namespace L3
open PySem PySem.Spec PyProof.Rows L2
variable {K:PySem.W.Frag} {H H' H2:Hp}
theorem Zg9:bootBuiltins "len"=some (.builtin "len"):=by decide +kernel
theorem Zl6:bootBuiltins "all"=some (.builtin "all"):=by decide +kernel
theorem Zsh:bootBuiltins "list"=some (.type "list"):=by decide +kernel
theorem Zdb:bootBuiltins "tuple"=some (.type "tuple"):=by decide +kernel
theorem ZnE:bootBuiltins "int"=some (.type "int"):=by decide +kernel
theorem ZrE:bootBuiltins "str"=some (.type "str"):=by decide +kernel
theorem ZtO:bootBuiltins "bool"=some (.type "bool"):=by decide +kernel
theorem Zsa:bootBuiltins "dict"=some (.type "dict"):=by decide +kernel
section
variable {X:Cx} {P:Hp→Prop} {a b c e:Expr} {es:List Expr} {pos pos' p:Pos} {ga gb ge:GE} {gt:GT}
theorem Zal {x:Str} {i:Nat} (hi:X.N[i]?=some x) (hv:Zwx X.env.scope x=true) (hd:(x==("__debug__":Str))=false) (hc:(x==("__classdict__":Str))=false):Em X (.Name x pos) (Zad i):=⟨Zus hi (ZmG hv) hd hc,Zue⟩
theorem ZeT {x:Str} {i:Nat} (hN:X.N.Nodup) (hi:X.N[i]?=some x) (hx:Zka X.env.scope x=true) (hs:swapsWith e (some (.Name x pos')) pos.line X.env=pure false) (ha:Em X e ga):Sm X P (.Assign [.Name x pos'] e pos) (Zbn i ga) :=
 ⟨ZrF hN hi (.inl (Zfr hx)) ha.m ha.p hs (.inr (Zfr hx)),Zos ha.m⟩
theorem ZxD {n:Nat} {x:Str} (hN:X.N.Nodup) (hi:X.N[n]?=some x) (hx:Zka X.env.scope x=true) (ha:Em X e ga):Sm X P (.AugAssign (.Name x pos') .Add e pos) (ZjH n Zej ga) :=
 ⟨Zub (OpR.or Ztf Zlv) Zo4 Zre hN hi (.inl (Zfr hx)) (.inr (Zfr hx)) ha.m ha.p,ZvE Zo4 ha.m⟩
def Glb (K:PySem.W.Frag) (mg:Str→Option Value) (x:Str) (w:W):Prop:=∃ v u,mg x=some u∧RelV v u∧∀ H,Tr K H v w
theorem Zi6 {x:Str} {w:W} (h:Glb X.K X.mg x w) (hg:Gl X x) (hd:(x==("__debug__":Str))=false):Em X (.Name x pos) (gC w) :=
 let ⟨_,_,h1,h2,h3⟩:=h
 ⟨ZoP hg h1 h2 h3 hd,ZtX⟩
structure Fm (X:Cx) (ifs:List Expr) (g:GT):Prop where
 p:PFw X ifs g
 m:g.M
theorem Zd0:Fm X [] ZfY:=⟨ZvP,Zvq⟩
theorem Zen {elt tg iter:Expr} {ifs:List Expr} {scope:Scope} {Nc:List Str} {gi:GI} {gg:GG} (hc:X.calm=true) (B:Blk X Nc scope [] (fun _=>List.replicate Nc.length none)) (hs:∀ x,foldedSetIterable iter X.env x=pure x) (hi:Im X tg iter gi)
  (hu:TgU X Nc scope tg gg) (ht:∀ C fp s H,Fm (cxB X Nc scope [] C fp s H) ifs gt) (he:∀ C fp s H,Em (cxB X Nc scope [] C fp s H) elt ge):Em X (.ListComp elt [⟨tg,iter,ifs,0⟩] scope pos) (ZcX gi Nc.length gg gt ge) :=
 have mt:gt.M:=(ht 0 [] X.s₀ X.H₀).m
 have me:ge.M:=(he 0 [] X.s₀ X.H₀).m
 ⟨Zsn hc hi.p B hu mt (fun C fp s H=>(ht C fp s H).p) me (fun C fp s H=>(he C fp s H).p) hs,Zsg hi.m hu.mono mt me⟩
theorem ZaG:Zob X (fun _ _ _=>False):=(by rintro pins σ H s ev s' I ⟨e,C,H',ee,F,C',ω,G,eC,ts,r,q⟩;exact q.elim)
theorem ZeU {k:Nat} {A:Around} (hr:Room k A):A.units+100 < cLine:=by have:=hr.un;omega
end
def Zlp:List (Str×Int)→Str→W
 | [],_=>.non
 | (x,i)::D,z=>if z=x then .int i else Zlp D z
def Zw9 (mg:Str→Option Value) (base:Heap) (x:Str) (D:List (Str×Int)):Prop:=∃ d,mg x=some (.ref d)∧KTD.TextTab base d (D.map fun p=>(p.1,KTD.Dat.flat (.int p.2)))
theorem ZiP:∀ {D:List (Str×Int)} {z:Str} {d:KTD.Dat},KTD.datumAt z (D.map fun p=>(p.1,KTD.Dat.flat (.int p.2)))=some d→∃ i,d=.flat (.int i)∧Zlp D z=.int i
 | [],_,_,h=>by cases h
 | (x,i)::D,z,d,h=>by
  have h':(if decide (z=x)=true then some (KTD.Dat.flat (.int i)) else KTD.datumAt z (D.map fun p=>(p.1,KTD.Dat.flat (.int p.2))))=some d:=h
  unfold Zlp
  by_cases hx:z=x
  ·rw [if_pos (decide_eq_true hx)] at h'
   cases h'
   exact ⟨i,rfl,if_pos hx⟩
  ·rw [if_neg (by simpa using hx)] at h'
   rw [if_neg hx]
   exact ZiP h'
theorem Zil:∀ {D:List (Str×Int)} {z:Str},KTD.datumAt z (D.map fun p=>(p.1,KTD.Dat.flat (.int p.2)))=none→Zlp D z=.non
 | [],_,_=>rfl
 | (x,i)::D,z,h=>by
  have h':(if decide (z=x)=true then some (KTD.Dat.flat (.int i)) else KTD.datumAt z (D.map fun p=>(p.1,KTD.Dat.flat (.int p.2))))=none:=h
  unfold Zlp
  by_cases hx:z=x
  ·rw [if_pos (decide_eq_true hx)] at h';cases h'
  ·rw [if_neg (by simpa using hx)] at h'
   rw [if_neg hx]
   exact Zil h'
def Zd6 (D:List (Str×Int)) (gk:GE):GE:=fun ω G Q=>gk ω G fun w G1=>match w with | .str z=>Q (Zlp D z) G1 | _=>False
theorem Zn3 {X:Cx} {x:Str} {D:List (Str×Int)} {e:Expr} {p0 apos cpos:Pos} {gk:GE} (h:Zw9 X.mg X.base x D) (hg:Gl X x) (hd:(x==("__debug__":Str))=false) (hbase:attributeBase (.Name x p0) "get" X.env (eval (.Name x p0) X.env)=eval (.Name x p0) X.env)
  (hfew:((backTo cpos (starEach [e] X.env)).all (fun x=>!x.1)&&(backToKw cpos (keywordEach [] X.env)).all (fun x=>x.1.isSome)&&decide ([e].length+([]:List Keyword).length+(if ([]:List Keyword).isEmpty then 0 else 1) < 30))=true)
  (hline:(apos.endLine==cpos.line)=true) (hs:starEach [e] X.env=(false,eval e X.env)::starEach [] X.env) (hplain:(backTo cpos (starEach [] X.env)).any (·.1)=false) (hk:Em X e gk) :
  Em X (.Call (.Attribute (.Name x p0) "get" apos) [e] [] cpos) (Zd6 D gk):=by
 refine ⟨fun pins s σ H Q I ⟨ω,G,ts,r,q⟩=>?_,fun ω G Q Q' hh q=>hk.m _ _ _ _ (fun w G1 z=>by cases w <;> first | exact hh _ _ z | exact z) q⟩
 obtain ⟨d,hm,T⟩:=h
 have here:KTD.Here X.base s.heap d (D.map fun p=>(p.1,KTD.Dat.flat (.int p.2))):=⟨T,I.bk⟩
 refine wpAny_Call_method_late hbase hfew hline rfl (ZlD I hg hm ⟨"dict","dict.get",PySem.F.plainAttrs_dict,PySem.F.slot_dict_get,PySem.F.type_dict_get,here.typeIs,here.noDict,?_⟩ hd)
 have pa:PA X [e] (ZpT (up X.K gk) Zxu):=Zjj hk.p Zov hs
 have hA:=pa cpos pins s σ H (fun vs H1=>∃ z,vs=[.str z]∧∀ v,Tr X.K H1 v (Zlp D z)→Q v H1) I ⟨ω,G,ts,r,hk.m _ _ _ _ (fun w G1 z v H1 m t r1=>by
  cases w with
  | str y=>exact ⟨y,by rw [ZrB t],fun v tv=>z v H1 m tv r1⟩
  | _=>exact z.elim) q⟩
 rw [hs] at hA ⊢
 refine Calls.callWith_builtin (by show (false||(backTo cpos (starEach [] X.env)).any (·.1))=false;rw [hplain] <;> rfl) (Calls.evalArgs_plain ?_)
 refine thn hA fun us s2 zz1=>?_
 obtain ⟨vs,H2,I2,r2,z,e1,q2⟩:=zz1
 subst e1
 obtain ⟨u,rfl,ru⟩:=ZjL r2
 obtain ⟨t,rfl⟩:=ru
 have here2:KTD.Here X.base s2.heap d (D.map fun p=>(p.1,KTD.Dat.flat (.int p.2))):=⟨T,I2.bk⟩
 refine call_meetsIn PySem.F.slot_dict_get here2.typeIs PySem.F.entry_dict_get (PySem.F.args_dict_get_2 _ _) (KTD.meets_get1 (h₀:=X.base) (D:=D.map fun p=>(p.1,KTD.Dat.flat (.int p.2)))) ⟨here2,fun dd v ha hv=>?_,fun hn=>?_⟩
 ·obtain ⟨i,rfl,e2⟩:=ZiP ha
  obtain ⟨t2,rfl⟩:=PyProof.V.Flat.int_inv hv
  exact ⟨.int i,H2,I2.tok _,⟨_,rfl⟩,q2 _ (by rw [e2];exact .int i)⟩
 ·exact ⟨.non,H2,I2.tok _,rfl,q2 _ (by rw [Zil hn];exact .non)⟩
def Fn (K:PySem.W.Frag) (mg:Str→Option Value) (st:Stmt) (x:Str) (ps:List Str):Prop:=∃ f fd,mg x=some (.ref f)∧Fun K x x st f fd∧Binds K fd ps []
section
variable {P:Program} {w:World} {mg:Str→Option Value} {base:Heap}
theorem mk0 {x:Str} {st:Stmt} {N ps:List Str} {k n:Nat} {sp:Spw} {g:GS} (Fx:Fn K mg st x ps) (hn:ps.length=n) (S:ZaC N ps (Zac st)) (spm:sp.M) (len:∀ ws G Q E,sp ws G Q E→ws.length=n)
  (hg:∀ {f:Addr} {cdv:Value} {A:Around} {outer:List Env} {s:Shared} {H:Hp} {E:XK},Room k (A.deeper (envOfC x (Zac st) s.heap.objs.size f cdv))→Ssm (cxW P w K mg base N x (Zac st) f cdv A outer s H E).nox (fun B=>B=H) (Zax st) g)
  (ok:∀ ws G (Q:Kw) (E:Addr→Hw→Prop),Kw.C Q→sp ws G Q E→g (ZaW Q) (ZbX N ws) G):Df P w K mg base x (k+1) n sp:=by
 obtain ⟨f,fd,h1,F,h3⟩:=Fx
 refine ⟨⟨f,fd,ps,h1,F.kp,h3,hn,?_⟩,spm⟩
 obtain ⟨oc,od,kV,doc,pm,an,cdv,ct,osl,rfl,lk,hcd⟩:=F.ex
 refine Zsi lk hcd S ((by rintro vs H Q E ⟨ws,G,t,r,q⟩;rw [t.length,hn];exact len ws G _ _ q)) fun A outer s H vs Q E hr hsp=>?_
 obtain ⟨ws,G,t,r,q⟩:=hsp
 have D:=hg (cdv:=cdv) (outer:=outer) (H:=H) (E:=E) hr
 refine ⟨_,(D.p H rfl).nox,ZbX N ws,G,Ziu t,r,.refl,?_⟩
 exact D.m _ _ (ZaW (dn K H Q)) _ (fun a b z σ H2 m ts r2=>z _ H2 m Tr.non r2) (fun a b z=>z) (fun a b z=>z.elim) (fun a b z=>z.elim) (ok ws G _ _ ZxK q)
end
end L3
set_option Elab.async false
set_option linter.all false
set_option maxRecDepth 100000
set_option maxHeartbeats 4000000
namespace L3
open PySem PySem.Spec PyProof.Rows L2
def Zh5 {α:Type} (n:Nat) (js:List Nat) (l:List (Option α)):List (Option α):=List.replicate n none++js.map fun j=>(l[j]?).getD none
theorem Zjn {α:Type} {n:Nat} {js:List Nat} {l:List (Option α)}:(Zh5 n js l).length=n+js.length:=by simp [Zh5]
theorem Zl5 {α:Type} {n i:Nat} {js:List Nat} {l:List (Option α)} {v:α} (h:(Zh5 n js l)[i]?=some (some v)):∃ m j,i=n+m∧js[m]?=some j∧l[j]?=some (some v):=by
 unfold Zh5 at h
 by_cases hi:i < n
 ·rw [List.getElem?_append_left (by simpa using hi),List.getElem?_replicate] at h
  split at h <;> cases h
 ·rw [List.getElem?_append_right (by simpa using Nat.le_of_not_lt hi),List.length_replicate,List.getElem?_map] at h
  cases hj:js[i - n]? with
  | none=>rw [hj] at h;cases h
  | some j =>
   rw [hj] at h
   refine ⟨i - n,j,by omega,hj,?_⟩
   have h':(l[j]?).getD none=some v:=Option.some.inj h
   cases e:l[j]? with
   | none=>rw [e] at h';cases h'
   | some o=>rw [e] at h';exact congrArg some h'
theorem Zri {α:Type} {n m j:Nat} {js:List Nat} {l:List (Option α)} {v:α} (h1:js[m]?=some j) (h2:l[j]?=some (some v)):(Zh5 n js l)[n+m]?=some (some v):=by
 unfold Zh5
 rw [List.getElem?_append_right (by simp),List.length_replicate,List.getElem?_map]
 have:n+m - n=m:=by omega
 rw [this,h1]
 show some ((l[j]?).getD none)=_
 rw [h2];rfl
theorem TrSt.cap {K:PySem.W.Frag} {H:Hp} {σ:St} {ω:Sw} (t:TrSt K H σ ω) (n:Nat) (js:List Nat):TrSt K H (Zh5 n js σ) (Zh5 n js ω):=by
 refine ⟨by rw [Zjn,Zjn],fun i w e=>?_⟩
 obtain ⟨m,j,rfl,h1,h2⟩:=Zl5 e
 obtain ⟨v,h3,r⟩:=t.get j w h2
 exact ⟨v,Zri h1 h3,r⟩
def Zi5 (env:Env):List (Str×NameKind)→List (Str×Addr)→List (Str×Addr)
 | [],cs=>cs
 | (n,k)::r,cs=>Zi5 env r (if k=.free then (n,(env.cells.lookup n).getD 0)::cs else cs)
theorem Zml {env:Env}:∀ (l:List (Str×NameKind)) (cs:List (Str×Addr)),(∀ y∈l,y.2=.free→∃ c,env.cells.lookup y.1=some c) →
  (forIn l cs fun (x:Str×NameKind) r=>if (x.2==NameKind.free)=true then do let c ← cellOf env x.1;pure (ForInStep.yield ((x.1,c)::r)) else pure (ForInStep.yield r):Sem (List (Str×Addr)))=pure (Zi5 env l cs)
 | [],cs,_=>by simp [Zi5]
 | (n,k)::r,cs,h=>by
  have ih:=fun cs=>Zml r cs fun y hy=>h y (List.mem_cons_of_mem _ hy)
  rw [List.forIn_cons]
  by_cases hk:k=.free
  ·obtain ⟨c,hc⟩:=h (n,k) List.mem_cons_self hk
   subst hk
   have e:cellOf env n=pure c:=by unfold cellOf;rw [hc]
   simp only [beq_self_eq_true,if_true,e,pure_bind,Zi5,hc,Option.getD_some]
   exact ih _
  ·have:(k==NameKind.free)=false:=by simpa using hk
   simp only [this,Bool.false_eq_true,if_false,pure_bind,Zi5,hk]
   exact ih _
theorem Zj0 {env:Env} {y:Str} {c:Addr}:∀ (l:List (Str×NameKind)) (cs:List (Str×Addr)),(Zi5 env l cs).lookup y=some c→cs.lookup y=some c∨((y,NameKind.free)∈l∧c=(env.cells.lookup y).getD 0)
 | [],cs,h=>.inl h
 | (n,k)::r,cs,h=>by
  rcases Zj0 r _ h with q | ⟨q1,q2⟩
  ·split at q
   ·rename_i hk
    subst hk
    rw [List.lookup_cons] at q
    split at q
    ·rename_i e
     have e':y=n:=beq_iff_eq.mp e
     subst e'
     exact .inr ⟨List.mem_cons_self,(Option.some.inj q).symm⟩
    ·exact .inl q
   ·exact .inl q
  ·exact .inr ⟨List.mem_cons_of_mem _ q1,q2⟩
theorem Zin {env:Env} {y:Str}:∀ (l:List (Str×NameKind)) (cs:List (Str×Addr)),(∃ c,cs.lookup y=some c)→∃ c,(Zi5 env l cs).lookup y=some c
 | [],cs,h=>h
 | (n,k)::r,cs,h=>Zin r _ (by
  split
  ·rw [List.lookup_cons]
   split
   ·exact ⟨_,rfl⟩
   ·exact h
  ·exact h)
theorem ZjW {env:Env} {y:Str}:∀ (l:List (Str×NameKind)) (cs:List (Str×Addr)),(y,NameKind.free)∈l→∃ c,(Zi5 env l cs).lookup y=some c
 | [],cs,h=>by cases h
 | (n,k)::r,cs,h=>by
  rcases List.mem_cons.mp h with h | h
  ·cases h
   refine Zin r _ ⟨(env.cells.lookup y).getD 0,?_⟩
   rw [if_pos rfl,List.lookup_cons,beq_self_eq_true]
  ·exact ZjW r _ h
theorem ZhN {scope:Scope} {env:Env} {y:Str} {k:NameKind} (nocell:∀ z∈scope.names,z.2≠.cell) (h:(relabel scope env).names.lookup y=some k) (hk:k=.cell∨k=.free):(y,NameKind.free)∈scope.names:=by
 have m:=Zfn h
 unfold relabel at m
 obtain ⟨⟨n,k0⟩,hm,e⟩:=List.mem_map.mp m
 dsimp only at e
 split at e
 ·rename_i hc
  cases e
  simp only [Bool.and_eq_true,beq_iff_eq] at hc
  rw [hc.1.1] at hm
  exact hm
 ·cases e
  rcases hk with rfl | rfl
  ·exact absurd rfl (nocell _ hm)
  ·exact hm
theorem Zdi {env:Env} (hf:env.scope.kind=.function):∀ {names:List (Str×NameKind)} {x:Str},names.lookup x=some .free→env.kindOf x=some .cell →
  (names.map fun (n,k)=>if (k==NameKind.free&&env.scope.kind==.function&&env.kindOf n==some .cell) then (n,NameKind.cell) else (n,k)).lookup x=some .cell
 | [],_,h,_=>by cases h
 | (n,k)::r,x,h,hk=>by
  rw [List.lookup_cons] at h
  rw [List.map_cons]
  split at h
  ·rename_i e
   have e':x=n:=beq_iff_eq.mp e
   subst e'
   cases h
   have c:(NameKind.free==NameKind.free&&env.scope.kind==ScopeKind.function&&env.kindOf x==some NameKind.cell)=true:=by rw [hf,hk];rfl
   dsimp only
   rw [if_pos c,List.lookup_cons,beq_self_eq_true]
  ·rename_i e
   have ih:=Zdi hf (names:=r) h hk
   rw [List.lookup_cons]
   have e2:(x==(if (k==NameKind.free&&env.scope.kind==ScopeKind.function&&env.kindOf n==some NameKind.cell)=true then (n,NameKind.cell) else (n,k)).1)=false:=by
    split <;> exact e
   dsimp only at e2 ⊢
   split
   ·rename_i e3;rw [e2] at e3;cases e3
   ·exact ih
theorem Zwb {X:Cx} {own fr:List Str} {js:List Nat} {scope scX:Scope} {n:Nat} (kind:scope.kind=.function) (names:∀ x∈scope.names,x.2=.local→scope.names.lookup x.1=some .local) (nocell:∀ y∈scope.names,y.2≠.cell)
  (hf:∀ y∈scope.names,y.2=.free→y.1∈fr) (hk:∀ y∈fr,scope.names.lookup y=some .free) (hsc:X.env.scope=scX) (hkx:scX.kind=.function) (hce:X.env.cells=cellsFrom n scX.names []) (hx:∀ y∈fr,scX.names.lookup y=some .cell)
  (hj:js.map (fun j=>X.N[j]?)=fr.map some):Blk X (own++fr) scope (Zi5 X.env scope.names []) (Zh5 own.length js):=by
 have cel:∀ y∈fr,∃ c,X.env.cells.lookup y=some c:=fun y hy=>by
  rw [hce]
  exact Zi0 (hx y hy)
 have frl:js.length=fr.length:=by have:=congrArg List.length hj;simpa using this
 refine ⟨?_,kind,names,nocell,fun y c h=>?_,fun y h=>?_,fun σ i y v h1 h2 h3=>?_,fun σ=>by rw [Zjn,List.length_append,frl]⟩
 ·have:=Zml (env:=X.env) scope.names [] fun y hy hy2=>cel _ (hf y hy hy2)
  unfold closureFor
  simp only [bind_pure]
  exact this
 ·rcases Zj0 _ _ h with q | ⟨q1,q2⟩
  ·cases q
  ·obtain ⟨c',e⟩:=cel y (hf _ q1 rfl)
   rw [e] at q2 ⊢
   exact congrArg some q2.symm
 ·refine ZjW _ _ ?_
  rcases h with h | h
  ·exact ZhN nocell h (.inl rfl)
  ·exact ZhN nocell h (.inr rfl)
 ·obtain ⟨m,j,rfl,e1,e2⟩:=Zl5 h2
  rw [List.getElem?_append_right (by omega)] at h1
  have:own.length+m - own.length=m:=by omega
  rw [this] at h1
  have hy:y∈fr:=List.mem_of_getElem? h1
  have q:=congrArg (fun l=>l[m]?) hj
  simp only [List.getElem?_map,e1,h1,Option.map_some] at q
  have l1:X.env.scope.names.lookup y=some .cell:=by rw [hsc];exact hx y hy
  refine ⟨.inl (Zdi (by rw [hsc];exact hkx) (hk y hy) l1),.inr (.inl l1),(by rw [l1];intro z;cases z),j,Option.some.inj q,e2⟩
def Zcl (gi:GI) (n:Nat) (js:List Nat) (gg:GG) (gt:GT) (ge:GE):GE:=fun ω G Q=>gi ω G fun ws gd G1=>Zb4 gd gg gt ge (fun ys G2=>∀ p,G2 p=none→Q (.ref p) (put G2 p (.lst ys))) ws (Zh5 n js ω) G1 []
theorem ZjD {gi:GI} {n:Nat} {js:List Nat} {gg:GG} {gt:GT} {ge:GE} (mi:gi.M) (mg:gg.M) (mt:gt.M) (me:ge.M):GE.M (Zcl gi n js gg gt ge):=fun ω G Q Q' h q =>
 mi _ _ _ _ (fun ws gd G1 z=>ZgV mg mt me (fun ys G2 z p hp=>h _ _ (z p hp)) _ _ _ _ z) q
theorem Zma {X:Cx} {n:Nat} {js:List Nat} {gi:GI} {gg:GG} {gt:GT} {ge:GE} {wi:TI} {g:TG} (hwi:∀ (σ:St) (H:Hp) (ω:Sw) (G:Hw) (R:List W→(Hw→Prop)→Hw→Prop) (R0:It→Hp→Prop),TrSt X.K H σ ω→RelH X.K H G→gi ω G R →
   (∀ ws gd G1 H1 J,R ws gd G1→Mono X.K H H1→RelH X.K H1 G1→gd G1→ZtY X.K H1 J ws gd→R0 J H1)→wi σ H R0)
  (hgg:∀ (x:V) (w:W) (σ:St) (ω:Sw) (H:Hp) (G:Hw) (Q:St→Hp→Prop),Tr X.K H x w→TrSt X.K H σ ω→RelH X.K H G→gg w ω G (dnS X.K H Q)→g x σ H Q) (mg:gg.M) (mt:gt.M) (me:ge.M) (σ:St) (H:Hp) (Q:VK) (h:up X.K (Zcl gi n js gg gt ge) σ H Q) :
  ZpL wi (Zh5 n js) g (upT X.K gt) (up X.K ge) σ H Q:=by
 obtain ⟨ω,G,ts,r,q⟩:=h
 refine hwi σ H ω G _ _ ts r q fun ws gd G1 H1 J z m1 r1 hgd wk=>?_
 refine ⟨fun i m σ' H' vs=>m=ws.length - i∧i≤ws.length∧Mono X.K H1 H'∧∃ ω' G' ys,TrSt X.K H' σ' ω'∧RelH X.K H' G'∧TrL X.K H' vs ys∧Zb4 gd gg gt ge (fun ys G2=>∀ p,G2 p=none→dn X.K H Q (.ref p) (put G2 p (.lst ys))) (ws.drop i) ω' G' ys,
  ⟨ws.length,by simp,Nat.zero_le _,.refl,_,G1,[],(ts.mono m1).cap n js,r1,.nil,by simpa using z⟩,?_⟩
 rintro i m σ' H' vs ⟨rfl,hle,mm,ω',G',ys,ts',r',tv,q'⟩
 have hgd':=ZjT q'
 by_cases hlt:i < ws.length
 ·have hw:∃ w,ws[i]?=some w:=⟨ws[i],by simp [hlt]⟩
  obtain ⟨w0,ew0⟩:=hw
  have ed:ws.drop i=w0::ws.drop (i+1):=by
   obtain ⟨h',e'⟩:=List.getElem?_eq_some_iff.mp ew0
   rw [← e'];exact List.drop_eq_getElem_cons h'
  rw [ed] at q'
  refine .inr ⟨wk.go i H' G' mm r' hgd' hlt,by rw [tv.length];exact q'.2.1,fun σ2 H2 vs2=>Mono X.K H1 H2∧∃ ω2 G2 ys2,TrSt X.K H2 σ2 ω2∧RelH X.K H2 G2∧TrL X.K H2 vs2 ys2∧Zb4 gd gg gt ge (fun ys G2=>∀ p,G2 p=none→dn X.K H Q (.ref p) (put G2 p (.lst ys))) (ws.drop (i+1)) ω2 G2 ys2,
   (by rintro σ2 H2 vs2 ⟨y1,y2⟩;exact ⟨ws.length - (i+1),by omega,rfl,hlt,y1,y2⟩),fun x H2 y=>?_⟩
  obtain ⟨my,ry,w,ew,tw⟩:=wk.yld i H' G' x H2 mm r' hgd' y hlt
  have mm:=mm.trans my
  have tv:=tv.mono my
  rw [ew0] at ew;cases ew
  refine hgg x _ σ' ω' _ G' _ tw (ts'.mono my) ry (mg _ _ _ _ _ (fun ω1 G1' z1 σ1 H3 m3 ts3 r3=>?_) q'.2.2)
  refine ⟨ω1,G1',ts3,r3,mt _ _ _ _ (fun b G4 z4 H4 m4 r4=>?_) z1⟩
  cases b with
  | true=>exact ⟨ω1,G4,ts3.mono m4,r4,me _ _ _ _ (fun y5 G5 z5 v5 H5 m5 t5 r5=>⟨((mm.trans m3).trans m4).trans m5,ω1,G5,_,(ts3.mono m4).mono m5,r5,(((tv.mono m3).mono m4).mono m5).append (.cons t5 .nil),z5⟩) z4⟩
  | false=>exact ⟨(mm.trans m3).trans m4,ω1,G4,_,ts3.mono m4,r4,(tv.mono m3).mono m4,z4⟩
 ·have e:i=ws.length:=by omega
  subst e
  rw [List.drop_length] at q'
  exact .inl ⟨wk.stop H' G' mm r' hgd',fun p hp=>q'.2 p (r'.no hp) _ _ ((m1.trans mm).trans (Mono.new hp _)) (.ref p) (r'.new hp tv)⟩
structure TgC (X:Cx) (Nc:List Str) (scope:Scope) (cl:List (Str×Addr)) (tg:Expr) (gg:GG):Prop where
 ex:∃ g:TG,(∀ C fp s H,PG (cxB X Nc scope cl C fp s H) tg g)∧∀ (x:V) (w:W) (σ:St) (ω:Sw) (H:Hp) (G:Hw) (Q:St→Hp→Prop),Tr X.K H x w→TrSt X.K H σ ω→RelH X.K H G→gg w ω G (dnS X.K H Q)→g x σ H Q
 mono:gg.M
theorem ZgY {X:Cx} {Nc:List Str} {scope:Scope} {cl:List (Str×Addr)} {x:Str} {p:Pos} {i:Nat} (hN:Nc.Nodup) (hi:Nc[i]?=some x) (hx:scope.names.lookup x=some .local):TgC X Nc scope cl (.Name x p) (gNm i) where
 ex:=⟨Zgf i,fun C fp s H=>ZcF (X:=cxB X Nc scope cl C fp s H) hN hi (.inl (lookup_relabel_local hx)) (.inr (lookup_relabel_local hx)),fun x w σ ω H G Q t ts r q=>q _ H .refl (ts.set i t) r⟩
 mono:=fun _ _ _ _ _ h q=>h _ _ q
def Zfp (i j k:Nat):GG:=fun w ω G Q=>match w with
 | .tup [a,b,c]=>Q (((ω.set i (some a)).set j (some b)).set k (some c)) G
 | _=>False
theorem ZrT {i j k:Nat}:GG.M (Zfp i j k):=fun w ω G Q Q' h q=>by
 unfold Zfp at q ⊢
 split
 ·exact h _ _ q
 ·rename_i z
  split at q
  ·exact (z _ _ _ rfl).elim
  ·exact q
theorem Zr4 {K:PySem.W.Frag} {i j k:Nat} (v:V) (w:W) (σ:St) (ω:Sw) (H:Hp) (G:Hw) (Q:St→Hp→Prop) (t:Tr K H v w) (ts:TrSt K H σ ω) (r:RelH K H G) (q:Zfp i j k w ω G (dnS K H Q)) :
  L2.Zbb K 3 (L2.Zab (Zgf i) (L2.Zab (Zgf j) (L2.Zab (Zgf k) L2.Zam))) v σ H Q:=by
 unfold Zfp at q
 split at q
 ·cases t with
  | tup h l =>
   cases l with
   | cons ta l =>
    cases l with
    | cons tb l =>
     cases l with
     | cons tc l =>
      cases l
      exact ⟨_,_,rfl,h,rfl,_,_,rfl,_,_,rfl,_,_,rfl,rfl,q _ H .refl (((ts.set i ta).set j tb).set k tc) r⟩
 ·exact q.elim
theorem ZnO {X:Cx} {Nc:List Str} {scope:Scope} {cl:List (Str×Addr)} {x y z:Str} {p p' p2 pos:Pos} {n i j k:Nat} (hc:X.calm=true) (hN:Nc.Nodup) (hi:Nc[i]?=some x) (hx:scope.names.lookup x=some .local) (hj:Nc[j]?=some y) (hy:scope.names.lookup y=some .local) (hk:Nc[k]?=some z) (hz:scope.names.lookup z=some .local) :
  TgC X Nc scope cl (.Tuple [.Name x p,.Name y p',.Name z p2] n pos) (Zfp i j k) where
 ex:=⟨L2.Zbb X.K 3 (L2.Zab (Zgf i) (L2.Zab (Zgf j) (L2.Zab (Zgf k) L2.Zam))),fun C fp s H=>ZmF (X:=cxB X Nc scope cl C fp s H) hc (ZcO (ZcF hN hi (.inl (lookup_relabel_local hx)) (.inr (lookup_relabel_local hx))) (ZcO (ZcF hN hj (.inl (lookup_relabel_local hy)) (.inr (lookup_relabel_local hy))) (ZcO (ZcF hN hk (.inl (lookup_relabel_local hz)) (.inr (lookup_relabel_local hz))) Zjh))),
  Zr4⟩
 mono:=ZrT
section
variable {X:Cx} {P:Hp→Prop} {e:Expr} {pos pos':Pos} {ga ge:GE} {gt:GT}
theorem ZgW {elt tg iter:Expr} {ifs:List Expr} {scope:Scope} {Nc:List Str} {n:Nat} {js:List Nat} {cl:List (Str×Addr)} {gi:GI} {gg:GG} (hc:X.calm=true) (B:Blk X Nc scope cl (Zh5 n js)) (hs:∀ x,foldedSetIterable iter X.env x=pure x) (hi:Im X tg iter gi)
  (hu:TgC X Nc scope cl tg gg) (ht:∀ C fp s H,Fm (cxB X Nc scope cl C fp s H) ifs gt) (he:∀ C fp s H,Em (cxB X Nc scope cl C fp s H) elt ge):Em X (.ListComp elt [⟨tg,iter,ifs,0⟩] scope pos) (Zcl gi n js gg gt ge):=by
 have mt:gt.M:=(ht 0 [] X.s₀ X.H₀).m
 have me:ge.M:=(he 0 [] X.s₀ X.H₀).m
 refine ⟨?_,ZjD hi.m hu.mono mt me⟩
 obtain ⟨wi,hwi,hi⟩:=hi.p
 obtain ⟨g,hpg,hgg⟩:=hu.ex
 exact Zbi (Znu hc hwi B hpg (fun C fp s H=>(ht C fp s H).p) (fun C fp s H=>(he C fp s H).p) hs) (Zma hi hgg hu.mono mt me)
def Zn2 (sc:Scope) (x:Str):Bool:=match sc.names.lookup x with | some .cell=>true | _=>false
theorem Zpe {sc:Scope} {x:Str} (h:Zn2 sc x=true):sc.names.lookup x=some .cell:=by
 unfold Zn2 at h
 split at h
 ·assumption
 ·cases h
theorem Zvm {x:Str} {i:Nat} (hN:X.N.Nodup) (hi:X.N[i]?=some x) (hx:Zn2 X.env.scope x=true) (hf:X.fn x=true) (hs:swapsWith e (some (.Name x pos')) pos.line X.env=pure false) (ha:Em X e ga):Sm X P (.Assign [.Name x pos'] e pos) (Zbn i ga) :=
 ⟨ZrF hN hi (.inr (Zpe hx)) ha.m ha.p hs (.inl hf),Zos ha.m⟩
end
end L3
namespace L3
open PySem PySem.Spec PyProof.Rows L2
theorem ZfR {X:Cx} {x y z:Str} {p p' p2 pos:Pos} {n i j k:Nat} (hc:X.calm=true) (hN:X.N.Nodup) (hi:X.N[i]?=some x) (hx:Loc X.env.scope x) (hf:X.fn x=true∨X.env.scope.names.lookup x=some .local)
  (hj:X.N[j]?=some y) (hy:Loc X.env.scope y) (hfy:X.fn y=true∨X.env.scope.names.lookup y=some .local) (hk:X.N[k]?=some z) (hz:Loc X.env.scope z) (hfz:X.fn z=true∨X.env.scope.names.lookup z=some .local) :
  TgW X (.Tuple [.Name x p,.Name y p',.Name z p2] n pos) (Zfp i j k) where
 ex:=⟨_,ZmF hc (ZcO (ZcF hN hi hx hf) (ZcO (ZcF hN hj hy hfy) (ZcO (ZcF hN hk hz hfz) Zjh))),Zr4⟩
 mono:=ZrT
section
variable {prog:Program} {w:World} {A:Around} {E:Value→Shared→Prop} {s:Shared}
theorem Zra {t b:Addr} {ws:List Value} {Q:Value→Shared→Prop} (ht:IsTup s.heap t #[]) (hb:IsTup s.heap b ws.toArray) (h1:Q (.ref b) s):wpAny (model prog w) A (binaryOp .Add (.ref t) (.ref b)) Q E s:=by
 obtain ⟨⟨cls,dd,data,sl⟩,ho,hc,n,hd⟩:=id ht
 obtain ⟨⟨cls2,dd2,data2,sl2⟩,ho2,hc2,n2,hd2⟩:=id hb
 simp only at hc hd hc2 hd2
 subst hc hd hc2 hd2
 exact concat_meets ⟨_,ho,rfl⟩ ⟨_,ho2,rfl⟩ noFill_tuple_add seq_tuple_add PySem.F.slot_tuple_add PySem.F.entry_tuple_add (PySem.F.args_tuple_add_2 _ _) (tuple_addW0 t b #[] ws.toArray n n2 dd dd2 sl sl2 rfl) ⟨ho,ho2,h1⟩
end
def Zoi (K:PySem.W.Frag):R2:=fun x y H Q=>∃ a b ys,x=.ref a∧y=.ref b∧SqT K H a []∧SqT K H b ys∧Q (.ref b) H
theorem ZqI {X:Cx}:OpR X (binaryOp .Add) (Zoi X.K):=by
 intro pins s σ H x y v u Q I rx ry h
 obtain ⟨a,b,ys,rfl,rfl,ha,hb,q⟩:=h
 cases rx
 cases ry
 obtain ⟨its,r1,p1,_⟩:=I.tuple ha
 obtain ⟨its2,r2,p2,_⟩:=I.tuple hb
 cases r1
 exact Zra p1 p2 ⟨.ref b,H,I,rfl,q⟩
def ZgL:RW2:=fun x y G Q=>match x,y with
 | .tup xs,.tup ys=>xs.length+ys.length≤sizeLine∧Q (.tup (xs++ys)) G
 | x,y=>Ze6 x y G Q
theorem Zb3 {xs ys:List W} {G:Hw} {Q:Kw}:ZgL (.tup xs) (.tup ys) G Q=(xs.length+ys.length≤sizeLine∧Q (.tup (xs++ys)) G):=rfl
theorem ZlU {x y:W} {G:Hw} {Q:Kw} (hb:¬((∃ xs,x=.tup xs)∧∃ ys,y=.tup ys)):ZgL x y G Q=Ze6 x y G Q:=by
 cases x <;> cases y <;> first | rfl | exact absurd ⟨⟨_,rfl⟩,⟨_,rfl⟩⟩ hb
theorem ZpD:RW2.M ZgL:=fun x y G Q Q' h q=>by
 by_cases hb:(∃ xs,x=.tup xs)∧∃ ys,y=.tup ys
 ·obtain ⟨⟨xs,rfl⟩,⟨ys,rfl⟩⟩:=hb
  exact ⟨q.1,h _ _ q.2⟩
 ·rw [ZlU hb] at q ⊢
  exact Zpw _ _ _ _ _ h q
theorem Zsu {X:Cx}:OpR X (binaryOp .Add) (fun x y H Q=>((rI0 fun i j=>.int (i+j)) x y H Q∨(∃ i j,x=.str i∧y=.str j∧i.length+j.length≤sizeLine∧Q (.str (i++j)) H)∨ZvC x y H Q)∨Zoi X.K x y H Q∨Ztc X.K x y H Q):=OpR.or ZoZ (OpR.or ZqI Ztm)
theorem Zrp {K:PySem.W.Frag} (x y:W) (v u:V) (G:Hw) (H:Hp) (Q:VK) (tx:Tr K H v x) (ty:Tr K H u y) (r:RelH K H G) (q:ZgL x y G (dn K H Q)) :
  ((rI0 fun i j=>.int (i+j)) v u H Q∨(∃ i j,v=.str i∧u=.str j∧i.length+j.length≤sizeLine∧Q (.str (i++j)) H)∨ZvC v u H Q)∨Zoi K v u H Q∨Ztc K v u H Q:=by
 by_cases hb:(∃ xs,x=.tup xs)∧∃ ys,y=.tup ys
 ·obtain ⟨⟨xs,rfl⟩,⟨ys,rfl⟩⟩:=hb
  rw [Zb3] at q
  cases tx with
  | tup sa la =>
   cases ty with
   | tup sb lb =>
    rename_i a vs b us
    cases la with
    | nil=>exact .inr (.inl ⟨a,b,us,rfl,rfl,sa,sb,by simpa using q.2 _ H .refl (.tup sb lb) r⟩)
    | cons t1 la =>
     refine .inr (.inr ⟨a,b,_,us,rfl,rfl,sa,sb,by simp,?_,fun e=>?_,fun e p hp=>?_⟩)
     ·rw [(TrL.cons t1 la).length,lb.length];exact q.1
     ·subst e
      cases lb
      have:=q.2 (.ref a) H .refl (by simpa using Tr.tup sa (.cons t1 la)) r
      exact this
     ·exact q.2 _ _ (Mono.new hp _) (.tup (SqT.of Zbj) (((TrL.cons t1 la).append lb).mono (Mono.new hp _))) (r.mono0 hp)
 ·refine .inl (Zo7 x y v u G H Q tx ty r ?_)
  rwa [ZlU hb] at q
theorem ZhD {X:Cx} {a b:Expr} {ga gb:GE} {pos:Pos} (ha:Em X a ga) (hb:Em X b gb):Em X (.BinOp a .Add b pos) (Zak ZgL ga gb):=⟨Zg6 Zsu ZpD ha.m hb.m Zrp ha.p hb.p,Zet ZpD ha.m hb.m⟩
end L3
namespace L3
open PySem PySem.Spec PyProof.Rows L2
variable {K:PySem.W.Frag} {H H' H2:Hp}
theorem TrP.lookup {α:Type} [BEq α]:∀ {vs:List (α×V)} {ws:List (α×W)} {f:α} {w:W},TrP K H vs ws→ws.lookup f=some w→∃ v,vs.lookup f=some v∧Tr K H v w
 | _,_,_,_,.nil,e=>by cases e
 | _,_,f,w,.cons (f:=g) r t,e=>by
  rw [List.lookup_cons] at e ⊢
  cases hb:f==g with
  | true=>rw [hb] at e;cases e;exact ⟨_,rfl,r⟩
  | false=>rw [hb] at e;exact t.lookup e
theorem TrP.length {α:Type}:∀ {vs:List (α×V)} {ws:List (α×W)},TrP K H vs ws→vs.length=ws.length
 | _,_,.nil=>rfl
 | _,_,.cons _ t=>congrArg (·+1) t.length
section
variable {X:Cx} {P:Hp→Prop} {o e value:Expr} {es:List Expr} {f m:Str} {C:Addr} {pos pos' tpos apos p:Pos} {ga gv:GE} {gs:GA} {ex:Xw}
theorem Mono.ins {p C dx:Addr} {xs:List (Str×V)} (hp:H p=some (.ins C dx xs)) (o:HO):Mono K H (upd H p o):=Mono.was hp _ (fun _ z=>by cases z) (fun _ _ z=>by cases z)
end
end L3
set_option Elab.async false
set_option linter.all false
set_option maxRecDepth 100000
set_option maxHeartbeats 4000000
namespace L3
open PySem PySem.Spec PyProof.Rows L2
variable {K:PySem.W.Frag} {H H' H2:Hp}
section
variable {X:Cx} {P:Hp→Prop} {o e value:Expr} {es:List Expr} {f m:Str} {C:Addr} {pos pos' tpos apos p:Pos} {ga gv:GE} {gs:GA} {ex:Xw}
end
section
variable {P:Program} {w:World} {mg:Str→Option Value} {base:Heap} {C:Addr}
end
def Zr6:GS:=fun _ _ _=>False
theorem Zq9 {X:Cx} {P:Hp→Prop} {st:Stmt}:Sm X P st Zr6:=⟨(by rintro B hB pins s σ H D I ⟨ω,G,ts,r,mb,q⟩;exact q.elim),fun ω G D D' _ _ _ _ q=>q⟩
end L3
namespace L3
open PySem PySem.Spec PyProof.Rows L2
variable {K:PySem.W.Frag} {H H' H2:Hp}
def isStr (o:W) (_:Hw):Prop:=∃ x,o=.str x
def ZwZ (o:W) (ws:List W) (G:Hw) (Q:Kw):Prop:=match o,ws with
 | .str x,[.str y]=>Q (.bl (Txt.startswith x y)) G
 | .str x,[.str y,.int i]=>Q (.bl (Txt.startswith3 x y i)) G
 | _,_=>False
def ZhQ:List W→Option (List Str)
 | []=>some []
 | .str x::ws=>(ZhQ ws).map (x::·)
 | _::_=>none
theorem Zkx {s:Shared}:∀ {vs:List V} {ws:List W} {ys:List Str} {us:List Value},TrL K H vs ws→ZhQ ws=some ys→Vals vs us→StrsAre us ys
 | _,_,_,_,.nil,e,.nil=>by cases e;exact .nil
 | _,_,_,_,.cons (w:=w) r t,e,.cons rv rvs=>by
  cases w with
  | str x =>
   unfold ZhQ at e
   obtain ⟨zs,e1,rfl⟩:=Option.map_eq_some_iff.mp e
   cases r
   obtain ⟨tk,rfl⟩:=rv
   exact .cons x tk (Zkx (s:=s) t e1 rvs)
  | _=>cases e
end L3
namespace HT
open PySem PySem.Spec PyProof.Rows
section
variable {prog:Program} {w:World} {A:Around} {E:Value→Shared→Prop} {s:Shared}
theorem getItem_tuple_whole {t sl:Addr} {items:Array Value} {vl vu:Value} {lo hi:Option Int} {Q:Value→Shared→Prop} (ht:IsTup s.heap t items) (hs:s.heap.IsSliceOf sl vl vu .none) (pl:IsPart vl lo) (pu:IsPart vu hi)
  (hw:sIx items.size 0 lo=0∧sIx items.size items.size hi=items.size) (h:Q (.ref t) s):wpAny (model prog w) A (getItem (.ref t) (.ref sl)) Q E s:=by
 obtain ⟨os,hos,hcs,hds⟩:=id hs
 have hTs:s.TypeIs (.ref sl) "slice":=⟨os,hos,hcs⟩
 unfold getItem
 try with_reducible refine wpAny_holding ?_
 first | refine wpAny_bind (wpAny_pure ?_) | skip
 refine wpAny_bind (wpAny_sequenceKey ht.typeIs (by decide) ?_)
 refine wpAny_bind (wpAny_callSpecial?_slot (name:=Str.ofString "__getitem__") ht.typeIs PyProof.Rows.slot_tuple_getitem
  (wpAny_call_entry PyProof.Rows.slot_tuple_getitem ht.typeIs entry_tuple_getitem ?_ (args_tuple_getitem _ _)))
 show wpAny _ _ (Builtin.Tuple.tupleItemsOf (.ref t) >>= _) _ _ s
 refine wpAny_bind (tupleItemsOf_ ht ?_)
 refine wpAny_bind (wpAny_typeOf hTs ?_)
 rw [if_pos (by decide)]
 refine wpAny_bind (Zei hs pl pu ?_)
 have hyes:(((sIx items.size 0 lo:Nat):Int)==0&&(1:Int)==1&&(sIx items.size items.size hi - sIx items.size 0 lo)==items.size)=true:=by
  rw [hw.1,hw.2]
  simp
 show wpAny _ _ (if (((sIx items.size 0 lo:Nat):Int)==0&&(1:Int)==1&&(sIx items.size items.size hi - sIx items.size 0 lo)==items.size)=true then _ else _) _ _ s
 rw [if_pos hyes]
 have hT:=ht.typeIs
 unfold Builtin.Tuple.tupleIsExact
 repeat (any_goals (first | assumption | wp_step))
 exact ⟨_,rfl,wpAny_pure h⟩
end
end HT
namespace L3
open PySem PySem.Spec PyProof.Rows L2
variable {K:PySem.W.Frag} {H H' H2:Hp}
def ZxA (K:PySem.W.Frag):V→Option Int→Option Int→Hp→VK→Prop:=fun x lo hi H Q=>∃ a xs,x=.ref a∧SqT K H a xs∧(HT.sIx xs.length 0 lo=0∧HT.sIx xs.length xs.length hi=xs.length)∧Q (.ref a) H
theorem ZtQ {X:Cx}:SlR X (ZxA X.K):=by
 intro pins s σ H x v vl vu lo hi sl Q I rx hs pl pu h
 obtain ⟨a,xs,rfl,hx,hw,q⟩:=h
 cases rx
 obtain ⟨its,r,ht,hz⟩:=I.tuple hx
 have hlen:its.toArray.size=xs.length:=by rw [List.size_toArray];exact r.length.symm
 refine ⟨"tuple",_,PyProof.Rows.slot_tuple_getitem.lookup,ht.typeIs,?_⟩
 exact HT.getItem_tuple_whole ht hs pl pu (by rw [hlen];exact hw) ⟨.ref a,H,I,rfl,q⟩
def ZxJ:V→Option Int→Option Int→Hp→VK→Prop:=fun x lo hi H Q=>∃ z,x=.str z∧z.length≤sizeLine∧Q (.str (Txt.slice z lo hi)) H
theorem Zu4 {X:Cx}:SlR X ZxJ:=by
 intro pins s σ H x v vl vu lo hi sl Q I rx hs pl pu h
 obtain ⟨z,rfl,hz,q⟩:=h
 obtain ⟨t,rfl⟩:=rx
 obtain ⟨os,hos,hcs,hds⟩:=id hs
 refine ⟨"str",_,F.slot_str_getitem.lookup,typeIs_str _ _ _,?_⟩
 have fin:∀ t' k,EP X pins σ Q (.str (Txt.slice z lo hi) t') { s with toks:=k }:=fun t' k=>⟨.str _,H,I.tok k,⟨t',rfl⟩,q⟩
 cases pl with
 | none =>
  cases pu with
  | none=>exact wpAny_getItem_str_slice (l:=none) (u:=none) (st:=none) ⟨os,hos,hcs,hds⟩ rfl (post_val_or_str ⟨Nat.le_trans (Txt.slice_le z _ _) hz,fin⟩)
  | int j u=>exact wpAny_getItem_str_slice (l:=none) (u:=some (j,u)) (st:=none) ⟨os,hos,hcs,hds⟩ rfl (post_val_or_str ⟨Nat.le_trans (Txt.slice_le z _ _) hz,fin⟩)
 | int i u =>
  cases pu with
  | none=>exact wpAny_getItem_str_slice (l:=some (i,u)) (u:=none) (st:=none) ⟨os,hos,hcs,hds⟩ rfl (post_val_or_str ⟨Nat.le_trans (Txt.slice_le z _ _) hz,fin⟩)
  | int j u2=>exact wpAny_getItem_str_slice (l:=some (i,u)) (u:=some (j,u2)) (st:=none) ⟨os,hos,hcs,hds⟩ rfl (post_val_or_str ⟨Nat.le_trans (Txt.slice_le z _ _) hz,fin⟩)
def slA (w:W) (lo hi:Option Int) (G:Hw) (Q:Kw):Prop:=match w with
 | .tup xs=>Q (.tup (Zk0 xs lo hi)) G
 | .str z=>z.length≤sizeLine∧Q (.str (Txt.slice z lo hi)) G
 | w=>slW w lo hi G Q
theorem Zwg {w:W} {lo hi:Option Int} {G:Hw} {Q Q':Kw} (h:∀ w G',Q w G'→Q' w G') (q:slA w lo hi G Q):slA w lo hi G Q':=by
 cases w with
 | tup xs=>exact h _ _ q
 | str z=>exact ⟨q.1,h _ _ q.2⟩
 | non=>exact False.elim q
 | bl b=>exact False.elim q
 | int i=>exact False.elim q
 | rol xs=>exact Zrr (w:=.rol xs) (lo:=lo) (hi:=hi) (G:=G) h q
 | ref a=>exact Zrr (w:=.ref a) (lo:=lo) (hi:=hi) (G:=G) h q
theorem Zwd {w:W} {v:V} {lo hi:Option Int} {G:Hw} {Q:VK} (t:Tr K H v w) (r:RelH K H G) (q:slA w lo hi G (dn K H Q)):((Zxk K v lo hi H Q∨Zxd K v lo hi H Q)∨ZxA K v lo hi H Q)∨ZxJ v lo hi H Q:=by
 cases t with
 | tup h l =>
  rename_i a vs ws
  by_cases hw:HT.sIx ws.length 0 lo=0∧HT.sIx ws.length ws.length hi=ws.length
  ·refine .inl (.inr ⟨a,vs,rfl,h,by rw [l.length];exact hw,?_⟩)
   refine q _ H .refl ?_ r
   have e:Zk0 ws lo hi=ws:=by unfold Zk0;rw [hw.1,hw.2];simp
   rw [e]
   exact .tup h l
  ·exact .inl (.inl (Zmy (.tup h l) r ⟨hw,q⟩))
 | str z=>exact .inr ⟨z,rfl,q.1,q.2 _ H .refl (.str _) r⟩
 | non=>exact False.elim q
 | bl b=>exact False.elim q
 | int i=>exact False.elim q
 | rol h l=>exact .inl (.inl (Zmy (.rol h l) r q))
 | ref a=>exact .inl (.inl (Zmy (.ref a) r q))
section
variable {X:Cx} {a b e:Expr} {ga gb:GE} {pos:Pos}
def Ze1 (ga:GE) (gl gh:GO):GE:=fun ω G Q=>ga ω G fun w G1=>gl ω G1 fun lo G2=>gh ω G2 fun hi G3=>slA w lo hi G3 Q
theorem Zeh {lo hi:Option Expr} {gl gh:GO} {p2:Pos} (ha:Em X e ga) (hl:Om X lo gl) (hh:Om X hi gh):Em X (.Subscript e (.Slice lo hi none p2) pos) (Ze1 ga gl gh) :=
 ⟨Zbi (Zmi (SlR.or (SlR.or (SlR.or ZrD ZoK) ZtQ) Zu4) ha.p hl.p hh.p) fun σ H Q ⟨ω,G,ts,r,q⟩=>⟨ω,G,ts,r,ha.m _ _ _ _ (fun w G1 z v H1 m1 t r1=>⟨ω,G1,ts.mono m1,r1,hl.m _ _ _ _ (fun l G2 z2 H2 m2 r2 =>
   ⟨ω,G2,(ts.mono m1).mono m2,r2,hh.m _ _ _ _ (fun h G3 z3 H3 m3 r3=>Zwd ((t.mono m2).mono m3) r3 (Zwg (fun w G' z=>ZcJ ((m1.trans m2).trans m3) z) z3)) z2⟩) z⟩) q⟩,
  fun ω G Q Q' h q=>ha.m _ _ _ _ (fun w G1 z=>hl.m _ _ _ _ (fun l G2 z2=>hh.m _ _ _ _ (fun u G3 z3=>Zwg h z3) z2) z) q⟩
end
end L3
namespace L3
open PySem PySem.Spec PyProof.Rows L2
variable {K:PySem.W.Frag} {H H' H2:Hp}
theorem Zf9 (k:Str):∀ {vs:List Value} {ys:List Str},StrsAre vs ys→∀ (j:Nat) (h1:j < vs.length) (y:Str),ys[j]?=some y→isStrOf k vs[j]=(y==k)
 | _,_,.cons n t _,0,_,y,e=>by cases e;rfl
 | _,_,.cons n t r,j+1,h1,y,e=>Zf9 k r j (Nat.lt_of_succ_lt_succ h1) y (by simpa using e)
theorem StrsAre.len:∀ {vs:List Value} {ys:List Str},StrsAre vs ys→vs.length=ys.length
 | _,_,.nil=>rfl
 | _,_,.cons _ _ r=>congrArg (·+1) (StrsAre.len r)
section
variable {prog:Program} {w:World} {A:Around} {E:Value→Shared→Prop} {s:Shared}
theorem Zhy {l:Addr} {vs:List Value} {ys:List Str} {k:Str} {t:Tok} {j:Nat} {Q:Value→Shared→Prop} (hl:s.heap.IsList l vs.toArray) (hi:StrsAre vs ys) (hz:ys.length≤sizeLine)
  (hj:ys[j]?=some k) (hno:∀ m,m < j→ys[m]?≠some k) (h:Q (.int (j:Nat) s.toks) { s with toks:=s.toks+1 }):wpAny (model prog w) A (call (.builtin "list.index") [.ref l,.str k t]) Q E s:=by
 obtain ⟨⟨cls,dd,data,sl⟩,ho,hc,n,hd⟩:=id hl
 simp only at hc hd
 subst hc hd
 have hlen:=StrsAre.len hi
 have hlt:j < ys.length:=(List.getElem?_eq_some_iff.mp hj).1
 have hs:(sizeLine:Nat) < 2 ^ 63 - 1:=by decide
 refine call_meets PySem.F.slot_list_index ⟨_,ho,rfl⟩ PySem.F.entry_list_index (PySem.F.args_list_index_2 _ _)
  (PySem.SeqAt.list_indexAt l vs.toArray n dd sl (.str k t) (isStrOf k) j (by simpa [hlen] using hlt) (by omega) ?_ ?_) ⟨ho,fun y hy=>(eq_isStrOf k t hi y (by simpa using hy)).at _ _,h⟩
 ·show isStrOf k vs[j]=true
  rw [Zf9 k hi _ (by omega) k hj]
  simp
 ·intro m hm hlt2
  have hm':m < vs.length:=by simpa using hm
  show isStrOf k vs[m]=false
  have e:ys[m]?=some ys[m]:=by simp [show m < ys.length by omega]
  rw [Zf9 k hi m hm' _ e]
  have:=hno m hlt2
  rw [e] at this
  simpa using fun q=>this (by rw [q])
end
def ZnB (o:W) (ws:List W) (G:Hw) (Q:Kw):Prop:=∃ xs ys k j,rdL G o=some xs∧ZhQ xs=some ys∧ws=[.str k]∧ys[j]?=some k∧(∀ m,m < j→ys[m]?≠some k)∧Q (.int (j:Nat)) G
def Zty (K:PySem.W.Frag):V→List V→Hp→VK→Prop:=fun v vs H Q=>∃ a us ws ys k j,v=.ref a∧SqL K H a us∧TrL K H us ws∧ZhQ ws=some ys∧vs=[.str k]∧ys[j]?=some k∧(∀ m,m < j→ys[m]?≠some k)∧Q (.int (j:Nat)) H
theorem ZiS:∀ {ws:List W} {ys:List Str},ZhQ ws=some ys→ys.length=ws.length
 | [],_,e=>by cases e;rfl
 | w::ws,ys,e=>by
  cases w with
  | str x =>
   unfold ZhQ at e
   obtain ⟨zs,e1,rfl⟩:=Option.map_eq_some_iff.mp e
   exact congrArg (·+1) (ZiS e1)
  | _=>cases e
theorem Zqh {X:Cx}:MtR X "list.index" (Zty X.K):=by
 intro pins s σ H x vs v us Q I rx rv h
 obtain ⟨a,us',ws,ys,k,j,rfl,sq,t,e,rfl,hj,hno,q⟩:=h
 cases rx
 obtain ⟨u,rfl,ru⟩:=rv.one
 obtain ⟨tk,rfl⟩:=ru
 obtain ⟨its,r,pl,hz⟩:=I.list sq
 have hs:=Zkx (s:=s) t e r
 refine Zhy pl.isList hs (by rw [ZiS e,← t.length];exact hz) hj hno ⟨.int _,H,I.tok _,⟨_,rfl⟩,q⟩
theorem Zpi {X:Cx}:Mth X "list" "index" "list.index" Zfb ZnB where
 pa:=PySem.F.plainAttrs_list
 slot:=PySem.F.slot_list_index
 ty:=PySem.F.type_list_index
 ex:=⟨_,Zqh,fun o ws v vs G H Q tv tvs r q=>by
  obtain ⟨xs,ys,k,j,e1,e2,rfl,e3,e4,q⟩:=q
  obtain ⟨a,us,rfl,sq,tl⟩:=Zc0 r tv e1
  cases tvs with
  | cons t1 tvs=>cases tvs;cases t1;exact ⟨a,us,xs,ys,k,j,rfl,sq,tl,e2,rfl,e3,e4,q _ H .refl (.int _) r⟩⟩
 pr:=fun o v G H t r h=>Zi7 t r h
 m:=(by rintro o ws G Q Q' h ⟨xs,ys,k,j,h1,h2,h3,h4,h5,q⟩;exact ⟨xs,ys,k,j,h1,h2,h3,h4,h5,h _ _ q⟩)
end L3
set_option Elab.async false
set_option linter.all false
set_option maxRecDepth 100000
set_option maxHeartbeats 4000000
namespace L3
open PySem PySem.Spec PyProof.Rows L2
variable {K:PySem.W.Frag} {H H' H2:Hp}
def ZxY (K:PySem.W.Frag) (tl:TE):TI:=fun σ H R=>tl σ H fun x H1=>(∃ a,x=.ref a∧(∃ xs,SqL K H1 a xs)∧R (Itl K a) H1)∨(∃ a,x=.ref a∧(∃ xs,SqT K H1 a xs)∧R (Itt K a) H1)
theorem ZvB {X:Cx} {tg l:Expr} {tl:TE} (hl:PE X l tl):PI X tg l (ZxY X.K tl):=by
 intro pins s σ H R I h
 refine thn (hl pins s σ H _ I h) fun v s1 zz1=>?_
 obtain ⟨x,H1,I1,r1,q1⟩:=zz1
 rcases q1 with ⟨a,e,⟨xs,hq⟩,q⟩ | ⟨a,e,⟨xs,hq⟩,q⟩
 ·subst e
  cases r1
  obtain ⟨its,rv,p,hz⟩:=I1.list hq
  refine wpAny_pyIter_list p.isList ?_
  refine ⟨s1.heap.objs.size,[s1.heap.objs.size],_,_,H1,rfl,I1.kept (t':=s1.toks) fun b o e=>Heap.get?_push_of_some _ e,Zj7 a _,⟨_,Heap.get?_push_size _ rfl,rfl,rfl⟩,fun b hb=>?_,q⟩
  have e:b=s1.heap.objs.size:=by simpa using hb
  subst e
  exact I1.fpOk (Nat.le_refl _) (I1.hok.fresh (Nat.le_refl _))
 ·subst e
  cases r1
  obtain ⟨its,rv,p,hz⟩:=I1.tuple hq
  refine wpAny_pyIter_tuple (show s1.heap.IsTuple a its.toArray from p) ?_
  refine ⟨s1.heap.objs.size,[s1.heap.objs.size],_,_,H1,rfl,I1.kept (t':=s1.toks) fun b o e=>Heap.get?_push_of_some _ e,Ziw a _,⟨_,Heap.get?_push_size _ rfl,rfl,rfl⟩,fun b hb=>?_,q⟩
  have e:b=s1.heap.objs.size:=by simpa using hb
  subst e
  exact I1.fpOk (Nat.le_refl _) (I1.hok.fresh (Nat.le_refl _))
def ZcV (ga:GE):GI:=fun ω G R=>ga ω G fun w G1=>match w with
 | .tup ws=>R ws yes G1
 | .rol ws=>R ws yes G1
 | .ref a=>match G1 a with | some (.lst ws)=>R ws (holds a ws) G1 | _=>False
 | _=>False
theorem ZpW {ga:GE} (m:ga.M):GI.M (ZcV ga):=fun ω G R R' h q=>m _ _ _ _ (fun w G1 z=>by
 cases w with
 | tup ws=>exact h _ _ _ z
 | rol ws=>exact h _ _ _ z
 | ref a =>
  dsimp only at z ⊢
  cases e:G1 a with
  | none=>rw [e] at z;exact z
  | some o =>
   rw [e] at z
   cases o <;> first | exact h _ _ _ z | exact z
 | _=>exact z) q
theorem ZmI {X:Cx} {tg l:Expr} {ga:GE} (hl:Em X l ga):Im X tg l (ZcV ga):=by
 refine ⟨⟨_,ZvB hl.p,fun σ H ω G R R0 ts r q k=>⟨ω,G,ts,r,hl.m _ _ _ _ (fun w G1 z v H1 m t r1=>?_) q⟩⟩,ZpW hl.m⟩
 cases t with
 | tup h l=>exact .inr ⟨_,rfl,⟨_,h⟩,k _ _ _ H1 _ z m r1 trivial (Zmb h l)⟩
 | rol h l=>exact .inl ⟨_,rfl,⟨_,h.sq⟩,k _ _ _ H1 _ z m r1 trivial (ZgP fun H2 G2 m2 _ _=>⟨_,(m2.rol _ _ h).sq,l.mono m2⟩)⟩
 | ref a =>
  dsimp only at z
  cases e:G1 a with
  | none=>rw [e] at z;exact z.elim
  | some o =>
   rw [e] at z
   cases o with
   | lst ws =>
    obtain ⟨vs,e1,t1⟩:=r1 a _ e
    exact .inl ⟨a,rfl,⟨vs,SqL.of e1⟩,k _ _ _ H1 _ z m r1 e (ZgP fun H2 G2 m2 r2 g2=>let ⟨vs,e2,t2⟩:=r2 a _ g2;⟨vs,SqL.of e2,t2⟩)⟩
   | _=>exact z.elim
 | _=>exact z.elim
theorem Zqq {X:Cx} {P:Hp→Prop} {elt tg iter:Expr} {ifs:List Expr} {scope:Scope} {pos pos' spos:Pos} {i:Nat} {x:Str} {Nc:List Str} {n:Nat} {js:List Nat} {cl:List (Str×Addr)} {gi:GI} {gg:GG} {gt:GT} {ge:GE} (hN:X.N.Nodup) (hix:X.N[i]?=some x) (hx:Zka X.env.scope x=true)
  (hsw:swapsWith (.ListComp elt [⟨tg,iter,ifs,0⟩] scope pos) (some (.Name x pos')) spos.line X.env=pure true) (hc:X.calm=true) (B:Blk X Nc scope cl (Zh5 n js)) (hs:∀ x,foldedSetIterable iter X.env x=pure x) (hi:Im X tg iter gi)
  (hu:TgC X Nc scope cl tg gg) (ht:∀ C fp s H,Fm (cxB X Nc scope cl C fp s H) ifs gt) (he:∀ C fp s H,Em (cxB X Nc scope cl C fp s H) elt ge) :
  Sm X P (.Assign [.Name x pos'] (.ListComp elt [⟨tg,iter,ifs,0⟩] scope pos) spos) (Zbn i (Zcl gi n js gg gt ge)):=by
 have mt:gt.M:=(ht 0 [] X.s₀ X.H₀).m
 have me:ge.M:=(he 0 [] X.s₀ X.H₀).m
 refine ⟨fun B0 hB=>?_,Zos (ZjD hi.m hu.mono mt me)⟩
 obtain ⟨wi,hwi,hi'⟩:=hi.p
 obtain ⟨g,hpg,hgg⟩:=hu.ex
 refine Zft (ZmP (tt:=upT X.K gt) (te:=up X.K ge) hN hix (Zfr hx) hsw hc hwi B hpg (fun C fp s H=>(ht C fp s H).p) (fun C fp s H=>(he C fp s H).p) hs) fun D σ H zz2=>?_
 obtain ⟨ω,G,ts,r,mb,q⟩:=zz2
 refine Zma hi' hgg hu.mono mt me σ H _ ⟨ω,G,ts,r,ZjD hi.m hu.mono mt me _ _ _ _ (fun w G1 z v H1 m t r1=>?_) q⟩
 exact z _ H1 (mb.trans m) ((ts.mono m).set i t) r1
end L3
namespace L3
open PySem PySem.Spec PyProof.Rows L2
variable {K:PySem.W.Frag} {H H' H2:Hp}
section
variable {X:Cx} {CX:CXT} {k:Nat} {f:Addr} {fd:FuncData} {ps:List Str} {sp:Sp} {Eσ:St→XK} {x:Str} {p pos:Pos} {e:Expr} {es:List Expr} {t:TA}
theorem Zun {E:Value→Shared→Prop} {pins:List (Addr×Obj)} {s:Shared} {σ:St} {H:Hp} {i:Nat} {x:Str} {v:V} {pos:Pos} {Q:Value→Shared→Prop} (I:Inv X pins σ H s) (hN:X.N[i]?=some x) (hv:Vis X.env.scope x) (e:σ[i]?=some (some v)) (hd:(x==("__debug__":Str))=false) (hcd:(x==("__classdict__":Str))=false)
  (fin:∀ u,RelV v u→Q u s):wpAny (model X.prog X.w) X.A (eval (.Name x pos) X.env) Q E s:=by
 obtain ⟨m,hn,hl⟩:=I.loc
 obtain ⟨u,r,l⟩:=hl i x v hN e hv
 rcases l with ⟨hk,hm⟩ | ⟨hk,c,hc,hcell⟩
 ·exact wpAny_Name (wpAny_loadName_local I.ok.kind hk hn hm (fin u r)) hd
 ·rcases hk with hk | hk
  ·exact wpAny_Name (wpAny_loadName_cell I.ok.kind hk hc hcell (fin u r)) hd
  ·exact wpAny_Name (wpAny_loadName_free I.ok.kind hk hc hcell (fin u r) hcd) hd
theorem ZqF {i:Nat} (F:FnOk X.prog X.w X.K X.mg X.base CX k f fd ps sp) (hr:Room k X.A) (hN:X.N[i]?=some x) (hv:Vis X.env.scope x) (hk:PySem.W.keepIn X.K (.ref f)=true) (hb:Binds X.K fd ps []) (hx:ZlA CX X Eσ)
  (ha:PA X (e::es) t) (hdb:(x==("__debug__":Str))=false) (hcd:(x==("__classdict__":Str))=false) (he:starEach (e::es) X.env=(false,eval e X.env)::starEach es X.env) (hpl:(backTo pos (starEach es X.env)).any (·.1)=false) :
  PE X (.Call (.Name x p) (e::es) [] pos) (fun σ H Q=>σ[i]?=some (some (.ref f))∧Zru sp [] Eσ t σ H Q):=by
 intro pins s σ H Q I ⟨hi,h⟩
 refine wpAny_Call_Name_kw (Zun I hN hv hi hdb hcd fun u hu=>?_)
 cases hu
 refine PySem.W.callWith_K (h₀:=X.base) I.ok.mod.kin hk (thn (ha pos pins s σ H _ I h) fun us s1 ⟨vs,H1,I1,r,q⟩=>⟨I1.kIn,?_⟩) he hpl
 have r2:Vals (vs++[]) (us++[]):=r.append .nil
 have hl:(us++[]).length=ps.length:=by rw [← r2.length];exact F.len _ _ _ _ q
 refine wpAny_call (codeAny_mono (F.run X.A X.stack s1 H1 ⟨us,[]⟩ (us++[]) (vs++[]) Q (Eσ σ) hr I1.env0 (hb s1 us I1.kIn hl) r2 q) fun r s' hq=>?_)
 cases r with
 | error e=>exact hx pins σ H1 s1 e s' I1 hq
 | ok fl =>
  cases fl with
  | ret u=>exact I1.after hq
  | next=>exact False.elim hq
  | brk=>exact False.elim hq
  | cont=>exact False.elim hq
end
def fAt (mg:Str→Option Value) (x:Str):Addr:=match mg x with | some (.ref f)=>f | _=>0
theorem ZrG {mg:Str→Option Value} {x:Str} {f:Addr} (h:mg x=some (.ref f)):fAt mg x=f:=by unfold fAt;rw [h]
section
variable {X:Cx} {e:Expr} {es:List Expr} {pos p:Pos} {ga gb:GE} {gs:GA} {ex:Xw}
def Zgo (i:Nat) (f:Addr) (sp:Spw) (ex:Xw) (gs:GA):GE:=fun ω G Q=>ω[i]?=some (some (.ref f))∧gs ω G fun ws G1=>sp ws G1 Q (ex ω)
theorem Zqo {i:Nat} {f:Addr} {sp:Spw} (m:sp.M) (ms:gs.M):GE.M (Zgo i f sp ex gs):=fun ω G Q Q' h q=>⟨q.1,ms _ _ _ _ (fun ws G1 q1=>m _ _ _ _ _ _ h (fun _ _ z=>z) q1) q.2⟩
theorem Zrj {i:Nat} {x y:Str} {k n:Nat} {sp:Spw} (D:Df X.prog X.w X.K X.mg X.base y k n sp) (hr:Room k X.A) (hN:X.N[i]?=some x) (hv:Vis X.env.scope x) (hp:Zob X ex) (ms:gs.M) (ha:PAw X (e::es) gs)
  (hdb:(x==("__debug__":Str))=false) (hcd:(x==("__classdict__":Str))=false) (he:starEach (e::es) X.env=(false,eval e X.env)::starEach es X.env) (hpl:(backTo pos (starEach es X.env)).any (·.1)=false) :
  PEw X (.Call (.Name x p) (e::es) [] pos) (Zgo i (fAt X.mg y) sp ex gs):=by
 obtain ⟨f,fd,ps,hm,hk,hb,_,F⟩:=D.ex
 rw [ZrG hm]
 refine Zbi (ZqF F hr hN hv hk hb hp ha hdb hcd he hpl) fun σ H Q zz1=>?_
 obtain ⟨ω,G,ts,r,q0,q⟩:=zz1
 obtain ⟨v,ev,tv⟩:=ts.get i _ q0
 cases tv
 refine ⟨ev,ω,G,ts,r,ms _ _ _ _ (fun ws G1 q1 vs H1 m1 tvs r1=>?_) q⟩
 refine ⟨ws,G1,by rw [List.append_nil];exact tvs,r1,D.mono _ _ _ _ _ _ (fun w G' z=>ZcJ m1 z) (fun C G' z H2 m2 r2=>?_) q1⟩
 exact ⟨C,ω,G',rfl,(ts.mono m1).mono m2,r2,z⟩
theorem Zmr {i:Nat} {x y:Str} {k n:Nat} {sp:Spw} (D:Df X.prog X.w X.K X.mg X.base y k n sp) (hr:Room k X.A) (hi:place X.N x=some i) (hv:Zwx X.env.scope x=true) (hp:Zob X ex) (hdb:(x==("__debug__":Str))=false) (hcd:(x==("__classdict__":Str))=false) (he:starEach (e::es) X.env=(false,eval e X.env)::starEach es X.env) (hpl:(backTo pos (starEach es X.env)).any (·.1)=false)
  (ha:Am X (e::es) gs):Em X (.Call (.Name x p) (e::es) [] pos) (Zgo i (fAt X.mg y) sp ex gs):=⟨Zrj D hr (Zrf hi) (ZmG hv) hp ha.m ha.p hdb hcd he hpl,Zqo D.mono ha.m⟩
theorem ZvD {x:Str} {k n:Nat} {sp:Spw} (D:Df X.prog X.w X.K X.mg X.base x k n sp) (hg:Gl X x) (hd:(x==("__debug__":Str))=false):Em X (.Name x pos) (gC (.ref (fAt X.mg x))):=by
 obtain ⟨f,fd,ps,hm,hk,hb,_,F⟩:=D.ex
 rw [ZrG hm]
 exact ⟨ZoP (v:=.ref f) hg hm rfl (fun H=>.ref f) hd,ZtX⟩
end
end L3
namespace L3
open PySem PySem.Spec PyProof.Rows L2
namespace Tb
def hop (M:Nat):Nat→Nat→Nat
 | 0,i=>i
 | n+1,i=>hop M n ((i*5+1) % M)
def cover (M:Nat):Bool:=(List.range M).all fun i=>(List.range M).all fun j=>(List.range M).any fun n=>hop M n i==j
theorem cover8:cover 8=true:=by decide +kernel
theorem cover16:cover 16=true:=by decide +kernel
theorem cover32:cover 32=true:=by decide +kernel
theorem cover64:cover 64=true:=by decide +kernel
theorem ZpN {M i j:Nat} (h:cover M=true) (hi:i < M) (hj:j < M):∃ n,n < M∧hop M n i=j:=by
 unfold cover at h
 have h1:=List.all_eq_true.mp h i (List.mem_range.mpr hi)
 have h2:=List.all_eq_true.mp h1 j (List.mem_range.mpr hj)
 obtain ⟨n,hn,e⟩:=List.any_eq_true.mp h2
 exact ⟨n,List.mem_range.mp hn,by simpa using e⟩
theorem ZkY {mask:Nat} {owner:Array (Option Nat)} {fuel i p:Nat} (h:SetTable.layClean.free mask owner (fuel+1) i p=none) :
  (owner.getD i (some 0)).isSome=true∧SetTable.layClean.free mask owner fuel ((i*5+1+p / 32) % (mask+1)) (p / 32)=none:=by
 unfold SetTable.layClean.free at h
 have hr:0 < SetTable.runEnd mask i+1 - i:=by unfold SetTable.runEnd;split <;> omega
 cases hf:(List.range (SetTable.runEnd mask i+1 - i)).find? fun k=>(owner.getD (i+k) (some 0)).isNone with
 | some k=>rw [hf] at h;cases h
 | none =>
  rw [hf] at h
  refine ⟨?_,h⟩
  have hz:=List.find?_eq_none.mp hf 0 (List.mem_range.mpr hr)
  rw [Nat.add_zero] at hz
  cases hg:owner.getD i (some 0) with
  | some b=>rfl
  | none=>rw [hg] at hz;exact absurd rfl hz
theorem ZjS {mask:Nat} {owner:Array (Option Nat)}:∀ (n fuel i:Nat),SetTable.layClean.free mask owner (n+fuel) i 0=none→∀ m,m < n→(owner.getD (hop (mask+1) m i) (some 0)).isSome=true
 | 0,fuel,i,h,m,hm=>by omega
 | n+1,fuel,i,h,m,hm=>by
  rw [show n+1+fuel=(n+fuel)+1 by omega] at h
  obtain ⟨h1,h2⟩:=ZkY h
  simp only [Nat.zero_div,Nat.add_zero] at h2
  cases m with
  | zero=>exact h1
  | succ m=>exact ZjS n fuel _ h2 m (by omega)
theorem Zj2 {mask:Nat} {owner:Array (Option Nat)}:∀ (n fuel i p:Nat),SetTable.layClean.free mask owner (n+fuel) i p=none→i < mask+1→∃ i',i' < mask+1∧SetTable.layClean.free mask owner fuel i' (p / 32 ^ n)=none
 | 0,fuel,i,p,h,hi=>⟨i,hi,by rw [Nat.zero_add] at h;simpa using h⟩
 | n+1,fuel,i,p,h,hi=>by
  rw [show n+1+fuel=(n+fuel)+1 by omega] at h
  obtain ⟨_,h2⟩:=ZkY h
  obtain ⟨i',hi',h3⟩:=Zj2 n fuel _ _ h2 (Nat.mod_lt _ (by omega))
  refine ⟨i',hi',?_⟩
  rw [Nat.div_div_eq_div_mul,show 32*32 ^ n=32 ^ (n+1) by rw [Nat.pow_succ,Nat.mul_comm]] at h3
  exact h3
theorem ZsK {mask:Nat} {owner:Array (Option Nat)} {i p:Nat} (hc:cover (mask+1)=true) (hi:i < mask+1) (hp:p < 2 ^ 64) (he:∃ j,j < mask+1∧owner.getD j (some 0)=none):(SetTable.layClean.free mask owner (SetTable.turns mask) i p).isSome=true:=by
 cases h:SetTable.layClean.free mask owner (SetTable.turns mask) i p with
 | some j=>rfl
 | none =>
  exfalso
  rw [show SetTable.turns mask=13+((mask+1)+1) by unfold SetTable.turns;omega] at h
  obtain ⟨i',hi',h2⟩:=Zj2 13 _ i p h hi
  rw [Nat.div_eq_of_lt (Nat.lt_of_lt_of_le hp (by decide))] at h2
  have h3:=ZjS (mask+1) 1 i' h2
  obtain ⟨j,hj,e⟩:=he
  obtain ⟨n,hn,en⟩:=ZpN hc hi' hj
  have:=h3 n hn
  rw [en,e] at this
  cases this
theorem ZnF {mask:Nat} {owner:Array (Option Nat)} (hs:owner.size=mask+1):∀ (fuel i p j:Nat),SetTable.layClean.free mask owner fuel i p=some j→i < mask+1→j < mask+1∧owner.getD j (some 0)=none
 | 0,i,p,j,h,hi=>by unfold SetTable.layClean.free at h;cases h
 | fuel+1,i,p,j,h,hi=>by
  unfold SetTable.layClean.free at h
  cases hf:(List.range (SetTable.runEnd mask i+1 - i)).find? fun k=>(owner.getD (i+k) (some 0)).isNone with
  | none =>
   rw [hf] at h
   exact ZnF hs fuel _ _ j h (Nat.mod_lt _ (by omega))
  | some k =>
   rw [hf] at h
   cases h
   have h1:=List.find?_some hf
   have h2:owner.getD (i+k) (some 0)=none:=by simpa using h1
   refine ⟨?_,h2⟩
   refine Nat.lt_of_not_le fun hge=>?_
   rw [Array.getD_eq_getD_getElem?,Array.getElem?_eq_none (by omega)] at h2
   cases h2
theorem Zjs {α:Type} (x:α):∀ {l:List (Option α)} {j:Nat},l[j]?=some none→((l.set j (some x)).filterMap id).Perm (x::l.filterMap id)
 | [],j,h=>by simp at h
 | a::l,0,h=>by
  simp only [List.getElem?_cons_zero,Option.some.injEq] at h
  subst h
  exact List.Perm.refl _
 | a::l,j+1,h=>by
  simp only [List.getElem?_cons_succ] at h
  rw [List.set_cons_succ]
  cases a with
  | none=>exact Zjs x h
  | some b =>
   show (b::(l.set j (some x)).filterMap id).Perm (x::b::l.filterMap id)
   exact ((Zjs x h).cons b).trans (List.Perm.swap x b _)
theorem ZkL:∀ {l:List (Option Nat)},(l.filterMap id).length < l.length→∃ j,j < l.length∧l[j]?=some none
 | [],h=>by simp at h
 | none::l,h=>⟨0,by simp,rfl⟩
 | some a::l,h=>by
  have h':(l.filterMap id).length+1 < l.length+1:=h
  obtain ⟨j,hj,e⟩:=ZkL (l:=l) (by omega)
  exact ⟨j+1,by simp;omega,by simpa using e⟩
structure Lay (M k:Nat) (owner:Array (Option Nat)):Prop where
 sz:owner.size=M
 pm:(owner.toList.filterMap id).Perm (List.range k)
theorem ZqP {mask k:Nat} {owner:Array (Option Nat)} (hc:cover (mask+1)=true) (L:Lay (mask+1) k owner) (hk:k < mask+1) (h:Int) :
  ∃ j,SetTable.layClean.free mask owner (SetTable.turns mask) (SetTable.bits h % (mask+1)) (SetTable.bits h)=some j∧Lay (mask+1) (k+1) (owner.setIfInBounds j (some k)):=by
 have hb:SetTable.bits h < 2 ^ 64:=by
  unfold SetTable.bits
  have:=Int.emod_lt_of_pos h (show (0:Int) < 2 ^ 64 by decide)
  have:=Int.emod_nonneg h (show (2 ^ 64:Int)≠0 by decide)
  omega
 have hl:(owner.toList.filterMap id).length=k:=by rw [L.pm.length_eq,List.length_range]
 obtain ⟨j,hj,e⟩:=ZkL (l:=owner.toList) (by rw [hl,Array.length_toList,L.sz];exact hk)
 have hj':j < mask+1:=by rw [Array.length_toList,L.sz] at hj;exact hj
 have hi:SetTable.bits h % (mask+1) < mask+1:=Nat.mod_lt _ (by omega)
 have hs:=ZsK (owner:=owner) (i:=SetTable.bits h % (mask+1)) hc hi hb ⟨j,hj',by
  rw [Array.getD_eq_getD_getElem?]
  rw [Array.getElem?_toList] at e
  rw [e];rfl⟩
 obtain ⟨j2,e2⟩:=Option.isSome_iff_exists.mp hs
 obtain ⟨h1,h2⟩:=ZnF L.sz _ _ _ _ e2 hi
 refine ⟨j2,e2,⟨by rw [Array.size_setIfInBounds];exact L.sz,?_⟩⟩
 have h3:owner.toList[j2]?=some none:=by
  rw [Array.getElem?_toList]
  rw [Array.getD_eq_getD_getElem?] at h2
  have h4:j2 < owner.size:=by rw [L.sz];exact h1
  rw [Array.getElem?_eq_getElem h4] at h2 ⊢
  exact congrArg some h2
 rw [Array.toList_setIfInBounds]
 refine (Zjs k h3).trans ?_
 rw [List.range_succ]
 exact ((L.pm.cons k).trans (List.perm_append_singleton k _).symm)
theorem Zo9 {mask:Nat} (hc:cover (mask+1)=true):∀ (hs:List Int) (k:Nat) (owner:Array (Option Nat)),Lay (mask+1) k owner→k+hs.length≤mask+1 →
  ∃ o',(hs.foldl (fun (acc:Option (Array (Option Nat)×Nat)) h=>do
   let (owner,k) ← acc
   let j ← SetTable.layClean.free mask owner (SetTable.turns mask) (SetTable.bits h % (mask+1)) (SetTable.bits h)
   pure (owner.setIfInBounds j (some k),k+1)) (some (owner,k)))=some (o',k+hs.length)∧Lay (mask+1) (k+hs.length) o'
 | [],k,owner,L,_=>⟨owner,rfl,L⟩
 | h::hs,k,owner,L,hk=>by
  simp only [List.length_cons] at hk
  obtain ⟨j,e,L2⟩:=ZqP hc L (by omega) h
  obtain ⟨o',e2,L3'⟩:=Zo9 hc hs (k+1) _ L2 (by omega)
  refine ⟨o',?_,by rw [List.length_cons,show k+(hs.length+1)=k+1+hs.length by omega];exact L3'⟩
  rw [List.foldl_cons]
  show hs.foldl _ (some (owner,k) >>= fun x=>_)=_
  rw [Option.bind_eq_bind,Option.bind_some]
  dsimp only
  rw [e]
  rw [Option.bind_eq_bind,Option.bind_some]
  rw [List.length_cons,show k+(hs.length+1)=k+1+hs.length by omega]
  exact e2
theorem Zs1 (M:Nat):Lay M 0 (Array.replicate M none):=⟨by simp,by simp⟩
theorem Zrt {mask:Nat} (hc:cover (mask+1)=true) (hs:Array Int) (hn:hs.size≤mask+1):∃ o',SetTable.layClean mask hs=some o'∧Lay (mask+1) hs.size o':=by
 obtain ⟨o',e,L⟩:=Zo9 hc hs.toList 0 _ (Zs1 (mask+1)) (by simpa using hn)
 refine ⟨o',?_,by simpa using L⟩
 unfold SetTable.layClean
 rw [← Array.foldl_toList]
 rw [e];rfl
theorem Zmp {M:Nat} {owner:Array (Option Nat)} (h:owner.size=M):(((List.range M).filterMap fun j=>(owner.getD j none).map (j,·)).map (·.2))=owner.toList.filterMap id:=by
 have e:owner.toList=(List.range M).map fun j=>owner.getD j none:=by
  apply List.ext_getElem?
  intro i
  rw [List.getElem?_map,Array.getElem?_toList]
  by_cases hi:i < M
  ·have h2:i < owner.size:=by omega
   rw [List.getElem?_range hi,Array.getElem?_eq_getElem h2,Option.map_some,Array.getD_eq_getD_getElem?,Array.getElem?_eq_getElem h2];rfl
  ·rw [Array.getElem?_eq_none (by omega),List.getElem?_eq_none (by simp;omega)];rfl
 rw [e,List.filterMap_map,List.map_filterMap]
 congr 1
 funext j
 show Option.map (·.2) (Option.map (j,·) (owner.getD j none))=owner.getD j none
 cases owner.getD j none <;> rfl
theorem Zqx {M:Nat} {owner:Array (Option Nat)} (h:owner.size=M):((List.range M).filterMap fun j=>(owner.getD j none).map (j,·)).length=(owner.toList.filterMap id).length:=by
 rw [← Zmp h,List.length_map]
theorem laid_ok {mask:Nat} (hc:cover (mask+1)=true) (f m:Nat) (l p:Bool) (hs:Array Int) (hn:hs.size≤mask+1) :
  ∃ t order,SetTable.laid mask f m l p hs=some (t,order)∧order.toList.Perm (List.range hs.size)∧t.mask=mask∧t.place.size=hs.size∧t.dummies=#[]∧t.led=l∧t.plain=p:=by
 obtain ⟨o',e,L⟩:=Zrt hc hs hn
 unfold SetTable.laid
 rw [e]
 refine ⟨_,_,rfl,?_,rfl,?_,rfl,rfl,rfl⟩
 ·rw [List.toList_toArray,Zmp L.sz];exact L.pm
 ·rw [List.size_toArray,List.length_map,Zqx L.sz,L.pm.length_eq,List.length_range]
theorem order_perm {α:Type} (es:Array α) (order:Array Nat) (h:order.toList.Perm (List.range es.size)):(order.filterMap (es[·]?)).toList.Perm es.toList:=by
 rw [Array.toList_filterMap]
 refine (h.filterMap _).trans ?_
 rw [show (List.range es.size).filterMap (fun x=>es[x]?)=es.toList from ?_]
 have:∀ (l:List α),(List.range l.length).filterMap (fun x=>l[x]?)=l:=fun l=>by
  induction l with
  | nil=>rfl
  | cons a l ih =>
   rw [List.length_cons,List.range_succ_eq_map,List.filterMap_cons]
   simp only [List.getElem?_cons_zero,List.filterMap_map]
   congr 1
 have h2:=this es.toList
 rw [Array.length_toList] at h2
 simpa only [Array.getElem?_toList] using h2
end Tb
end L3
namespace L3
open PySem PySem.Spec PyProof.Rows L2
def bt (w:World):Bool:=w.params.followText "set-order"
structure Tab (w:World) (es:Array (Int×Value)) (t:SetTable) (ks:List Str):Prop where
 el:∀ e∈es.toList,∃ x u,e=(hashStr w x,Value.str x u)
 pm:(es.toList.map fun e=>strOf e.2).Perm ks
 nd:ks.Nodup
 ft:t.fits es.size=true
 ld:bt w=false→t.led=true
 pl:t.plain=true→ks=[]
def SS (w:World) (h:Heap) (a:Addr) (ks:List Str):Prop:=∃ o es ep t,h.get? a=some o∧o.ExactSet∧o.data=.set es ep t∧Tab w es t ks
namespace Tab
variable {w:World} {es es':Array (Int×Value)} {t t':SetTable} {ks ks':List Str}
theorem len (T:Tab w es t ks):es.size=ks.length:=by
 have:=T.pm.length_eq
 rw [List.length_map,Array.length_toList] at this
 exact this
theorem elems (prog:Program) (T:Tab w es t ks):ElemsOf (strKind prog w) es.toList:=fun e he=>by
 obtain ⟨x,u,rfl⟩:=T.el e he
 exact ⟨⟨x,by show Value.isStrOf x (.str x u)=true;simp [Value.isStrOf],rfl⟩,rfl⟩
theorem perm (T:Tab w es t ks) (p:es'.toList.Perm es.toList) (f:t'.fits es'.size=true) (l:bt w=false→t'.led=true) (q:t'.plain=true→ks=[]):Tab w es' t' ks :=
 ⟨fun e he=>T.el e (p.mem_iff.mp he),(p.map _).trans T.pm,T.nd,f,l,q⟩
theorem mem (T:Tab w es t ks) (k:Str):k∈ks↔∃ e∈es.toList,Value.isStrOf k e.2=true:=by
 rw [← T.pm.mem_iff,List.mem_map]
 constructor
 ·rintro ⟨e,he,rfl⟩
  obtain ⟨x,u,rfl⟩:=T.el e he
  exact ⟨_,he,by show Value.isStrOf x (.str x u)=true;simp [Value.isStrOf]⟩
 ·rintro ⟨e,he,h⟩
  obtain ⟨x,u,rfl⟩:=T.el e he
  refine ⟨_,he,?_⟩
  obtain ⟨t,e2⟩:=Value.isStrOf_shape h
  injection e2
end Tab
theorem Zk6 (t:SetTable) (n:Nat):(t.orStandIn n).led=t.led:=by
 unfold SetTable.orStandIn
 split <;> rfl
theorem Zs2 (t:SetTable) (es:Array (Int×Value)) (h:Int) (x:Value):(layNew t es h x).2.1.led=t.led:=by
 unfold layNew
 split
 ·exact Zk6 _ _
 ·rfl
theorem ZnS (t:SetTable) (es:Array (Int×Value)) (n:Nat):(relayAll t es n).2.1.led=t.led∧((relayAll t es n).2.1.plain=true→t.plain=true):=by
 unfold relayAll
 split
 ·rename_i t' order e
  dsimp only
  split
  ·unfold SetTable.relaid SetTable.laid at e
   simp only [Option.bind_eq_bind,Option.bind_eq_some_iff] at e
   obtain ⟨o,_,e⟩:=e
   cases e
   exact ⟨rfl,id⟩
  ·exact ⟨rfl,fun h=>by cases h⟩
 ·exact ⟨rfl,fun h=>by cases h⟩
section
variable {prog:Program} {w:World} {A:Around} {E:Value→Shared→Prop} {s:Shared}
theorem ZeQ {h:Heap} {a:Addr} {o:Obj} {es es':Array (Int×Value)} {ep:Nat} {t t':SetTable} {ks:List Str} (ho:h.get? a=some o) (hx:o.ExactSet) (hd:o.data=.set es ep t) (T:Tab w es' t' ks) :
  (h.update a (Obj.putSet es' t')).get? a=some { o with data:=.set es' (ep+1) t' }∧SS w (h.update a (Obj.putSet es' t')) a ks:=by
 have hg:(h.update a (Obj.putSet es' t')).get? a=some { o with data:=.set es' (ep+1) t' }:=by
  have hz:=Heap.get?_update_self (Obj.putSet es' t') ho (by rw [putSet_of es' t' hd];rfl)
  rw [putSet_of es' t' hd] at hz
  exact hz
 exact ⟨hg,_,es',ep+1,t',hg,hx,rfl,T⟩
theorem Ztr {es es1:Array (Int×Value)} {t t1:SetTable} {ks:List Str} {k:Str} {u:Tok} (T:Tab w es t ks) (hk:k∉ks) (p:es1.toList.Perm (es.toList++[(hashStr w k,Value.str k u)])) (f:t1.fits es1.size=true) (l:t1.led=t.led) (q:t1.plain=false):Tab w es1 t1 (k::ks):=by
 refine ⟨fun e he=>?_,?_,List.nodup_cons.mpr ⟨hk,T.nd⟩,f,fun h=>by rw [l];exact T.ld h,fun h=>by rw [q] at h;cases h⟩
 ·rcases List.mem_append.mp (p.mem_iff.mp he) with he | he
  ·exact T.el e he
  ·exact ⟨k,u,List.mem_singleton.mp he⟩
 ·refine (p.map _).trans ?_
  rw [List.map_append]
  exact (List.perm_append_singleton k _).trans (T.pm.cons k)
theorem ZrW {a:Addr} {ks:List Str} {k:Str} {u:Tok} {Q:Bool→Shared→Prop} (hS:SS w s.heap a ks) (hn:ks.length+1 < scanBound)
  (h:∀ h' b,Heap.SameBut a s.heap h'→SS w h' a (if k∈ks then ks else k::ks)→Q b { s with heap:=h' }):wpAny (model prog w) A (setAddHashed a (.str k u) (hashStr w k)) Q E s:=by
 obtain ⟨o,es,ep,t,ho,hx,hd,T⟩:=hS
 have hel:=T.elems prog
 have hkey:(strKind prog w).is k (.str k u)=true:=by show Value.isStrOf k (.str k u)=true;simp [Value.isStrOf]
 have hsc:(Value.str k u).scannable=true:=rfl
 have hsz:=T.len
 have hb:es.size < scanBound:=by omega
 unfold setAddHashed setAddHashedIn
 refine wpAny_holding (wpAny_bind (wpAny_setState_of ho hd T.ft ?_))
 dsimp only
 rw [byScan_of hsc hb hel,if_pos rfl]
 refine wpAny_bind ?_
 unfold setAddByScan
 refine wpAny_bind (wpAny_rule ?_)
 refine wpAny_bind (wpAny_setScan_of (knd:=strKind prog w) hkey ho hd T.ft hel ?_)
 have hgave:∀ (b:Bool) {s₁:Shared} {Q':Unit→Shared→Prop},Q' () s₁→wpAny (model prog w) A (match b with | true=>rule "set.scan.the-table-gave-way" | false=>pure ()) Q' E s₁:=fun b s₁ Q' z=>by
  cases b
  ·exact wpAny_pure z
  ·exact wpAny_rule z
 cases hr:List.findIdx? (fun e=>(strKind prog w).is k e.2) es.toList with
 | some j =>
  obtain ⟨hj,hpj,_⟩:=List.findIdx?_eq_some_iff_getElem.mp hr
  have hin:k∈ks:=(T.mem k).mpr ⟨_,List.getElem_mem hj,hpj⟩
  have hz:=h s.heap false (Heap.SameBut.refl a s.heap) (by rw [if_pos hin];exact ⟨o,es,ep,t,ho,hx,hd,T⟩)
  exact wpAny_pure (wpAny_pure hz)
 | none =>
  have hout:k∉ks:=fun hin=>by
   obtain ⟨e,he,hp⟩:=(T.mem k).mp hin
   have hz:=List.findIdx?_eq_none_iff.mp hr e he
   exact Bool.noConfusion (hz.symm.trans hp)
  have hperm:=layNew_perm t es (hashStr w k) (.str k u)
  have hfits:=layNew_fits t es (hashStr w k) (.str k u)
  have hled:=Zs2 t es (hashStr w k) (.str k u)
  rw [if_neg hout] at h
  dsimp only
  show wpAny (model prog w) A _ _ E s
  have hhash:(strKind prog w).hash k=hashStr w k:=rfl
  revert hperm hfits hled
  generalize layNew t es (hashStr w k) (.str k u)=L
  obtain ⟨es1,t1,dm,gv⟩:=L
  intro hperm hfits hled
  dsimp only at hperm hfits hled ⊢
  rw [Array.toList_push] at hperm
  refine wpAny_bind (hgave _ ?_)
  have hz1:es1.size=es.size+1:=by rw [← Array.length_toList,hperm.length_eq,List.length_append,Array.length_toList];rfl
  have fin:∀ t2:SetTable,t2.fits es1.size=true→t2.led=t.led→t2.plain=false→wpAny (model prog w) A (do
    storeSet a es1 t2
    if (!dm&&t2.tooFull)=true then do
      (match (relayAll t2 es1 (SetTable.grown es1.size)).2.2 with | true=>rule "set.scan.the-table-gave-way" | false=>pure ())
      storeSet a (relayAll t2 es1 (SetTable.grown es1.size)).1 (relayAll t2 es1 (SetTable.grown es1.size)).2.1
      pure (some true)
     else pure (some true)) (fun r s'=>wpAny (model prog w) A (match r with | some added=>pure added | none=>setAddHashedIn a (.str k u) (hashStr w k) 99999) Q E s') E s:=fun t2 f2 l2 p2=>by
   have T2:Tab w es1 t2 (k::ks):=Ztr T hout hperm f2 l2 p2
   refine wpAny_bind (wpAny_storeSet_of ho hd ?_ (fits_of_scanBound (by omega)))
   obtain ⟨ho1,hS1⟩:=ZeQ ho hx hd T2
   have b1:=Heap.SameBut.update s.heap a (Obj.putSet es1 t2)
   split
   ·have hp:=relayAll_perm t2 es1 (SetTable.grown es1.size)
    have hf:=relayAll_fits t2 es1 (SetTable.grown es1.size)
    have hg:=ZnS t2 es1 (SetTable.grown es1.size)
    have T3:=T2.perm hp hf (fun z=>by rw [hg.1,l2];exact T.ld z) (fun z=>by rw [hg.2 z] at p2;cases p2)
    refine wpAny_bind (hgave _ ?_)
    refine wpAny_bind (wpAny_storeSet_of ho1 rfl ?_ (fits_of_scanBound (by rw [T3.len,← T2.len];omega)))
    obtain ⟨_,hS2⟩:=ZeQ ho1 hx rfl T3
    exact wpAny_pure (wpAny_pure (h _ _ (b1.trans (Heap.SameBut.update _ a _)) hS2))
   ·exact wpAny_pure (wpAny_pure (h _ _ b1 hS1))
  split
  ·refine wpAny_bind ?_
   rw [hashByValue_scannable 8 hsc]
   refine wpAny_pure ?_
   exact fin _ (SetTable.fits_plain_off hfits) hled rfl
  ·rename_i hpl
   refine wpAny_bind (wpAny_pure ?_)
   exact fin _ hfits hled (by simpa using hpl)
end
end L3
set_option Elab.async false
set_option linter.all false
set_option maxRecDepth 100000
set_option maxHeartbeats 4000000
namespace L3
open PySem PySem.Spec PyProof.Rows L2
section
variable {prog:Program} {w:World} {A:Around} {E:Value→Shared→Prop} {s:Shared}
theorem SS.kept {h h':Heap} {a:Addr} {ks:List Str} (S:SS w h a ks) (k:∀ o,h.get? a=some o→h'.get? a=some o):SS w h' a ks:=by
 obtain ⟨o,es,ep,t,ho,r⟩:=S
 exact ⟨o,es,ep,t,k o ho,r⟩
theorem SS.nd {h:Heap} {a:Addr} {ks:List Str} (S:SS w h a ks):ks.Nodup:=by
 obtain ⟨o,es,ep,t,ho,_,_,T⟩:=S
 exact T.nd
theorem Zmu {h:Heap} {a:Addr} (led:Bool) (hl:bt w=false→led=true) (ho:h.get? a=some { cls:=.type "set",dict:=none,data:=.set #[] 0 (.fresh 0 0 led) }):SS w h a [] :=
 ⟨_,#[],0,_,ho,⟨rfl,rfl,rfl⟩,rfl,⟨fun e he=>by simp at he,List.Perm.refl _,List.nodup_nil,rfl,hl,fun _=>rfl⟩⟩
theorem Zs4 {R:Result→Shared→Prop} {I:Addr} {fp wr:List Addr} {G:Array GenState→Array GenState→Prop} {n:Nat} {P:Nat→Value→Prop} {St:Nat→Shared→Prop} (W:WalksS prog w A.in1 I fp wr G n P St) {S:Addr} (hSf:S∉fp)
  {val:Nat→Str} (hval:∀ i v,P i v→∃ t,v=.str (val i) t):∀ (k i:Nat) (s:Shared) (ks:List Str),n - i=k→i≤n→St i s→SS w s.heap S ks→ks.length+k < scanBound →
   (∀ s' ks',Moved (S::wr) G s s'→SS w s'.heap S ks'→(∀ x,x∈ks'↔x∈ks∨∃ j,i≤j∧j < n∧val j=x)→R (.ok (.ret .none)) s') →
   codeAny (model prog w) A (.builtin "set.update.loop" ⟨[.ref S,.ref I],[]⟩) R s:=by
 have hSw:S∉wr:=fun z=>hSf (W.sub _ z)
 have hsub:∀ b∈wr,b∈S::wr:=fun b z=>List.mem_cons_of_mem _ z
 intro k
 induction k with
 | zero =>
  intro i s ks hk hi hst hS _ hR
  obtain rfl:i=n:=by omega
  refine codeAny_builtin PyProof.Rows.F.entry_set_update_loop ?_
  rw [Around.under_plainId PyProof.Rows.F.plain_set_update_loop _]
  refine wpAny_bind (m:=pyNext (.ref I)) (W.done s _ _ hst fun s' hm=>?_)
  refine wpAny_pure (hR s' ks (hm.mono hsub) (hS.kept fun o e=>hm.heap S o hSw e) fun x=>⟨.inl,?_⟩)
  rintro (h | ⟨j,h1,h2,_⟩)
  ·exact h
  ·omega
 | succ k ih =>
  intro i s ks hk hi hst hS hn hR
  have hlt:i < n:=by omega
  refine codeAny_builtin PyProof.Rows.F.entry_set_update_loop ?_
  rw [Around.under_plainId PyProof.Rows.F.plain_set_update_loop _]
  refine wpAny_bind (m:=pyNext (.ref I)) (W.item i s _ _ hlt hst fun v s1 hP hst1 hm=>?_)
  obtain ⟨t,rfl⟩:=hval i v hP
  have hS1:SS w s1.heap S ks:=hS.kept fun o e=>hm.heap S o hSw e
  refine wpAny_bind (m:=holding [Value.str (val i) t] (setAdd S (.str (val i) t))) (wpAny_holding ?_)
  unfold setAdd
  refine wpAny_holding (wpAny_bind ((strKind prog w).pyHash (k:=val i) (by show Value.isStrOf (val i) (.str (val i) t)=true;simp [Value.isStrOf]) ?_))
  refine ZrW (s:={ s1 with toks:=s1.toks+1 }) hS1 (by omega) fun h' b hsb hS2=>?_
  refine wpAny_pure ⟨plainId_quiet PyProof.Rows.F.plain_set_update_loop _,ih (i+1) _ _ (by omega) hlt (W.frame _ s1 _ _ hst1 (Nat.le_succ _) fun c hc o e=>?_) hS2 ?_ fun s2 ks' hm2 hS3 hx=>?_⟩
  ·rw [hsb.2 c fun z:c=S=>hSf (by rw [← z];exact hc)];exact e
  ·split
   ·omega
   ·rw [List.length_cons];omega
  ·refine hR s2 ks' (Moved.trans W.gtrans ((hm.mono hsub).then_heap (Nat.le_succ _) fun c o hc e=>?_) hm2) hS3 fun x=>(hx x).trans ?_
   ·rw [hsb.2 c fun z:c=S=>hc (by rw [z];exact List.mem_cons_self)];exact e
   ·have hmem:x∈(if val i∈ks then ks else val i::ks)↔x∈ks∨val i=x:=by
     split
     ·rename_i hin
      exact ⟨.inl,fun z=>z.elim id fun e=>e▸hin⟩
     ·rw [List.mem_cons]
      exact ⟨fun z=>z.elim (fun e=>.inr e.symm) .inl,fun z=>z.elim .inr fun e=>.inl e.symm⟩
    rw [hmem]
    constructor
    ·rintro ((h | h) | ⟨j,h1,h2,h3⟩)
     ·exact .inl h
     ·exact .inr ⟨i,Nat.le_refl _,hlt,h⟩
     ·exact .inr ⟨j,by omega,h2,h3⟩
    ·rintro (h | ⟨j,h1,h2,h3⟩)
     ·exact .inl (.inl h)
     ·by_cases e:j=i
      ·subst e;exact .inl (.inr h3)
      ·exact .inr ⟨j,by omega,h2,h3⟩
end
end L3
namespace L3
open PySem PySem.Spec PyProof.Rows L2
abbrev Za9 (led:Bool):Obj:={ cls:=.type "set",dict:=none,data:=.set #[] 0 (.fresh 0 0 led) }
section
variable {prog:Program} {w:World} {A:Around} {E:Value→Shared→Prop} {s:Shared}
theorem Ztw {Q:Value→Shared→Prop} (h:∀ led:Bool,(bt w=false→led=true)→Q (.ref s.heap.objs.size) { s with heap:=s.heap.push (Za9 led) }):wpAny (model prog w) A (newSet (.type "set")) Q E s:=by
 unfold newSet setsByText
 refine wpAny_bind (wpAny_bind (wpAny_askSetting (wpAny_pure ?_)))
 simp only [newObj]
 refine wpAny_bind (wpAny_alloc (wpAny_pure (h _ fun z=>?_)))
 show (!(bt w))=true
 rw [z];rfl
theorem Zqm (a:Value) {Q:Value→Shared→Prop} (h:∀ led:Bool,(bt w=false→led=true)→Q (.ref s.heap.objs.size) { s with heap:=s.heap.push (Za9 led) }) :
  codeAny (model prog w) A (.call (.builtin "set.__new__") ⟨[.type "set",a],[]⟩) (wants Q E) s:=by
 refine codeAny_of_tree (?_:wpAny _ A.in1 (do checkBuiltinCall "set.__new__" ⟨[.type "set",a],[]⟩;again (.builtin "set.__new__" ⟨[.type "set",a],[]⟩)) _ _ s)
 refine wpAny_bind (wpAny_of_eq (PySem.F.newCall_set_1 a) (wpAny_pure ⟨plainId_quiet PySem.F.plain_set_new _,codeAny_builtin PySem.F.entry_set_new ?_⟩))
 rw [Around.under_plainId PySem.F.plain_set_new _];unfold Builtin.«set.__new__» Builtin.Frozenset.newClass
 have hq:=sub_set_self
 obtain ⟨hp,g,d,tk,os⟩:=s
 dsimp only
 wp_walk
 refine wpAny_askSetting (wpAny_pure ?_)
 simp only [newObj]
 refine wpAny_bind (wpAny_alloc (wpAny_pure (wpAny_pure (h _ fun z=>?_))))
 show (!(bt w))=true
 rw [z];rfl
theorem ZoL:∀ {vs:List Value} {xs:List Str},StrsAre vs xs→∀ (i:Nat) (v:Value),vs[i]?=some v→∃ t,v=.str (xs.getD i (Str.ofString "")) t
 | _,_,.nil,i,v,h=>by simp at h
 | _,_,.cons x t r,0,v,h=>⟨t,by simp at h;exact h.symm⟩
 | _,_,.cons x t r,i+1,v,h=>ZoL r i v (by simpa using h)
set_option maxHeartbeats 3200000 in
theorem ZiY {l:Addr} {items:Array Value} {xs:List Str} {Q:Value→Shared→Prop} (hh:A.handled=none) (hl:s.heap.IsList l items) (hi:StrsAre items.toList xs) (hb:items.size < scanBound)
  (h:∀ (h':Heap) (tk:Nat) (ks:List Str),SS w h' s.heap.objs.size ks→(∀ x,x∈ks↔x∈xs)→(∀ b o,b < s.heap.objs.size→s.heap.get? b=some o→h'.get? b=some o)→Q (.ref s.heap.objs.size) { s with heap:=h',toks:=tk }) :
  wpAny (model prog w) A (call (.type "set") [.ref l]) Q E s:=by
 obtain ⟨c,tl,hmro⟩:=PySem.F.called_set.mro
 have hmade:=PySem.F.called_set.made
 have hsub:=PySem.F.called_set.sub
 refine wpAny_call (codeAny_of_tree (?_:wpAny _ _ (callAny (.type "set") _) _ _ _))
 refine wpAny_pure ⟨Code.quiet_builtin _ (by decide +kernel),codeAny_builtin PySem.F.entry_type_call ?_⟩
 rw [Around.under_plain (weight_type_call_type "set" [.ref l] []) rfl]
 have h1:=PySem.F.called_set.notType
 have h2:=PySem.F.called_set.canCreate
 have hct:=PySem.F.typeCall_set_1 (.ref l)
 (repeat (any_goals (first | assumption | wp_step)))
 refine codeAny_mono (Zqm (.ref l) (E:=E) (Q:=fun obj s₁=>∃ led:Bool,(bt w=false→led=true)∧obj=.ref s.heap.objs.size∧s₁={ s with heap:=s.heap.push (Za9 led) }) fun led z=>⟨led,z,rfl,rfl⟩) fun r s₁ hr=>?_
 match r,hr with
 | .error e,hr=>exact hr
 | .ok .next,hr=>exact hr.elim
 | .ok .brk,hr=>exact hr.elim
 | .ok .cont,hr=>exact hr.elim
 | .ok (.ret obj),hr =>
  obtain ⟨led,hled,rfl,rfl⟩:=hr
  have hS:(s.heap.push (Za9 led)).get? s.heap.objs.size=some (Za9 led):=Heap.get?_push_size _ rfl
  have hT:Shared.TypeIs { s with heap:=s.heap.push (Za9 led) } (.ref s.heap.objs.size) "set":=⟨_,hS,rfl⟩
  have hli:=PySem.F.called_set.init.lookup
  have hbi:=PySem.F.called_set.init.bind (.ref s.heap.objs.size)
  (repeat (any_goals (first | assumption | wp_step)))
  refine codeAny_mono (codeAny_call_builtin (R:=wants (fun r s₂=>r=.none∧∃ h' tk ks,s₂={ s with heap:=h',toks:=tk }∧SS w h' s.heap.objs.size ks∧(∀ x,x∈ks↔x∈xs)∧(∀ b o,b < s.heap.objs.size→s.heap.get? b=some o→h'.get? b=some o)) E) PySem.F.called_set.init.plain PySem.F.entry_set_init (check_set_init_1 hT ?_)) fun r₂ s₂ hr₂=>?_
  ·obtain ⟨ol,hol,hcl,nl,hdl⟩:=hl
   obtain ⟨ocls,odict,odata,oslots⟩:=ol
   simp only at hcl hdl
   subst hcl hdl
   have hol':(s.heap.push (Za9 led)).get? l=some { cls:=.type "list",dict:=odict,data:=.seq items nl,slots:=oslots }:=Heap.get?_push_of_some _ hol
   have hs1:=PySem.F.sub_list_set
   have hs2:=PySem.F.sub_list_frozenset
   have hne:(Value.type "list"==Value.type "dict")=false:=by decide
   have hl1:(s.heap.push (Za9 led)).IsList l items:=⟨_,hol',rfl,nl,rfl⟩
   unfold Builtin.«set.__init__» noKeywords Builtin.Frozenset.updateFrom
   generalize hPI:pyIter=PI
   wp_walk
   subst hPI
   refine wpAny_pyIter_list hl1 (wpAny_bind (wpAny_runValue ?_))
   have hlS:l < s.heap.objs.size:=Heap.lt_size hol
   have hneI:l≠(s.heap.push (Za9 led)).objs.size:=by rw [Heap.size_push];exact Nat.ne_of_lt (Nat.lt_succ_of_lt hlS)
   have hSf:s.heap.objs.size∉[(s.heap.push (Za9 led)).objs.size,l]:=by
    rw [Heap.size_push]
    simp only [List.mem_cons,List.not_mem_nil,or_false,not_or]
    exact ⟨Nat.ne_of_lt (Nat.lt_succ_self _),Nat.ne_of_gt hlS⟩
   have hval:∀ (i:Nat) (v:Value),items[i]?=some v→∃ t,v=.str (xs.getD i (Str.ofString "")) t:=fun i v hv=>ZoL hi i v (by rw [Array.getElem?_toList];exact hv)
   have hxl:items.size=xs.length:=by rw [← Array.length_toList];exact hi.length
   refine Zs4 ((Walks.list (by simp [hh]) _ l hneI items).toS) hSf hval (items.size - 0) 0 _ [] (by omega) (Nat.zero_le _) ⟨⟨_,Heap.get?_push_size _ rfl,rfl,rfl⟩,hl1.push _⟩ ?_ (by simp only [List.length_nil];omega) ?_
   ·exact Zmu led hled (Heap.get?_push_of_some _ hS)
   ·intro s' ks hm hS' hx
    obtain ⟨h',g',d',tk',os'⟩:=s'
    obtain rfl:g'=s.gens:=hm.gens
    obtain rfl:d'=s.drawn:=hm.drawn
    obtain rfl:os'=s.os:=hm.os
    refine wpAny_pure (wpAny_pure ⟨rfl,h',tk',ks,rfl,hS',fun x=>(hx x).trans ?_,fun b o hb e=>?_⟩)
    ·constructor
     ·rintro (z | ⟨j,_,hj,e⟩)
      ·cases z
      ·rw [← e]
       rw [List.getD_eq_getElem?_getD,List.getElem?_eq_getElem (by omega)]
       exact List.getElem_mem _
     ·intro hx
      obtain ⟨j,hj,e⟩:=List.getElem_of_mem hx
      refine .inr ⟨j,Nat.zero_le _,by omega,?_⟩
      rw [List.getD_eq_getElem?_getD,List.getElem?_eq_getElem hj]
      exact e
    ·refine hm.heap b o ?_ (Heap.get?_push_of_some _ (Heap.get?_push_of_some _ e))
     simp only [List.mem_cons,List.not_mem_nil,or_false,not_or]
     rw [Heap.size_push]
     exact ⟨Nat.ne_of_lt hb,Nat.ne_of_lt (Nat.lt_succ_of_lt hb)⟩
  ·match r₂,hr₂ with
   | .error e,hr₂=>exact hr₂
   | .ok .next,hr₂=>exact hr₂.elim
   | .ok .brk,hr₂=>exact hr₂.elim
   | .ok .cont,hr₂=>exact hr₂.elim
   | .ok (.ret r),hr₂ =>
    obtain ⟨rfl,h',tk,ks,rfl,hS',hx,hk'⟩:=hr₂
    (repeat (any_goals (first | assumption | wp_step)))
    exact h _ _ _ hS' hx hk'
end
end L3
namespace L3
open PySem PySem.Spec PyProof.Rows L2
theorem Zrq {n:Nat} (h:n < 64):(SetTable.sizeAbove n=8∨SetTable.sizeAbove n=16∨SetTable.sizeAbove n=32∨SetTable.sizeAbove n=64)∧n < SetTable.sizeAbove n:=by
 have:∀ m:Fin 64,(SetTable.sizeAbove m.1=8∨SetTable.sizeAbove m.1=16∨SetTable.sizeAbove m.1=32∨SetTable.sizeAbove m.1=64)∧m.1 < SetTable.sizeAbove m.1:=by decide +kernel
 exact this ⟨n,h⟩
theorem Zha {n:Nat} (h:n < 64):Tb.cover (SetTable.sizeAbove n - 1+1)=true∧n < SetTable.sizeAbove n∧SetTable.sizeAbove n≤64:=by
 obtain ⟨h1,h2⟩:=Zrq h
 rcases h1 with e | e | e | e <;> rw [e] at h2 ⊢
 ·exact ⟨Tb.cover8,h2,by decide⟩
 ·exact ⟨Tb.cover16,h2,by decide⟩
 ·exact ⟨Tb.cover32,h2,by decide⟩
 ·exact ⟨Tb.cover64,h2,by decide⟩
theorem Zpa {t:SetTable} {n:Nat} (h1:t.place.size=n) (h2:t.dummies=#[]) (h3:n≤t.mask):t.fits n=true:=by
 unfold SetTable.fits SetTable.fill
 rw [h2,h1]
 simp
 exact h3
section
variable {prog:Program} {w:World} {A:Around} {E:Value→Shared→Prop} {s:Shared}
theorem Zmo {es:Array (Int×Value)} {t:SetTable} {ks:List Str} (T:Tab w es t ks) {mask f m:Nat} {l p:Bool} (hc:Tb.cover (mask+1)=true) (hn:ks.length≤mask) (hl:bt w=false→l=true) (hp:p=true→ks=[]) :
  ∃ t' order,SetTable.laid mask f m l p (es.map (·.1))=some (t',order)∧(order.filterMap (es[·]?)).size=es.size∧Tab w (order.filterMap (es[·]?)) t' ks:=by
 have hz:=T.len
 obtain ⟨t',order,e,hpm,e1,e2,e3,e4,e5⟩:=Tb.laid_ok hc f m l p (es.map (·.1)) (by rw [Array.size_map];omega)
 rw [Array.size_map] at hpm e2
 have hq:=Tb.order_perm es order hpm
 have hsz:(order.filterMap (es[·]?)).size=es.size:=by rw [← Array.length_toList,hq.length_eq,Array.length_toList]
 refine ⟨t',order,e,hsz,T.perm hq ?_ (fun z=>by rw [e4];exact hl z) fun z=>hp (by rw [← e5];exact z)⟩
 rw [hsz]
 exact Zpa e2 e3 (by rw [e1];omega)
theorem ZpX {a:Addr} {ks:List Str} {n:Nat} {Q:Unit→Shared→Prop} (hS:SS w s.heap a ks) (hn:n < 64) (hk:ks.length≤n)
  (h:∀ h',Heap.SameBut a s.heap h'→SS w h' a ks→Q () { s with heap:=h' }):wpAny (model prog w) A (setRelay a n) Q E s:=by
 obtain ⟨o,es,ep,t,ho,hx,hd,T⟩:=hS
 obtain ⟨hc,h1,h2⟩:=Zha hn
 have hz:=T.len
 unfold setRelay
 refine wpAny_bind (wpAny_setState_of ho hd T.ft ?_)
 dsimp only
 rw [if_neg (by have:(64:Nat)≤sizeLine:=by decide
                omega)]
 obtain ⟨t',order,e,hsz,T'⟩:=Zmo (f:=t.finger) (m:=t.movedTo (SetTable.sizeAbove n - 1)) (l:=t.led) (p:=t.plain) T hc (by omega) T.ld T.pl
 refine wpAny_bind ?_
 unfold SetTable.relaid
 rw [e]
 show wpAny (model prog w) A (if ((order.filterMap (es[·]?)).size != es.size)=true then _ else pure (order.filterMap (es[·]?),t')) _ E s
 rw [if_neg (by rw [hsz];simp)]
 refine wpAny_pure (wpAny_storeSet_of ho hd ?_ (fits_of_scanBound (by rw [hsz];unfold scanBound;omega)))
 exact h _ (Heap.SameBut.update s.heap a _) (ZeQ ho hx hd T').2
theorem Zte {a:Addr} {ks:List Str} {n:Nat} {Q:Unit→Shared→Prop} (hS:SS w s.heap a ks) (hn:ks.length+n < 32)
  (h:∀ h',Heap.SameBut a s.heap h'→SS w h' a ks→Q () { s with heap:=h' }):wpAny (model prog w) A (setRoomFor a n) Q E s:=by
 have hS':=hS
 obtain ⟨o,es,ep,t,ho,hx,hd,T⟩:=hS
 have hz:=T.len
 unfold setRoomFor
 refine wpAny_bind (wpAny_setState_of ho hd T.ft ?_)
 have hp:t.place.size=es.size:=by
  have:=T.ft
  unfold SetTable.fits at this
  simp only [Bool.and_eq_true,beq_iff_eq] at this
  exact this.1
 dsimp only
 unfold SetTable.roomFor
 split
 ·rename_i v e
  split at e
  ·cases e
   exact ZpX hS' (by omega) (by omega) h
  ·cases e
 ·exact wpAny_pure (h s.heap (Heap.SameBut.refl a s.heap) hS')
end
end L3
namespace L3
open PySem PySem.Spec PyProof.Rows L2
theorem Zf1 {α:Type}:∀ (l:List α) (i:Nat) (h:i < l.length),(l[i]::l.eraseIdx i).Perm l
 | a::l,0,h=>List.Perm.refl _
 | a::l,i+1,h=>by
  have h':i < l.length:=Nat.lt_of_succ_lt_succ h
  exact (List.Perm.swap a (l[i]'h') (l.eraseIdx i)).trans ((Zf1 l i h').cons a)
theorem ZoE {α:Type} (next:Nat→Nat):∀ (n k:Nat) (left:List α) (out:Array α),left.length=n→(pickOrder.go next n k left out).toList.Perm (out.toList++left)
 | 0,k,left,out,h=>by
  obtain rfl:=List.length_eq_zero_iff.mp h
  rw [List.append_nil]
  exact List.Perm.refl _
 | n+1,k,left,out,h=>by
  have hlt:next k % left.length < left.length:=Nat.mod_lt _ (by omega)
  unfold pickOrder.go
  rw [List.getElem?_eq_getElem hlt]
  dsimp only
  refine (ZoE next n (k+1) _ _ (by rw [List.length_eraseIdx_of_lt hlt];omega)).trans ?_
  rw [Array.toList_push,List.append_assoc]
  refine List.Perm.append_left _ ?_
  exact Zf1 left _ hlt
theorem ZjV {α:Type} (next:Nat→Nat) (xs:Array α):(pickOrder next xs).toList.Perm xs.toList:=by
 have:=ZoE next xs.size 0 xs.toList #[] (by simp)
 unfold pickOrder
 simpa using this
section
variable {prog:Program} {w:World} {A:Around} {E:Value→Shared→Prop} {s:Shared}
theorem Zjx {Q:Option Bool×Unit→Shared→Prop} {f:Int×Value→Option Bool×Unit→Sem (ForInStep (Option Bool×Unit))} (hf:∀ e,(∃ x u,e=(hashStr w x,Value.str x u))→f e (none,())=pure (ForInStep.yield (none,()))) :
  ∀ (l:List (Int×Value)),(∀ e∈l,∃ x u,e=(hashStr w x,Value.str x u))→Q (none,()) s→wpAny (model prog w) A (forIn l (none,()) f) Q E s
 | [],_,q=>wpAny_pure q
 | e::l,h,q=>by
  rw [List.forIn_cons,hf e (h e List.mem_cons_self)]
  exact wpAny_bind (wpAny_pure (Zjx hf l (fun x hx=>h x (List.mem_cons_of_mem _ hx)) q))
theorem ZpJ {a b:Addr} {ka kb:List Str} {Q:Bool→Shared→Prop} (ha:SS w s.heap a ka) (hb:SS w s.heap b kb) (q:Q true s):wpAny (model prog w) A (setsQuiet [a,b]) Q E s:=by
 obtain ⟨oa,ea,pa,ta,ho,hx,hd,T⟩:=ha
 obtain ⟨ob,eb,pb,tb,ho2,hx2,hd2,T2⟩:=hb
 have hyield:∀ e:Int×Value,(∃ x u,e=(hashStr w x,Value.str x u))→True:=fun _ _=>trivial
 unfold setsQuiet
 refine wpAny_bind ?_
 rw [List.forIn_cons]
 refine wpAny_bind (wpAny_bind (wpAny_setEntries_of ho hd T.ft ?_))
 rw [← Array.forIn_toList]
 refine wpAny_bind (Zjx (w:=w) (fun e he=>?_) ea.toList T.el (wpAny_pure ?_))
 ·obtain ⟨x,u,rfl⟩:=he;rfl
 dsimp only
 rw [List.forIn_cons]
 refine wpAny_bind (wpAny_bind (wpAny_setEntries_of ho2 hd2 T2.ft ?_))
 rw [← Array.forIn_toList]
 refine wpAny_bind (Zjx (w:=w) (fun e he=>?_) eb.toList T2.el (wpAny_pure ?_))
 ·obtain ⟨x,u,rfl⟩:=he;rfl
 dsimp only
 rw [List.forIn_nil]
 exact wpAny_pure (wpAny_pure q)
theorem ZtI {o f:Addr} {ko ks:List Str} {ob:Obj} {es:Array (Int×Value)} {ep:Nat} {t:SetTable} {Q:Array (Int×Value)→Shared→Prop} (ho:s.heap.get? o=some ob) (hx:ob.ExactSet) (hd:ob.data=.set es ep t) (T:Tab w es t ko) (hf:SS w s.heap f ks) (hk:ks.length < scanBound)
  (h:∀ h' l,Heap.SameBut f s.heap h'→SS w h' f ks→l.toList.Perm es.toList→Q l { s with heap:=h' }):wpAny (model prog w) A (setWalkUnseen o [f] (some f)) Q E s:=by
 have hz:=T.len
 have hall:bt w=true∨es.size≤1→wpAny (model prog w) A (setWalk o) Q E s:=fun hw=>by
  unfold setWalk
  refine wpAny_bind (wpAny_setState_of ho hd T.ft ?_)
  dsimp only
  unfold setsByText
  refine wpAny_bind (wpAny_bind (wpAny_askSetting (wpAny_pure ?_)))
  show wpAny (model prog w) A (if bt w=true then _ else _) Q E s
  by_cases hb:bt w=true
  ·rw [if_pos hb]
   exact wpAny_bind (wpAny_askSetting (wpAny_pure (h s.heap _ (Heap.SameBut.refl _ _) hf (ZjV _ _))))
  ·rw [if_neg hb]
   have h1:es.size≤1:=hw.resolve_left hb
   show wpAny (model prog w) A (if (!t.plain&&decide (es.size > 1))=true then _ else _) Q E s
   rw [if_neg (by have:¬ es.size > 1:=by omega
                  simp [this])]
   refine wpAny_bind ?_
   show wpAny (model prog w) A (if (!t.led&&decide (es.size > 1))=true then _ else pure ()) _ E s
   rw [if_neg (by have:¬ es.size > 1:=by omega
                  simp [this])]
   exact wpAny_pure (wpAny_pure (h s.heap _ (Heap.SameBut.refl _ _) hf (List.Perm.refl _)))
 unfold setWalkUnseen
 refine wpAny_bind (wpAny_setState_of ho hd T.ft ?_)
 dsimp only
 unfold setsByText
 refine wpAny_bind (wpAny_bind (wpAny_askSetting (wpAny_pure ?_)))
 show wpAny (model prog w) A (if (bt w||t.led&&t.plain||decide (es.size≤1))=true then _ else _) Q E s
 by_cases hc:(bt w||t.led&&t.plain||decide (es.size≤1))=true
 ·rw [if_pos hc]
  refine hall ?_
  simp only [Bool.or_eq_true,Bool.and_eq_true,decide_eq_true_eq] at hc
  rcases hc with (hc | hc) | hc
  ·exact .inl hc
  ·have:=T.pl hc.2
   subst this
   exact .inr (by rw [hz];decide)
  ·exact .inr hc
 ·rw [if_neg hc]
  simp only [Bool.or_eq_true,Bool.and_eq_true,decide_eq_true_eq,not_or] at hc
  have hb:bt w=false:=by simpa using hc.1.1
  refine wpAny_bind (ZpJ ⟨ob,es,ep,t,ho,hx,hd,T⟩ hf ?_)
  rw [if_neg (by decide)]
  refine wpAny_bind (wpAny_rule ?_)
  have hf':=hf
  obtain ⟨of,ef,pf,tf,hof,hxf,hdf,Tf⟩:=hf
  refine wpAny_bind (wpAny_setState_of hof hdf Tf.ft ?_)
  dsimp only
  split
  ·refine wpAny_bind (wpAny_storeSet_of hof hdf ?_ ?_)
   ·refine wpAny_pure (h _ _ (Heap.SameBut.update s.heap f _) (ZeQ hof hxf hdf (Tf.perm (List.Perm.refl _) ?_ (fun _=>?_) fun z=>?_)).2 (List.Perm.refl _))
    ·cases tf;exact Tf.ft
    ·show (tf.led&&t.led)=true
     rw [Tf.ld hb,T.ld hb];rfl
    ·refine Tf.pl ?_
     have z':(tf.plain&&t.plain)=true:=z
     simp only [Bool.and_eq_true] at z'
     exact z'.1
   ·exact fits_of_scanBound (by rw [Tf.len];exact hk)
  ·exact wpAny_pure (h _ _ (Heap.SameBut.refl _ _) hf' (List.Perm.refl _))
theorem Zo2 {a o:Addr} {ob:Obj} {es:Array (Int×Value)} {ep:Nat} {t:SetTable} (hne:o≠a) (hd:ob.data=.set es ep t) (hf:t.fits es.size=true) {each:Sem Unit} (he:∀ (s':Shared) (Q':Unit→Shared→Prop),s'.heap.get? o=some ob→Q' () s'→wpAny (model prog w) A each Q' E s') {f:Int×Value→PUnit→Sem (ForInStep PUnit)}
  (hbody:∀ x u,f (hashStr w x,Value.str x u) PUnit.unit=(do let _ ← holding [Value.str x u] (setAddHashed a (Value.str x u) (hashStr w x));each;let r ← setState o;if (r.2.1 != ep)=true then (do unsupported "set.changed-during-merge";pure (ForInStep.yield PUnit.unit)) else pure (ForInStep.yield PUnit.unit))) :
  ∀ (l:List (Int×Value)) (s:Shared) (ks:List Str) (Q:PUnit→Shared→Prop),(∀ e∈l,∃ x u,e=(hashStr w x,Value.str x u))→s.heap.get? o=some ob→SS w s.heap a ks→ks.length+l.length < scanBound →
   (∀ h' ks',Heap.SameBut a s.heap h'→SS w h' a ks'→(∀ x,x∈ks'↔x∈ks∨x∈l.map fun e=>strOf e.2)→Q PUnit.unit { s with heap:=h' })→wpAny (model prog w) A (forIn l PUnit.unit f) Q E s
 | [],s,ks,Q,_,_,hS,_,h=>wpAny_pure (h s.heap ks (Heap.SameBut.refl _ _) hS fun x=>⟨.inl,fun z=>z.elim id fun z=>by cases z⟩)
 | e::l,s,ks,Q,hel,ho,hS,hn,h=>by
  obtain ⟨x,u,rfl⟩:=hel e List.mem_cons_self
  simp only [List.length_cons] at hn
  rw [List.forIn_cons,hbody x u]
  refine wpAny_bind (wpAny_bind (wpAny_holding (ZrW hS (by omega) fun h1 b hsb hS1=>?_)))
  have ho1:h1.get? o=some ob:=by rw [hsb.2 o hne];exact ho
  refine wpAny_bind (he _ _ ho1 (wpAny_bind (wpAny_setState_of ho1 hd hf ?_)))
  rw [if_neg (by simp)]
  refine wpAny_pure (Zo2 hne hd hf he hbody l _ _ Q (fun y hy=>hel y (List.mem_cons_of_mem _ hy)) ho1 hS1 (by split <;> (try rw [List.length_cons]) <;> omega) fun h2 ks' hsb2 hS2 hx=>?_)
  refine h h2 ks' (hsb.trans hsb2) hS2 fun y=>(hx y).trans ?_
  rw [List.map_cons,List.mem_cons]
  show _↔y∈ks∨y=x∨_
  have hm:y∈(if x∈ks then ks else x::ks)↔y∈ks∨y=x:=by
   split
   ·rename_i hin
    exact ⟨.inl,fun z=>z.elim id fun e=>e▸hin⟩
   ·rw [List.mem_cons]
    exact ⟨fun z=>z.elim .inr .inl,fun z=>z.elim .inr .inl⟩
  rw [hm,or_assoc]
end
end L3
set_option Elab.async false
set_option linter.all false
set_option maxRecDepth 100000
set_option maxHeartbeats 4000000
namespace L3
open PySem PySem.Spec PyProof.Rows L2
section
variable {prog:Program} {w:World} {A:Around} {E:Value→Shared→Prop} {s:Shared}
structure Bare (led:Bool) (n:Nat) (t:SetTable):Prop where
 pl:t.place=#[]
 dm:t.dummies=#[]
 cv:Tb.cover (t.mask+1)=true
 rm:n≤t.mask
 ld:t.led=led
theorem Bare.fits {led:Bool} {n:Nat} {t:SetTable} (B:Bare led n t):t.fits 0=true:=Zpa (by rw [B.pl];rfl) B.dm (Nat.zero_le _)
theorem Zoc {a:Addr} {led:Bool} {n:Nat} {Q:Unit→Shared→Prop} (ha:s.heap.get? a=some (Za9 led)) (hn:n < 16)
  (h:∀ h' ep t,Heap.SameBut a s.heap h'→h'.get? a=some { Za9 led with data:=.set #[] ep t }→Bare led n t→Q () { s with heap:=h' }):wpAny (model prog w) A (setRoomFor a n) Q E s:=by
 unfold setRoomFor
 refine wpAny_bind (wpAny_setState_of ha rfl rfl ?_)
 show wpAny (model prog w) A (match (if (0+n)*5≥7*3 then some ((0+n)*2) else none) with | some v=>setRelay a v | _=>pure ()) Q E s
 by_cases hc:(0+n)*5≥7*3
 ·rw [if_pos hc]
  obtain ⟨hcv,h1,h2⟩:=Zha (n:=(0+n)*2) (by omega)
  dsimp only
  unfold setRelay
  refine wpAny_bind (wpAny_setState_of ha rfl rfl ?_)
  dsimp only
  rw [if_neg (by have:(64:Nat)≤sizeLine:=by decide
                 omega)]
  obtain ⟨t',order,e,hpm,e1,e2,e3,e4,e5⟩:=Tb.laid_ok hcv (SetTable.fresh 0 0 led).finger ((SetTable.fresh 0 0 led).movedTo (SetTable.sizeAbove ((0+n)*2) - 1)) (SetTable.fresh 0 0 led).led (SetTable.fresh 0 0 led).plain (Array.map (·.1) (#[]:Array (Int×Value))) (by simp)
  refine wpAny_bind ?_
  unfold SetTable.relaid
  rw [e]
  have hord:order=#[]:=by
   have:=hpm.length_eq
   simp at this
   exact this
  subst hord
  show wpAny (model prog w) A (pure ((#[]:Array Nat).filterMap ((#[]:Array (Int×Value))[·]?),t')) _ E s
  refine wpAny_pure (wpAny_storeSet_of ha rfl ?_ (Nat.zero_le _))
  refine h _ 1 t' (Heap.SameBut.update s.heap a _) ?_ ⟨?_,e3,by rw [e1];exact hcv,by rw [e1];omega,e4⟩
  ·have hz:=Heap.get?_update_self (Obj.putSet #[] t') ha (by rw [putSet_of #[] t' rfl];rfl)
   rw [putSet_of #[] t' rfl] at hz
   exact hz
  ·exact Array.eq_empty_of_size_eq_zero (by rw [e2];simp)
 ·rw [if_neg hc]
  exact wpAny_pure (h s.heap 0 _ (Heap.SameBut.refl _ _) ha ⟨rfl,rfl,Tb.cover8,by show n≤7;omega,rfl⟩)
theorem ZiR {a o:Addr} {led:Bool} {ko:List Str} {each:Sem Unit} {Q:Unit→Shared→Prop} (hne:o≠a) (ha:s.heap.get? a=some (Za9 led)) (hl:bt w=false→led=true) (hS:SS w s.heap o ko) (hn:ko.length < 16)
  (h:∀ h',Heap.SameBut a s.heap h'→SS w h' a ko→(ko=[]→h'.get? a=some (Za9 led))→Q () { s with heap:=h' }):wpAny (model prog w) A (setMerge a o each) Q E s:=by
 obtain ⟨ob,es,ep,t,ho,hx,hd,T⟩:=hS
 have hz:=T.len
 unfold setMerge
 rw [if_neg (by simp only [beq_iff_eq];exact fun z=>hne z.symm)]
 refine wpAny_bind (wpAny_setState_of ho hd T.ft ?_)
 dsimp only
 by_cases hem:es.isEmpty=true
 ·rw [if_pos hem]
  have:ko=[]:=by
   rw [Array.isEmpty_iff] at hem
   subst hem
   exact List.length_eq_zero_iff.mp hz.symm
  subst this
  exact wpAny_pure (h s.heap (Heap.SameBut.refl _ _) (Zmu led hl ha) fun _=>ha)
 ·rw [if_neg hem]
  have hko:ko≠[]:=fun z=>by
   subst z
   exact hem (by rw [Array.isEmpty_iff];exact Array.eq_empty_of_size_eq_zero hz)
  refine wpAny_bind (Zoc ha (by omega) fun h1 ep1 t1 hsb ha1 B=>?_)
  refine wpAny_bind (wpAny_setState_of ha1 rfl B.fits ?_)
  dsimp only
  have hld:bt w=false→(t1.led&&t.led)=true:=fun z=>by rw [B.ld,hl z,T.ld z];rfl
  have hpl:(t1.plain&&t.plain)=true→ko=[]:=fun z=>by
   simp only [Bool.and_eq_true] at z
   exact T.pl z.2
  have hfill:(t1.fill != 0)=false:=by unfold SetTable.fill;rw [B.pl,B.dm];rfl
  unfold SetTable.road
  rw [hfill]
  simp only [Bool.false_eq_true,if_false]
  by_cases hr:(t1.mask==t.mask&&t.dummies.isEmpty)=true
  ·rw [if_pos hr]
   dsimp only
   refine wpAny_storeSet_of ha1 rfl ?_ (fits_of_scanBound (by unfold scanBound;omega))
   refine h _ (hsb.trans (Heap.SameBut.update h1 a _)) (ZeQ ha1 ⟨rfl,rfl,rfl⟩ rfl (T.perm (List.Perm.refl _) ?_ hld hpl)).2 fun z=>absurd z hko
   have:=T.ft
   cases t
   exact this
  ·rw [if_neg hr]
   dsimp only
   obtain ⟨t',order,e,hsz,T'⟩:=Zmo (f:=t1.finger) (m:=t1.moves) T B.cv (by have:=B.rm;omega) hld hpl
   refine wpAny_bind ?_
   rw [e]
   show wpAny (model prog w) A (if ((order.filterMap (es[·]?)).size != es.size)=true then _ else pure (order.filterMap (es[·]?),t')) _ E _
   rw [if_neg (by rw [hsz];simp)]
   refine wpAny_pure (wpAny_storeSet_of ha1 rfl ?_ (fits_of_scanBound (by rw [hsz];unfold scanBound;omega)))
   exact h _ (hsb.trans (Heap.SameBut.update h1 a _)) (ZeQ ha1 ⟨rfl,rfl,rfl⟩ rfl T').2 fun z=>absurd z hko
theorem ZmV {a o:Addr} {ks ko:List Str} {each:Sem Unit} {Q:Unit→Shared→Prop} (hne:o≠a) (hk:ks≠[]) (hA:SS w s.heap a ks) (hS:SS w s.heap o ko) (hn:ks.length+ko.length < 32)
  (he:∀ ob,s.heap.get? o=some ob→∀ (s':Shared) (Q':Unit→Shared→Prop),s'.heap.get? o=some ob→Q' () s'→wpAny (model prog w) A each Q' E s')
  (h:∀ h' ks',Heap.SameBut a s.heap h'→SS w h' a ks'→(∀ x,x∈ks'↔x∈ks∨x∈ko)→Q () { s with heap:=h' }):wpAny (model prog w) A (setMerge a o each) Q E s:=by
 obtain ⟨ob,es,ep,t,ho,hx,hd,T⟩:=hS
 have hz:=T.len
 have he:=he ob ho
 unfold setMerge
 rw [if_neg (by simp only [beq_iff_eq];exact fun z=>hne z.symm)]
 refine wpAny_bind (wpAny_setState_of ho hd T.ft ?_)
 dsimp only
 by_cases hem:es.isEmpty=true
 ·rw [if_pos hem]
  have:ko=[]:=by
   rw [Array.isEmpty_iff] at hem
   subst hem
   exact List.length_eq_zero_iff.mp hz.symm
  subst this
  exact wpAny_pure (h s.heap ks (Heap.SameBut.refl _ _) hA fun x=>⟨.inl,fun z=>z.elim id fun z=>by cases z⟩)
 ·rw [if_neg hem]
  refine wpAny_bind (Zte hA (by omega) fun h1 hsb hA1=>?_)
  have hA1':=hA1
  obtain ⟨oa,ea,pa,ta,hoa,hxa,hda,Ta⟩:=hA1
  refine wpAny_bind (wpAny_setState_of hoa hda Ta.ft ?_)
  dsimp only
  have hfill:(ta.fill != 0)=true:=by
   have hp:=Ta.ft
   unfold SetTable.fits at hp
   simp only [Bool.and_eq_true,beq_iff_eq] at hp
   have hl:=Ta.len
   have:ks.length≠0:=fun z=>hk (List.length_eq_zero_iff.mp z)
   unfold SetTable.fill
   simp only [bne_iff_ne,ne_eq]
   omega
  unfold SetTable.road
  rw [hfill]
  simp only [if_true]
  have ho1:h1.get? o=some ob:=by rw [hsb.2 o hne];exact ho
  refine wpAny_bind (ZtI ho1 hx hd T hA1' (by unfold scanBound;omega) fun h2 l hsb2 hA2 hp=>?_)
  have ho2:h2.get? o=some ob:=by rw [hsb2.2 o hne];exact ho1
  rw [← Array.forIn_toList]
  refine wpAny_bind (Zo2 hne hd T.ft he (fun x u=>rfl) l.toList _ ks _ (fun e hm=>T.el e (hp.mem_iff.mp hm)) ho2 hA2 ?_ fun h3 ks' hsb3 hA3 hx=>?_)
  ·have hl:l.toList.length=es.size:=hp.length_eq.trans Array.length_toList
   rw [hl];unfold scanBound;omega
  ·refine wpAny_pure (h h3 ks' ((hsb.trans hsb2).trans hsb3) hA3 fun x=>(hx x).trans ?_)
   rw [((hp.map _).trans T.pm).mem_iff]
end
end L3
namespace L3
open PySem PySem.Spec PyProof.Rows L2
theorem Zqu:entryFor table "set.__or__"=some Builtin.«frozenset.__or__»:=entryFor_alias (id':="frozenset.__or__") (by kernel_rfl) rfl (by decide +kernel) (by kernel_rfl)
section
variable {prog:Program} {w:World} {A:Around} {E:Value→Shared→Prop} {s:Shared}
theorem SS.ty {a:Addr} {ks:List Str} (S:SS w s.heap a ks):s.TypeIs (.ref a) "set":=by
 obtain ⟨o,es,ep,t,ho,hx,_⟩:=S
 exact ⟨o,ho,hx.1⟩
theorem Zlg {a:Addr} {Q:Bool→Shared→Prop} (hT:s.TypeIs (.ref a) "set") (q:Q true s):wpAny (model prog w) A (Builtin.Frozenset.isAnySet (.ref a)) Q E s:=by
 unfold Builtin.Frozenset.isAnySet
 refine wpAny_bind (wpAny_isInstance hT sub_set_self ?_)
 exact wpAny_pure q
theorem SS.new {a:Addr} {ks:List Str} (S:SS w s.heap a ks) (o:Obj):SS w (s.heap.push o) a ks:=S.kept fun _ e=>Heap.get?_push_of_some _ e
theorem SS.lt {a:Addr} {ks:List Str} (S:SS w s.heap a ks):a < s.heap.objs.size:=by
 obtain ⟨o,es,ep,t,ho,_⟩:=S
 exact Heap.lt_size ho
theorem SS.same {h h':Heap} {a b:Addr} {ks:List Str} (S:SS w h a ks) (hne:a≠b) (hsb:Heap.SameBut b h h'):SS w h' a ks:=S.kept fun o e=>by rw [hsb.2 a hne];exact e
theorem ZwW {a b:Addr} {ka kb:List Str} {Q:Value→Shared→Prop} (hab:a≠b) (ha:SS w s.heap a ka) (hb:SS w s.heap b kb) (hna:ka.length < 16) (hnb:kb.length < 16)
  (h:∀ h' ks,SS w h' s.heap.objs.size ks→(∀ x,x∈ks↔x∈ka∨x∈kb)→(∀ c o,c < s.heap.objs.size→s.heap.get? c=some o→h'.get? c=some o)→Q (.ref s.heap.objs.size) { s with heap:=h' }) :
  wpAny (model prog w) A (binaryOp .BitOr (.ref a) (.ref b)) Q E s:=by
 refine wpAny_binaryOp_same (op:=.BitOr) (T:="set") ha.ty hb.ty PySem.F.fills_set_or PySem.F.slot_set_or (wpAny_call_entry PySem.F.slot_set_or ha.ty Zqu ?_ (PySem.F.args_set_or_2 _ _))
 unfold Builtin.«frozenset.__or__»
 refine wpAny_bind (m:=Builtin.Frozenset.slot1 "__or__" ⟨[.ref a,.ref b],[]⟩) ?_
 unfold Builtin.Frozenset.slot1
 refine wpAny_bind (wpAny_pure (a:=(Value.ref a,[Value.ref b])) ?_)
 refine wpAny_pure ?_
 refine wpAny_bind (m:=(Builtin.Frozenset.isAnySet (.ref a) <&&> Builtin.Frozenset.isAnySet (.ref b))) ?_
 refine wpAny_bind (Zlg ha.ty (Zlg hb.ty ?_))
 rw [if_neg (by decide)]
 refine wpAny_bind (m:=Builtin.Frozenset.addrOf (.ref a)) (wpAny_pure ?_)
 refine wpAny_bind ?_
 refine wpAny_bind (m:=Builtin.Frozenset.copyOf a) ?_
 unfold Builtin.Frozenset.copyOf Builtin.Frozenset.baseOf
 refine wpAny_bind (wpAny_bind (wpAny_isInstance ha.ty sub_set_self (wpAny_pure ?_)))
 rw [if_pos rfl]
 refine wpAny_bind (Ztw fun led hled=>?_)
 refine wpAny_bind (wpAny_pure ?_)
 have hne:∀ {c:Addr},c < s.heap.objs.size→c≠s.heap.objs.size:=fun z=>Nat.ne_of_lt z
 have hfr:(s.heap.push (Za9 led)).get? s.heap.objs.size=some (Za9 led):=Heap.get?_push_size _ rfl
 refine wpAny_bind (ZiR (s:={ s with heap:=s.heap.push (Za9 led) }) (hne ha.lt) hfr hled (ha.new _) hna fun h1 hsb hS1 hnil=>?_)
 refine wpAny_pure ?_
 show wpAny (model prog w) A.in1 (if (Value.ref b != Value.ref a)=true then _ else _) _ E _
 rw [if_pos (by simp only [bne_iff_ne,ne_eq,Value.ref.injEq];exact fun z=>hab z.symm)]
 refine wpAny_bind (m:=Builtin.Frozenset.addrOf _) (wpAny_pure ?_)
 have hb1:SS w h1 b kb:=(hb.new (Za9 led)).same (hne hb.lt) hsb
 have hT1:Shared.TypeIs { s with heap:=h1 } (.ref b) "set":=SS.ty (s:={ s with heap:=h1 }) hb1
 have keep:∀ h2,Heap.SameBut s.heap.objs.size h1 h2→∀ c o,c < s.heap.objs.size→s.heap.get? c=some o→h2.get? c=some o:=fun h2 hsb2 c o hc e=>by
  rw [hsb2.2 c (hne hc),hsb.2 c (hne hc)]
  exact Heap.get?_push_of_some _ e
 refine wpAny_bind (wpAny_holding ?_)
 unfold Builtin.Frozenset.updateFrom
 refine wpAny_bind (Zlg hT1 ?_)
 rw [if_pos rfl]
 refine wpAny_bind (m:=Builtin.Frozenset.addrOf (.ref b)) (wpAny_pure ?_)
 unfold Builtin.Frozenset.merge
 have hb1':=hb1
 obtain ⟨ob,es,ep,t,ho,hx,hd,T⟩:=hb1
 refine wpAny_bind (wpAny_setEpoch_of ho hd T.ft ?_)
 have fin:∀ h2 ks,Heap.SameBut s.heap.objs.size h1 h2→SS w h2 s.heap.objs.size ks→(∀ x,x∈ks↔x∈ka∨x∈kb)→Q (.ref s.heap.objs.size) { s with heap:=h2 }:=fun h2 ks hsb2 hS2 hx=>h h2 ks hS2 hx (keep h2 hsb2)
 by_cases hk:ka=[]
 ·subst hk
  refine ZiR (s:={ s with heap:=h1 }) (hne hb.lt) (hnil rfl) hled hb1' hnb fun h2 hsb2 hS2 _=>?_
  refine wpAny_pure (wpAny_pure ⟨_,rfl,by simp,fin h2 kb hsb2 hS2 fun x=>⟨.inr,fun z=>z.elim (fun z=>by cases z) id⟩⟩)
 ·refine ZmV (s:={ s with heap:=h1 }) (hne hb.lt) hk hS1 hb1' (by omega) (fun ob' ho' s' Q' ho2 q'=>?_) fun h2 ks hsb2 hS2 hx=>?_
  ·have e:ob'=ob:=by
    have:=ho'.symm.trans ho
    exact Option.some.inj this
   subst e
   unfold Builtin.Frozenset.unchanged
   refine wpAny_bind (wpAny_setEpoch_of ho2 hd T.ft ?_)
   rw [if_neg (by simp)]
   exact wpAny_pure q'
  ·exact wpAny_pure (wpAny_pure ⟨_,rfl,by simp,fin h2 ks hsb2 hS2 hx⟩)
end
end L3
namespace L3
open PySem PySem.Spec PyProof.Rows L2
theorem Zfm:Slot "set_iterator" "__next__" "set_iterator.__next__":=.of (owner:="set_iterator") (n:="__next__") (by rw [typeLookup_type,builtinLookup_eq_fast];kernel_rfl) (by decide +kernel) (by decide +kernel) (by decide +kernel) (by first | exact .inl (by decide +kernel) | exact .inr (by decide +kernel)) (by rw [isSubtype_type];kernel_rfl)
theorem Zpz:Slot "set" "__iter__" "set.__iter__":=.of (owner:="set") (n:="__iter__") (by rw [typeLookup_type,builtinLookup_eq_fast];kernel_rfl) (by decide +kernel) (by decide +kernel) (by decide +kernel) (by first | exact .inl (by decide +kernel) | exact .inr (by decide +kernel)) (by rw [isSubtype_type];kernel_rfl)
theorem Zl9:entryFor table "set_iterator.__next__"=some Builtin.«set_iterator.__next__»:=entryFor_of_fast (by kernel_rfl)
theorem Zp9:entryFor table "set.__iter__"=some Builtin.«frozenset.__iter__»:=entryFor_alias (id':="frozenset.__iter__") (by kernel_rfl) rfl (by decide +kernel) (by kernel_rfl)
theorem Zor (a:Value):argsOk "set_iterator.__next__" ⟨[a],[]⟩:=by unfold argsOk;kernel_rfl
theorem Zsf (a:Value):argsOk "set.__iter__" ⟨[a],[]⟩:=by unfold argsOk;kernel_rfl
section
variable {prog:Program} {w:World} {A:Around} {E:Value→Shared→Prop} {s:Shared}
theorem Zw2 {src:Source} {n:Nat} {Q:Nat→Shared→Prop} (hn:n≠0) (h:∀ i d,i < n→Q i { s with drawn:=d }):wpAny (model prog w) A (choose src n) Q E s :=
 fun _ _ _=>⟨hn,h _ _ (Nat.mod_lt _ (Nat.pos_of_ne_zero hn))⟩
theorem Zpx {α:Type}:∀ (n:Nat) (xs:List α) (s:Shared) (Q:List α→Shared→Prop),xs.length=n→(∀ ys d,ys.Perm xs→Q ys { s with drawn:=d })→wpAny (model prog w) A (drawOrder n xs) Q E s
 | 0,xs,s,Q,h,q=>by
  obtain rfl:=List.length_eq_zero_iff.mp h
  exact wpAny_pure (q [] s.drawn (List.Perm.refl _))
 | n+1,[],s,Q,h,q=>by cases h
 | n+1,x::xs,s,Q,h,q=>by
  unfold drawOrder
  refine wpAny_bind (Zw2 (by simp) fun i d hi=>?_)
  rw [List.getElem?_eq_getElem hi]
  dsimp only
  refine wpAny_bind (Zpx n _ _ _ (by rw [List.length_eraseIdx_of_lt hi];simpa using h) fun ys d' hp=>?_)
  exact wpAny_pure (q _ d' ((hp.cons _).trans (Zf1 _ i hi)))
abbrev Itr (first:Value) (i:Nat) (a:Addr) (n ep:Nat):Obj:={ cls:=.type "set_iterator",data:=.fields #[first,.int i 0,.ref a,.int n 0,.int ep 0] }
inductive Md (w:World) (a T:Addr) (es:Array (Int×Value)) (ep:Nat) (t:SetTable) (l:List (Int×Value)) (h:Heap):Value→Nat→Prop where
 | drawn {ps:List Nat} {oT:Obj} {c i:Nat}:h.get? T=some oT→oT.data=.seq (ps.map fun p:Nat=>rawInt p).toArray c→ps.length=l.length→(∀ (j p:Nat),ps[j]?=some p→∃ e,es[p]?=some e∧l[j]?=some e)→Md w a T es ep t l h (.ref T) i
 | text {k i:Nat}:bt w=true→l=(pickOrder (w.params.setOrder a ep) es).toList→Md w a T es ep t l h (.int k 0) i
 | few {k i:Nat}:bt w=false→t.led=true→es.size≤1→l=es.toList→(i=0→k=0)→(∀ j:Nat,i=1→t.place[0]?=some j→k=j+1)→Md w a T es ep t l h (.int k 0) i
structure Wk (w:World) (it a T:Addr) (ob:Obj) (es:Array (Int×Value)) (ep:Nat) (t:SetTable) (l:List (Int×Value)) (i:Nat) (h:Heap):Prop where
 st:∃ first,h.get? it=some (Itr first i a es.size ep)∧Md w a T es ep t l h first i
 ob:h.get? a=some ob
theorem Md.at {w:World} {a T:Addr} {es:Array (Int×Value)} {ep:Nat} {t:SetTable} {l:List (Int×Value)} {h h':Heap} {v:Value} {i:Nat} (M:Md w a T es ep t l h v i) (k:∀ o,h.get? T=some o→h'.get? T=some o):Md w a T es ep t l h' v i:=by
 cases M with
 | drawn h1 h2 h3 h4=>exact .drawn (k _ h1) h2 h3 h4
 | text h1 h2=>exact .text h1 h2
 | few h1 h2 h3 h4 h5 h6=>exact .few h1 h2 h3 h4 h5 h6
theorem Zom {h:Heap} {it a:Addr} {first:Value} {i n ep:Nat} (e:h.get? it=some (Itr first i a n ep)) (j:Nat):(h.update it (Obj.mapFields (·.setIfInBounds 1 (rawInt j)))).get? it=some (Itr first j a n ep):=by
 have hz:=Heap.get?_update_self (Obj.mapFields (·.setIfInBounds 1 (rawInt j))) e (Obj.isFreed_of_fields (Obj.data_mapFields rfl _))
 rw [hz];rfl
theorem ZgS {h:Heap} {it a:Addr} {first:Value} {i n ep:Nat} (e:h.get? it=some (Itr first i a n ep)) (v:Value):(h.update it (Obj.mapFields (·.setIfInBounds 0 v))).get? it=some (Itr v i a n ep):=by
 have hz:=Heap.get?_update_self (Obj.mapFields (·.setIfInBounds 0 v)) e (Obj.isFreed_of_fields (Obj.data_mapFields rfl _))
 rw [hz];rfl
end
end L3
namespace L3
open PySem PySem.Spec PyProof.Rows L2
section
variable {prog:Program} {w:World} {A:Around} {E:Value→Shared→Prop} {s:Shared}
theorem ZkK (j k:Nat):SetTable.below #[j] k=if j < k then 1 else 0:=by
 show SetTable.below.go #[j] k 1 0 1=_
 unfold SetTable.below.go
 simp only [Nat.zero_lt_one,if_true]
 show (if j < k then SetTable.below.go #[j] k 0 1 1 else SetTable.below.go #[j] k 0 0 0)=_
 rfl
theorem ZgO {α:Type} {xs:Array α} (h:xs.size≤1):xs=#[]∨∃ x,xs=#[x]:=by
 obtain ⟨l⟩:=xs
 match l,h with
 | [],_=>exact .inl rfl
 | [x],_=>exact .inr ⟨x,rfl⟩
theorem Zoh {it a T:Addr} {ob:Obj} {es:Array (Int×Value)} {ep:Nat} {t:SetTable} {ks:List Str} {l:List (Int×Value)} {i:Nat} {e:Int×Value} {Q:Option Value→Shared→Prop} (hx:ob.ExactSet) (hd:ob.data=.set es ep t) (Tb:Tab w es t ks) (hia:a≠it) (hiT:T≠it) (S:Wk w it a T ob es ep t l i s.heap) (hl:l[i]?=some e)
  (hQ:∀ h',Wk w it a T ob es ep t l (i+1) h'→Heap.SameBut it s.heap h'→Q (some e.2) { s with heap:=h' }):wpAny (model prog w) A (pyNext (.ref it)) Q E s:=by
 obtain ⟨⟨first,hi,M⟩,ho⟩:=S
 have hT:s.TypeIs (.ref it) "set_iterator":=⟨_,hi,rfl⟩
 unfold pyNext
 refine wpAny_bind (wpAny_attempt (wpAny_callSpecial?_slot (name:=Str.ofString "__next__") hT Zfm (wpAny_call_entry Zfm hT Zl9 ?_ (Zor _))))
 unfold Builtin.«set_iterator.__next__»
 refine wpAny_bind (wpAny_pure (a:=(Value.ref it,([]:List Value))) ?_)
 refine wpAny_bind (wpAny_fieldsOf hi rfl ?_)
 dsimp only
 refine wpAny_bind (wpAny_setEntries_of ho hd Tb.ft ?_)
 rw [if_neg (by simp)]
 have two:∀ (v:Value),Md w a T es ep t l s.heap v (i+1)→Q (some e.2) { s with heap:=(s.heap.update it (Obj.mapFields (·.setIfInBounds 0 v))).update it (Obj.mapFields (·.setIfInBounds 1 (rawInt (i+1)))) }:=fun v M'=>by
  have sb:=(Heap.SameBut.update s.heap it (Obj.mapFields (·.setIfInBounds 0 v))).trans (Heap.SameBut.update _ it (Obj.mapFields (·.setIfInBounds 1 (rawInt (i+1)))))
  refine hQ _ ⟨⟨v,Zom (ZgS hi v) (i+1),M'.at fun o z=>by rw [sb.2 T hiT];exact z⟩,by rw [sb.2 a hia];exact ho⟩ sb
 cases M with
 | drawn h1 h2 h3 h4 =>
  rename_i ps oT c
  obtain ⟨p,hp⟩:∃ p,ps[i]?=some p:=by
   obtain ⟨hlt,_⟩:=List.getElem?_eq_some_iff.mp hl
   exact ⟨_,List.getElem?_eq_getElem (by omega)⟩
  obtain ⟨e',he,hl'⟩:=h4 i p hp
  obtain rfl:e'=e:=Option.some.inj (hl'.symm.trans hl)
  dsimp only
  refine wpAny_bind (wpAny_seqItems h1 h2 ?_)
  dsimp only
  have hq:(ps.map fun p:Nat=>rawInt p).toArray[(Int.ofNat i).toNat]?=some (rawInt p):=by
   simp [hp]
  have hq':(ps.map fun p:Nat=>rawInt p).toArray[((i:Int)).toNat]?=some (.int (p:Int) 0):=hq
  rw [hq']
  dsimp only
  refine wpAny_bind ?_
  unfold setNextDrawn
  refine wpAny_bind (wpAny_setState_of ho hd Tb.ft ?_)
  dsimp only
  rw [if_neg (by simp)]
  rw [show ((p:Int)).toNat=p from Int.toNat_natCast p,he]
  dsimp only
  refine wpAny_pure (wpAny_bind (wpAny_setField hi rfl (by simp) (wpAny_pure ⟨_,rfl,wpAny_pure ?_⟩)))
  have sb:=Heap.SameBut.update s.heap it (Obj.mapFields (·.setIfInBounds 1 (rawInt (i+1))))
  exact hQ _ ⟨⟨_,Zom hi (i+1),.drawn (by rw [sb.2 T hiT];exact h1) h2 h3 h4⟩,by rw [sb.2 a hia];exact ho⟩ sb
 | text h1 h2 =>
  rename_i k
  dsimp only
  refine wpAny_bind ?_
  unfold setNext
  refine wpAny_bind (wpAny_setState_of ho hd Tb.ft ?_)
  dsimp only
  unfold setsByText
  refine wpAny_bind (wpAny_bind (wpAny_askSetting (wpAny_pure ?_)))
  show wpAny (model prog w) _ (if bt w=true then _ else _) _ _ s
  rw [if_pos h1,if_neg (by simp)]
  unfold setWalk
  refine wpAny_bind (wpAny_bind (wpAny_setState_of ho hd Tb.ft ?_))
  dsimp only
  unfold setsByText
  refine wpAny_bind (wpAny_bind (wpAny_askSetting (wpAny_pure ?_)))
  show wpAny (model prog w) _ (if bt w=true then _ else _) _ _ s
  rw [if_pos h1]
  refine wpAny_bind (wpAny_askSetting (wpAny_pure ?_))
  subst h2
  rw [Array.getElem?_toList] at hl
  show wpAny (model prog w) _ (pure (((pickOrder (w.params.setOrder a ep) es)[((i:Int)).toNat]?).map _)) _ _ s
  rw [show ((i:Int)).toNat=i from Int.toNat_natCast i,hl]
  refine wpAny_pure ?_
  dsimp only [Option.map_some]
  refine wpAny_bind (wpAny_setField hi rfl (by simp) ?_)
  refine wpAny_bind (wpAny_setField (ZgS hi _) rfl (by simp) (wpAny_pure ⟨_,rfl,wpAny_pure ?_⟩))
  exact two _ (.text h1 rfl)
 | few h1 h2 h3 h4 h5 h6 =>
  rename_i k
  subst h4
  rw [Array.getElem?_toList] at hl
  have hft:=Tb.ft
  rcases ZgO h3 with z | ⟨x,z⟩
  ·rw [z] at hl;simp at hl
  ·rw [z] at hl
   have hi0:i=0:=by
    obtain ⟨hlt,_⟩:=Array.getElem?_eq_some_iff.mp hl
    simpa using hlt
   subst hi0
   obtain rfl:x=e:=by simpa using hl
   obtain rfl:=h5 rfl
   have hps:t.place.size=1:=by
    unfold SetTable.fits at hft
    rw [z] at hft
    simp only [Bool.and_eq_true,beq_iff_eq] at hft
    exact hft.1
   obtain ⟨j,hj⟩:∃ j,t.place=#[j]:=by
    rcases ZgO (by omega:t.place.size≤1) with q | q
    ·rw [q] at hps;cases hps
    ·exact q
   dsimp only
   refine wpAny_bind ?_
   unfold setNext
   refine wpAny_bind (wpAny_setState_of ho hd Tb.ft ?_)
   dsimp only
   unfold setsByText
   refine wpAny_bind (wpAny_bind (wpAny_askSetting (wpAny_pure ?_)))
   show wpAny (model prog w) _ (if bt w=true then _ else _) _ _ s
   rw [if_neg (by rw [h1];decide)]
   show wpAny (model prog w) _ (if (!t.plain&&decide (es.size > 1))=true then _ else _) _ _ s
   rw [if_neg (by have:¬ es.size > 1:=by omega
                  simp [this])]
   refine wpAny_bind ?_
   show wpAny (model prog w) _ (if (!t.led&&!es.isEmpty)=true then _ else pure ()) _ _ s
   rw [if_neg (by rw [h2];simp)]
   refine wpAny_pure ?_
   show wpAny (model prog w) _ (pure (match es[SetTable.below t.place 0]?,t.place[SetTable.below t.place 0]? with | some (_,x),some j=>some (x,j+1) | _,_=>none)) _ _ s
   rw [hj,ZkK,if_neg (by omega),z]
   refine wpAny_pure ?_
   refine wpAny_bind (wpAny_setField hi rfl (by simp) ?_)
   refine wpAny_bind (wpAny_setField (ZgS hi _) rfl (by simp) (wpAny_pure ⟨_,rfl,wpAny_pure ?_⟩))
   refine two _ (.few (k:=j+1) h1 h2 h3 rfl (fun q=>by cases q) fun j' _ q=>?_)
   rw [hj] at q
   have:j=j':=by simpa using q
   omega
end
end L3
set_option Elab.async false
set_option linter.all false
set_option maxRecDepth 100000
set_option maxHeartbeats 4000000
namespace L3
open PySem PySem.Spec PyProof.Rows L2
section
variable {prog:Program} {w:World} {A:Around} {E:Value→Shared→Prop} {s:Shared}
theorem ZlH {it:Addr} {h0 h1:Heap} {R:Fin→Shared→Prop} {Q:Option Value→Shared→Prop} (hh:A.handled=none) (x:Heap.ExtBut it h0 h1) (hQ:∀ h',Heap.ExtBut it h0 h'→Q none { s with heap:=h' }) :
  wpAny (model prog w) A.in1 (do let e ← newExc (.type "StopIteration") [];raiseNew e) R (fun e s'=>wpAny (model prog w) A (do let b ← isInstance e (.type "StopIteration");if b=true then pure none else throw e) Q E s') { s with heap:=h1 }:=by
 refine wpAny_bind ?_
 simp only [newExc,newTuple]
 refine wpAny_bind (wpAny_newObj_type ?_ (by size_fits))
 refine wpAny_bind (m:=firstArgMember _ _) (wpAny_of_eq (a:=Value.none) (by first | rfl | (simp only [firstArgMember];rfl)) (wpAny_newObj_type ?_ (by size_fits)))
 simp only [raiseNew]
 refine wpAny_bind (wpAny_handled ?_)
 rw [show A.in1.handled=none from hh]
 refine wpAny_bind (wpAny_pure (wpAny_throw ?_));refine wpAny_bind (wpAny_isInstance (T:="StopIteration") (b:=true) ⟨_,Heap.get?_push_size _ rfl,rfl⟩ isSubtype_stop ?_)
 exact wpAny_pure (hQ _ ((x.push _).push _))
theorem Zoo {it a T:Addr} {ob:Obj} {es:Array (Int×Value)} {ep:Nat} {t:SetTable} {ks:List Str} {l:List (Int×Value)} {i:Nat} {Q:Option Value→Shared→Prop} (hh:A.handled=none) (hx:ob.ExactSet) (hd:ob.data=.set es ep t) (Tb:Tab w es t ks) (S:Wk w it a T ob es ep t l i s.heap) (hl:l.length=i) (hes:es.size=i)
  (hQ:∀ h',Heap.ExtBut it s.heap h'→Q none { s with heap:=h' }):wpAny (model prog w) A (pyNext (.ref it)) Q E s:=by
 obtain ⟨⟨first,hi,M⟩,ho⟩:=S
 have hT:s.TypeIs (.ref it) "set_iterator":=⟨_,hi,rfl⟩
 unfold pyNext
 refine wpAny_bind (wpAny_attempt (wpAny_callSpecial?_slot (name:=Str.ofString "__next__") hT Zfm (wpAny_call_entry Zfm hT Zl9 ?_ (Zor _))))
 unfold Builtin.«set_iterator.__next__»
 refine wpAny_bind (wpAny_pure (a:=(Value.ref it,([]:List Value))) ?_)
 refine wpAny_bind (wpAny_fieldsOf hi rfl ?_)
 dsimp only
 refine wpAny_bind (wpAny_setEntries_of ho hd Tb.ft ?_)
 rw [if_neg (by simp)]
 have e1:((i:Int)).toNat=i:=Int.toNat_natCast i
 cases M with
 | drawn h1 h2 h3 h4 =>
  rename_i ps oT c
  dsimp only
  refine wpAny_bind (wpAny_seqItems h1 h2 ?_)
  dsimp only
  have hq:(ps.map fun p:Nat=>rawInt p).toArray[((i:Int)).toNat]?=none:=by
   rw [e1];simp;omega
  rw [hq]
  dsimp only
  refine wpAny_bind (wpAny_setField hi rfl (by simp) ?_)
  refine wpAny_bind (wpAny_setField (ZgS hi _) rfl (by simp) ?_)
  exact ZlH hh ((Heap.SameBut.update s.heap it (Obj.mapFields (·.setIfInBounds 0 (rawInt 0)))).trans (Heap.SameBut.update _ it _)).extBut hQ
 | text h1 h2 =>
  rename_i k
  dsimp only
  refine wpAny_bind ?_
  unfold setNext
  refine wpAny_bind (wpAny_setState_of ho hd Tb.ft ?_)
  dsimp only
  unfold setsByText
  refine wpAny_bind (wpAny_bind (wpAny_askSetting (wpAny_pure ?_)))
  show wpAny (model prog w) _ (if bt w=true then _ else _) _ _ s
  rw [if_pos h1,if_neg (by simp)]
  unfold setWalk
  refine wpAny_bind (wpAny_bind (wpAny_setState_of ho hd Tb.ft ?_))
  dsimp only
  unfold setsByText
  refine wpAny_bind (wpAny_bind (wpAny_askSetting (wpAny_pure ?_)))
  show wpAny (model prog w) _ (if bt w=true then _ else _) _ _ s
  rw [if_pos h1]
  refine wpAny_bind (wpAny_askSetting (wpAny_pure ?_))
  show wpAny (model prog w) _ (pure (((pickOrder (w.params.setOrder a ep) es)[((i:Int)).toNat]?).map _)) _ _ s
  have hn:(pickOrder (w.params.setOrder a ep) es)[i]?=none:=by
   rw [← Array.getElem?_toList,← h2]
   exact List.getElem?_eq_none (by omega)
  rw [e1,hn]
  refine wpAny_pure ?_
  dsimp only [Option.map_none]
  refine wpAny_bind (wpAny_setField hi rfl (by simp) ?_)
  exact ZlH hh (Heap.SameBut.update s.heap it _).extBut hQ
 | few h1 h2 h3 h4 h5 h6 =>
  rename_i k
  have hft:=Tb.ft
  have hnone:es[SetTable.below t.place k]?=none:=by
   refine Array.getElem?_eq_none ?_
   rcases ZgO h3 with z | ⟨x,z⟩
   ·rw [z];exact Nat.zero_le _
   ·have hps:t.place.size=1:=by
     unfold SetTable.fits at hft
     rw [z] at hft
     simp only [Bool.and_eq_true,beq_iff_eq] at hft
     exact hft.1
    obtain ⟨j,hj⟩:∃ j,t.place=#[j]:=by
     rcases ZgO (by omega:t.place.size≤1) with q | q
     ·rw [q] at hps;cases hps
     ·exact q
    have hi1:i=1:=by rw [← hes,z];rfl
    have:=h6 j hi1 (by rw [hj];rfl)
    rw [hj,this,ZkK,if_pos (by omega),z]
    exact Nat.le_refl _
  dsimp only
  refine wpAny_bind ?_
  unfold setNext
  refine wpAny_bind (wpAny_setState_of ho hd Tb.ft ?_)
  dsimp only
  unfold setsByText
  refine wpAny_bind (wpAny_bind (wpAny_askSetting (wpAny_pure ?_)))
  show wpAny (model prog w) _ (if bt w=true then _ else _) _ _ s
  rw [if_neg (by rw [h1];decide)]
  show wpAny (model prog w) _ (if (!t.plain&&decide (es.size > 1))=true then _ else _) _ _ s
  rw [if_neg (by have:¬ es.size > 1:=by omega
                 simp [this])]
  refine wpAny_bind ?_
  show wpAny (model prog w) _ (if (!t.led&&!es.isEmpty)=true then _ else pure ()) _ _ s
  rw [if_neg (by rw [h2];simp)]
  refine wpAny_pure ?_
  show wpAny (model prog w) _ (pure (match es[SetTable.below t.place ((k:Int)).toNat]?,t.place[SetTable.below t.place ((k:Int)).toNat]? with | some (_,x),some j=>some (x,j+1) | _,_=>none)) _ _ s
  rw [show ((k:Int)).toNat=k from Int.toNat_natCast k,hnone]
  refine wpAny_pure ?_
  refine wpAny_bind (wpAny_setField hi rfl (by simp) ?_)
  exact ZlH hh (Heap.SameBut.update s.heap it _).extBut hQ
theorem ZoX:Slot "set_iterator" "__iter__" "set_iterator.__iter__":=.of (owner:="set_iterator") (n:="__iter__") (by rw [typeLookup_type,builtinLookup_eq_fast];kernel_rfl) (by decide +kernel) (by decide +kernel) (by decide +kernel) (by first | exact .inl (by decide +kernel) | exact .inr (by decide +kernel)) (by rw [isSubtype_type];kernel_rfl)
theorem Zqn:entryFor table "set_iterator.__iter__"=some Builtin.«dict_keyiterator.__iter__»:=entryFor_alias (id':="dict_keyiterator.__iter__") (by kernel_rfl) rfl (by decide +kernel) (by kernel_rfl)
theorem Zr9 (a:Value):argsOk "set_iterator.__iter__" ⟨[a],[]⟩:=by unfold argsOk;kernel_rfl
theorem ZpB {it a T:Addr} {ob:Obj} {es:Array (Int×Value)} {ep:Nat} {t:SetTable} {ks:List Str} {l:List (Int×Value)} (hh:A.handled=none) (hx:ob.ExactSet) (hd:ob.data=.set es ep t) (Tb:Tab w es t ks) (hia:a≠it) (hiT:T≠it) (hl:l.length=es.size) :
  Walks prog w A it [it,a,T] [it] es.size (fun i v=>∃ e,l[i]?=some e∧v=e.2) (fun i h=>Wk w it a T ob es ep t l i h) where
 sub:=fun b hb=>by simp at hb;simp [hb]
 frame:=fun _ _ _ st hk=>by
  obtain ⟨⟨first,hi,M⟩,ho⟩:=st
  exact ⟨⟨first,hk it (by simp) _ hi,M.at fun o e=>hk T (by simp) o e⟩,hk a (by simp) _ ho⟩
 item:=fun i s Q E hi st hQ=>by
  obtain ⟨e,he⟩:∃ e,l[i]?=some e:=⟨_,List.getElem?_eq_getElem (by omega)⟩
  refine Zoh hx hd Tb hia hiT st he fun h' W hs'=>?_
  exact hQ _ h' s.toks ⟨e,he,rfl⟩ W (fun b o hb z=>hs'.extBut b o (fun h=>hb (by simp [h])) z)
 done:=fun s Q E st hQ=>Zoo hh hx hd Tb st hl rfl fun h' he'=>hQ h' s.toks fun b o hb e=>he' b o (fun h=>hb (by simp [h])) e
 self:=fun _ s Q E st hQ=>by
  obtain ⟨⟨first,hi,M⟩,ho⟩:=st
  have hT:s.TypeIs (.ref it) "set_iterator":=⟨_,hi,rfl⟩
  refine wpAny_pyIter_slot hT ZoX (wpAny_call_entry ZoX hT Zqn (wpAny_pure ⟨_,rfl,"set_iterator",_,hT,Zfm.lookup,hQ⟩) (Zr9 _))
end
end L3
namespace L3
open PySem PySem.Spec PyProof.Rows L2
theorem ZrZ {α:Type} {es:Array α}:∀ {ys:List Nat},(∀ p∈ys,p < es.size)→(ys.filterMap (es[·]?)).length=ys.length∧∀ (j p:Nat),ys[j]?=some p→∃ e,es[p]?=some e∧(ys.filterMap (es[·]?))[j]?=some e
 | [],_=>⟨rfl,fun j p h=>by simp at h⟩
 | y::ys,h=>by
  have hy:es[y]?=some (es[y]'(h y List.mem_cons_self)):=Array.getElem?_eq_getElem _
  obtain ⟨h1,h2⟩:=ZrZ (ys:=ys) fun p hp=>h p (List.mem_cons_of_mem _ hp)
  rw [List.filterMap_cons,hy]
  refine ⟨by simp [h1],fun j p hj=>?_⟩
  cases j with
  | zero =>
   simp only [List.getElem?_cons_zero,Option.some.injEq] at hj
   subst hj
   exact ⟨_,hy,rfl⟩
  | succ j =>
   simp only [List.getElem?_cons_succ] at hj ⊢
   exact h2 j p hj
section
variable {prog:Program} {w:World} {A:Around} {E:Value→Shared→Prop} {s:Shared}
theorem ZpS {a:Addr} {ob:Obj} {es:Array (Int×Value)} {ep:Nat} {t:SetTable} {ks:List Str} {Q:Value→Shared→Prop} (ho:s.heap.get? a=some ob) (hx:ob.ExactSet) (hd:ob.data=.set es ep t) (Tb:Tab w es t ks) (hn:ks.length < scanBound)
  (h:∀ it T l h' d,s.heap.objs.size≤it→T≠it→(T=a∨s.heap.objs.size≤T)→(∀ c o,s.heap.get? c=some o→h'.get? c=some o)→Wk w it a T ob es ep t l 0 h'→l.Perm es.toList→T < h'.objs.size→it < h'.objs.size→Q (.ref it) { s with heap:=h',drawn:=d }):wpAny (model prog w) A (pyIter (.ref a)) Q E s:=by
 have hT:s.TypeIs (.ref a) "set":=⟨ob,ho,hx.1⟩
 have hlt:a < s.heap.objs.size:=Heap.lt_size ho
 have hz:=Tb.len
 refine wpAny_pyIter_slot hT Zpz (wpAny_call_entry Zpz hT Zp9 ?_ (Zsf _))
 unfold Builtin.«frozenset.__iter__»
 refine wpAny_bind (m:=Builtin.Frozenset.slot0 "__iter__" ⟨[.ref a],[]⟩) (wpAny_pure (a:=a) ?_)
 refine wpAny_bind (m:=Builtin.Frozenset.sizeOf a) (wpAny_bind (wpAny_setEntries_of ho hd Tb.ft (wpAny_pure ?_)))
 refine wpAny_bind ?_
 unfold setDrawn
 refine wpAny_bind (wpAny_setState_of ho hd Tb.ft ?_)
 dsimp only
 unfold setsByText
 refine wpAny_bind (wpAny_bind (wpAny_askSetting (wpAny_pure ?_)))
 show wpAny (model prog w) _ (pure (!(bt w)&&(!t.plain&&decide (es.size > 1)))) _ _ s
 refine wpAny_pure ?_
 by_cases hc:(!(bt w)&&(!t.plain&&decide (es.size > 1)))=true
 ·rw [if_pos hc]
  refine wpAny_bind (Zpx es.size (List.range es.size) s _ (List.length_range) fun ys d hp=>?_)
  have hyl:ys.length=es.size:=by rw [hp.length_eq,List.length_range]
  refine wpAny_bind (wpAny_newTuple (items:=ys.map fun i:Nat=>rawInt i) ?_ (by rw [List.length_map,hyl,hz];exact fits_of_scanBound hn))
  refine wpAny_bind (wpAny_setEpoch_of (s:={ s with heap:=s.heap.push _,drawn:=d }) (Heap.get?_push_of_some _ ho) hd Tb.ft ?_)
  simp only [newFields]
  refine wpAny_bind (wpAny_newObj_type ?_ (by show (5:Nat)≤sizeLine+2;decide))
  refine wpAny_pure ⟨_,rfl,"set_iterator",_,⟨_,Heap.get?_push_size _ rfl,rfl⟩,Zfm.lookup,?_⟩
  obtain ⟨hpl,hpj⟩:=ZrZ (es:=es) (ys:=ys) fun p z=>List.mem_range.mp (hp.mem_iff.mp z)
  have hperm:(ys.filterMap (es[·]?)).Perm es.toList:=by
   have hz2:=L3.Tb.order_perm es ys.toArray (by simpa using hp)
   simpa using hz2
  refine h _ s.heap.objs.size (ys.filterMap (es[·]?)) _ d ?_ ?_ (.inr (Nat.le_refl _)) (fun c o e=>Heap.get?_push_of_some _ (Heap.get?_push_of_some _ e)) ⟨⟨_,Heap.get?_push_size _ rfl,.drawn (Heap.get?_push_of_some _ (Heap.get?_push_size _ rfl)) rfl hpl.symm hpj⟩,Heap.get?_push_of_some _ (Heap.get?_push_of_some _ ho)⟩ hperm ?_ ?_
  ·rw [Heap.size_push];exact Nat.le_succ _
  ·rw [Heap.size_push];exact Nat.ne_of_lt (Nat.lt_succ_self _)
  ·rw [Heap.size_push,Heap.size_push];exact Nat.lt_succ_of_lt (Nat.lt_succ_self _)
  ·simp only [Heap.size_push];exact Nat.lt_succ_self _
 ·rw [if_neg hc]
  refine wpAny_bind (wpAny_pure ?_)
  refine wpAny_bind (wpAny_setEpoch_of ho hd Tb.ft ?_)
  simp only [newFields]
  refine wpAny_bind (wpAny_newObj_type ?_ (by show (5:Nat)≤sizeLine+2;decide))
  refine wpAny_pure ⟨_,rfl,"set_iterator",_,⟨_,Heap.get?_push_size _ rfl,rfl⟩,Zfm.lookup,?_⟩
  have fin:∀ l,l.Perm es.toList→Md w a a es ep t l (s.heap.push (Itr (rawInt 0) 0 a es.size ep)) (rawInt 0) 0→Q (.ref s.heap.objs.size) { s with heap:=s.heap.push (Itr (rawInt 0) 0 a es.size ep) }:=fun l hp M =>
   h _ a l _ s.drawn (Nat.le_refl _) (Nat.ne_of_lt hlt) (.inl rfl) (fun c o e=>Heap.get?_push_of_some _ e) ⟨⟨_,Heap.get?_push_size _ rfl,M⟩,Heap.get?_push_of_some _ ho⟩ hp (by rw [Heap.size_push];exact Nat.lt_succ_of_lt hlt) (by rw [Heap.size_push];exact Nat.lt_succ_self _)
  by_cases hb:bt w=true
  ·exact fin _ (ZjV _ _) (.text (k:=0) hb rfl)
  ·have hb':bt w=false:=by simpa using hb
   have h1:es.size≤1:=by
    rw [hb'] at hc
    simp only [Bool.not_false,Bool.true_and,Bool.and_eq_true,decide_eq_true_eq,not_and] at hc
    cases hpl:t.plain with
    | true=>have:=Tb.pl hpl;subst this;rw [hz];decide
    | false=>have:=hc (by rw [hpl];rfl);omega
   exact fin es.toList (List.Perm.refl _) (.few (k:=0) hb' (Tb.ld hb') h1 rfl (fun _=>rfl) fun j z=>by cases z)
end
end L3
namespace L3
open PySem PySem.Spec PyProof.Rows L2
theorem Zp8:Slot "set" "__len__" "set.__len__":=.of (owner:="set") (n:="__len__") (by rw [typeLookup_type,builtinLookup_eq_fast];kernel_rfl) (by decide +kernel) (by decide +kernel) (by decide +kernel) (by first | exact .inl (by decide +kernel) | exact .inr (by decide +kernel)) (by rw [isSubtype_type];kernel_rfl)
section
variable {prog:Program} {w:World} {A:Around} {E:Value→Shared→Prop} {s:Shared}
theorem ZpV {a:Addr} {Q:Bool→Shared→Prop} (hT:s.TypeIs (.ref a) "set") (q:Q false s):wpAny (model prog w) A (Builtin.List.listLengthHint (.ref a)) Q E s:=by
 unfold Builtin.List.listLengthHint
 refine wpAny_bind (wpAny_specialOf hT Zp8.lookup ?_)
 have hs:splitId "set.__len__"=some ("set","__len__"):=by kernel_rfl
 dsimp only
 rw [hs]
 dsimp only
 refine wpAny_bind (wpAny_isInstance hT sub_set_self ?_)
 rw [if_neg (by decide)]
 show wpAny (model prog w) A (if _=true then _ else _) Q E s
 rw [if_pos (by decide +kernel)]
 refine wpAny_bind (wpAny_typeOf hT ?_)
 exact wpAny_pure q
theorem Zlu {a:Addr} {ks:List Str} {Q:List Value→Shared→Prop} (hh:A.handled=none) (hS:SS w s.heap a ks) (hn:ks.length < scanBound)
  (h:∀ (s':Shared) (vs:List Value) (xs:List Str),StrsAre vs xs→xs.Perm ks→(∀ c o,c < s.heap.objs.size→s.heap.get? c=some o→s'.heap.get? c=some o)→s'.gens=s.gens→s'.os=s.os→s.heap.objs.size≤s'.heap.objs.size→Q vs s'):wpAny (model prog w) A (collect (.ref a)) Q E s:=by
 have hS':=hS
 obtain ⟨ob,es,ep,t,ho,hx,hd,T⟩:=hS
 have hz:=T.len
 have hlt:a < s.heap.objs.size:=Heap.lt_size ho
 unfold collect
 refine wpAny_bind (wpAny_runValue (codeAny_builtin PySem.F.entry_proto_collect ?_));rw [Around.under_plainId PySem.F.plain_proto_collect _]
 refine wpAny_bind (m:=newList []) (wpAny_newList ?_ (Nat.zero_le _))
 refine wpAny_pure ⟨plainId_quiet PySem.F.plain_list_iadd _,codeAny_builtin PySem.F.entry_list_iadd ?_⟩;rw [Around.under_plainId PySem.F.plain_list_iadd _]
 have hne:s.heap.objs.size≠a:=Ne.symm (Nat.ne_of_lt hlt)
 have ho1:(s.heap.push (seqObj "list" #[] 0)).get? a=some ob:=Heap.get?_push_of_some _ ho
 have hT1:Shared.TypeIs { s with heap:=s.heap.push (seqObj "list" #[] 0) } (.ref a) "set":=⟨ob,ho1,hx.1⟩
 refine (?_:wpAny (model prog w) A.in1 (Builtin.List.listExtendWith (.ref s.heap.objs.size) (.ref a) (.ref s.heap.objs.size)) _ _ { s with heap:=s.heap.push (seqObj "list" #[] 0) })
 unfold Builtin.List.listExtendWith
 refine wpAny_bind (wpAny_typeOf hT1 ?_)
 have c1:Builtin.List.listSameRef (.ref s.heap.objs.size) (.ref a)=false:=by simp [Builtin.List.listSameRef,hne]
 have c2:(Value.type "set"==Value.type "list")=false:=by decide
 have c3:(Value.type "set"==Value.type "tuple")=false:=by decide
 simp only [c1,c2,c3,Bool.or_false,Bool.false_eq_true,if_false]
 refine wpAny_bind (ZpS ho1 hx hd T hn fun it Tp l h' d hit hTit hTa keep W hp hTl hil=>?_)
 obtain ⟨⟨first,hi,M⟩,hob⟩:=id W
 have hT2:Shared.TypeIs { s with heap:=h',drawn:=d } (.ref a) "set":=⟨ob,hob,hx.1⟩
 refine wpAny_bind (wpAny_holding (ZpV hT2 ?_))
 refine (?_:wpAny (model prog w) A.in1 (rule "list.extend.makes-room" >>= fun _=>Builtin.List.listTouch (.ref s.heap.objs.size) >>= fun _=>again (.builtin "list.extend.loop" ⟨[.ref s.heap.objs.size,.ref it,.ref s.heap.objs.size],[]⟩)) _ _ { s with heap:=h',drawn:=d })
 refine wpAny_bind (wpAny_rule ?_)
 have hS0:h'.get? s.heap.objs.size=some (seqObj "list" #[] 0):=keep _ _ (Heap.get?_push_size _ rfl)
 refine wpAny_bind (m:=Builtin.List.listTouch (.ref s.heap.objs.size)) (wpAny_bind (m:=updateSeq s.heap.objs.size (·.push .none)) (wpAny_updateSeq (s:={ s with heap:=h',drawn:=d }) hS0 rfl ?_))
 have hS2:=Heap.get?_update_self (Obj.mapSeq (·.push Value.none)) hS0 rfl
 refine (?_:wpAny (model prog w) A.in1 (updateSeq s.heap.objs.size (·.pop)) _ _ _)
 refine wpAny_updateSeq hS2 rfl ?_
 have hS3:=Heap.get?_update_self (Obj.mapSeq (·.pop)) hS2 rfl
 have hit0:s.heap.objs.size < it:=by rw [Heap.size_push] at hit;exact hit
 have hTs:s.heap.objs.size≠Tp:=by
  rcases hTa with e | e
  ·rw [e];exact hne
  ·rw [Heap.size_push] at e;exact Nat.ne_of_lt e
 have hSf:s.heap.objs.size∉[it,a,Tp]:=by
  simp only [List.mem_cons,List.not_mem_nil,or_false,not_or]
  exact ⟨Nat.ne_of_lt hit0,hne,hTs⟩
 have hai:a≠it:=Nat.ne_of_lt (Nat.lt_trans hlt hit0)
 have hll:l.length=es.size:=by rw [hp.length_eq,Array.length_toList]
 have WS:=(ZpB (prog:=prog) (w:=w) (A:=A.in1) (by simp [hh]) hx hd T hai hTit hll).toS
 have oth:∀ b o,b≠s.heap.objs.size→h'.get? b=some o→((h'.update s.heap.objs.size (Obj.mapSeq (·.push Value.none))).update s.heap.objs.size (Obj.mapSeq (·.pop))).get? b=some o :=
  fun b o hb e=>(Heap.get?_update_other _ _ (Ne.symm hb)).trans ((Heap.get?_update_other _ _ (Ne.symm hb)).trans e)
 refine wpAny_pure ⟨plainId_quiet PySem.F.plain_extend_loop _,codeAny_extend_loopS WS (fits_of_scanBound (by rw [hz];exact hn)) _ hSf _ es.size 0 _ _ _ rfl (Nat.zero_le _)
  ⟨⟨first,oth _ _ (Ne.symm (Nat.ne_of_lt hit0)) hi,M.at fun o e=>oth _ _ (Ne.symm hTs) e⟩,oth _ _ (Ne.symm hne) hob⟩ hS3 (ItemsOf.nil _) fun s' acc c hm hS' hacc=>?_⟩
 refine wpAny_bind (m:=load s.heap.objs.size) (wpAny_load hS' (wpAny_pure ?_))
 have hvs:acc.toList=l.map (·.2):=by
  apply List.ext_getElem?
  intro i
  rw [List.getElem?_map,Array.getElem?_toList]
  by_cases hi':i < acc.size
  ·obtain ⟨e,he,hv⟩:=hacc.2 i _ (Array.getElem?_eq_getElem hi')
   rw [Array.getElem?_eq_getElem hi',he,hv];rfl
  ·rw [Array.getElem?_eq_none (by omega),List.getElem?_eq_none (by rw [hll,← hacc.1];omega)];rfl
 have hall:∀ v∈l.map (·.2),∃ x t,v=Value.str x t:=fun v hv=>by
  obtain ⟨e,he,rfl⟩:=List.mem_map.mp hv
  obtain ⟨x,u,rfl⟩:=T.el e (hp.mem_iff.mp he)
  exact ⟨x,u,rfl⟩
 refine h s' acc.toList ((l.map (·.2)).map strOf) (by rw [hvs];exact strsAre_map _ hall) ?_ (fun b o hb e=>?_) hm.gens hm.os ?_
 ·rw [List.map_map]
  exact ((hp.map _).trans T.pm)
 ·refine hm.heap b o ?_ (oth b o (Nat.ne_of_lt hb) (keep b o (Heap.get?_push_of_some _ e)))
  simp only [List.mem_cons,List.not_mem_nil,or_false,not_or]
  exact ⟨Nat.ne_of_lt hb,Nat.ne_of_lt (Nat.lt_trans hb hit0)⟩
 ·exact Nat.le_of_lt (Heap.lt_size hS')
theorem Zio {a:Addr} {ks:List Str} {Q:Value→Shared→Prop} (hh:A.handled=none) (hS:SS w s.heap a ks) (hn:ks.length < 64)
  (h:∀ (s':Shared) (p:Addr) (vs:List Value) (xs:List Str) (e:Nat),s.heap.objs.size≤p→s'.heap.get? p=some (seqObj "list" vs.toArray e)→StrsAre vs xs→xs.Perm ks→sortedS xs=true→(∀ c o,c < s.heap.objs.size→s.heap.get? c=some o→s'.heap.get? c=some o)→s'.gens=s.gens→s'.os=s.os→Q (.ref p) s') :
  wpAny (model prog w) A (call (.builtin "sorted") [.ref a]) Q E s:=by
 refine Calls.call_function_entry kind_sorted plain_sorted entry_sorted (args_sorted1 _) ?_;unfold Builtin.«sorted»
 refine wpAny_bind (m:=checkCount "sorted" 1 1 _) (wpAny_pure ?_)
 refine wpAny_bind (Zlu (by simp [hh]) hS (by unfold scanBound;omega) fun s1 vs xs hv hp keep hg hos hsz=>?_)
 have hvl:vs.length < 64:=by rw [hv.length,hp.length_eq];exact hn
 refine wpAny_bind (wpAny_newList ?_ (by have:(64:Nat)≤sizeLine:=by decide
                                         omega))
 have hoL:(s1.heap.push (seqObj "list" vs.toArray 0)).get? s1.heap.objs.size=some (seqObj "list" vs.toArray 0):=Heap.get?_push_size _ rfl
 refine wpAny_bind (wpAny_holding (wpAny_call_entry slot_list_sort ⟨_,hoL,rfl⟩ entry_list_sort (list_sort_treeK (s:={ s1 with heap:=s1.heap.push (seqObj "list" vs.toArray 0) }) strKind_oneLt hoL hv.keysOf (fun v1 v2 r e=>keyKind_strs (by rw [← e];exact hv)) hvl fun st' a1 a2=>⟨_,rfl,?_⟩) (args_list_sort _)))
 obtain ⟨xs',hv',hp',hs'⟩:=sorted_out_str hv a1 a2
 obtain ⟨e,he⟩:=sortedHeap_at (n:=0) (vs:=vs) (out:=(arrOf st').map (·.2)) hoL
 refine wpAny_pure ⟨_,rfl,h _ _ ((arrOf st').map (·.2)).toList xs' e hsz (by rw [Array.toArray_toList];exact he) hv' (hp'.trans hp) hs' (fun c o hc z=>?_) hg hos⟩
 rw [sortedHeap_old (Nat.ne_of_lt (Nat.lt_of_lt_of_le hc hsz)) (by rw [Heap.size_push];exact Nat.lt_succ_of_lt (Nat.lt_of_lt_of_le hc hsz))]
 exact Heap.get?_push_of_some _ (keep c o hc z)
end
end L3
namespace L3
open PySem PySem.Spec PyProof.Rows L2
variable {K:PySem.W.Frag} {H H' H2:Hp}
theorem ZfB:∀ {xs:List Str} {its:List Value},Vals (xs.map V.str) its→StrsAre its xs
 | [],_,.nil=>.nil
 | x::xs,_,.cons r rs=>by
  obtain ⟨t,rfl⟩:=r
  exact .cons x t (ZfB rs)
theorem Zhn:∀ {xs:List Str} {its:List Value},StrsAre its xs→Vals (xs.map V.str) its
 | [],_,.nil=>.nil
 | x::xs,_,.cons _ t rs=>.cons ⟨t,rfl⟩ (Zhn rs)
theorem Zcx {α:Type} [BEq α] [LawfulBEq α]:∀ {ks xs:List α},ks.Nodup→(∀ x∈ks,x∈xs)→ks.length≤xs.length
 | [],xs,_,_=>Nat.zero_le _
 | k::ks,xs,hn,h=>by
  have hk:=List.nodup_cons.mp hn
  have hin:k∈xs:=h k List.mem_cons_self
  have h1:=Zcx (xs:=xs.erase k) hk.2 fun x hx=>(List.mem_erase_of_ne (fun e=>hk.1 (by rw [← e];exact hx))).mpr (h x (List.mem_cons_of_mem _ hx))
  rw [List.length_erase_of_mem hin] at h1
  have:0 < xs.length:=List.length_pos_of_mem hin
  rw [List.length_cons];omega
section
variable {X:Cx} {e eb:Expr} {p1 p2 p3 q1 q2 q3 qb:Pos} {ta tb:TE}
theorem Zhu {A:Around} {E:Value→Shared→Prop} {s:Shared} {pos:Pos} {Q:List Value→Shared→Prop} (hs:starEach [e] X.env=(false,eval e X.env)::starEach [] X.env) (h:wpAny (model X.prog X.w) A (eval e X.env) (fun v s1=>Q [v] s1) E s):wpAny (model X.prog X.w) A (spliced (backTo pos (starEach [e] X.env))) Q E s:=by
 rw [hs]
 refine Calls.spliced_cons (wpAny_mono h (fun v s1 q=>?_) fun _ _ z=>z)
 exact Calls.spliced_nil q
def Zvx (K:PySem.W.Frag) (ta tb:TE):TE:=fun σ H Q=>ta σ H fun x H1=>∃ (p:Addr) (xs:List Str),x=.ref p∧SqL K H1 p (xs.map V.str)∧xs.length < 16∧tb σ H1 fun y H2=>∃ (q:Addr) (ys:List Str),y=.ref q∧SqL K H2 q (ys.map V.str)∧ys.length < 16 ∧
 ∀ (zs:List Str) (r:Addr),zs.Nodup→sortedS zs=true→(∀ x,x∈zs↔x∈xs∨x∈ys)→H2 r=none→Q (.ref r) (upd H2 r (.lst (zs.map V.str)))
theorem ZqQ (hc:X.calm=true) (n1:X.mg "sorted"=none) (n2:X.mg "set"=none) (g1:Gl X "sorted") (g2:Gl X "set") (h1:starEach [e] X.env=(false,eval e X.env)::starEach [] X.env) (h2:starEach [eb] X.env=(false,eval eb X.env)::starEach [] X.env)
  (h3:starEach [.BinOp (.Call (.Name "set" p1) [e] [] q1) .BitOr (.Call (.Name "set" p2) [eb] [] q2) qb] X.env=(false,eval (.BinOp (.Call (.Name "set" p1) [e] [] q1) .BitOr (.Call (.Name "set" p2) [eb] [] q2) qb) X.env)::starEach [] X.env) (ha:PE X e ta) (hb:PE X eb tb) :
  PE X (.Call (.Name "sorted" p3) [.BinOp (.Call (.Name "set" p1) [e] [] q1) .BitOr (.Call (.Name "set" p2) [eb] [] q2) qb] [] q3) (Zvx X.K ta tb):=by
 intro pins s σ H Q I h
 have bS:bootBuiltins "sorted"=some (.builtin "sorted"):=by decide +kernel
 have bT:bootBuiltins "set"=some (.type "set"):=by decide +kernel
 have hh:X.A.handled=none:=I.ok.hd hc
 refine wpAny_Call_Name_kw (Zdp I g1 n1 bS ?_)
 refine PyProof.Rows.callWith_builtin1 (Zhu h3 ?_) h3 rfl
 refine wpAny_BinOp ?_
 refine wpAny_Call_Name_kw (Zdp I g2 n2 bT ?_)
 refine PyProof.Rows.callWith_type1 (Zhu h1 ?_) h1 rfl
 refine thn (ha pins s σ H _ I h) fun v s1 zz1=>?_
 obtain ⟨x,H1,I1,r1,p,xs,ex,hq,hn,q1⟩:=zz1
 subst ex
 cases r1
 obtain ⟨its,rv,pl,hz⟩:=I1.list hq
 have hil:its.length=xs.length:=by have:=rv.length;rw [List.length_map] at this;exact this.symm
 refine ZiY hh pl.isList (by simpa using ZfB rv) (by rw [List.size_toArray,hil];unfold scanBound;omega) fun h' tk ka hA hxa keep=>?_
 have hA':=hA
 obtain ⟨oa,esA,epA,tA,hoA,hxA,hdA,TA⟩:=hA
 have I2:Inv X pins σ H1 { s1 with heap:=h',toks:=tk }:=I1.kept fun b u z=>keep b u (Heap.lt_size z) z
 have I3:Inv X (pins++[(s1.heap.objs.size,oa)]) σ H1 { s1 with heap:=h',toks:=tk }:=I2.pins_of fun p hp=>by
  rcases List.mem_append.mp hp with hp | hp
  ·exact I2.pin p (List.mem_append_right _ hp)
  ·have e:=List.mem_singleton.mp hp
   subst e
   exact ⟨hoA,I1.hok.fresh (Nat.le_refl _),Ne.symm (Nat.ne_of_lt I1.lt),I1.nofs (Nat.le_refl _),fun v z=>by rw [hdA] at z;cases z⟩
 refine wpAny_Call_Name_kw (Zdp I3 g2 n2 bT ?_)
 refine PyProof.Rows.callWith_type1 (Zhu h2 ?_) h2 rfl
 refine thn (hb _ _ σ H1 _ I3 q1) fun v2 s2 zz2=>?_
 obtain ⟨y,H2,I4,r2,q,ys,ey,hq2,hn2,q2⟩:=zz2
 subst ey
 cases r2
 have hoA2:s2.heap.get? s1.heap.objs.size=some oa:=(I4.pin (s1.heap.objs.size,oa) (List.mem_append_right _ (List.mem_append_right _ (List.mem_singleton.mpr rfl)))).1
 have I5:Inv X pins σ H2 s2:=I4.unpinned
 obtain ⟨its2,rv2,pl2,hz2⟩:=I5.list hq2
 have hil2:its2.length=ys.length:=by have:=rv2.length;rw [List.length_map] at this;exact this.symm
 refine ZiY hh pl2.isList (by simpa using ZfB rv2) (by rw [List.size_toArray,hil2];unfold scanBound;omega) fun h'' tk2 kb hB hxb keep2=>?_
 have hA2:SS X.w h'' s1.heap.objs.size ka:=⟨oa,esA,epA,tA,keep2 _ _ (Heap.lt_size hoA2) hoA2,hxA,hdA,TA⟩
 have lka:ka.length < 16:=Nat.lt_of_le_of_lt (Zcx hA'.nd fun x hx=>(hxa x).mp hx) hn
 have lkb:kb.length < 16:=Nat.lt_of_le_of_lt (Zcx hB.nd fun x hx=>(hxb x).mp hx) hn2
 refine ZwW (s:={ s2 with heap:=h'',toks:=tk2 }) (Nat.ne_of_lt (Heap.lt_size hoA2)) hA2 hB lka lkb fun h3 kc hC hxc keep3=>?_
 have lkc:kc.length < 64:=by
  have:=Zcx (xs:=ka++kb) hC.nd fun x hx=>List.mem_append.mpr ((hxc x).mp hx)
  rw [List.length_append] at this
  omega
 refine Zio hh hC lkc fun s' r vs zs en hr hget hv hp hs keep4 hg hos=>?_
 have z1:s2.heap.objs.size < h''.objs.size:=SS.lt (s:={ s2 with heap:=h'' }) hB
 have z2:h''.objs.size < h3.objs.size:=SS.lt (s:={ s2 with heap:=h3 }) hC
 have hr2:s2.heap.objs.size≤r:=Nat.le_of_lt (Nat.lt_of_lt_of_le (Nat.lt_trans z1 z2) hr)
 have kall:∀ b u,s2.heap.get? b=some u→s'.heap.get? b=some u:=fun b u z=>by
  have y1:=keep2 b u (Heap.lt_size z) z
  have y2:=keep3 b u (Heap.lt_size y1) y1
  exact keep4 b u (Heap.lt_size y2) y2
 have hzl:zs.length≤sizeLine:=by
  have:(64:Nat)≤sizeLine:=by decide
  rw [hp.length_eq];omega
 have J:Inv X pins σ (upd H2 r (.lst (zs.map V.str))) { s2 with heap:=s'.heap,toks:=s'.toks }:=I5.laid (t':=s'.toks) kall hr2 (show ObjOk X.prog X.w _ s'.heap r (.lst (zs.map V.str)) from ⟨by rw [List.length_map];exact hzl,vs,en,Zhn hv,hget⟩)
 refine ⟨.ref r,_,⟨J.ok,by rw [hos];exact J.os,by rw [hg];exact J.bare,J.base,J.loc,J.cell,J.free,J.freeC,J.pin,J.hok,J.len⟩,rfl,q2 zs r (hp.nodup_iff.mpr hC.nd) hs (fun x=>?_) (I5.hok.fresh hr2)⟩
 rw [hp.mem_iff,hxc,hxa,hxb]
def Zg5 (ga gb:GE):GE:=fun ω G Q=>ga ω G fun x G1=>∃ xs:List Str,Zh0 G1 x=some (xs.map W.str)∧xs.length < 16∧gb ω G1 fun y G2=>∃ ys:List Str,Zh0 G2 y=some (ys.map W.str)∧ys.length < 16 ∧
 ∀ (zs:List Str) (p:Addr),zs.Nodup→sortedS zs=true→(∀ x,x∈zs↔x∈xs∨x∈ys)→G2 p=none→Q (.ref p) (put G2 p (.lst (zs.map W.str)))
theorem Zqk {ga gb:GE} (ma:ga.M) (mb:gb.M):GE.M (Zg5 ga gb):=fun ω G Q Q' h q=>ma _ _ _ _ ((by rintro x G1 ⟨xs,h1,h2,q1⟩;exact ⟨xs,h1,h2,mb _ _ _ _ ((by rintro y G2 ⟨ys,h3,h4,q2⟩;exact ⟨ys,h3,h4,fun zs p a b c d=>h _ _ (q2 zs p a b c d)⟩)) q1⟩)) q
theorem Zjl:∀ {xs:List Str} {vs:List V},TrL K H vs (xs.map W.str)→vs=xs.map V.str
 | [],_,.nil=>rfl
 | x::xs,_,.cons t ts=>by
  cases t
  rw [Zjl ts];rfl
theorem Zls:∀ (xs:List Str),TrL K H (xs.map V.str) (xs.map W.str)
 | []=>.nil
 | x::xs=>.cons (.str x) (Zls xs)
theorem ZpZ {ga gb:GE} (hc:X.calm=true) (n1:X.mg "sorted"=none) (n2:X.mg "set"=none) (g1:Gl X "sorted") (g2:Gl X "set") (h1:starEach [e] X.env=(false,eval e X.env)::starEach [] X.env) (h2:starEach [eb] X.env=(false,eval eb X.env)::starEach [] X.env)
  (h3:starEach [.BinOp (.Call (.Name "set" p1) [e] [] q1) .BitOr (.Call (.Name "set" p2) [eb] [] q2) qb] X.env=(false,eval (.BinOp (.Call (.Name "set" p1) [e] [] q1) .BitOr (.Call (.Name "set" p2) [eb] [] q2) qb) X.env)::starEach [] X.env) (ha:Em X e ga) (hb:Em X eb gb) :
  Em X (.Call (.Name "sorted" p3) [.BinOp (.Call (.Name "set" p1) [e] [] q1) .BitOr (.Call (.Name "set" p2) [eb] [] q2) qb] [] q3) (Zg5 ga gb):=by
 refine ⟨Zbi (ZqQ hc n1 n2 g1 g2 h1 h2 h3 ha.p hb.p) fun σ H Q zz3=>?_,Zqk ha.m hb.m⟩
 obtain ⟨ω,G,ts,rh,q⟩:=zz3
 refine ⟨ω,G,ts,rh,ha.m _ _ _ _ (fun x G1 zz4 v H1 m1 tx r1=>?_) q⟩
 obtain ⟨xs,hx,hn,q1⟩:=zz4
 obtain ⟨a,vs,rfl,rfl,hG,hH,tv⟩:=ZeR r1 tx hx
 obtain rfl:=Zjl tv
 refine ⟨a,xs,rfl,.inl (.inl hH),hn,ω,G1,ts.mono m1,r1,hb.m _ _ _ _ (fun y G2 zz5 u H2 m2 ty r2=>?_) q1⟩
 obtain ⟨ys,hy,hn2,q2⟩:=zz5
 obtain ⟨b,us,rfl,rfl,hG2,hH2,tu⟩:=ZeR r2 ty hy
 obtain rfl:=Zjl tu
 refine ⟨b,ys,rfl,.inl (.inl hH2),hn2,fun zs r z1 z2 z3 z4=>?_⟩
 exact q2 zs r z1 z2 z3 (r2.no z4) _ _ (m1.trans (m2.trans (Mono.new z4 _))) (.ref r) (r2.new z4 (Zls zs))
end
end L3
set_option Elab.async false
set_option linter.all false
set_option maxRecDepth 100000
set_option maxHeartbeats 4000000
namespace L3
open PySem PySem.Spec PyProof.Rows L2
section
variable {prog:Program} {w:World} {A:Around} {E:Value→Shared→Prop} {s:Shared}
theorem Zht {it l:Addr} {i:Nat} {xs:Array Value} {x:Value} {Q:Value→Shared→Prop} (u:s.heap.IsTupleIter it l i) (v:s.heap.IsTuple l xs) (hx:xs[i]?=some x) (hQ:∀ h',h'.IsTupleIter it l (i+1)→Heap.SameBut it s.heap h'→Q x { s with heap:=h' }) :
  wpAny (model prog w) A (Builtin.SmallTypes.nextOf (.ref it)) Q E s:=by
 obtain ⟨oi,ei,ci,di⟩:=id u
 obtain ⟨ol,el,_,nl,dl⟩:=v
 unfold Builtin.SmallTypes.nextOf
 refine wpAny_bind (wpAny_callSpecial?_slot (name:=Str.ofString "__next__") u.typeIs PySem.F.slot_tuple_iterator_next (wpAny_call_entry PySem.F.slot_tuple_iterator_next u.typeIs PySem.F.entry_tuple_iterator_next ?_ (PySem.F.args_tuple_iterator_next_1 _)))
 refine wpAny_bind (m:=field (.ref it) 0) (wpAny_field ei di (x:=.ref l) rfl ?_)
 show wpAny (model prog w) _ (if (Value.ref l==Value.none)=true then _ else _) _ E s
 rw [if_neg (show ¬ ((Value.ref l==Value.none)=true) from Bool.false_ne_true)];refine wpAny_bind (m:=field (.ref it) 1) (wpAny_field ei di (x:=.int i 0) rfl ?_)
 refine wpAny_bind (m:=seqItems? (.ref l)) (wpAny_seqItems el dl ?_)
 simp only [Int.toNat_natCast];rw [hx]
 refine wpAny_bind (wpAny_setField ei di (by simp) (wpAny_pure ⟨x,rfl,wpAny_pure (hQ _ ⟨_,Heap.get?_update_self _ ei (Obj.isFreed_of_fields (Obj.data_mapFields di _)),(Obj.cls_mapFields ..).trans ci,?_⟩ (Heap.SameBut.update ..))⟩))
 rw [Obj.data_mapFields di];simp [rawInt]
theorem ZrH {it l:Addr} {i:Nat} {xs:Array Value} {Q:Value→Shared→Prop} (hh:A.handled=none) (u:s.heap.IsTupleIter it l i) (v:s.heap.IsTuple l xs) (hx:xs[i]?=none)
  (hE:∀ h' e,Heap.ExtBut it s.heap h'→(∃ o,h'.get? e=some o∧o.cls=.type "StopIteration")→E (.ref e) { s with heap:=h' }):wpAny (model prog w) A (Builtin.SmallTypes.nextOf (.ref it)) Q E s:=by
 obtain ⟨oi,ei,ci,di⟩:=id u
 obtain ⟨ol,el,_,nl,dl⟩:=v
 unfold Builtin.SmallTypes.nextOf
 refine wpAny_bind (wpAny_callSpecial?_slot (name:=Str.ofString "__next__") u.typeIs PySem.F.slot_tuple_iterator_next (wpAny_call_entry PySem.F.slot_tuple_iterator_next u.typeIs PySem.F.entry_tuple_iterator_next ?_ (PySem.F.args_tuple_iterator_next_1 _)))
 refine wpAny_bind (m:=field (.ref it) 0) (wpAny_field ei di (x:=.ref l) rfl ?_)
 show wpAny (model prog w) _ (if (Value.ref l==Value.none)=true then _ else _) _ E s
 rw [if_neg (show ¬ ((Value.ref l==Value.none)=true) from Bool.false_ne_true)];refine wpAny_bind (m:=field (.ref it) 1) (wpAny_field ei di (x:=.int i 0) rfl ?_)
 refine wpAny_bind (m:=seqItems? (.ref l)) (wpAny_seqItems el dl ?_)
 simp only [Int.toNat_natCast];rw [hx]
 refine wpAny_bind (wpAny_rule (wpAny_bind (wpAny_setField ei di (by simp) ?_)));refine wpAny_bind (m:=newExc (.type "StopIteration") []) ?_
 simp only [newExc,newTuple]
 refine wpAny_bind (wpAny_newObj_type ?_ (by size_fits));refine wpAny_bind (m:=firstArgMember _ _) (wpAny_of_eq (a:=Value.none) (by first | rfl | (simp only [firstArgMember];rfl)) (wpAny_newObj_type ?_ (by size_fits)))
 simp only [raiseNew]
 refine wpAny_bind (wpAny_handled ?_);rw [show A.in1.handled=none from hh]
 refine wpAny_bind (wpAny_pure (wpAny_throw ?_))
 exact hE _ _ (((Heap.SameBut.update ..).extBut.push _).push _) ⟨_,Heap.get?_push_size _ rfl,rfl⟩
end
end L3
namespace L3
open PySem PySem.Spec PyProof.Rows L2
variable {K:PySem.W.Frag} {H H' H2:Hp}
section
variable {prog:Program} {w:World} {A:Around} {E:Value→Shared→Prop} {s:Shared}
theorem tat {h h':Heap} {a t:Addr} {i:Nat} (x:h.IsTupleIter a t i) (k:∀ o,h.get? a=some o→h'.get? a=some o):h'.IsTupleIter a t i:=by
 obtain ⟨o,e,r⟩:=x
 exact ⟨o,k o e,r⟩
end
theorem Zj5 {v:V} {xs:List W} (t:Tr K H v (.tup xs)):∃ a vs,v=.ref a∧SqT K H a vs∧TrL K H vs xs:=by
 cases t with
 | tup h l=>exact ⟨_,_,rfl,h,l⟩
end L3
namespace L3
open PySem PySem.Spec PyProof.Rows L2
theorem nA {a b:Nat} (h:a≠b):@Ne Addr a b:=h
abbrev Zeb (h:Heap) (T:Addr) (a b c:Value):Prop:=h.get? T=some { cls:=.type "tuple",data:=.seq #[a,b,c] }
section
variable {prog:Program} {w:World} {A:Around} {E:Value→Shared→Prop} {s:Shared}
theorem ZpG {T:Addr} {a b c x:Value} {k:Nat} {Q:Unit→Shared→Prop} (hT:Zeb s.heap T a b c)
  (h:∀ h',h'.get? T=some { cls:=.type "tuple",data:=.seq ((#[a,b,c]:Array Value).setIfInBounds k x) }→Heap.SameBut T s.heap h'→Q () { s with heap:=h' }) :
  wpAny (model prog w) A (updateSeq T (·.setIfInBounds k x)) Q E s:=by
 refine wpAny_updateSeq hT rfl (h _ ?_ (Heap.SameBut.update ..))
 rw [Heap.get?_update_self _ hT rfl];simp [Obj.mapSeq]
def St3 (n l1 l2 l3:Nat) (f0:Value) (i:Nat) (h:Heap):Prop:=IsZip h (n+5) (n+3) (n+4) f0∧Zeb h (n+3) (.ref n) (.ref (n+1)) (.ref (n+2))∧(∃ a b c,Zeb h (n+4) a b c)∧h.IsListIter n l1 i∧h.IsListIter (n+1) l2 i∧h.IsListIter (n+2) l3 i
theorem ZtC {n l1 l2 l3:Nat} {k:Nat} {xs ys vs:Array Value} {x y v:Value} {Q:Value→Shared→Prop} (a1:l1 < n) (a2:l2 < n) (a3:l3 < n) (st:St3 n l1 l2 l3 .none k s.heap) (v1:s.heap.IsList l1 xs) (v2:s.heap.IsList l2 ys) (v3:s.heap.IsList l3 vs)
  (hx:xs[k]?=some x) (hy:ys[k]?=some y) (hv:vs[k]?=some v)
  (hQ:∀ h',St3 n l1 l2 l3 (rawInt s.heap.objs.size) (k+1) h'→Zeb h' s.heap.objs.size x y v→(∀ (c:Nat) o,c < n∨n+5 < c→s.heap.get? c=some o→h'.get? c=some o)→Q (.ref s.heap.objs.size) { s with heap:=h' }) :
  wpAny (model prog w) A (Builtin.«zip.__next__» ⟨[.ref (n+5)],[]⟩) (fun fin s'=>∃ v,fin=.done (.ret v)∧Q v s') E s:=by
 obtain ⟨hz,hTI,⟨a,b,c,hTO⟩,u1,u2,u3⟩:=st
 refine wpAny_bind (m:=field (.ref (n+5)) 2) (wpAny_field hz rfl (x:=.bool false) rfl ?_)
 refine wpAny_bind (m:=field (.ref (n+5)) 3) (wpAny_field hz rfl (x:=.ref (n+3)) rfl (wpAny_bind (m:=seqItems? (.ref (n+3))) (wpAny_seqItems hTI rfl ?_)))
 refine wpAny_bind (m:=Builtin.SmallTypes.ownedTupleIsFree (.ref (n+5))) ?_
 unfold Builtin.SmallTypes.ownedTupleIsFree
 refine wpAny_bind (m:=field (.ref (n+5)) 0) (wpAny_field hz rfl (x:=.none) rfl (wpAny_pure ?_));simp only [if_true]
 refine wpAny_bind (wpAny_rule (wpAny_bind (wpAny_field hz rfl (x:=.ref (n+4)) rfl (wpAny_bind (wpAny_setField_rec hz (by simp) fun h₁ hz₁ hs₁=>?_)))))
 replace hz₁:IsZip h₁ (n+5) (n+3) (n+4) .ellipsis:=hz₁
 refine wpAny_bind ?_
 simp only [List.zipIdx_cons,List.zipIdx_nil,List.forIn_cons,List.forIn_nil]
 have e1:=hs₁.extBut
 refine wpAny_bind (wpAny_bind (wpAny_onRaise ?_));refine wpAny_bind (m:=Builtin.SmallTypes.nextOf (.ref n)) ?_
 refine wpAny_nextOf_list_item (u1.extBut e1 (nA (by omega))) (v1.extBut e1 (nA (by omega))) hx fun h₂ w1 hs₂=>wpAny_pure ?_
 have e2:=hs₂.extBut
 have t2:Zeb h₂ (n+4) a b c:=e2 _ _ (nA (by omega)) (e1 _ _ (nA (by omega)) hTO)
 refine wpAny_bind (wpAny_seqItems t2 rfl (wpAny_bind (ZpG t2 fun h₃ t3 hs₃=>?_)))
 replace t3:Zeb h₃ (n+4) x b c:=t3
 have e3:=hs₃.extBut
 refine wpAny_bind (wpAny_letGo (wpAny_pure ?_));refine wpAny_bind (wpAny_bind (wpAny_onRaise ?_));refine wpAny_bind (m:=Builtin.SmallTypes.nextOf (.ref (n+1))) ?_
 refine wpAny_nextOf_list_item (((u2.extBut e1 (nA (by omega))).extBut e2 (nA (by omega))).extBut e3 (nA (by omega))) (((v2.extBut e1 (nA (by omega))).extBut e2 (nA (by omega))).extBut e3 (nA (by omega))) hy fun h₄ w2 hs₄=>wpAny_pure ?_
 have e4:=hs₄.extBut
 have t4:Zeb h₄ (n+4) x b c:=e4 _ _ (nA (by omega)) t3
 refine wpAny_bind (wpAny_seqItems t4 rfl (wpAny_bind (ZpG t4 fun h₅ t5 hs₅=>?_)))
 replace t5:Zeb h₅ (n+4) x y c:=t5
 have e5:=hs₅.extBut
 refine wpAny_bind (wpAny_letGo (wpAny_pure ?_));refine wpAny_bind (wpAny_bind (wpAny_onRaise ?_));refine wpAny_bind (m:=Builtin.SmallTypes.nextOf (.ref (n+2))) ?_
 refine wpAny_nextOf_list_item (((((u3.extBut e1 (nA (by omega))).extBut e2 (nA (by omega))).extBut e3 (nA (by omega))).extBut e4 (nA (by omega))).extBut e5 (nA (by omega))) (((((v3.extBut e1 (nA (by omega))).extBut e2 (nA (by omega))).extBut e3 (nA (by omega))).extBut e4 (nA (by omega))).extBut e5 (nA (by omega))) hv fun h₆ w3 hs₆=>wpAny_pure ?_
 have e6:=hs₆.extBut
 have t6:Zeb h₆ (n+4) x y c:=e6 _ _ (nA (by omega)) t5
 refine wpAny_bind (wpAny_seqItems t6 rfl (wpAny_bind (ZpG t6 fun h₇ t7 hs₇=>?_)))
 replace t7:Zeb h₇ (n+4) x y v:=t7
 have e7:=hs₇.extBut
 refine wpAny_bind (wpAny_letGo (wpAny_pure (wpAny_pure ?_)));refine wpAny_bind (wpAny_seqItems t7 rfl (wpAny_bind (wpAny_newTuple ?_ (by show (3:Nat)≤sizeLine;decide))))
 have hsz:h₇.objs.size=s.heap.objs.size:=by rw [hs₇.1,hs₆.1,hs₅.1,hs₄.1,hs₃.1,hs₂.1,hs₁.1]
 have up:∀ (c:Nat) o,c < n∨n+5 < c∨c=n+3→s.heap.get? c=some o→h₇.get? c=some o:=fun c o hc e=>e7 _ _ (nA (by omega)) (e6 _ _ (nA (by omega)) (e5 _ _ (nA (by omega)) (e4 _ _ (nA (by omega)) (e3 _ _ (nA (by omega)) (e2 _ _ (nA (by omega)) (e1 _ _ (nA (by omega)) e))))))
 have z7:IsZip h₇ (n+5) (n+3) (n+4) .ellipsis:=e7 _ _ (nA (by omega)) (e6 _ _ (nA (by omega)) (e5 _ _ (nA (by omega)) (e4 _ _ (nA (by omega)) (e3 _ _ (nA (by omega)) (e2 _ _ (nA (by omega)) hz₁)))))
 have y1:h₇.IsListIter n l1 (k+1):=((((w1.extBut e3 (nA (by omega))).extBut e4 (nA (by omega))).extBut e5 (nA (by omega))).extBut e6 (nA (by omega))).extBut e7 (nA (by omega))
 have y2:h₇.IsListIter (n+1) l2 (k+1):=((w2.extBut e5 (nA (by omega))).extBut e6 (nA (by omega))).extBut e7 (nA (by omega))
 have y3:h₇.IsListIter (n+2) l3 (k+1):=w3.extBut e7 (nA (by omega))
 refine wpAny_bind (m:=Builtin.SmallTypes.ownedTupleHandOut (.ref (n+5)) (.ref h₇.objs.size)) ?_
 unfold Builtin.SmallTypes.ownedTupleHandOut
 have z8:IsZip (h₇.push { cls:=.type "tuple",data:=.seq #[x,y,v] }) (n+5) (n+3) (n+4) .ellipsis:=Heap.get?_push_of_some _ z7
 refine wpAny_bind (wpAny_setField_rec z8 (by simp) fun h₉ z9 hs₉=>?_)
 replace z9:IsZip h₉ (n+5) (n+3) (n+4) (rawInt h₇.objs.size):=z9
 refine wpAny_setField_rec z9 (by simp) fun k₁ zk hk₁=>?_
 replace zk:IsZip k₁ (n+5) (n+3) (n+4) (rawInt h₇.objs.size):=zk
 have zlt:n+5 < h₇.objs.size:=Heap.lt_size z7
 have upp:∀ c o,c≠n+5→h₇.get? c=some o→k₁.get? c=some o:=fun c o c1 e=>hk₁.extBut _ _ c1 (hs₉.extBut _ _ c1 (Heap.get?_push_of_some _ e))
 have hT:Zeb k₁ h₇.objs.size x y v:=hk₁.extBut _ _ (nA (by omega)) (hs₉.extBut _ _ (nA (by omega)) (Heap.get?_push_size _ rfl))
 rw [hsz] at zk hT
 refine wpAny_pure ⟨_,rfl,(?_:Q (.ref h₇.objs.size) _)⟩
 rw [hsz]
 exact hQ k₁ ⟨zk,upp _ _ (nA (by omega)) (up _ _ (.inr (.inr rfl)) hTI),⟨_,_,_,upp _ _ (nA (by omega)) t7⟩,y1.at fun o e=>upp _ o (nA (by omega)) e,y2.at fun o e=>upp _ o (nA (by omega)) e,y3.at fun o e=>upp _ o (nA (by omega)) e⟩ hT fun c o hc e=>upp c o (nA (by omega)) (up c o (by omega) e)
theorem Zvu {n l1 l2 l3:Nat} {k:Nat} {xs:Array Value} {Q:Fin→Shared→Prop} (hh:A.handled=none) (a1:l1 < n) (st:St3 n l1 l2 l3 .none k s.heap) (v1:s.heap.IsList l1 xs) (hx:xs[k]?=none)
  (hE:∀ h' e,(∀ (c:Nat) o,c < n∨n+5 < c→s.heap.get? c=some o→h'.get? c=some o)→(∃ o,h'.get? e=some o∧o.cls=.type "StopIteration")→E (.ref e) { s with heap:=h' }):wpAny (model prog w) A (Builtin.«zip.__next__» ⟨[.ref (n+5)],[]⟩) Q E s:=by
 obtain ⟨hz,hTI,⟨a,b,c,hTO⟩,u1,u2,u3⟩:=st
 refine wpAny_bind (m:=field (.ref (n+5)) 2) (wpAny_field hz rfl (x:=.bool false) rfl ?_)
 refine wpAny_bind (m:=field (.ref (n+5)) 3) (wpAny_field hz rfl (x:=.ref (n+3)) rfl (wpAny_bind (m:=seqItems? (.ref (n+3))) (wpAny_seqItems hTI rfl ?_)))
 refine wpAny_bind (m:=Builtin.SmallTypes.ownedTupleIsFree (.ref (n+5))) ?_
 unfold Builtin.SmallTypes.ownedTupleIsFree
 refine wpAny_bind (m:=field (.ref (n+5)) 0) (wpAny_field hz rfl (x:=.none) rfl (wpAny_pure ?_));simp only [if_true]
 refine wpAny_bind (wpAny_rule (wpAny_bind (wpAny_field hz rfl (x:=.ref (n+4)) rfl (wpAny_bind (wpAny_setField_rec hz (by simp) fun h₁ hz₁ hs₁=>?_)))))
 replace hz₁:IsZip h₁ (n+5) (n+3) (n+4) .ellipsis:=hz₁
 refine wpAny_bind ?_
 simp only [List.zipIdx_cons,List.zipIdx_nil,List.forIn_cons,List.forIn_nil]
 have e1:=hs₁.extBut
 refine wpAny_bind (wpAny_bind (wpAny_onRaise ?_));refine wpAny_bind (m:=Builtin.SmallTypes.nextOf (.ref n)) ?_
 refine wpAny_nextOf_list_end hh (u1.extBut e1 (nA (by omega))) (v1.extBut e1 (nA (by omega))) hx fun h₂ e hs₂ he=>?_
 obtain ⟨oe,hoe,hce⟩:=he
 have hz₂:IsZip h₂ (n+5) (n+3) (n+4) .ellipsis:=hs₂ _ _ (nA (by omega)) hz₁
 have hez:e≠n+5:=fun q=>by subst q;rw [hz₂] at hoe;cases hoe;simp at hce
 exact wpAny_setField_rec hz₂ (by simp) fun h₃ _ hs₃=>hE h₃ e (fun c o c1 q=>hs₃.extBut _ _ (nA (by omega)) (hs₂ _ _ (nA (by omega)) (e1 _ _ (nA (by omega)) q))) ⟨oe,hs₃.extBut _ _ hez hoe,hce⟩
end
end L3
set_option Elab.async false
set_option linter.all false
set_option maxRecDepth 100000
set_option maxHeartbeats 4000000
namespace L3
open PySem PySem.Spec PyProof.Rows L2
variable {K:PySem.W.Frag} {H H' H2:Hp}
section
variable {prog:Program} {w:World} {A:Around} {E:Value→Shared→Prop} {s:Shared}
theorem St3.at {n l1 l2 l3:Nat} {f0:Value} {i:Nat} {h h':Heap} (st:St3 n l1 l2 l3 f0 i h) (k:∀ (c:Nat) o,n≤c→c≤n+5→h.get? c=some o→h'.get? c=some o):St3 n l1 l2 l3 f0 i h':=by
 obtain ⟨hz,hTI,⟨a,b,c,hTO⟩,u1,u2,u3⟩:=st
 exact ⟨k _ _ (by omega) (by omega) hz,k _ _ (by omega) (by omega) hTI,⟨a,b,c,k _ _ (by omega) (by omega) hTO⟩,u1.at fun o e=>k _ o (by omega) (by omega) e,u2.at fun o e=>k _ o (by omega) (by omega) e,u3.at fun o e=>k _ o (by omega) (by omega) e⟩
theorem tc3 (a b c:Value):checkTypeCall "zip" ⟨[a,b,c],[]⟩=pure ():=by kernel_rfl
theorem nc3 (a b c:Value):checkBuiltinCall "zip.__new__" ⟨[.type "zip",a,b,c],[]⟩=pure ():=by kernel_rfl
theorem oi4 (a b c d:Value):argsOk "object.__init__" ⟨[a,b,c,d],[]⟩:=by
 unfold argsOk
 rw [signature?_of (o:=['t','c','e','j','b','o']) (n:=['_','_','t','i','n','i','_','_']) (id:="object.__init__") (by kernel_rfl) PySem.F.owner_object]
 kernel_rfl
abbrev zL (h:Heap) (l:Addr):Heap:=h.push { cls:=.type "list_iterator",data:=.fields #[.ref l,.int 0 0] }
abbrev z33 (h:Heap) (l1 l2 l3:Addr):Heap:=zL (zL (zL h l1) l2) l3
abbrev z34 (h:Heap) (l1 l2 l3:Addr):Heap:=(z33 h l1 l2 l3).push { cls:=.type "tuple",data:=.seq #[.ref h.objs.size,.ref (zL h l1).objs.size,.ref (zL (zL h l1) l2).objs.size] }
abbrev z35 (h:Heap) (l1 l2 l3:Addr):Heap:=(z34 h l1 l2 l3).push { cls:=.type "tuple",data:=.seq #[.none,.none,.none] }
abbrev z36 (h:Heap) (l1 l2 l3:Addr):Heap:=(z35 h l1 l2 l3).push { cls:=.type "zip",data:=.fields #[.none,.bool false,.bool false,.ref (z33 h l1 l2 l3).objs.size,.ref (z34 h l1 l2 l3).objs.size] }
theorem Zq5 (l1 l2 l3:Addr) (xs ys vs:Array Value):Meets (Builtin.«zip.__new__» ⟨[.type "zip",.ref l1,.ref l2,.ref l3],[]⟩) (fun _ R s=>s.heap.IsList l1 xs∧s.heap.IsList l2 ys∧s.heap.IsList l3 vs∧R (.ok (.ret (.ref (z35 s.heap l1 l2 l3).objs.size))) { s with heap:=z36 s.heap l1 l2 l3 }) :=
 .of_wp fun prog w A R s h=>by
  obtain ⟨hp,g,d,tk,os⟩:=s
  obtain ⟨u1,u2,u3,h⟩:=h
  have hsub:=sub_zip
  have hL1:Heap.IsList (Shared.heap ⟨hp,g,d,tk,os⟩) l1 xs:=u1
  have hL2:Heap.IsList (Shared.heap ⟨hp.push { cls:=.type "list_iterator",data:=.fields #[.ref l1,.int 0 0] },g,d,tk,os⟩) l2 ys:=Heap.IsList.push u2 _
  have hL3:Heap.IsList (Shared.heap ⟨(hp.push { cls:=.type "list_iterator",data:=.fields #[.ref l1,.int 0 0] }).push { cls:=.type "list_iterator",data:=.fields #[.ref l2,.int 0 0] },g,d,tk,os⟩) l3 vs:=Heap.IsList.push (Heap.IsList.push u3 _) _
  wp_walk using wpAny_pyIter_list hL1,wpAny_pyIter_list hL2,wpAny_pyIter_list hL3
  exact ⟨_,rfl,h⟩
theorem ZoC {l1 l2 l3:Addr} {xs ys vs:Array Value} {Q:Value→Shared→Prop} (u1:s.heap.IsList l1 xs) (u2:s.heap.IsList l2 ys) (u3:s.heap.IsList l3 vs)
  (h:∀ h',St3 s.heap.objs.size l1 l2 l3 .none 0 h'→(∀ c o,s.heap.get? c=some o→h'.get? c=some o)→Q (.ref (s.heap.objs.size+5)) { s with heap:=h' }) :
  wpAny (model prog w) A (call (.type "zip") [.ref l1,.ref l2,.ref l3]) Q E s:=by
 refine callType_new PySem.F.called_zip (by decide) (tc3 _ _ _) (nc3 _ _ _) (fun obj=>oi4 obj _ _ _) PySem.F.entry_zip_new (Zq5 l1 l2 l3 xs ys vs) ⟨u1,u2,u3,?_⟩
 have q1:(zL s.heap l1).objs.size=s.heap.objs.size+1:=Heap.size_push ..
 have q2:(zL (zL s.heap l1) l2).objs.size=s.heap.objs.size+2:=by rw [Heap.size_push,q1]
 have q3:(z33 s.heap l1 l2 l3).objs.size=s.heap.objs.size+3:=by rw [Heap.size_push,q2]
 have q4:(z34 s.heap l1 l2 l3).objs.size=s.heap.objs.size+4:=by rw [Heap.size_push,q3]
 have q5:(z35 s.heap l1 l2 l3).objs.size=s.heap.objs.size+5:=by rw [Heap.size_push,q4]
 have up:∀ {c:Addr} {o:Obj},(z33 s.heap l1 l2 l3).get? c=some o→(z36 s.heap l1 l2 l3).get? c=some o:=fun e=>Heap.get?_push_of_some _ (Heap.get?_push_of_some _ (Heap.get?_push_of_some _ e))
 have g6:(z36 s.heap l1 l2 l3).get? (z35 s.heap l1 l2 l3).objs.size=some _:=Heap.get?_push_size _ rfl
 have g5:(z36 s.heap l1 l2 l3).get? (z34 s.heap l1 l2 l3).objs.size=some _:=Heap.get?_push_of_some _ (Heap.get?_push_size _ rfl)
 have g4:(z36 s.heap l1 l2 l3).get? (z33 s.heap l1 l2 l3).objs.size=some _:=Heap.get?_push_of_some _ (Heap.get?_push_of_some _ (Heap.get?_push_size _ rfl))
 have g3:(z36 s.heap l1 l2 l3).get? (zL (zL s.heap l1) l2).objs.size=some _:=up (Heap.get?_push_size _ rfl)
 have g2:(z36 s.heap l1 l2 l3).get? (zL s.heap l1).objs.size=some _:=up (Heap.get?_push_of_some _ (Heap.get?_push_size _ rfl))
 have g1:(z36 s.heap l1 l2 l3).get? s.heap.objs.size=some _:=up (Heap.get?_push_of_some _ (Heap.get?_push_of_some _ (Heap.get?_push_size _ rfl)))
 rw [q3,q4,q5] at g6
 rw [q1,q2,q3] at g4
 rw [q4] at g5
 rw [q2] at g3
 rw [q1] at g2
 rw [q5]
 exact ⟨⟨_,g6,rfl⟩,h _ ⟨g6,g4,⟨_,_,_,g5⟩,⟨_,g1,rfl,rfl⟩,⟨_,g2,rfl,rfl⟩,⟨_,g3,rfl,rfl⟩⟩ fun c o x=>up (Heap.get?_push_of_some _ (Heap.get?_push_of_some _ (Heap.get?_push_of_some _ x)))⟩
end
theorem in6 {n b:Nat} (h:b∈[n+5,n+3,n+4,n,n+1,n+2]):n≤b∧b≤n+5:=by
 have h':b=n+5∨b=n+3∨b=n+4∨b=n∨b=n+1∨b=n+2:=by simpa using h
 omega
theorem of6 {n b:Nat} (h1:n≤b) (h2:b≤n+5):b∈[n+5,n+3,n+4,n,n+1,n+2]:=by
 have h':b=n+5∨b=n+3∨b=n+4∨b=n∨b=n+1∨b=n+2:=by omega
 simpa using h'
theorem no6 {n b:Nat} (h:b∉[n+5,n+3,n+4,n,n+1,n+2]):b < n∨n+5 < b:=by
 rcases Nat.lt_or_ge b n with z | z
 ·exact .inl z
 ·exact .inr (Nat.lt_of_not_le fun q=>h (of6 z q))
end L3
namespace L3
open PySem PySem.Spec PyProof.Rows L2
variable {K:PySem.W.Frag} {H H' H2:Hp}
theorem Zs5 {a b c:V} {us:List Value} (h:Vals [a,b,c] us):∃ u v w,us=[u,v,w]∧RelV a u∧RelV b v∧RelV c w:=by
 cases h with
 | cons h1 h =>
  cases h with
  | cons h2 h =>
   cases h with
   | cons h3 h=>cases h;exact ⟨_,_,_,rfl,h1,h2,h3⟩
def ZeA:List W→List W→List W→List W
 | x::xs,y::ys,z::zs=>.tup [x,y,z]::ZeA xs ys zs
 | _,_,_=>[]
theorem Zjf:∀ (xs ys zs:List W),ys.length=xs.length→zs.length=xs.length→(ZeA xs ys zs).length=xs.length
 | [],_,_,_,_=>by simp [ZeA]
 | _::xs,y::ys,z::zs,h,h'=>by
  simp only [List.length_cons] at h h'
  simp only [ZeA,List.length_cons,Zjf xs ys zs (by omega) (by omega)]
 | _::xs,[],_,h,_=>by simp at h
 | _::xs,_::_,[],_,h=>by simp at h
theorem Zjc:∀ (xs ys zs:List W) (i:Nat) {x y z:W},xs[i]?=some x→ys[i]?=some y→zs[i]?=some z→(ZeA xs ys zs)[i]?=some (.tup [x,y,z])
 | [],_,_,_,_,_,_,h,_,_=>by simp at h
 | _::_,[],_,_,_,_,_,_,h,_=>by simp at h
 | _::_,_::_,[],_,_,_,_,_,_,h=>by simp at h
 | a::xs,b::ys,c::zs,0,x,y,z,h,h',h''=>by simp at h h' h'';subst h;subst h';subst h'';rfl
 | a::xs,b::ys,c::zs,i+1,x,y,z,h,h',h''=>by
  have:=Zjc xs ys zs i (x:=x) (y:=y) (z:=z) (by simpa using h) (by simpa using h') (by simpa using h'')
  simpa [ZeA] using this
end L3
namespace L3
open PySem PySem.Spec PyProof.Rows L2
variable {K:PySem.W.Frag} {H H' H2:Hp}
def ZqL (x:W):List W→Option Bool
 | []=>some false
 | w::ws=>if dpW w < 90 then (match eqD w x,ZqL x ws with | some a,some b=>some (a||b) | _,_=>none) else none
theorem Zln {x:W}:∀ {ws:List W} {b:Bool},ZqL x ws=some b→∃ e:Nat→Bool,(∀ (j:Nat) w,ws[j]?=some w→eqD w x=some (e j)∧dpW w < 90)∧(b=true↔∃ j,j < ws.length∧e j=true)
 | [],b,h=>by
  cases h
  exact ⟨fun _=>false,fun j w e=>by simp at e,by simp⟩
 | w::ws,b,h=>by
  unfold ZqL at h
  split at h
  ·rename_i hd
   split at h
   ·rename_i c d e1 e2
    cases h
    obtain ⟨e,h1,h2⟩:=Zln e2
    refine ⟨fun j=>match j with | 0=>c | j+1=>e j,fun j u hu=>?_,?_⟩
    ·cases j with
     | zero=>simp only [List.getElem?_cons_zero,Option.some.injEq] at hu;subst hu;exact ⟨e1,hd⟩
     | succ j=>exact h1 j u (by simpa using hu)
    ·rw [Bool.or_eq_true,h2]
     constructor
     ·rintro (z | ⟨j,hj,z⟩)
      ·exact ⟨0,by simp,z⟩
      ·exact ⟨j+1,by simpa using hj,z⟩
     ·rintro ⟨j,hj,z⟩
      cases j with
      | zero=>exact .inl z
      | succ j=>exact .inr ⟨j,by simpa using hj,z⟩
   ·cases h
  ·cases h
def inT (x y:W) (G:Hw):Option W:=(rdL G y).bind fun ws=>(ZqL x ws).map .bl
def ZxQ (K:PySem.W.Frag):R2:=fun v u H Q=>∃ p vs ws x b,u=.ref p∧SqL K H p vs∧TrL K H vs ws∧Tr K H v x∧ZqL x ws=some b∧Q (.bl b) H
open Classical in
theorem ZuG {X:Cx} (hu:X.A.units+100 < cLine):OpR X (compareOp .In) (ZxQ X.K):=by
 intro pins s σ H x y v u Q I rx ry h
 obtain ⟨p,vs,ws,xw,b,rfl,hq,tl,tx,e,q⟩:=h
 cases ry
 obtain ⟨its,r,pl,hz⟩:=I.list hq
 obtain ⟨f,hf,hb⟩:=Zln e
 have l1:=r.length
 have l2:=tl.length
 have at':∀ (i:Nat) (z:Value),its[i]?=some z→SeqAt.EqAt X.A.in1 s z v (f i):=fun i z hi=>by
  have hlt:i < its.length:=by
   rcases Nat.lt_or_ge i its.length with h | h
   ·exact h
   ·rw [List.getElem?_eq_none h] at hi;cases hi
  have gv:vs[i]?=some (vs[i]'(by omega)):=List.getElem?_eq_getElem _
  obtain ⟨z',g',rz⟩:=r.get gv
  rw [hi] at g';cases g'
  obtain ⟨w,gw,tw⟩:=tl.get' gv
  obtain ⟨h1,h2⟩:=hf i w gw
  exact Zlr I 99 _ _ _ _ _ _ _ X.A.in1 (by omega) tw tx rz rx h1 (by show X.A.units+1+99 < cLine;omega)
 refine SeqAt.in_listAt (fun z=>decide (∃ i,its[i]?=some z∧f i=true)) pl.isList (fun z hz'=>?_) ⟨.bl b,H,I,?_,q⟩
 ·have hm:z∈its:=by simpa using hz'
  obtain ⟨i,hi,rfl⟩:=List.getElem_of_mem hm
  have gi:its[i]?=some its[i]:=List.getElem?_eq_getElem hi
  by_cases h:∃ j,its[j]?=some its[i]∧f j=true
  ·obtain ⟨j,g,hj⟩:=h
   have:=at' j _ g
   rw [hj] at this
   rw [decide_eq_true ⟨j,g,hj⟩];exact this
  ·have:=at' i _ gi
   rw [decide_eq_false h]
   cases hfi:f i with
   | false=>rw [hfi] at this;exact this
   | true=>exact absurd ⟨i,gi,hfi⟩ h
 ·show RelV (.bl b) (.bool _)
  have:(its.toArray.any fun z=>decide (∃ i,its[i]?=some z∧f i=true))=b:=by
   rw [Bool.eq_iff_iff,hb]
   simp only [List.any_toArray,List.any_eq_true,decide_eq_true_eq]
   constructor
   ·rintro ⟨z,hz',i,hi,hfi⟩
    refine ⟨i,?_,hfi⟩
    rcases Nat.lt_or_ge i its.length with h | h
    ·omega
    ·rw [List.getElem?_eq_none h] at hi;cases hi
   ·rintro ⟨j,hj,hfj⟩
    have hj':j < its.length:=by omega
    exact ⟨its[j],List.getElem_mem hj',j,List.getElem?_eq_getElem hj',hfj⟩
  rw [this];rfl
theorem Zwh (x y:W) (v u:V) (G:Hw) (H:Hp) (Q:VK) (tx:Tr K H v x) (ty:Tr K H u y) (r:RelH K H G) (q:Zan inT x y G (dn K H Q)):ZxQ K v u H Q:=by
 obtain ⟨w,e,q'⟩:=Zeg q
 obtain ⟨ws,e1,e2⟩:=Option.bind_eq_some_iff.mp e
 obtain ⟨b,e3,e4⟩:=Option.map_eq_some_iff.mp e2
 subst e4
 obtain ⟨a,vs,rfl,hq,t⟩:=Zc0 r ty e1
 exact ⟨a,vs,ws,x,b,rfl,hq,t,tx,e3,q' _ H .refl (.bl _) r⟩
theorem Zts {X:Cx} (hu:X.A.units+100 < cLine):Cop X .In (Zan inT):=⟨⟨_,ZuG hu,Zwh⟩,ZeG⟩
end L3
namespace L3
open PySem PySem.Spec PyProof.Rows L2
variable {K:PySem.W.Frag} {H H' H2:Hp}
def Zi8 (w:W):Bool:=match w with | .non=>true | _=>false
def isF (neg:Bool) (x y:W) (_:Hw):Option W:=match y with | .non=>some (.bl (Zi8 x != neg)) | _=>none
theorem Zno {v:V} {x:W} (t:Tr K H v x):decide (v=.non)=Zi8 x:=by cases t <;> rfl
theorem Zqp {u:V} (t:Tr K H u .non):u=.non:=by cases t;rfl
theorem Zr2 (neg:Bool) (x y:W) (v u:V) (G:Hw) (H:Hp) (Q:VK) (tx:Tr K H v x) (ty:Tr K H u y) (r:RelH K H G) (q:Zan (isF neg) x y G (dn K H Q)):u=.non∧Q (.bl (Zi8 x != neg)) H:=by
 obtain ⟨w,e,q'⟩:=Zeg q
 cases y with
 | non=>cases e;exact ⟨Zqp ty,q' _ H .refl (.bl _) r⟩
 | _=>cases e
theorem Zny {X:Cx}:Cop X .Is (Zan (isF false)):=⟨⟨_,Zu9,fun x y v u G H Q tx ty r q=>by
 obtain ⟨h1,h2⟩:=Zr2 false x y v u G H Q tx ty r q
 refine ⟨h1,?_⟩
 rw [Zno tx];simpa using h2⟩,ZeG⟩
theorem Zjv {X:Cx}:Cop X .IsNot (Zan (isF true)):=⟨⟨_,ZtG,fun x y v u G H Q tx ty r q=>by
 obtain ⟨h1,h2⟩:=Zr2 true x y v u G H Q tx ty r q
 refine ⟨h1,?_⟩
 rw [Zno tx];simpa using h2⟩,ZeG⟩
end L3
set_option Elab.async false
set_option linter.all false
set_option maxRecDepth 100000
set_option maxHeartbeats 4000000
namespace L3
open PySem PySem.Spec PyProof.Rows L2
variable {K:PySem.W.Frag} {H H' H2:Hp}
section
variable {prog:Program} {w:World} {A:Around} {E:Value→Shared→Prop} {s:Shared}
def St3T (n l1 l2 l3:Nat) (f0:Value) (i:Nat) (h:Heap):Prop:=IsZip h (n+5) (n+3) (n+4) f0∧Zeb h (n+3) (.ref n) (.ref (n+1)) (.ref (n+2))∧(∃ a b c,Zeb h (n+4) a b c)∧h.IsTupleIter n l1 i∧h.IsTupleIter (n+1) l2 i∧h.IsTupleIter (n+2) l3 i
theorem ZqJ {n l1 l2 l3:Nat} {k:Nat} {xs ys vs:Array Value} {x y v:Value} {Q:Value→Shared→Prop} (a1:l1 < n) (a2:l2 < n) (a3:l3 < n) (st:St3T n l1 l2 l3 .none k s.heap) (v1:s.heap.IsTuple l1 xs) (v2:s.heap.IsTuple l2 ys) (v3:s.heap.IsTuple l3 vs)
  (hx:xs[k]?=some x) (hy:ys[k]?=some y) (hv:vs[k]?=some v)
  (hQ:∀ h',St3T n l1 l2 l3 (rawInt s.heap.objs.size) (k+1) h'→Zeb h' s.heap.objs.size x y v→(∀ (c:Nat) o,c < n∨n+5 < c→s.heap.get? c=some o→h'.get? c=some o)→Q (.ref s.heap.objs.size) { s with heap:=h' }) :
  wpAny (model prog w) A (Builtin.«zip.__next__» ⟨[.ref (n+5)],[]⟩) (fun fin s'=>∃ v,fin=.done (.ret v)∧Q v s') E s:=by
 obtain ⟨hz,hTI,⟨a,b,c,hTO⟩,u1,u2,u3⟩:=st
 refine wpAny_bind (m:=field (.ref (n+5)) 2) (wpAny_field hz rfl (x:=.bool false) rfl ?_)
 refine wpAny_bind (m:=field (.ref (n+5)) 3) (wpAny_field hz rfl (x:=.ref (n+3)) rfl (wpAny_bind (m:=seqItems? (.ref (n+3))) (wpAny_seqItems hTI rfl ?_)))
 refine wpAny_bind (m:=Builtin.SmallTypes.ownedTupleIsFree (.ref (n+5))) ?_
 unfold Builtin.SmallTypes.ownedTupleIsFree
 refine wpAny_bind (m:=field (.ref (n+5)) 0) (wpAny_field hz rfl (x:=.none) rfl (wpAny_pure ?_));simp only [if_true]
 refine wpAny_bind (wpAny_rule (wpAny_bind (wpAny_field hz rfl (x:=.ref (n+4)) rfl (wpAny_bind (wpAny_setField_rec hz (by simp) fun h₁ hz₁ hs₁=>?_)))))
 replace hz₁:IsZip h₁ (n+5) (n+3) (n+4) .ellipsis:=hz₁
 refine wpAny_bind ?_
 simp only [List.zipIdx_cons,List.zipIdx_nil,List.forIn_cons,List.forIn_nil]
 have e1:=hs₁.extBut
 refine wpAny_bind (wpAny_bind (wpAny_onRaise ?_));refine wpAny_bind (m:=Builtin.SmallTypes.nextOf (.ref n)) ?_
 refine Zht (u1.extBut e1 (nA (by omega))) (v1.extBut e1 (nA (by omega))) hx fun h₂ w1 hs₂=>wpAny_pure ?_
 have e2:=hs₂.extBut
 have t2:Zeb h₂ (n+4) a b c:=e2 _ _ (nA (by omega)) (e1 _ _ (nA (by omega)) hTO)
 refine wpAny_bind (wpAny_seqItems t2 rfl (wpAny_bind (ZpG t2 fun h₃ t3 hs₃=>?_)))
 replace t3:Zeb h₃ (n+4) x b c:=t3
 have e3:=hs₃.extBut
 refine wpAny_bind (wpAny_letGo (wpAny_pure ?_));refine wpAny_bind (wpAny_bind (wpAny_onRaise ?_));refine wpAny_bind (m:=Builtin.SmallTypes.nextOf (.ref (n+1))) ?_
 refine Zht (((u2.extBut e1 (nA (by omega))).extBut e2 (nA (by omega))).extBut e3 (nA (by omega))) (((v2.extBut e1 (nA (by omega))).extBut e2 (nA (by omega))).extBut e3 (nA (by omega))) hy fun h₄ w2 hs₄=>wpAny_pure ?_
 have e4:=hs₄.extBut
 have t4:Zeb h₄ (n+4) x b c:=e4 _ _ (nA (by omega)) t3
 refine wpAny_bind (wpAny_seqItems t4 rfl (wpAny_bind (ZpG t4 fun h₅ t5 hs₅=>?_)))
 replace t5:Zeb h₅ (n+4) x y c:=t5
 have e5:=hs₅.extBut
 refine wpAny_bind (wpAny_letGo (wpAny_pure ?_));refine wpAny_bind (wpAny_bind (wpAny_onRaise ?_));refine wpAny_bind (m:=Builtin.SmallTypes.nextOf (.ref (n+2))) ?_
 refine Zht (((((u3.extBut e1 (nA (by omega))).extBut e2 (nA (by omega))).extBut e3 (nA (by omega))).extBut e4 (nA (by omega))).extBut e5 (nA (by omega))) (((((v3.extBut e1 (nA (by omega))).extBut e2 (nA (by omega))).extBut e3 (nA (by omega))).extBut e4 (nA (by omega))).extBut e5 (nA (by omega))) hv fun h₆ w3 hs₆=>wpAny_pure ?_
 have e6:=hs₆.extBut
 have t6:Zeb h₆ (n+4) x y c:=e6 _ _ (nA (by omega)) t5
 refine wpAny_bind (wpAny_seqItems t6 rfl (wpAny_bind (ZpG t6 fun h₇ t7 hs₇=>?_)))
 replace t7:Zeb h₇ (n+4) x y v:=t7
 have e7:=hs₇.extBut
 refine wpAny_bind (wpAny_letGo (wpAny_pure (wpAny_pure ?_)));refine wpAny_bind (wpAny_seqItems t7 rfl (wpAny_bind (wpAny_newTuple ?_ (by show (3:Nat)≤sizeLine;decide))))
 have hsz:h₇.objs.size=s.heap.objs.size:=by rw [hs₇.1,hs₆.1,hs₅.1,hs₄.1,hs₃.1,hs₂.1,hs₁.1]
 have up:∀ (c:Nat) o,c < n∨n+5 < c∨c=n+3→s.heap.get? c=some o→h₇.get? c=some o:=fun c o hc e=>e7 _ _ (nA (by omega)) (e6 _ _ (nA (by omega)) (e5 _ _ (nA (by omega)) (e4 _ _ (nA (by omega)) (e3 _ _ (nA (by omega)) (e2 _ _ (nA (by omega)) (e1 _ _ (nA (by omega)) e))))))
 have z7:IsZip h₇ (n+5) (n+3) (n+4) .ellipsis:=e7 _ _ (nA (by omega)) (e6 _ _ (nA (by omega)) (e5 _ _ (nA (by omega)) (e4 _ _ (nA (by omega)) (e3 _ _ (nA (by omega)) (e2 _ _ (nA (by omega)) hz₁)))))
 have y1:h₇.IsTupleIter n l1 (k+1):=((((w1.extBut e3 (nA (by omega))).extBut e4 (nA (by omega))).extBut e5 (nA (by omega))).extBut e6 (nA (by omega))).extBut e7 (nA (by omega))
 have y2:h₇.IsTupleIter (n+1) l2 (k+1):=((w2.extBut e5 (nA (by omega))).extBut e6 (nA (by omega))).extBut e7 (nA (by omega))
 have y3:h₇.IsTupleIter (n+2) l3 (k+1):=w3.extBut e7 (nA (by omega))
 refine wpAny_bind (m:=Builtin.SmallTypes.ownedTupleHandOut (.ref (n+5)) (.ref h₇.objs.size)) ?_
 unfold Builtin.SmallTypes.ownedTupleHandOut
 have z8:IsZip (h₇.push { cls:=.type "tuple",data:=.seq #[x,y,v] }) (n+5) (n+3) (n+4) .ellipsis:=Heap.get?_push_of_some _ z7
 refine wpAny_bind (wpAny_setField_rec z8 (by simp) fun h₉ z9 hs₉=>?_)
 replace z9:IsZip h₉ (n+5) (n+3) (n+4) (rawInt h₇.objs.size):=z9
 refine wpAny_setField_rec z9 (by simp) fun k₁ zk hk₁=>?_
 replace zk:IsZip k₁ (n+5) (n+3) (n+4) (rawInt h₇.objs.size):=zk
 have zlt:n+5 < h₇.objs.size:=Heap.lt_size z7
 have upp:∀ c o,c≠n+5→h₇.get? c=some o→k₁.get? c=some o:=fun c o c1 e=>hk₁.extBut _ _ c1 (hs₉.extBut _ _ c1 (Heap.get?_push_of_some _ e))
 have hT:Zeb k₁ h₇.objs.size x y v:=hk₁.extBut _ _ (nA (by omega)) (hs₉.extBut _ _ (nA (by omega)) (Heap.get?_push_size _ rfl))
 rw [hsz] at zk hT
 refine wpAny_pure ⟨_,rfl,(?_:Q (.ref h₇.objs.size) _)⟩
 rw [hsz]
 exact hQ k₁ ⟨zk,upp _ _ (nA (by omega)) (up _ _ (.inr (.inr rfl)) hTI),⟨_,_,_,upp _ _ (nA (by omega)) t7⟩,tat y1 fun o e=>upp _ o (nA (by omega)) e,tat y2 fun o e=>upp _ o (nA (by omega)) e,tat y3 fun o e=>upp _ o (nA (by omega)) e⟩ hT fun c o hc e=>upp c o (nA (by omega)) (up c o (by omega) e)
theorem ZtL {n l1 l2 l3:Nat} {k:Nat} {xs:Array Value} {Q:Fin→Shared→Prop} (hh:A.handled=none) (a1:l1 < n) (st:St3T n l1 l2 l3 .none k s.heap) (v1:s.heap.IsTuple l1 xs) (hx:xs[k]?=none)
  (hE:∀ h' e,(∀ (c:Nat) o,c < n∨n+5 < c→s.heap.get? c=some o→h'.get? c=some o)→(∃ o,h'.get? e=some o∧o.cls=.type "StopIteration")→E (.ref e) { s with heap:=h' }):wpAny (model prog w) A (Builtin.«zip.__next__» ⟨[.ref (n+5)],[]⟩) Q E s:=by
 obtain ⟨hz,hTI,⟨a,b,c,hTO⟩,u1,u2,u3⟩:=st
 refine wpAny_bind (m:=field (.ref (n+5)) 2) (wpAny_field hz rfl (x:=.bool false) rfl ?_)
 refine wpAny_bind (m:=field (.ref (n+5)) 3) (wpAny_field hz rfl (x:=.ref (n+3)) rfl (wpAny_bind (m:=seqItems? (.ref (n+3))) (wpAny_seqItems hTI rfl ?_)))
 refine wpAny_bind (m:=Builtin.SmallTypes.ownedTupleIsFree (.ref (n+5))) ?_
 unfold Builtin.SmallTypes.ownedTupleIsFree
 refine wpAny_bind (m:=field (.ref (n+5)) 0) (wpAny_field hz rfl (x:=.none) rfl (wpAny_pure ?_));simp only [if_true]
 refine wpAny_bind (wpAny_rule (wpAny_bind (wpAny_field hz rfl (x:=.ref (n+4)) rfl (wpAny_bind (wpAny_setField_rec hz (by simp) fun h₁ hz₁ hs₁=>?_)))))
 replace hz₁:IsZip h₁ (n+5) (n+3) (n+4) .ellipsis:=hz₁
 refine wpAny_bind ?_
 simp only [List.zipIdx_cons,List.zipIdx_nil,List.forIn_cons,List.forIn_nil]
 have e1:=hs₁.extBut
 refine wpAny_bind (wpAny_bind (wpAny_onRaise ?_));refine wpAny_bind (m:=Builtin.SmallTypes.nextOf (.ref n)) ?_
 refine ZrH hh (u1.extBut e1 (nA (by omega))) (v1.extBut e1 (nA (by omega))) hx fun h₂ e hs₂ he=>?_
 obtain ⟨oe,hoe,hce⟩:=he
 have hz₂:IsZip h₂ (n+5) (n+3) (n+4) .ellipsis:=hs₂ _ _ (nA (by omega)) hz₁
 have hez:e≠n+5:=fun q=>by subst q;rw [hz₂] at hoe;cases hoe;simp at hce
 exact wpAny_setField_rec hz₂ (by simp) fun h₃ _ hs₃=>hE h₃ e (fun c o c1 q=>hs₃.extBut _ _ (nA (by omega)) (hs₂ _ _ (nA (by omega)) (e1 _ _ (nA (by omega)) q))) ⟨oe,hs₃.extBut _ _ hez hoe,hce⟩
theorem St3T.at {n l1 l2 l3:Nat} {f0:Value} {i:Nat} {h h':Heap} (st:St3T n l1 l2 l3 f0 i h) (k:∀ (c:Nat) o,n≤c→c≤n+5→h.get? c=some o→h'.get? c=some o):St3T n l1 l2 l3 f0 i h':=by
 obtain ⟨hz,hTI,⟨a,b,c,hTO⟩,u1,u2,u3⟩:=st
 exact ⟨k _ _ (by omega) (by omega) hz,k _ _ (by omega) (by omega) hTI,⟨a,b,c,k _ _ (by omega) (by omega) hTO⟩,tat u1 fun o e=>k _ o (by omega) (by omega) e,tat u2 fun o e=>k _ o (by omega) (by omega) e,tat u3 fun o e=>k _ o (by omega) (by omega) e⟩
abbrev ztL (h:Heap) (l:Addr):Heap:=h.push { cls:=.type "tuple_iterator",data:=.fields #[.ref l,.int 0 0] }
abbrev Zu0 (h:Heap) (l1 l2 l3:Addr):Heap:=ztL (ztL (ztL h l1) l2) l3
abbrev Zww (h:Heap) (l1 l2 l3:Addr):Heap:=(Zu0 h l1 l2 l3).push { cls:=.type "tuple",data:=.seq #[.ref h.objs.size,.ref (ztL h l1).objs.size,.ref (ztL (ztL h l1) l2).objs.size] }
abbrev Zwt (h:Heap) (l1 l2 l3:Addr):Heap:=(Zww h l1 l2 l3).push { cls:=.type "tuple",data:=.seq #[.none,.none,.none] }
abbrev ZrJ (h:Heap) (l1 l2 l3:Addr):Heap:=(Zwt h l1 l2 l3).push { cls:=.type "zip",data:=.fields #[.none,.bool false,.bool false,.ref (Zu0 h l1 l2 l3).objs.size,.ref (Zww h l1 l2 l3).objs.size] }
theorem Zox (l1 l2 l3:Addr) (xs ys vs:Array Value):Meets (Builtin.«zip.__new__» ⟨[.type "zip",.ref l1,.ref l2,.ref l3],[]⟩) (fun _ R s=>s.heap.IsTuple l1 xs∧s.heap.IsTuple l2 ys∧s.heap.IsTuple l3 vs∧R (.ok (.ret (.ref (Zwt s.heap l1 l2 l3).objs.size))) { s with heap:=ZrJ s.heap l1 l2 l3 }) :=
 .of_wp fun prog w A R s h=>by
  obtain ⟨hp,g,d,tk,os⟩:=s
  obtain ⟨u1,u2,u3,h⟩:=h
  have hsub:=sub_zip
  have hL1:Heap.IsTuple (Shared.heap ⟨hp,g,d,tk,os⟩) l1 xs:=u1
  have hL2:Heap.IsTuple (Shared.heap ⟨hp.push { cls:=.type "tuple_iterator",data:=.fields #[.ref l1,.int 0 0] },g,d,tk,os⟩) l2 ys:=Heap.IsTuple.push u2 _
  have hL3:Heap.IsTuple (Shared.heap ⟨(hp.push { cls:=.type "tuple_iterator",data:=.fields #[.ref l1,.int 0 0] }).push { cls:=.type "tuple_iterator",data:=.fields #[.ref l2,.int 0 0] },g,d,tk,os⟩) l3 vs:=Heap.IsTuple.push (Heap.IsTuple.push u3 _) _
  wp_walk using wpAny_pyIter_tuple hL1,wpAny_pyIter_tuple hL2,wpAny_pyIter_tuple hL3
  exact ⟨_,rfl,h⟩
theorem Zm1 {l1 l2 l3:Addr} {xs ys vs:Array Value} {Q:Value→Shared→Prop} (u1:s.heap.IsTuple l1 xs) (u2:s.heap.IsTuple l2 ys) (u3:s.heap.IsTuple l3 vs)
  (h:∀ h',St3T s.heap.objs.size l1 l2 l3 .none 0 h'→(∀ c o,s.heap.get? c=some o→h'.get? c=some o)→Q (.ref (s.heap.objs.size+5)) { s with heap:=h' }) :
  wpAny (model prog w) A (call (.type "zip") [.ref l1,.ref l2,.ref l3]) Q E s:=by
 refine callType_new PySem.F.called_zip (by decide) (tc3 _ _ _) (nc3 _ _ _) (fun obj=>oi4 obj _ _ _) PySem.F.entry_zip_new (Zox l1 l2 l3 xs ys vs) ⟨u1,u2,u3,?_⟩
 have q1:(ztL s.heap l1).objs.size=s.heap.objs.size+1:=Heap.size_push ..
 have q2:(ztL (ztL s.heap l1) l2).objs.size=s.heap.objs.size+2:=by rw [Heap.size_push,q1]
 have q3:(Zu0 s.heap l1 l2 l3).objs.size=s.heap.objs.size+3:=by rw [Heap.size_push,q2]
 have q4:(Zww s.heap l1 l2 l3).objs.size=s.heap.objs.size+4:=by rw [Heap.size_push,q3]
 have q5:(Zwt s.heap l1 l2 l3).objs.size=s.heap.objs.size+5:=by rw [Heap.size_push,q4]
 have up:∀ {c:Addr} {o:Obj},(Zu0 s.heap l1 l2 l3).get? c=some o→(ZrJ s.heap l1 l2 l3).get? c=some o:=fun e=>Heap.get?_push_of_some _ (Heap.get?_push_of_some _ (Heap.get?_push_of_some _ e))
 have g6:(ZrJ s.heap l1 l2 l3).get? (Zwt s.heap l1 l2 l3).objs.size=some _:=Heap.get?_push_size _ rfl
 have g5:(ZrJ s.heap l1 l2 l3).get? (Zww s.heap l1 l2 l3).objs.size=some _:=Heap.get?_push_of_some _ (Heap.get?_push_size _ rfl)
 have g4:(ZrJ s.heap l1 l2 l3).get? (Zu0 s.heap l1 l2 l3).objs.size=some _:=Heap.get?_push_of_some _ (Heap.get?_push_of_some _ (Heap.get?_push_size _ rfl))
 have g3:(ZrJ s.heap l1 l2 l3).get? (ztL (ztL s.heap l1) l2).objs.size=some _:=up (Heap.get?_push_size _ rfl)
 have g2:(ZrJ s.heap l1 l2 l3).get? (ztL s.heap l1).objs.size=some _:=up (Heap.get?_push_of_some _ (Heap.get?_push_size _ rfl))
 have g1:(ZrJ s.heap l1 l2 l3).get? s.heap.objs.size=some _:=up (Heap.get?_push_of_some _ (Heap.get?_push_of_some _ (Heap.get?_push_size _ rfl)))
 rw [q3,q4,q5] at g6
 rw [q1,q2,q3] at g4
 rw [q4] at g5
 rw [q2] at g3
 rw [q1] at g2
 rw [q5]
 exact ⟨⟨_,g6,rfl⟩,h _ ⟨g6,g4,⟨_,_,_,g5⟩,⟨_,g1,rfl,rfl⟩,⟨_,g2,rfl,rfl⟩,⟨_,g3,rfl,rfl⟩⟩ fun c o x=>up (Heap.get?_push_of_some _ (Heap.get?_push_of_some _ (Heap.get?_push_of_some _ x)))⟩
end
def ZxR (K:PySem.W.Frag) (l1 l2 l3:Addr):It :=
 ⟨fun i H=>∃ xs ys vs,SqT K H l1 xs∧SqT K H l2 ys∧SqT K H l3 vs∧ys.length=xs.length∧vs.length=xs.length∧i < xs.length,
  fun i H v H'=>∃ T x y z,H T=none∧v=.ref T∧H'=upd H T (.tup [x,y,z])∧∀ xs ys vs,SqT K H l1 xs→SqT K H l2 ys→SqT K H l3 vs→xs[i]?=some x∧ys[i]?=some y∧vs[i]?=some z,
  fun i H=>∃ xs,SqT K H l1 xs∧i=xs.length⟩
theorem Znh {P:Program} {w:World} {elts:List Expr} {k:Nat} {tpos:Pos} {n l1 l2 l3:Nat} (a1:l1 < n) (a2:l2 < n) (a3:l3 < n) :
  Zp6 P w K (.Tuple elts k tpos) (ZxR K l1 l2 l3) [n+5,n+3,n+4,n,n+1,n+2] (n+5) (St3T n l1 l2 l3 .none) where
 mem:=List.mem_cons_self
 obj:=fun i h st b hb=>by
  obtain ⟨hz,hTI,⟨a,c,d,hTO⟩,⟨o1,e1,_,d1⟩,⟨o2,e2,_,d2⟩,⟨o3,e3,_,d3⟩⟩:=st
  simp only [List.mem_cons,List.not_mem_nil,or_false] at hb
  rcases hb with rfl | rfl | rfl | rfl | rfl | rfl
  ·exact ⟨_,hz,fun v z=>by cases z⟩
  ·exact ⟨_,hTI,fun v z=>by cases z⟩
  ·exact ⟨_,hTO,fun v z=>by cases z⟩
  ·exact ⟨o1,e1,fun v z=>by rw [d1] at z;cases z⟩
  ·exact ⟨o2,e2,fun v z=>by rw [d2] at z;cases z⟩
  ·exact ⟨o3,e3,fun v z=>by rw [d3] at z;cases z⟩
 keep:=fun i h h' st kk=>st.at fun c o c1 c2 e=>kk c (of6 c1 c2) o e
 item:=by
  intro X hP hw hK hc i pins s σ H E I hf st hg
  subst hP hw hK
  obtain ⟨xs,ys,vs,hx,hy,hv,ly,lv,hi⟩:=hg
  obtain ⟨its1,r1,pl1,z1⟩:=I.tuple hx
  obtain ⟨its2,r2,pl2,z2⟩:=I.tuple hy
  obtain ⟨its3,r3,pl3,z3⟩:=I.tuple hv
  have gx:xs[i]?=some xs[i]:=List.getElem?_eq_getElem hi
  have gy:ys[i]?=some (ys[i]'(by omega)):=List.getElem?_eq_getElem _
  have gv:vs[i]?=some (vs[i]'(by omega)):=List.getElem?_eq_getElem _
  obtain ⟨v1,q1,rv1⟩:=r1.get gx
  obtain ⟨v2,q2,rv2⟩:=r2.get gy
  obtain ⟨v3,q3,rv3⟩:=r3.get gv
  have hT:s.TypeIs (.ref (n+5)) "zip":=⟨_,st.1,rfl⟩
  unfold pyNext
  refine wpAny_bind (wpAny_attempt (wpAny_callSpecial?_slot (name:=Str.ofString "__next__") hT PySem.F.slot_zip_next (wpAny_call_entry PySem.F.slot_zip_next hT PySem.F.entry_zip_next (ZqJ a1 a2 a3 st pl1 pl2 pl3 (by simpa using q1) (by simpa using q2) (by simpa using q3) fun h' st' hTup hk=>wpAny_pure ⟨.ref s.heap.objs.size,rfl,?_⟩) (PySem.F.args_zip_next_1 _))))
  refine wpAny_letOwnedTupleGo_zip st'.1 fun h2' hz' hs'=>?_
  have e':=hs'.extBut
  have hsz:(n+5:Nat) < s.heap.objs.size:=Heap.lt_size st.1
  have hnT:∀ b:Addr,b∈[n+5,n+3,n+4,n,n+1,n+2]→b≠s.heap.objs.size:=fun b hb=>nA (a:=b) (by have:=in6 (b:=b) hb;omega)
  have st2:St3T n l1 l2 l3 .none (i+1) h2':=by
   obtain ⟨_,hTI,⟨a,c,d,hTO⟩,u1,u2,u3⟩:=st'
   exact ⟨hz',e' _ _ (nA (by omega)) hTI,⟨a,c,d,e' _ _ (nA (by omega)) hTO⟩,u1.extBut e' (nA (by omega)),u2.extBut e' (nA (by omega)),u3.extBut e' (nA (by omega))⟩
  have I1:Inv X pins σ H { s with heap:=h2' }:=Inv.turneds I hf fun b o hb e=>e' _ _ (fun z=>hb (by rw [z];exact List.mem_cons_self)) (hk b o (no6 hb) e)
  have hTn:H s.heap.objs.size=none:=I.hok.fresh (Nat.le_refl _)
  have hTup2:IsTup h2' s.heap.objs.size #[v1,v2,v3]:=⟨_,e' _ _ (nA (by omega)) hTup,rfl,_,rfl⟩
  have lt:∀ {b:Addr} {o:Obj},s.heap.get? b=some o→b≠s.heap.objs.size:=fun e q=>absurd (Heap.lt_size e) (by rw [q];exact Nat.lt_irrefl _)
  have I2:Inv X pins σ (upd H s.heap.objs.size (.tup [xs[i],ys[i]'(by omega),vs[i]'(by omega)])) { s with heap:=h2' }:=by
   refine I1.track hTn ?_ (fun x c e=>?_) (fun p hp=>?_) ?_ ⟨by show 3≤sizeLine;decide,[v1,v2,v3],.cons rv1 (.cons rv2 (.cons rv3 .nil)),hTup2⟩
   ·obtain ⟨m,⟨o,es,ep,ho,_⟩,_⟩:=I.loc
    exact Ne.symm (lt ho)
   ·obtain ⟨v,o,ho,_⟩:=I.cell x c e
    exact lt ho
   ·exact lt (I.pin p hp).1
   ·cases e:X.s₀.heap.get? s.heap.objs.size with
    | none=>rfl
    | some o=>exact absurd (Nat.lt_of_lt_of_le (Heap.lt_size e) I.sz) (Nat.lt_irrefl _)
  refine ⟨.ref s.heap.objs.size,_,I2,rfl,⟨_,_,_,_,hTn,rfl,rfl,fun xs' ys' vs' hx' hy' hv'=>?_⟩,st2,fun b hb=>?_⟩
  ·rw [I.tuple_inj hx' hx,I.tuple_inj hy' hy,I.tuple_inj hv' hv];exact ⟨gx,gy,gv⟩
  ·rw [ZaT (hnT b hb)];exact (hf b hb).1
 done:=by
  intro X hP hw hK hc i pins s σ H E I hf st hg
  subst hP hw hK
  obtain ⟨xs,hx,hi⟩:=hg
  obtain ⟨its1,r1,pl1,z1⟩:=I.tuple hx
  have n1:=r1.length
  have hT:s.TypeIs (.ref (n+5)) "zip":=⟨_,st.1,rfl⟩
  unfold pyNext
  refine wpAny_bind (wpAny_attempt (wpAny_callSpecial?_slot (name:=Str.ofString "__next__") hT PySem.F.slot_zip_next (wpAny_call_entry PySem.F.slot_zip_next hT PySem.F.entry_zip_next (ZtL (I.ok.hd hc) a1 st pl1 (by simp;omega) fun h' e hk he=>?_) (PySem.F.args_zip_next_1 _))))
  obtain ⟨o,ho,hc'⟩:=he
  exact wpAny_bind (wpAny_isInstance (T:="StopIteration") (b:=true) ⟨o,ho,hc'⟩ isSubtype_stop (wpAny_pure ⟨rfl,Inv.turneds I hf fun b o hb e=>hk b o (no6 hb) e⟩))
 self:=fun A i s Q E st h=>wpAny_pyIter_zip st.1 h
def Zvj (K:PySem.W.Frag) (ta:TA):TI:=fun σ H R=>ta σ H fun vs H1=>∃ a b c xs ys zs,vs=[.ref a,.ref b,.ref c]∧SqT K H1 a xs∧SqT K H1 b ys∧SqT K H1 c zs∧R (ZxR K a b c) H1
theorem Zq2 {X:Cx} {a b c:Expr} {ta:TA} {p pos tpos:Pos} {elts:List Expr} {k:Nat} (hg:Gl X "zip") (hm:X.mg "zip"=none) (ha:PA X [a,b,c] ta) (hs:starEach [a,b,c] X.env=[(false,eval a X.env),(false,eval b X.env),(false,eval c X.env)]) (hs2:starEach [b,c] X.env=[(false,eval b X.env),(false,eval c X.env)]) :
  PI X (.Tuple elts k tpos) (.Call (.Name "zip" p) [a,b,c] [] pos) (Zvj X.K ta):=by
 intro pins s σ H R I h
 refine Call_ (Zdp I hg hm boot_zip (PyProof.Rows.callWith_type1 (thn (ha pos pins s σ H _ I h) fun us s1 zz2=>?_) (by rw [hs,hs2]) (by rw [hs2];rfl)))
 obtain ⟨vs,H1,I1,r1,q1⟩:=zz2
 obtain ⟨l1,l2,l3,xs,ys,zs,e,hx,hy,hz,q⟩:=q1
 subst e
 obtain ⟨u,u2,u3,rfl,ru,ru2,ru3⟩:=Zs5 r1
 cases ru
 cases ru2
 cases ru3
 obtain ⟨its1,_,pl1,_⟩:=I1.tuple hx
 obtain ⟨its2,_,pl2,_⟩:=I1.tuple hy
 obtain ⟨its3,_,pl3,_⟩:=I1.tuple hz
 have a1:l1 < s1.heap.objs.size:=by obtain ⟨_,e,_⟩:=pl1;exact Heap.lt_size e
 have a2:l2 < s1.heap.objs.size:=by obtain ⟨_,e,_⟩:=pl2;exact Heap.lt_size e
 have a3:l3 < s1.heap.objs.size:=by obtain ⟨_,e,_⟩:=pl3;exact Heap.lt_size e
 refine Zm1 pl1 pl2 pl3 fun h' st hk=>wpAny_pyIter_zip st.1 ?_
 refine ⟨_,_,_,_,H1,rfl,I1.kept (t':=s1.toks) hk,Znh a1 a2 a3,st,fun b hb=>?_,q⟩
 have hge:s1.heap.objs.size≤b:=(in6 (b:=b) hb).1
 exact I1.fpOk hge (I1.hok.fresh hge)
def ZgG (gs:GA):GI:=fun ω G R=>gs ω G fun ws G1=>∃ xs ys zs,ws=[.tup xs,.tup ys,.tup zs]∧ys.length=xs.length∧zs.length=xs.length∧R (ZeA xs ys zs) yes G1
theorem ZpO {gs:GA} (m:gs.M):GI.M (ZgG gs):=fun ω G R R' h q=>m _ _ _ _ (by rintro ws G1 ⟨xs,ys,zs,e,n1,n2,r⟩;exact ⟨xs,ys,zs,e,n1,n2,h _ _ _ r⟩) q
theorem Zmf {X:Cx} {a b c:Expr} {p pos tpos:Pos} {elts:List Expr} {k:Nat} {gs:GA} (hm:X.mg "zip"=none) (hg:Gl X "zip") (hs:starEach [a,b,c] X.env=[(false,eval a X.env),(false,eval b X.env),(false,eval c X.env)]) (hs2:starEach [b,c] X.env=[(false,eval b X.env),(false,eval c X.env)]) (ha:Am X [a,b,c] gs) :
  Im X (.Tuple elts k tpos) (.Call (.Name "zip" p) [a,b,c] [] pos) (ZgG gs):=by
 refine ⟨⟨_,Zq2 hg hm ha.p hs hs2,fun σ H ω G R R0 ts r q kk=>⟨ω,G,ts,r,ha.m _ _ _ _ (fun ws G1 z vs H1 m t r1=>?_) q⟩⟩,ZpO ha.m⟩
 obtain ⟨xs,ys,zs,rfl,n1,n2,z⟩:=z
 cases t with
 | cons tx t =>
  cases t with
  | cons ty t =>
   cases t with
   | cons tv t =>
    cases t
    obtain ⟨c1,us1,rfl,hq1,l1⟩:=Zj5 tx
    obtain ⟨c2,us2,rfl,hq2,l2⟩:=Zj5 ty
    obtain ⟨c3,us3,rfl,hq3,l3⟩:=Zj5 tv
    refine ⟨c1,c2,c3,us1,us2,us3,rfl,hq1,hq2,hq3,kk _ _ _ H1 _ z m r1 trivial ⟨fun i H3 G3 m3 r3 g3 hi=>?_,fun i H3 G3 u H4 m3 r3 g3 y3 hi=>?_,fun H3 G3 m3 r3 g3=>?_⟩⟩
    ·rw [Zjf _ _ _ n1 n2] at hi
     exact ⟨us1,us2,us3,m3.tup _ _ hq1,m3.tup _ _ hq2,m3.tup _ _ hq3,by rw [l1.length,l2.length];exact n1,by rw [l1.length,l3.length];exact n2,by rw [l1.length];exact hi⟩
    ·obtain ⟨T,v1,v2,v3,hT,rfl,rfl,hv⟩:=y3
     obtain ⟨g1,g2,g4⟩:=hv _ _ _ (m3.tup _ _ hq1) (m3.tup _ _ hq2) (m3.tup _ _ hq3)
     obtain ⟨w1,q1,tw1⟩:=(l1.mono m3).get' g1
     obtain ⟨w2,q2,tw2⟩:=(l2.mono m3).get' g2
     obtain ⟨w3,q3,tw3⟩:=(l3.mono m3).get' g4
     have mn:Mono X.K H3 (upd H3 T (.tup [v1,v2,v3])):=Mono.new hT _
     exact ⟨mn,r3.mono0 hT,_,Zjc _ _ _ i q1 q2 q3,.tup (SqT.of Zbj) (.cons (tw1.mono mn) (.cons (tw2.mono mn) (.cons (tw3.mono mn) .nil)))⟩
    ·exact ⟨us1,m3.tup _ _ hq1,by rw [Zjf _ _ _ n1 n2,l1.length]⟩
end L3
namespace L3
open PySem PySem.Spec PyProof.Rows L2
variable {K:PySem.W.Frag} {H H' H2:Hp}
section
variable {prog:Program} {w:World} {A:Around} {E:Value→Shared→Prop} {s:Shared}
theorem ZvZ {δ:Type} {R:δ→Value→Prop} {h₀:Heap} {a:Addr} {D:List (Str×δ)} {k:Str} {tk:Tok} {dd:δ} {Q:Option Value→Shared→Prop} (T:KTD.TabOf R h₀ a D) (hk:∀ b o,h₀.get? b=some o→s.heap.get? b=some o) (hD:KTD.datumAt k D=some dd)
  (h1:∀ v,R dd v→Q (some v) { s with toks:=s.toks+1 }):wpAny (model prog w) A (dictGet a (.str k tk)) Q E s:=by
 obtain ⟨_,o,es,ep,ho,hc,hd,hr⟩:=T
 have ho':=hk _ _ ho
 obtain ⟨v,hv,hR⟩:=hr.find_some hD
 have hq:=h1 v hR
 unfold dictGet
 try with_reducible refine wpAny_holding ?_
 refine wpAny_bind (wpAny_pyHash_str (wpAny_bind (KTD.kt_dictFind_strs (s:={ s with toks:=s.toks+1 }) ho' hd ?_ ?_)))
 ·obtain ⟨l⟩:=es
  simpa using hr.exact
 have hf:findBy (fun k v=>v.isStr k) es k=some v:=by
  obtain ⟨l⟩:=es
  simpa [findBy] using hv
 rw [findBy_of_findIdx?] at hf
 cases hi:es.findIdx? fun e=>e.key.isStr k with
 | none=>rw [hi] at hf;cases hf
 | some i =>
  rw [hi] at hf
  refine wpAny_bind (wpAny_dictEntries (s:={ s with toks:=s.toks+1 }) ho' hd (wpAny_pure ?_))
  have hf':es[i]?.map (·.val)=some v:=hf
  rw [hf'];exact hq
end
def Zxw (K:PySem.W.Frag) (mg:Str→Option Value) (base:Heap) (x:Str) (D:List (Str×List Str)):Prop:=∃ d,mg x=some (.ref d)∧KTD.TabOf (fun ss v=>∃ a,v=.ref a∧∀ H:Hp,SqT K H a (ss.map V.str)) base d D
def Zly (D:List (Str×List Str)) (gk:GE):GE:=fun ω G Q=>gk ω G fun w G1=>match w with | .str z=>∃ ss,KTD.datumAt z D=some ss∧Q (.tup (ss.map W.str)) G1 | _=>False
theorem ZlY (H:Hp):∀ ss:List Str,TrL K H (ss.map V.str) (ss.map W.str)
 | []=>.nil
 | s::ss=>.cons (.str _) (ZlY H ss)
theorem Zoz {X:Cx} {x:Str} {D:List (Str×List Str)} {e:Expr} {p0 pos:Pos} {gk:GE} (h:Zxw X.K X.mg X.base x D) (hg:Gl X x) (hd:(x==("__debug__":Str))=false) (hs:ZjF e) (hk:Em X e gk) :
  Em X (.Subscript (.Name x p0) e pos) (Zly D gk):=by
 refine ⟨fun pins s σ H Q I zz=>?_,fun ω G Q Q' hh q=>hk.m _ _ _ _ (fun w G1 z=>by
  cases w with
  | str y=>obtain ⟨ss,h1,h2⟩:=z;exact ⟨ss,h1,hh _ _ h2⟩
  | _=>exact z) q⟩
 obtain ⟨ω,G,ts,r,q⟩:=zz
 obtain ⟨d,hm,T⟩:=h
 refine Subscript_ (Zwp (R:=fun xv yv H2=>xv=.ref d∧∃ z ss,yv=.str z∧KTD.datumAt z D=some ss∧∀ v,Tr X.K H2 v (.tup (ss.map W.str))→Q v H2) (ZoH (v:=.ref d) hg hm rfl hd) hk.p I ?_ fun v u s2 xv yv H2 I2 rx ry q2=>?_)
 ·exact ⟨ω,G,ts,r,hk.m _ _ _ _ (fun w G1 z v H1 m t r1=>by
   cases w with
   | str y=>obtain ⟨ss,h1,h2⟩:=z;exact ⟨rfl,y,ss,ZrB t,h1,fun v tv=>h2 v H1 m tv r1⟩
   | _=>exact z.elim) q⟩
 ·obtain ⟨rfl,z,ss,rfl,hD,q3⟩:=q2
  cases rx
  obtain ⟨t,rfl⟩:=ry
  have hT:s2.TypeIs (.ref d) "dict":=by
   obtain ⟨_,o,_,_,ho,hc,_⟩:=T
   exact ⟨o,I2.bk _ _ ho,hc.1⟩
  refine subscriptTail_builtin hT PySem.F.slot_dict_getitem.lookup ?_ (hs _ _) (fun _=>rfl)
  unfold getItem
  try with_reducible refine wpAny_holding ?_
  refine wpAny_bind (wpAny_sequenceKey hT (by decide) ?_)
  refine wpAny_bind (wpAny_callSpecial?_slot (name:=Str.ofString "__getitem__") hT PySem.F.slot_dict_getitem (wpAny_call_entry PySem.F.slot_dict_getitem hT PySem.F.entry_dict_getitem ?_ (PySem.F.args_dict_getitem_2 _ _)))
  show wpAny _ _ (dictGet d (.str z t) >>= _) _ _ s2
  refine wpAny_bind (ZvZ T I2.bk hD ?_)
  rintro v ⟨a,rfl,hq⟩
  exact wpAny_pure ⟨_,rfl,wpAny_pure ⟨.ref a,H2,I2.tok _,rfl,q3 _ (.tup (hq H2) (ZlY H2 ss))⟩⟩
theorem Zta {h base:Heap} {mg:Str→Option Value} (X:K.In h) (G:h.Ns mainGlobals mg) (B:K.In base) {x:Str} {d:Addr} {o:Obj} {es:Array DictEntry} {ep:Nat} {D:List (Str×List Str)} (e:PySem.W.nsIn K mainGlobals x=some (some (.ref d))) (l:K.lookup d=some o)
  (hd:(d==sysModules)=false) (hx:o.ExactDict) (ho:o.data=.dict es ep) (hr:KTD.Rows (fun ss v=>∃ a,v=.ref a∧∀ H:Hp,SqT K H a (ss.map V.str)) es.toList D):Zxw K mg base x D :=
 ⟨d,PySem.W.mg_of X G e,hd,o,es,ep,B _ _ l,hx,ho,hr⟩
theorem Zo5 {e:DictEntry} {x:Str} {t:Tok} {a:Addr} {ts:List (Str×Tok)} {dd:Option Addr} {n:Nat} {sl:Array (Option Value)} {es:List DictEntry} {D:List (Str×List Str)} (h1:e.key=.str x t) (h2:e.val=.ref a) (l:K.lookup a=some ⟨.type "tuple",dd,.seq ((ts.map fun p=>Value.str p.1 p.2).toArray) n,sl⟩) (hz:ts.length≤1000)
  (r:KTD.Rows (fun ss v=>∃ a,v=.ref a∧∀ H:Hp,SqT K H a (ss.map V.str)) es D):KTD.Rows (fun ss v=>∃ a,v=.ref a∧∀ H:Hp,SqT K H a (ss.map V.str)) (e::es) ((x,ts.map (·.1))::D):=by
 refine .cons h1 ⟨a,h2,fun H=>.inr ⟨_,_,n,l,rfl,rfl,?_,?_⟩⟩ r
 ·simp only [List.size_toArray,List.length_map]
  exact Nat.le_trans hz (by decide)
 ·have vs:∀ ts:List (Str×Tok),Vals ((ts.map (·.1)).map V.str) (ts.map fun p=>Value.str p.1 p.2):=fun ts=>by
   induction ts with
   | nil=>exact .nil
   | cons p ts ih=>exact .cons ⟨p.2,rfl⟩ ih
  simpa using vs ts
end L3
namespace L3
open PySem PySem.Spec PyProof.Rows L2
abbrev ZmH (h:Heap) (z TI TO:Addr) (f0:Value) (b:Bool):Prop:=h.get? z=some { cls:=.type "zip",dict:=none,data:=.fields #[f0,.bool b,.bool false,.ref TI,.ref TO],slots:=#[] }
section
variable {prog:Program} {w:World} {A:Around} {E:Value→Shared→Prop} {s:Shared}
theorem Zxi {a:Addr} {o:Obj} {Q:Option Obj→Shared→Prop} (ho:s.heap.get? a=some o) (h:Q (some o) s):wpAny (model prog w) A (loadIfAlive a) Q E s:=fun Γ p hΓ=>by
 unfold loadIfAlive
 rw [Sem.wp_loadIfAlive,ho]
 exact (wpAny_pure h:wpAny (model prog w) A (pure (some o)) Q E s) Γ p hΓ
theorem Zl2 {z TI TO T:Nat} {o:Obj} {b:Bool} {Q:Bool→Shared→Prop} (hz:ZmH s.heap z TI TO (rawInt T) b) (ho:s.heap.get? T=some o)
  (h:∀ h',ZmH h' z TI TO (rawInt T) true→(∀ c o,c≠z→s.heap.get? c=some o→h'.get? c=some o)→h'.objs.size=s.heap.objs.size→Q false { s with heap:=h' }):wpAny (model prog w) A (Builtin.SmallTypes.ownedTupleIsFree (.ref z)) Q E s:=by
 unfold Builtin.SmallTypes.ownedTupleIsFree
 refine wpAny_bind (m:=field (.ref z) 0) (wpAny_field hz rfl (x:=rawInt T) rfl ?_)
 show wpAny _ A (loadIfAlive (Int.toNat (T:Int)) >>= _) _ _ _
 rw [Int.toNat_natCast]
 refine wpAny_bind (Zxi ho ?_)
 simp only [Option.isNone_some,Bool.false_eq_true,if_false]
 refine wpAny_bind (m:=field (.ref z) 1) (wpAny_field hz rfl (x:=.bool b) rfl ?_)
 cases b with
 | true =>
  exact wpAny_pure (h s.heap hz (fun _ _ _ e=>e) rfl)
 | false =>
  refine wpAny_bind (wpAny_setField_rec hz (by simp) fun h₁ hz₁ hs₁=>?_)
  exact wpAny_pure (h h₁ hz₁ (fun c o c1 e=>hs₁.extBut _ _ c1 e) hs₁.1)
def Hd3 (n l1 l2 l3 i:Nat) (h:Heap):Prop:=(∃ (T:Nat) (o:Obj) (b:Bool),ZmH h (n+5) (n+3) (n+4) (rawInt T) b∧h.get? T=some o∧(T < n∨n+5 < T))∧Zeb h (n+3) (.ref n) (.ref (n+1)) (.ref (n+2))∧h.IsListIter n l1 i∧h.IsListIter (n+1) l2 i∧h.IsListIter (n+2) l3 i
theorem ZsL {n l1 l2 l3:Nat} {k:Nat} {xs ys vs:Array Value} {x y v:Value} {Q:Value→Shared→Prop} (a1:l1 < n) (a2:l2 < n) (a3:l3 < n) (st:Hd3 n l1 l2 l3 k s.heap) (v1:s.heap.IsList l1 xs) (v2:s.heap.IsList l2 ys) (v3:s.heap.IsList l3 vs)
  (hx:xs[k]?=some x) (hy:ys[k]?=some y) (hv:vs[k]?=some v)
  (hQ:∀ h',Hd3 n l1 l2 l3 (k+1) h'→Zeb h' s.heap.objs.size x y v→(∀ (c:Nat) o,c < n∨n+5 < c→s.heap.get? c=some o→h'.get? c=some o)→Q (.ref s.heap.objs.size) { s with heap:=h' }) :
  wpAny (model prog w) A (Builtin.«zip.__next__» ⟨[.ref (n+5)],[]⟩) (fun fin s'=>∃ v,fin=.done (.ret v)∧Q v s') E s:=by
 obtain ⟨⟨T,oT,b,hz,hT,hTn⟩,hTI,u1,u2,u3⟩:=st
 refine wpAny_bind (m:=field (.ref (n+5)) 2) (wpAny_field hz rfl (x:=.bool false) rfl ?_)
 refine wpAny_bind (m:=field (.ref (n+5)) 3) (wpAny_field hz rfl (x:=.ref (n+3)) rfl (wpAny_bind (m:=seqItems? (.ref (n+3))) (wpAny_seqItems hTI rfl ?_)))
 refine wpAny_bind (m:=Builtin.SmallTypes.ownedTupleIsFree (.ref (n+5))) (Zl2 hz hT fun h₁ hz₁ e1 sz₁=>?_)
 simp only [Bool.false_eq_true,if_false]
 refine wpAny_bind ?_
 simp only [List.forIn_toArray,List.forIn_cons,List.forIn_nil]
 refine wpAny_bind (wpAny_bind (wpAny_holding ?_));refine wpAny_bind (m:=Builtin.SmallTypes.nextOf (.ref n)) ?_
 refine wpAny_nextOf_list_item (u1.at fun o e=>e1 _ o (nA (by omega)) e) (v1.at fun o e=>e1 _ o (nA (by omega)) e) hx fun h₂ w1 hs₂=>wpAny_pure (wpAny_pure ?_)
 have e2:=hs₂.extBut
 refine wpAny_bind (wpAny_bind (wpAny_holding ?_));refine wpAny_bind (m:=Builtin.SmallTypes.nextOf (.ref (n+1))) ?_
 refine wpAny_nextOf_list_item ((u2.at fun o e=>e1 _ o (nA (by omega)) e).extBut e2 (nA (by omega))) ((v2.at fun o e=>e1 _ o (nA (by omega)) e).extBut e2 (nA (by omega))) hy fun h₄ w2 hs₄=>wpAny_pure (wpAny_pure ?_)
 have e4:=hs₄.extBut
 refine wpAny_bind (wpAny_bind (wpAny_holding ?_));refine wpAny_bind (m:=Builtin.SmallTypes.nextOf (.ref (n+2))) ?_
 refine wpAny_nextOf_list_item (((u3.at fun o e=>e1 _ o (nA (by omega)) e).extBut e2 (nA (by omega))).extBut e4 (nA (by omega))) (((v3.at fun o e=>e1 _ o (nA (by omega)) e).extBut e2 (nA (by omega))).extBut e4 (nA (by omega))) hv fun h₆ w3 hs₆=>wpAny_pure (wpAny_pure ?_)
 have e6:=hs₆.extBut
 refine wpAny_pure ?_
 refine wpAny_bind (wpAny_newTuple ?_ (by show (3:Nat)≤sizeLine;decide))
 have hsz:h₆.objs.size=s.heap.objs.size:=by rw [hs₆.1,hs₄.1,hs₂.1,sz₁]
 have up:∀ (c:Nat) o,c < n∨n+5 < c∨c=n+3→s.heap.get? c=some o→h₆.get? c=some o:=fun c o hc e=>e6 _ _ (nA (by omega)) (e4 _ _ (nA (by omega)) (e2 _ _ (nA (by omega)) (e1 _ _ (nA (by omega)) e)))
 have z6:ZmH h₆ (n+5) (n+3) (n+4) (rawInt T) true:=e6 _ _ (nA (by omega)) (e4 _ _ (nA (by omega)) (e2 _ _ (nA (by omega)) hz₁))
 have y1:h₆.IsListIter n l1 (k+1):=(w1.extBut e4 (nA (by omega))).extBut e6 (nA (by omega))
 have y2:h₆.IsListIter (n+1) l2 (k+1):=w2.extBut e6 (nA (by omega))
 have pu:∀ (c:Nat) o,h₆.get? c=some o→(h₆.push { cls:=.type "tuple",data:=.seq #[x,y,v] }).get? c=some o:=fun c o e=>Heap.get?_push_of_some _ e
 refine wpAny_pure ⟨_,rfl,(?_:Q (.ref h₆.objs.size) _)⟩
 have hT':Zeb (h₆.push { cls:=.type "tuple",data:=.seq #[x,y,v] }) h₆.objs.size x y v:=Heap.get?_push_size _ rfl
 rw [hsz] at hT' ⊢
 exact hQ _ ⟨⟨T,oT,true,pu _ _ z6,pu _ _ (up _ _ (by omega) hT),hTn⟩,pu _ _ (up _ _ (.inr (.inr rfl)) hTI),y1.at fun o e=>pu _ o e,y2.at fun o e=>pu _ o e,w3.at fun o e=>pu _ o e⟩ hT' fun c o hc e=>pu c o (up c o (by omega) e)
theorem Zuu {n l1 l2 l3:Nat} {k:Nat} {xs:Array Value} {Q:Fin→Shared→Prop} (hh:A.handled=none) (a1:l1 < n) (st:Hd3 n l1 l2 l3 k s.heap) (v1:s.heap.IsList l1 xs) (hx:xs[k]?=none)
  (hE:∀ h' e,(∀ (c:Nat) o,c < n∨n+5 < c→s.heap.get? c=some o→h'.get? c=some o)→(∃ o,h'.get? e=some o∧o.cls=.type "StopIteration")→E (.ref e) { s with heap:=h' }):wpAny (model prog w) A (Builtin.«zip.__next__» ⟨[.ref (n+5)],[]⟩) Q E s:=by
 obtain ⟨⟨T,oT,b,hz,hT,hTn⟩,hTI,u1,u2,u3⟩:=st
 refine wpAny_bind (m:=field (.ref (n+5)) 2) (wpAny_field hz rfl (x:=.bool false) rfl ?_)
 refine wpAny_bind (m:=field (.ref (n+5)) 3) (wpAny_field hz rfl (x:=.ref (n+3)) rfl (wpAny_bind (m:=seqItems? (.ref (n+3))) (wpAny_seqItems hTI rfl ?_)))
 refine wpAny_bind (m:=Builtin.SmallTypes.ownedTupleIsFree (.ref (n+5))) (Zl2 hz hT fun h₁ hz₁ e1 sz₁=>?_)
 simp only [Bool.false_eq_true,if_false]
 refine wpAny_bind ?_
 simp only [List.forIn_toArray,List.forIn_cons,List.forIn_nil]
 refine wpAny_bind (wpAny_bind (wpAny_holding ?_));refine wpAny_bind (m:=Builtin.SmallTypes.nextOf (.ref n)) ?_
 refine wpAny_nextOf_list_end hh (u1.at fun o e=>e1 _ o (nA (by omega)) e) (v1.at fun o e=>e1 _ o (nA (by omega)) e) hx fun h₂ e hs₂ he=>?_
 exact hE h₂ e (fun c o c1 q=>hs₂ _ _ (nA (by omega)) (e1 _ _ (nA (by omega)) q)) he
def Cm3 (n l1 l2 l3 i:Nat) (h:Heap):Prop:=(i=0∧St3 n l1 l2 l3 .none 0 h)∨Hd3 n l1 l2 l3 i h
theorem Cm3.zip {n l1 l2 l3 i:Nat} {h:Heap} (st:Cm3 n l1 l2 l3 i h):∃ o,h.get? (n+5)=some o∧o.cls=.type "zip":=by
 rcases st with ⟨_,st⟩ | st
 ·exact ⟨_,st.1,rfl⟩
 ·obtain ⟨⟨T,o,b,hz,_⟩,_⟩:=st
  exact ⟨_,hz,rfl⟩
theorem Zsy {n l1 l2 l3:Nat} {k:Nat} {xs ys vs:Array Value} {x y v:Value} {Q:Option Value→Shared→Prop} (a1:l1 < n) (a2:l2 < n) (a3:l3 < n) (st:Cm3 n l1 l2 l3 k s.heap) (v1:s.heap.IsList l1 xs) (v2:s.heap.IsList l2 ys) (v3:s.heap.IsList l3 vs)
  (hx:xs[k]?=some x) (hy:ys[k]?=some y) (hv:vs[k]?=some v)
  (hQ:∀ h',Hd3 n l1 l2 l3 (k+1) h'→Zeb h' s.heap.objs.size x y v→(∀ (c:Nat) o,c < n∨n+5 < c→s.heap.get? c=some o→h'.get? c=some o)→Q (some (.ref s.heap.objs.size)) { s with heap:=h' }) :
  wpAny (model prog w) A (pyNext (.ref (n+5))) Q E s:=by
 obtain ⟨oz,ez,cz⟩:=st.zip
 have hT:s.TypeIs (.ref (n+5)) "zip":=⟨_,ez,cz⟩
 have hlt:n+5 < s.heap.objs.size:=Heap.lt_size ez
 unfold pyNext
 refine wpAny_bind (wpAny_attempt (wpAny_callSpecial?_slot (name:=Str.ofString "__next__") hT PySem.F.slot_zip_next (wpAny_call_entry PySem.F.slot_zip_next hT PySem.F.entry_zip_next (Q:=fun v s'=>wpAny (model prog w) A (match (Except.ok (some v):Except Value (Option Value)) with | .ok (some v)=>pure (some v) | _=>pure none) Q E s') ?_ (PySem.F.args_zip_next_1 _))))
 rcases st with ⟨rfl,st⟩ | st
 ·refine ZtC a1 a2 a3 st v1 v2 v3 hx hy hv fun h' st' hTup hk=>wpAny_pure (hQ h' ?_ hTup hk)
  obtain ⟨hz',hTI,_,u1,u2,u3⟩:=st'
  exact ⟨⟨s.heap.objs.size,_,false,hz',hTup,.inr hlt⟩,hTI,u1,u2,u3⟩
 ·exact ZsL a1 a2 a3 st v1 v2 v3 hx hy hv fun h' st' hTup hk=>wpAny_pure (hQ h' st' hTup hk)
theorem Zvr {n l1 l2 l3:Nat} {k:Nat} {xs:Array Value} {Q:Option Value→Shared→Prop} (hh:A.handled=none) (a1:l1 < n) (st:Cm3 n l1 l2 l3 k s.heap) (v1:s.heap.IsList l1 xs) (hx:xs[k]?=none)
  (hQ:∀ h',(∀ (c:Nat) o,c < n∨n+5 < c→s.heap.get? c=some o→h'.get? c=some o)→Q none { s with heap:=h' }):wpAny (model prog w) A (pyNext (.ref (n+5))) Q E s:=by
 obtain ⟨oz,ez,cz⟩:=st.zip
 have hT:s.TypeIs (.ref (n+5)) "zip":=⟨_,ez,cz⟩
 unfold pyNext
 refine wpAny_bind (wpAny_attempt (wpAny_callSpecial?_slot (name:=Str.ofString "__next__") hT PySem.F.slot_zip_next (wpAny_call_entry PySem.F.slot_zip_next hT PySem.F.entry_zip_next ?_ (PySem.F.args_zip_next_1 _))))
 have fin:∀ h' e,(∀ (c:Nat) o,c < n∨n+5 < c→s.heap.get? c=some o→h'.get? c=some o)→(∃ o,h'.get? e=some o∧o.cls=.type "StopIteration")→wpAny (model prog w) A (do if ← isInstance (.ref e) (.type "StopIteration") then pure none else throw (.ref e)) Q E { s with heap:=h' }:=fun h' e hk he=>by
  obtain ⟨o,ho,hc'⟩:=he
  exact wpAny_bind (wpAny_isInstance (T:="StopIteration") (b:=true) ⟨o,ho,hc'⟩ isSubtype_stop (wpAny_pure (hQ h' hk)))
 rcases st with ⟨rfl,st⟩ | st
 ·exact Zvu hh a1 st v1 hx fin
 ·exact Zuu hh a1 st v1 hx fin
structure Tps (h:Heap) (L:Nat) (xs ys vs:List Value) (ts:List Addr):Prop where
 at':∀ t∈ts,L < t∧t < h.objs.size
 nd:ts.Nodup
 get:∀ (j:Nat) t,ts[j]?=some t→∃ x y v,xs[j]?=some x∧ys[j]?=some y∧vs[j]?=some v∧Zeb h t x y v
theorem Znl:typeLookup (.type "zip") "__len__"=pure none:=by rw [typeLookup_type,builtinLookup_eq_fast];kernel_rfl
theorem Zlq:typeLookup (.type "zip") "__length_hint__"=pure none:=by rw [typeLookup_type,builtinLookup_eq_fast];kernel_rfl
theorem ZwE {n l1 l2 l3 L N:Nat} {xs ys vs:List Value} {R:Result→Shared→Prop} (hh:A.handled=none) (a1:l1 < n) (a2:l2 < n) (a3:l3 < n) (aL:n+5 < L) (lx:xs.length=N) (ly:ys.length=N) (lv:vs.length=N) (hN:N≤sizeLine) :
  ∀ (k i:Nat) (s:Shared) (ts:List Addr) (c:Nat),N - i=k→i≤N→Cm3 n l1 l2 l3 i s.heap→s.heap.IsList l1 xs.toArray→s.heap.IsList l2 ys.toArray→s.heap.IsList l3 vs.toArray →
  s.heap.get? L=some { cls:=.type "list",dict:=none,data:=.seq (ts.map Value.ref).toArray c,slots:=#[] }→ts.length=i→Tps s.heap L xs ys vs ts →
  (∀ h' ts' c',(∀ (b:Nat) o,b < n→s.heap.get? b=some o→h'.get? b=some o)→h'.get? L=some { cls:=.type "list",dict:=none,data:=.seq (ts'.map Value.ref).toArray c',slots:=#[] }→ts'.length=N→Tps h' L xs ys vs ts'→R (.ok (.ret .none)) { s with heap:=h' }) →
  codeAny (model prog w) A (.builtin "list.extend.loop" ⟨[.ref L,.ref (n+5),.none],[]⟩) R s:=by
 intro k
 induction k with
 | zero =>
  intro i s ts c hk hi st v1 v2 v3 hL hlen tp hR
  obtain rfl:i=N:=by omega
  refine codeAny_builtin F.entry_extend_loop ?_
  rw [Around.under_plainId F.plain_extend_loop _]
  show wpAny _ A.in1 (pyNext (.ref (n+5)) >>= _) _ _ s
  refine wpAny_bind (Zvr hh a1 st v1 (by simp;omega) fun h' hk'=>?_)
  refine wpAny_pure (hR h' ts c (fun b o hb e=>hk' b o (.inl hb) e) (hk' _ _ (.inr aL) hL) hlen ⟨fun t ht=>⟨(tp.at' t ht).1,?_⟩,tp.nd,fun j t e=>?_⟩)
  ·obtain ⟨j,e⟩:=List.getElem?_of_mem ht
   obtain ⟨x,y,v,_,_,_,q⟩:=tp.get j t e
   exact Heap.lt_size (hk' _ _ (.inr (Nat.lt_trans aL (tp.at' t ht).1)) q)
  ·obtain ⟨x,y,v,q1,q2,q3,q⟩:=tp.get j t e
   exact ⟨x,y,v,q1,q2,q3,hk' _ _ (.inr (Nat.lt_trans aL (tp.at' t (List.mem_of_getElem? e)).1)) q⟩
 | succ k ih =>
  intro i s ts c hk hi st v1 v2 v3 hL hlen tp hR
  have hlt:i < N:=by omega
  refine codeAny_builtin F.entry_extend_loop ?_
  rw [Around.under_plainId F.plain_extend_loop _]
  show wpAny _ A.in1 (pyNext (.ref (n+5)) >>= _) _ _ s
  obtain ⟨zxs,gx⟩:∃ z,xs[i]?=some z:=⟨_,List.getElem?_eq_getElem (by omega)⟩
  obtain ⟨zys,gy⟩:∃ z,ys[i]?=some z:=⟨_,List.getElem?_eq_getElem (by omega)⟩
  obtain ⟨zvs,gv⟩:∃ z,vs[i]?=some z:=⟨_,List.getElem?_eq_getElem (by omega)⟩
  refine wpAny_bind (Zsy (x:=zxs) (y:=zys) (v:=zvs) a1 a2 a3 st v1 v2 v3 (by simpa using gx) (by simpa using gy) (by simpa using gv) fun h' st' hTup hk'=>?_)
  have hL':=hk' _ _ (.inr aL) hL
  have hLs:L < s.heap.objs.size:=Heap.lt_size hL
  show wpAny _ A.in1 (updateSeq L (·.push (.ref s.heap.objs.size)) >>= _) _ _ _
  refine wpAny_bind ?_
  have oth:∀ (b:Nat) o,b≠L→h'.get? b=some o→(h'.update L (Obj.mapSeq (·.push (Value.ref s.heap.objs.size)))).get? b=some o:=fun b o hb e=>(Heap.get?_update_other _ _ (Ne.symm hb)).trans e
  obtain ⟨c2,hup⟩:∃ c2,(h'.update L (Obj.mapSeq (·.push (Value.ref s.heap.objs.size)))).get? L=some { cls:=.type "list",dict:=none,data:=.seq ((ts++[s.heap.objs.size]).map Value.ref).toArray c2,slots:=#[] }:=by
   have:=Heap.get?_update_self (Obj.mapSeq (·.push (Value.ref s.heap.objs.size))) hL' rfl
   exact ⟨_,by simpa [Obj.mapSeq] using this⟩
  refine wpAny_updateSeq hL' rfl (wpAny_pure ⟨plainId_quiet F.plain_extend_loop _,ih (i+1) _ (ts++[s.heap.objs.size]) c2 (by omega) hlt ?_ ?_ ?_ ?_ ?_ (by simp [hlen]) ?_ ?_⟩) (by simp [hlen];omega) (by simp [hlen];omega)
  ·refine .inr ?_
   obtain ⟨⟨T,o,b,z1,z2,z3⟩,hTI,u1,u2,u3⟩:=st'
   have:∃ o',(h'.update L (Obj.mapSeq (·.push (Value.ref s.heap.objs.size)))).get? T=some o':=by
    by_cases e:T=L
    ·subst e;exact ⟨_,Heap.get?_update_self _ hL' rfl⟩
    ·exact ⟨_,oth _ _ e z2⟩
   obtain ⟨o',e'⟩:=this
   exact ⟨⟨T,o',b,oth _ _ (nA (by omega)) z1,e',z3⟩,oth _ _ (nA (by omega)) hTI,u1.at fun o e=>oth _ o (nA (by omega)) e,u2.at fun o e=>oth _ o (nA (by omega)) e,u3.at fun o e=>oth _ o (nA (by omega)) e⟩
  ·exact v1.at fun o e=>oth _ o (nA (by omega)) (hk' _ _ (.inl a1) e)
  ·exact v2.at fun o e=>oth _ o (nA (by omega)) (hk' _ _ (.inl a2) e)
  ·exact v3.at fun o e=>oth _ o (nA (by omega)) (hk' _ _ (.inl a3) e)
  ·exact hup
  ·have keepT:∀ (j:Nat) t,(ts++[s.heap.objs.size])[j]?=some t→∃ x y v,xs[j]?=some x∧ys[j]?=some y∧vs[j]?=some v∧Zeb (h'.update L (Obj.mapSeq (·.push (Value.ref s.heap.objs.size)))) t x y v:=fun j t e=>by
    rw [List.getElem?_append] at e
    split at e
    ·obtain ⟨x,y,v,q1,q2,q3,q⟩:=tp.get j t e
     have hb:=(tp.at' t (List.mem_of_getElem? e)).1
     exact ⟨x,y,v,q1,q2,q3,oth _ _ (Nat.ne_of_gt hb) (hk' _ _ (.inr (Nat.lt_trans aL hb)) q)⟩
    ·rename_i hj
     have hj':j=i:=by
      have:=List.getElem?_eq_some_iff.mp e
      obtain ⟨h1,_⟩:=this
      simp only [List.length_singleton] at h1
      omega
     subst hj'
     rw [hlen,Nat.sub_self] at e
     have e':s.heap.objs.size=t:=by simpa using e
     subst e'
     exact ⟨_,_,_,gx,gy,gv,oth _ _ (Nat.ne_of_gt hLs) hTup⟩
   refine ⟨fun t ht=>?_,?_,keepT⟩
   ·obtain ⟨j,e⟩:=List.getElem?_of_mem ht
    obtain ⟨x,y,v,_,_,_,q⟩:=keepT j t e
    refine ⟨?_,Heap.lt_size q⟩
    rcases List.mem_append.mp ht with z | z
    ·exact (tp.at' t z).1
    ·rw [List.mem_singleton.mp z];exact hLs
   ·refine List.nodup_append.mpr ⟨tp.nd,by simp,fun a ha b hb=>?_⟩
    rw [List.mem_singleton.mp hb]
    exact Nat.ne_of_lt (tp.at' a ha).2
  ·intro h2 ts2 c2 kk hL2 hl2 tp2
   exact hR h2 ts2 c2 (fun b o hb e=>kk b o hb (oth b o (nA (by omega)) (hk' b o (.inl hb) e))) hL2 hl2 tp2
end
end L3
set_option Elab.async false
set_option linter.all false
set_option maxRecDepth 100000
set_option maxHeartbeats 4000000
namespace L3
open PySem PySem.Spec PyProof.Rows L2
section
variable {prog:Program} {w:World} {A:Around} {E:Value→Shared→Prop} {s:Shared}
theorem ZhU {n l1 l2 l3 N:Nat} {xs ys vs:List Value} {Q:Value→Shared→Prop} (hh:A.handled=none) (a1:l1 < n) (a2:l2 < n) (a3:l3 < n) (lx:xs.length=N) (ly:ys.length=N) (lv:vs.length=N) (hN:N≤sizeLine)
  (st:St3 n l1 l2 l3 .none 0 s.heap) (v1:s.heap.IsList l1 xs.toArray) (v2:s.heap.IsList l2 ys.toArray) (v3:s.heap.IsList l3 vs.toArray)
  (hQ:∀ h' ts c',(∀ (b:Nat) o,b < n→s.heap.get? b=some o→h'.get? b=some o)→h'.get? s.heap.objs.size=some { cls:=.type "list",dict:=none,data:=.seq (ts.map Value.ref).toArray c',slots:=#[] }→ts.length=N→Tps h' s.heap.objs.size xs ys vs ts→Q (.ref s.heap.objs.size) { s with heap:=h' }) :
  wpAny (model prog w) A (call (.type "list") [.ref (n+5)]) Q E s:=by
 have hlt:n+5 < s.heap.objs.size:=Heap.lt_size st.1
 refine callType_codes (Q₁:=fun obj s₁=>obj=.ref s.heap.objs.size∧s₁={ s with heap:=s.heap.push { cls:=.type "list",data:=.seq #[] } }) F.called_list (F.typeCall_list_1 _) F.entry_list_init (code_list_new _ ⟨rfl,rfl⟩) fun obj s₁ h₁=>?_
 obtain ⟨rfl,rfl⟩:=h₁
 have hS:(s.heap.push { cls:=.type "list",data:=.seq #[] }).get? s.heap.objs.size=some { cls:=.type "list",data:=.seq #[] }:=Heap.get?_push_size _ rfl
 refine ⟨⟨_,hS,rfl⟩,F.args_list_init_2 _ _,?_⟩
 show wpAny _ A.in1.in1 (do let old ← Builtin.List.listItems (.ref s.heap.objs.size);Builtin.List.listUpdate (.ref s.heap.objs.size) (fun _=>#[]);letGo old.toList.reverse;Builtin.List.listExtendWith (.ref s.heap.objs.size) (.ref (n+5)) .none) _ _ _
 refine wpAny_bind ?_
 unfold Builtin.List.listItems
 refine wpAny_bind (wpAny_seqItems hS rfl (wpAny_pure ?_))
 show wpAny _ A.in1.in1 (updateSeq s.heap.objs.size (fun _=>#[]) >>= fun _=>letGo (#[]:Array Value).toList.reverse >>= fun _=>Builtin.List.listExtendWith (.ref s.heap.objs.size) (.ref (n+5)) .none) _ _ _
 refine wpAny_bind (wpAny_updateSeq hS rfl ?_)
 have hS₂:=Heap.get?_update_self (Obj.mapSeq (fun _=>(#[]:Array Value))) hS rfl
 refine wpAny_bind (wpAny_letGo ?_)
 have k2:∀ (b:Nat) o,s.heap.get? b=some o→((s.heap.push { cls:=.type "list",data:=.seq #[] }).update s.heap.objs.size (Obj.mapSeq (fun _=>(#[]:Array Value)))).get? b=some o:=fun b o e=>(Heap.get?_update_other _ _ (Nat.ne_of_gt (Heap.lt_size e))).trans (Heap.get?_push_of_some _ e)
 generalize (s.heap.push { cls:=.type "list",data:=.seq #[] }).update s.heap.objs.size (Obj.mapSeq (fun _=>(#[]:Array Value)))=h2 at hS₂ k2 ⊢
 have st2:St3 n l1 l2 l3 .none 0 h2:=st.at fun c o _ _ e=>k2 c o e
 unfold Builtin.List.listExtendWith
 refine wpAny_bind (wpAny_typeOf (T:="zip") ⟨_,st2.1,rfl⟩ ?_)
 have h1:Builtin.List.listSameRef (.ref s.heap.objs.size) (.ref (n+5))=false:=by
  have:s.heap.objs.size≠n+5:=Nat.ne_of_gt hlt
  simp [Builtin.List.listSameRef,this]
 have h2':(Value.type "zip"==Value.type "list")=false:=by decide
 have h3':(Value.type "zip"==Value.type "tuple")=false:=by decide
 simp only [h1,h2',h3',Bool.or_false,Bool.false_eq_true,if_false]
 refine wpAny_bind (wpAny_pyIter_zip st2.1 ?_)
 refine wpAny_bind (wpAny_holding ?_)
 unfold Builtin.List.listLengthHint
 refine wpAny_bind (wpAny_specialOf (T:="zip") ⟨_,st2.1,rfl⟩ Znl ?_)
 show wpAny _ A.in1.in1 (specialOf (Value.ref (n+5)) (Str.ofString "__length_hint__") >>= _) _ _ _
 refine wpAny_bind (wpAny_specialOf (T:="zip") ⟨_,st2.1,rfl⟩ Zlq ?_)
 refine wpAny_pure ?_
 show wpAny _ A.in1.in1 (rule "list.extend.makes-room" >>= fun _=>Builtin.List.listTouch (.ref s.heap.objs.size) >>= fun _ =>
  again (.builtin "list.extend.loop" ⟨[.ref s.heap.objs.size,.ref (n+5),.none],[]⟩)) _ _ _
 refine wpAny_bind (wpAny_rule ?_)
 refine wpAny_bind ?_
 show wpAny _ A.in1.in1 (updateSeq s.heap.objs.size (·.push .none) >>= fun _=>updateSeq s.heap.objs.size (·.pop)) _ _ _
 refine wpAny_bind (wpAny_updateSeq hS₂ rfl ?_)
 have hS₃:=Heap.get?_update_self (Obj.mapSeq (·.push Value.none)) hS₂ rfl
 refine wpAny_updateSeq hS₃ rfl ?_
 have hS₄:=Heap.get?_update_self (Obj.mapSeq (·.pop)) hS₃ rfl
 have oth:∀ (b:Nat) o,s.heap.get? b=some o→((h2.update s.heap.objs.size (Obj.mapSeq (·.push Value.none))).update s.heap.objs.size (Obj.mapSeq (·.pop))).get? b=some o :=
  fun b o e=>(Heap.get?_update_other _ _ (Nat.ne_of_gt (Heap.lt_size e))).trans ((Heap.get?_update_other _ _ (Nat.ne_of_gt (Heap.lt_size e))).trans (k2 b o e))
 refine wpAny_pure ⟨plainId_quiet F.plain_extend_loop _,ZwE (A:=A.in1) (N:=N) (xs:=xs) (ys:=ys) (vs:=vs) (show A.in1.handled=none from hh) a1 a2 a3 hlt lx ly lv hN N 0 _ [] _ rfl (Nat.zero_le _) (.inl ⟨rfl,st.at fun c o _ _ e=>oth c o e⟩) (v1.at fun o e=>oth _ o e) (v2.at fun o e=>oth _ o e) (v3.at fun o e=>oth _ o e) hS₄ rfl ⟨(fun t ht=>by cases ht),.nil,(fun j t e=>by simp at e)⟩ fun h' ts' c' kk hL hl tp=>?_⟩
 exact ⟨rfl,hQ h' ts' c' (fun b o hb e=>kk b o hb (oth b o e)) hL hl tp⟩
end
end L3
namespace L3
open PySem PySem.Spec PyProof.Rows L2
variable {K:PySem.W.Frag} {H H' H2:Hp}
inductive Trp:List Addr→List V→List V→List V→Hp→Hp→Prop
 | nil {H:Hp}:Trp [] [] [] [] H H
 | cons {t:Addr} {ts:List Addr} {x y z:V} {xs ys zs:List V} {H H':Hp}:H t=none→Trp ts xs ys zs (upd H t (.tup [x,y,z])) H'→Trp (t::ts) (x::xs) (y::ys) (z::zs) H H'
def ZxV (K:PySem.W.Frag) (ta:TA):TE:=fun σ H Q=>ta σ H fun vs H1=>∃ a b c xs ys zs,vs=[.ref a,.ref b,.ref c]∧SqL K H1 a xs∧SqL K H1 b ys∧SqL K H1 c zs∧ys.length=xs.length∧zs.length=xs.length∧∀ (ts:List Addr) (L:Addr) H2,Trp ts xs ys zs H1 H2→H2 L=none→Q (.ref L) (upd H2 L (.lst (ts.map V.ref)))
theorem Zo0 {X:Cx} {pins:List (Addr×Obj)} {σ:St} {s:Shared} {n:Nat} (hl:X.env.locals < n) (hcl:∀ x c,X.env.cells.lookup x=some c→c < n) (hpn:∀ p∈X.pn++pins,p.1 < n) (h0:X.s₀.heap.objs.size≤n) :
  ∀ (ts:List Addr) (xs ys zs:List V) (us vs ws:List Value) (H:Hp),ts.length=xs.length→Vals xs us→Vals ys vs→Vals zs ws→ys.length=xs.length→zs.length=xs.length→ts.Nodup→(∀ t∈ts,n≤t∧H t=none) →
  (∀ (j:Nat) t,ts[j]?=some t→∃ x y v,us[j]?=some x∧vs[j]?=some y∧ws[j]?=some v∧Zeb s.heap t x y v)→Inv X pins σ H s→∃ H2,Trp ts xs ys zs H H2∧Inv X pins σ H2 s∧∀ b,b∉ts→H2 b=H b
 | [],xs,ys,zs,us,vs,ws,H,h1,_,_,_,h5,h6,_,_,_,I=>by
  obtain rfl:xs=[]:=List.length_eq_zero_iff.mp h1.symm
  obtain rfl:ys=[]:=List.length_eq_zero_iff.mp h5
  obtain rfl:zs=[]:=List.length_eq_zero_iff.mp h6
  exact ⟨H,.nil,I,fun _ _=>rfl⟩
 | t::ts,x::xs,y::ys,z::zs,us,vs,ws,H,h1,h2,h3,h4,h5,h6,nd,hf,hg,I=>by
  cases h2 with
  | cons r2 h2 =>
  cases h3 with
  | cons r3 h3 =>
  cases h4 with
  | cons r4 h4 =>
  rename_i u us v vs w ws
  obtain ⟨n1,n2⟩:=List.nodup_cons.mp nd
  obtain ⟨x',y',v',e1,e2,e3,q⟩:=hg 0 t rfl
  cases e1;cases e2;cases e3
  obtain ⟨hge,hn⟩:=hf t List.mem_cons_self
  have I2:Inv X pins σ (upd H t (.tup [x,y,z])) s:=by
   refine I.track hn (Nat.ne_of_gt (Nat.lt_of_lt_of_le hl hge)) (fun x c e=>Nat.ne_of_lt (Nat.lt_of_lt_of_le (hcl x c e) hge)) (fun p hp=>Nat.ne_of_lt (Nat.lt_of_lt_of_le (hpn p hp) hge)) ?_ ⟨by show 3≤sizeLine;decide,[u,v,w],.cons r2 (.cons r3 (.cons r4 .nil)),⟨_,q,rfl,_,rfl⟩⟩
   cases e:X.s₀.heap.get? t with
   | none=>rfl
   | some o=>exact absurd (Nat.lt_of_lt_of_le (Heap.lt_size e) (Nat.le_trans h0 hge)) (Nat.lt_irrefl _)
  obtain ⟨H2,k1,k2,k3⟩:=Zo0 hl hcl hpn h0 ts xs ys zs us vs ws (upd H t (.tup [x,y,z])) (by simpa using h1) h2 h3 h4 (by simpa using h5) (by simpa using h6) n2 (fun t' ht=>⟨(hf t' (List.mem_cons_of_mem _ ht)).1,by rw [ZaT (fun e=>n1 (by rw [← e];exact ht))];exact (hf t' (List.mem_cons_of_mem _ ht)).2⟩) (fun j t' e=>hg (j+1) t' (by simpa using e)) I2
  exact ⟨H2,.cons hn k1,k2,fun b hb=>by rw [k3 b (fun z=>hb (List.mem_cons_of_mem _ z)),ZaT (fun e=>hb (by rw [e];exact List.mem_cons_self))]⟩
 | t::ts,[],ys,zs,us,vs,ws,H,h1,_,_,_,_,_,_,_,_,_=>by cases h1
 | t::ts,x::xs,[],zs,us,vs,ws,H,_,_,_,_,h5,_,_,_,_,_=>by cases h5
 | t::ts,x::xs,y::ys,[],us,vs,ws,H,_,_,_,_,_,h6,_,_,_,_=>by cases h6
theorem Zkd:∀ ts:List Addr,Vals (ts.map V.ref) (ts.map Value.ref)
 | []=>.nil
 | _::ts=>.cons rfl (Zkd ts)
theorem Zk9 {X:Cx} {a b c:Expr} {ta:TA} {p p0 pos pos0:Pos} (hc:X.calm=true) (hg0:Gl X "list") (hm0:X.mg "list"=none) (hg:Gl X "zip") (hm:X.mg "zip"=none) (ha:PA X [a,b,c] ta) (hs:starEach [a,b,c] X.env=[(false,eval a X.env),(false,eval b X.env),(false,eval c X.env)]) (hs2:starEach [b,c] X.env=[(false,eval b X.env),(false,eval c X.env)])
  (hs0:starEach [Expr.Call (.Name "zip" p) [a,b,c] [] pos] X.env=[(false,eval (.Call (.Name "zip" p) [a,b,c] [] pos) X.env)]):PE X (.Call (.Name "list" p0) [.Call (.Name "zip" p) [a,b,c] [] pos] [] pos0) (ZxV X.K ta):=by
 intro pins s σ H Q I h
 refine Call_ (Zdp I hg0 hm0 PyProof.Rows.boot_list (PyProof.Rows.callWith_type1 ?_ (by rw [hs0];rfl) (by rfl)))
 rw [hs0]
 refine Calls.spliced_cons (Q:=fun us s1=>wpAny (model X.prog X.w) X.A (call (.type "list") us) (EP X pins σ Q) X.xe s1) ?_
 refine Call_ (Zdp I hg hm boot_zip (PyProof.Rows.callWith_type1 (thn (ha pos pins s σ H _ I h) fun us s1 zz2=>?_) (by rw [hs,hs2]) (by rw [hs2];rfl)))
 obtain ⟨vs,H1,I1,r1,q1⟩:=zz2
 obtain ⟨l1,l2,l3,xs,ys,zs,e,hx,hy,hz,n1,n2,q⟩:=q1
 subst e
 obtain ⟨u,u2,u3,rfl,ru,ru2,ru3⟩:=Zs5 r1
 cases ru
 cases ru2
 cases ru3
 obtain ⟨its1,r1',pl1,z1⟩:=I1.list hx
 obtain ⟨its2,r2',pl2,z2⟩:=I1.list hy
 obtain ⟨its3,r3',pl3,z3⟩:=I1.list hz
 have a1:l1 < s1.heap.objs.size:=by obtain ⟨_,e,_⟩:=pl1.isList;exact Heap.lt_size e
 have a2:l2 < s1.heap.objs.size:=by obtain ⟨_,e,_⟩:=pl2.isList;exact Heap.lt_size e
 have a3:l3 < s1.heap.objs.size:=by obtain ⟨_,e,_⟩:=pl3.isList;exact Heap.lt_size e
 refine ZoC pl1.isList pl2.isList pl3.isList fun h' st hk=>Calls.spliced_nil ?_
 have g1:=r1'.length
 have g2:=r2'.length
 have g3:=r3'.length
 have up1:∀ {l:Addr} {its:Array Value},s1.heap.IsList l its→h'.IsList l its:=fun v=>v.at fun o e=>hk _ o e
 refine ZhU (N:=its1.length) (I.ok.hd hc) a1 a2 a3 rfl (by omega) (by omega) (by omega) st (up1 pl1.isList) (up1 pl2.isList) (up1 pl3.isList) fun h2 ts c' kk hL hlen tp=>?_
 have hsz:s1.heap.objs.size < h'.objs.size:=Nat.lt_of_le_of_lt (Nat.le_add_right _ 5) (Heap.lt_size st.1)
 have I2:Inv X pins σ H1 { s1 with heap:=h2 }:=I1.kept (t':=s1.toks) fun b o e=>kk b o (Heap.lt_size e) (hk b o e)
 have fr:∀ b:Addr,s1.heap.objs.size≤b→H1 b=none:=fun b hb=>I1.hok.fresh hb
 obtain ⟨H2,k1,k2,k3⟩:=Zo0 (s:={ s1 with heap:=h2 }) (n:=s1.heap.objs.size) I1.lt (fun x c e=>by obtain ⟨v,o,ho,_⟩:=I1.cell x c e;exact Heap.lt_size ho) (fun p hp=>Heap.lt_size (I1.pin p hp).1) I1.sz ts xs ys zs its1 its2 its3 H1 (by omega) r1' r2' r3' n1 n2 tp.nd (fun t ht=>⟨Nat.le_of_lt (Nat.lt_trans hsz (tp.at' t ht).1),fr t (Nat.le_of_lt (Nat.lt_trans hsz (tp.at' t ht).1))⟩) tp.get I2
 have hLn:H2 h'.objs.size=none:=by
  rw [k3 _ (fun z=>Nat.lt_irrefl _ (tp.at' _ z).1)]
  exact fr _ (Nat.le_of_lt hsz)
 refine ⟨.ref h'.objs.size,_,?_,rfl,q ts _ H2 k1 hLn⟩
 refine k2.track hLn (Nat.ne_of_gt (Nat.lt_trans I1.lt hsz)) (fun x c e=>?_) (fun p hp=>Nat.ne_of_lt (Nat.lt_trans (Heap.lt_size (I1.pin p hp).1) hsz)) ?_ ⟨?_,ts.map Value.ref,c',?_,hL⟩
 ·obtain ⟨v,o,ho,_⟩:=I1.cell x c e
  exact Nat.ne_of_lt (Nat.lt_trans (Heap.lt_size ho) hsz)
 ·cases e:X.s₀.heap.get? h'.objs.size with
  | none=>rfl
  | some o=>exact absurd (Nat.lt_of_lt_of_le (Heap.lt_size e) (Nat.le_trans I1.sz (Nat.le_of_lt hsz))) (Nat.lt_irrefl _)
 ·rw [List.length_map];omega
 ·exact Zkd ts
def Zwr (gs:GA):GE:=fun ω G Q=>gs ω G fun ws G1=>∃ x y z xs ys zs,ws=[x,y,z]∧rdL G1 x=some xs∧rdL G1 y=some ys∧rdL G1 z=some zs∧ys.length=xs.length∧zs.length=xs.length∧∀ p,G1 p=none→Q (.ref p) (put G1 p (.lst (ZeA xs ys zs)))
theorem ZvH {gs:GA} (m:gs.M):GE.M (Zwr gs):=fun ω G Q Q' h q=>m _ _ _ _ (by rintro ws G1 ⟨x,y,z,xs,ys,zs,e,e1,e2,e3,n1,n2,r⟩;exact ⟨x,y,z,xs,ys,zs,e,e1,e2,e3,n1,n2,fun p hp=>h _ _ (r p hp)⟩) q
theorem ZvM:∀ {ts:List Addr} {xs ys zs:List V} {H H2:Hp} {us vs ws:List W} {G:Hw},Trp ts xs ys zs H H2→TrL K H xs us→TrL K H ys vs→TrL K H zs ws→RelH K H G→Mono K H H2∧RelH K H2 G∧TrL K H2 (ts.map V.ref) (ZeA us vs ws):=fun {ts xs ys zs H H2 us vs ws G} h=>by
 induction h generalizing us vs ws with
 | nil =>
  intro h1 h2 h3 r
  cases h1
  exact ⟨Mono.refl,r,.nil⟩
 | cons hn h ih =>
  intro h1 h2 h3 r
  rename_i t ts x y z xs ys zs H H2
  cases h1 with
  | cons t1 h1 =>
  cases h2 with
  | cons t2 h2 =>
  cases h3 with
  | cons t3 h3 =>
  have m:Mono K H (upd H t (.tup [x,y,z])):=Mono.new hn _
  obtain ⟨k1,k2,k3⟩:=ih (h1.mono m) (h2.mono m) (h3.mono m) (r.mono0 hn)
  exact ⟨m.trans k1,k2,.cons (.mono k1 (.tup (SqT.of Zbj) (.cons (t1.mono m) (.cons (t2.mono m) (.cons (t3.mono m) .nil))))) k3⟩
theorem Zlo {X:Cx} {a b c:Expr} {p p0 pos pos0:Pos} {gs:GA} (hc:X.calm=true) (hm0:X.mg "list"=none) (hg0:Gl X "list") (hm:X.mg "zip"=none) (hg:Gl X "zip") (hs:starEach [a,b,c] X.env=[(false,eval a X.env),(false,eval b X.env),(false,eval c X.env)]) (hs2:starEach [b,c] X.env=[(false,eval b X.env),(false,eval c X.env)])
  (hs0:starEach [Expr.Call (.Name "zip" p) [a,b,c] [] pos] X.env=[(false,eval (.Call (.Name "zip" p) [a,b,c] [] pos) X.env)]) (ha:Am X [a,b,c] gs):Em X (.Call (.Name "list" p0) [.Call (.Name "zip" p) [a,b,c] [] pos] [] pos0) (Zwr gs):=by
 refine ⟨Zbi (Zk9 hc hg0 hm0 hg hm ha.p hs hs2 hs0) fun σ H Q ⟨ω,G,ts,r,q⟩=>⟨ω,G,ts,r,ha.m _ _ _ _ (fun ws G1 z vs H1 m1 t r1=>?_) q⟩,ZvH ha.m⟩
 obtain ⟨x,y,v,xs,ys,zs,rfl,e1,e2,e3,n1,n2,z⟩:=z
 cases t with
 | cons tx t =>
 cases t with
 | cons ty t =>
 cases t with
 | cons tv t =>
 cases t
 obtain ⟨c1,us1,rfl,hq1,l1⟩:=Zc0 r1 tx e1
 obtain ⟨c2,us2,rfl,hq2,l2⟩:=Zc0 r1 ty e2
 obtain ⟨c3,us3,rfl,hq3,l3⟩:=Zc0 r1 tv e3
 refine ⟨c1,c2,c3,us1,us2,us3,rfl,hq1,hq2,hq3,by rw [l1.length,l2.length];exact n1,by rw [l1.length,l3.length];exact n2,fun ts L H2 hT hL=>?_⟩
 obtain ⟨k1,k2,k3⟩:=ZvM hT l1 l2 l3 r1
 exact z L (k2.no hL) _ _ ((m1.trans k1).trans (Mono.new hL _)) (.ref L) (k2.new hL k3)
end L3
namespace L3
open PySem PySem.Spec PyProof.Rows L2
variable {K:PySem.W.Frag} {H H' H2:Hp}
section
variable {prog:Program} {w:World} {A:Around} {E:Value→Shared→Prop} {s:Shared}
def St3M (n l1 l2 l3:Nat) (f0:Value) (i:Nat) (h:Heap):Prop:=IsZip h (n+5) (n+3) (n+4) f0∧Zeb h (n+3) (.ref n) (.ref (n+1)) (.ref (n+2))∧(∃ a b c,Zeb h (n+4) a b c)∧h.IsListIter n l1 i∧h.IsTupleIter (n+1) l2 i∧h.IsTupleIter (n+2) l3 i
theorem Zro {n l1 l2 l3:Nat} {k:Nat} {xs ys vs:Array Value} {x y v:Value} {Q:Value→Shared→Prop} (a1:l1 < n) (a2:l2 < n) (a3:l3 < n) (st:St3M n l1 l2 l3 .none k s.heap) (v1:s.heap.IsList l1 xs) (v2:s.heap.IsTuple l2 ys) (v3:s.heap.IsTuple l3 vs)
  (hx:xs[k]?=some x) (hy:ys[k]?=some y) (hv:vs[k]?=some v)
  (hQ:∀ h',St3M n l1 l2 l3 (rawInt s.heap.objs.size) (k+1) h'→Zeb h' s.heap.objs.size x y v→(∀ (c:Nat) o,c < n∨n+5 < c→s.heap.get? c=some o→h'.get? c=some o)→Q (.ref s.heap.objs.size) { s with heap:=h' }) :
  wpAny (model prog w) A (Builtin.«zip.__next__» ⟨[.ref (n+5)],[]⟩) (fun fin s'=>∃ v,fin=.done (.ret v)∧Q v s') E s:=by
 obtain ⟨hz,hTI,⟨a,b,c,hTO⟩,u1,u2,u3⟩:=st
 refine wpAny_bind (m:=field (.ref (n+5)) 2) (wpAny_field hz rfl (x:=.bool false) rfl ?_)
 refine wpAny_bind (m:=field (.ref (n+5)) 3) (wpAny_field hz rfl (x:=.ref (n+3)) rfl (wpAny_bind (m:=seqItems? (.ref (n+3))) (wpAny_seqItems hTI rfl ?_)))
 refine wpAny_bind (m:=Builtin.SmallTypes.ownedTupleIsFree (.ref (n+5))) ?_
 unfold Builtin.SmallTypes.ownedTupleIsFree
 refine wpAny_bind (m:=field (.ref (n+5)) 0) (wpAny_field hz rfl (x:=.none) rfl (wpAny_pure ?_));simp only [if_true]
 refine wpAny_bind (wpAny_rule (wpAny_bind (wpAny_field hz rfl (x:=.ref (n+4)) rfl (wpAny_bind (wpAny_setField_rec hz (by simp) fun h₁ hz₁ hs₁=>?_)))))
 replace hz₁:IsZip h₁ (n+5) (n+3) (n+4) .ellipsis:=hz₁
 refine wpAny_bind ?_
 simp only [List.zipIdx_cons,List.zipIdx_nil,List.forIn_cons,List.forIn_nil]
 have e1:=hs₁.extBut
 refine wpAny_bind (wpAny_bind (wpAny_onRaise ?_));refine wpAny_bind (m:=Builtin.SmallTypes.nextOf (.ref n)) ?_
 refine wpAny_nextOf_list_item (u1.extBut e1 (nA (by omega))) (v1.extBut e1 (nA (by omega))) hx fun h₂ w1 hs₂=>wpAny_pure ?_
 have e2:=hs₂.extBut
 have t2:Zeb h₂ (n+4) a b c:=e2 _ _ (nA (by omega)) (e1 _ _ (nA (by omega)) hTO)
 refine wpAny_bind (wpAny_seqItems t2 rfl (wpAny_bind (ZpG t2 fun h₃ t3 hs₃=>?_)))
 replace t3:Zeb h₃ (n+4) x b c:=t3
 have e3:=hs₃.extBut
 refine wpAny_bind (wpAny_letGo (wpAny_pure ?_));refine wpAny_bind (wpAny_bind (wpAny_onRaise ?_));refine wpAny_bind (m:=Builtin.SmallTypes.nextOf (.ref (n+1))) ?_
 refine Zht (((u2.extBut e1 (nA (by omega))).extBut e2 (nA (by omega))).extBut e3 (nA (by omega))) (((v2.extBut e1 (nA (by omega))).extBut e2 (nA (by omega))).extBut e3 (nA (by omega))) hy fun h₄ w2 hs₄=>wpAny_pure ?_
 have e4:=hs₄.extBut
 have t4:Zeb h₄ (n+4) x b c:=e4 _ _ (nA (by omega)) t3
 refine wpAny_bind (wpAny_seqItems t4 rfl (wpAny_bind (ZpG t4 fun h₅ t5 hs₅=>?_)))
 replace t5:Zeb h₅ (n+4) x y c:=t5
 have e5:=hs₅.extBut
 refine wpAny_bind (wpAny_letGo (wpAny_pure ?_));refine wpAny_bind (wpAny_bind (wpAny_onRaise ?_));refine wpAny_bind (m:=Builtin.SmallTypes.nextOf (.ref (n+2))) ?_
 refine Zht (((((u3.extBut e1 (nA (by omega))).extBut e2 (nA (by omega))).extBut e3 (nA (by omega))).extBut e4 (nA (by omega))).extBut e5 (nA (by omega))) (((((v3.extBut e1 (nA (by omega))).extBut e2 (nA (by omega))).extBut e3 (nA (by omega))).extBut e4 (nA (by omega))).extBut e5 (nA (by omega))) hv fun h₆ w3 hs₆=>wpAny_pure ?_
 have e6:=hs₆.extBut
 have t6:Zeb h₆ (n+4) x y c:=e6 _ _ (nA (by omega)) t5
 refine wpAny_bind (wpAny_seqItems t6 rfl (wpAny_bind (ZpG t6 fun h₇ t7 hs₇=>?_)))
 replace t7:Zeb h₇ (n+4) x y v:=t7
 have e7:=hs₇.extBut
 refine wpAny_bind (wpAny_letGo (wpAny_pure (wpAny_pure ?_)));refine wpAny_bind (wpAny_seqItems t7 rfl (wpAny_bind (wpAny_newTuple ?_ (by show (3:Nat)≤sizeLine;decide))))
 have hsz:h₇.objs.size=s.heap.objs.size:=by rw [hs₇.1,hs₆.1,hs₅.1,hs₄.1,hs₃.1,hs₂.1,hs₁.1]
 have up:∀ (c:Nat) o,c < n∨n+5 < c∨c=n+3→s.heap.get? c=some o→h₇.get? c=some o:=fun c o hc e=>e7 _ _ (nA (by omega)) (e6 _ _ (nA (by omega)) (e5 _ _ (nA (by omega)) (e4 _ _ (nA (by omega)) (e3 _ _ (nA (by omega)) (e2 _ _ (nA (by omega)) (e1 _ _ (nA (by omega)) e))))))
 have z7:IsZip h₇ (n+5) (n+3) (n+4) .ellipsis:=e7 _ _ (nA (by omega)) (e6 _ _ (nA (by omega)) (e5 _ _ (nA (by omega)) (e4 _ _ (nA (by omega)) (e3 _ _ (nA (by omega)) (e2 _ _ (nA (by omega)) hz₁)))))
 have y1:h₇.IsListIter n l1 (k+1):=((((w1.extBut e3 (nA (by omega))).extBut e4 (nA (by omega))).extBut e5 (nA (by omega))).extBut e6 (nA (by omega))).extBut e7 (nA (by omega))
 have y2:h₇.IsTupleIter (n+1) l2 (k+1):=((w2.extBut e5 (nA (by omega))).extBut e6 (nA (by omega))).extBut e7 (nA (by omega))
 have y3:h₇.IsTupleIter (n+2) l3 (k+1):=w3.extBut e7 (nA (by omega))
 refine wpAny_bind (m:=Builtin.SmallTypes.ownedTupleHandOut (.ref (n+5)) (.ref h₇.objs.size)) ?_
 unfold Builtin.SmallTypes.ownedTupleHandOut
 have z8:IsZip (h₇.push { cls:=.type "tuple",data:=.seq #[x,y,v] }) (n+5) (n+3) (n+4) .ellipsis:=Heap.get?_push_of_some _ z7
 refine wpAny_bind (wpAny_setField_rec z8 (by simp) fun h₉ z9 hs₉=>?_)
 replace z9:IsZip h₉ (n+5) (n+3) (n+4) (rawInt h₇.objs.size):=z9
 refine wpAny_setField_rec z9 (by simp) fun k₁ zk hk₁=>?_
 replace zk:IsZip k₁ (n+5) (n+3) (n+4) (rawInt h₇.objs.size):=zk
 have zlt:n+5 < h₇.objs.size:=Heap.lt_size z7
 have upp:∀ c o,c≠n+5→h₇.get? c=some o→k₁.get? c=some o:=fun c o c1 e=>hk₁.extBut _ _ c1 (hs₉.extBut _ _ c1 (Heap.get?_push_of_some _ e))
 have hT:Zeb k₁ h₇.objs.size x y v:=hk₁.extBut _ _ (nA (by omega)) (hs₉.extBut _ _ (nA (by omega)) (Heap.get?_push_size _ rfl))
 rw [hsz] at zk hT
 refine wpAny_pure ⟨_,rfl,(?_:Q (.ref h₇.objs.size) _)⟩
 rw [hsz]
 exact hQ k₁ ⟨zk,upp _ _ (nA (by omega)) (up _ _ (.inr (.inr rfl)) hTI),⟨_,_,_,upp _ _ (nA (by omega)) t7⟩,y1.at fun o e=>upp _ o (nA (by omega)) e,tat y2 fun o e=>upp _ o (nA (by omega)) e,tat y3 fun o e=>upp _ o (nA (by omega)) e⟩ hT fun c o hc e=>upp c o (nA (by omega)) (up c o (by omega) e)
theorem Zsv {n l1 l2 l3:Nat} {k:Nat} {xs ys:Array Value} {Q:Fin→Shared→Prop} (hh:A.handled=none) (a1:l1 < n) (a2:l2 < n) (st:St3M n l1 l2 l3 .none k s.heap) (v1:s.heap.IsList l1 xs) (v2:s.heap.IsTuple l2 ys) (hx:xs[k]?=none∨∃ x,xs[k]?=some x∧ys[k]?=none)
  (hE:∀ h' e,(∀ (c:Nat) o,c < n∨n+5 < c→s.heap.get? c=some o→h'.get? c=some o)→(∃ o,h'.get? e=some o∧o.cls=.type "StopIteration")→E (.ref e) { s with heap:=h' }):wpAny (model prog w) A (Builtin.«zip.__next__» ⟨[.ref (n+5)],[]⟩) Q E s:=by
 obtain ⟨hz,hTI,⟨a,b,c,hTO⟩,u1,u2,u3⟩:=st
 refine wpAny_bind (m:=field (.ref (n+5)) 2) (wpAny_field hz rfl (x:=.bool false) rfl ?_)
 refine wpAny_bind (m:=field (.ref (n+5)) 3) (wpAny_field hz rfl (x:=.ref (n+3)) rfl (wpAny_bind (m:=seqItems? (.ref (n+3))) (wpAny_seqItems hTI rfl ?_)))
 refine wpAny_bind (m:=Builtin.SmallTypes.ownedTupleIsFree (.ref (n+5))) ?_
 unfold Builtin.SmallTypes.ownedTupleIsFree
 refine wpAny_bind (m:=field (.ref (n+5)) 0) (wpAny_field hz rfl (x:=.none) rfl (wpAny_pure ?_));simp only [if_true]
 refine wpAny_bind (wpAny_rule (wpAny_bind (wpAny_field hz rfl (x:=.ref (n+4)) rfl (wpAny_bind (wpAny_setField_rec hz (by simp) fun h₁ hz₁ hs₁=>?_)))))
 replace hz₁:IsZip h₁ (n+5) (n+3) (n+4) .ellipsis:=hz₁
 refine wpAny_bind ?_
 simp only [List.zipIdx_cons,List.zipIdx_nil,List.forIn_cons,List.forIn_nil]
 have e1:=hs₁.extBut
 refine wpAny_bind (wpAny_bind (wpAny_onRaise ?_));refine wpAny_bind (m:=Builtin.SmallTypes.nextOf (.ref n)) ?_
 rcases hx with hx | ⟨x,hx,hy⟩
 ·refine wpAny_nextOf_list_end hh (u1.extBut e1 (nA (by omega))) (v1.extBut e1 (nA (by omega))) hx fun h₂ e hs₂ he=>?_
  obtain ⟨oe,hoe,hce⟩:=he
  have hz₂:IsZip h₂ (n+5) (n+3) (n+4) .ellipsis:=hs₂ _ _ (nA (by omega)) hz₁
  have hez:e≠n+5:=fun q=>by subst q;rw [hz₂] at hoe;cases hoe;simp at hce
  exact wpAny_setField_rec hz₂ (by simp) fun h₃ _ hs₃=>hE h₃ e (fun c o c1 q=>hs₃.extBut _ _ (nA (by omega)) (hs₂ _ _ (nA (by omega)) (e1 _ _ (nA (by omega)) q))) ⟨oe,hs₃.extBut _ _ hez hoe,hce⟩
 ·refine wpAny_nextOf_list_item (u1.extBut e1 (nA (by omega))) (v1.extBut e1 (nA (by omega))) hx fun h₂ w1 hs₂=>wpAny_pure ?_
  have e2:=hs₂.extBut
  have t2:Zeb h₂ (n+4) a b c:=e2 _ _ (nA (by omega)) (e1 _ _ (nA (by omega)) hTO)
  refine wpAny_bind (wpAny_seqItems t2 rfl (wpAny_bind (ZpG t2 fun h₃ t3 hs₃=>?_)))
  have e3:=hs₃.extBut
  refine wpAny_bind (wpAny_letGo (wpAny_pure ?_));refine wpAny_bind (wpAny_bind (wpAny_onRaise ?_));refine wpAny_bind (m:=Builtin.SmallTypes.nextOf (.ref (n+1))) ?_
  refine ZrH hh (((u2.extBut e1 (nA (by omega))).extBut e2 (nA (by omega))).extBut e3 (nA (by omega))) (((v2.extBut e1 (nA (by omega))).extBut e2 (nA (by omega))).extBut e3 (nA (by omega))) hy fun h₄ e hs₄ he=>?_
  obtain ⟨oe,hoe,hce⟩:=he
  have hz₄:IsZip h₄ (n+5) (n+3) (n+4) .ellipsis:=hs₄ _ _ (nA (by omega)) (e3 _ _ (nA (by omega)) (e2 _ _ (nA (by omega)) hz₁))
  have hez:e≠n+5:=fun q=>by subst q;rw [hz₄] at hoe;cases hoe;simp at hce
  exact wpAny_setField_rec hz₄ (by simp) fun h₅ _ hs₅=>hE h₅ e (fun c o c1 q=>hs₅.extBut _ _ (nA (by omega)) (hs₄ _ _ (nA (by omega)) (e3 _ _ (nA (by omega)) (e2 _ _ (nA (by omega)) (e1 _ _ (nA (by omega)) q))))) ⟨oe,hs₅.extBut _ _ hez hoe,hce⟩
theorem St3M.at {n l1 l2 l3:Nat} {f0:Value} {i:Nat} {h h':Heap} (st:St3M n l1 l2 l3 f0 i h) (k:∀ (c:Nat) o,n≤c→c≤n+5→h.get? c=some o→h'.get? c=some o):St3M n l1 l2 l3 f0 i h':=by
 obtain ⟨hz,hTI,⟨a,b,c,hTO⟩,u1,u2,u3⟩:=st
 exact ⟨k _ _ (by omega) (by omega) hz,k _ _ (by omega) (by omega) hTI,⟨a,b,c,k _ _ (by omega) (by omega) hTO⟩,u1.at fun o e=>k _ o (by omega) (by omega) e,tat u2 fun o e=>k _ o (by omega) (by omega) e,tat u3 fun o e=>k _ o (by omega) (by omega) e⟩
abbrev ZvS (h:Heap) (l1 l2 l3:Addr):Heap:=ztL (ztL (zL h l1) l2) l3
abbrev ZwA (h:Heap) (l1 l2 l3:Addr):Heap:=(ZvS h l1 l2 l3).push { cls:=.type "tuple",data:=.seq #[.ref h.objs.size,.ref (zL h l1).objs.size,.ref (ztL (zL h l1) l2).objs.size] }
abbrev Zwv (h:Heap) (l1 l2 l3:Addr):Heap:=(ZwA h l1 l2 l3).push { cls:=.type "tuple",data:=.seq #[.none,.none,.none] }
abbrev Zr5 (h:Heap) (l1 l2 l3:Addr):Heap:=(Zwv h l1 l2 l3).push { cls:=.type "zip",data:=.fields #[.none,.bool false,.bool false,.ref (ZvS h l1 l2 l3).objs.size,.ref (ZwA h l1 l2 l3).objs.size] }
theorem ZnL (l1 l2 l3:Addr) (xs ys vs:Array Value):Meets (Builtin.«zip.__new__» ⟨[.type "zip",.ref l1,.ref l2,.ref l3],[]⟩) (fun _ R s=>s.heap.IsList l1 xs∧s.heap.IsTuple l2 ys∧s.heap.IsTuple l3 vs∧R (.ok (.ret (.ref (Zwv s.heap l1 l2 l3).objs.size))) { s with heap:=Zr5 s.heap l1 l2 l3 }) :=
 .of_wp fun prog w A R s h=>by
  obtain ⟨hp,g,d,tk,os⟩:=s
  obtain ⟨u1,u2,u3,h⟩:=h
  have hsub:=sub_zip
  have hL1:Heap.IsList (Shared.heap ⟨hp,g,d,tk,os⟩) l1 xs:=u1
  have hL2:Heap.IsTuple (Shared.heap ⟨hp.push { cls:=.type "list_iterator",data:=.fields #[.ref l1,.int 0 0] },g,d,tk,os⟩) l2 ys:=Heap.IsTuple.push u2 _
  have hL3:Heap.IsTuple (Shared.heap ⟨(hp.push { cls:=.type "list_iterator",data:=.fields #[.ref l1,.int 0 0] }).push { cls:=.type "tuple_iterator",data:=.fields #[.ref l2,.int 0 0] },g,d,tk,os⟩) l3 vs:=Heap.IsTuple.push (Heap.IsTuple.push u3 _) _
  wp_walk using wpAny_pyIter_list hL1,wpAny_pyIter_tuple hL2,wpAny_pyIter_tuple hL3
  exact ⟨_,rfl,h⟩
theorem Znk {l1 l2 l3:Addr} {xs ys vs:Array Value} {Q:Value→Shared→Prop} (u1:s.heap.IsList l1 xs) (u2:s.heap.IsTuple l2 ys) (u3:s.heap.IsTuple l3 vs)
  (h:∀ h',St3M s.heap.objs.size l1 l2 l3 .none 0 h'→(∀ c o,s.heap.get? c=some o→h'.get? c=some o)→Q (.ref (s.heap.objs.size+5)) { s with heap:=h' }) :
  wpAny (model prog w) A (call (.type "zip") [.ref l1,.ref l2,.ref l3]) Q E s:=by
 refine callType_new PySem.F.called_zip (by decide) (tc3 _ _ _) (nc3 _ _ _) (fun obj=>oi4 obj _ _ _) PySem.F.entry_zip_new (ZnL l1 l2 l3 xs ys vs) ⟨u1,u2,u3,?_⟩
 have q1:(zL s.heap l1).objs.size=s.heap.objs.size+1:=Heap.size_push ..
 have q2:(ztL (zL s.heap l1) l2).objs.size=s.heap.objs.size+2:=by rw [Heap.size_push,q1]
 have q3:(ZvS s.heap l1 l2 l3).objs.size=s.heap.objs.size+3:=by rw [Heap.size_push,q2]
 have q4:(ZwA s.heap l1 l2 l3).objs.size=s.heap.objs.size+4:=by rw [Heap.size_push,q3]
 have q5:(Zwv s.heap l1 l2 l3).objs.size=s.heap.objs.size+5:=by rw [Heap.size_push,q4]
 have up:∀ {c:Addr} {o:Obj},(ZvS s.heap l1 l2 l3).get? c=some o→(Zr5 s.heap l1 l2 l3).get? c=some o:=fun e=>Heap.get?_push_of_some _ (Heap.get?_push_of_some _ (Heap.get?_push_of_some _ e))
 have g6:(Zr5 s.heap l1 l2 l3).get? (Zwv s.heap l1 l2 l3).objs.size=some _:=Heap.get?_push_size _ rfl
 have g5:(Zr5 s.heap l1 l2 l3).get? (ZwA s.heap l1 l2 l3).objs.size=some _:=Heap.get?_push_of_some _ (Heap.get?_push_size _ rfl)
 have g4:(Zr5 s.heap l1 l2 l3).get? (ZvS s.heap l1 l2 l3).objs.size=some _:=Heap.get?_push_of_some _ (Heap.get?_push_of_some _ (Heap.get?_push_size _ rfl))
 have g3:(Zr5 s.heap l1 l2 l3).get? (ztL (zL s.heap l1) l2).objs.size=some _:=up (Heap.get?_push_size _ rfl)
 have g2:(Zr5 s.heap l1 l2 l3).get? (zL s.heap l1).objs.size=some _:=up (Heap.get?_push_of_some _ (Heap.get?_push_size _ rfl))
 have g1:(Zr5 s.heap l1 l2 l3).get? s.heap.objs.size=some _:=up (Heap.get?_push_of_some _ (Heap.get?_push_of_some _ (Heap.get?_push_size _ rfl)))
 rw [q3,q4,q5] at g6
 rw [q1,q2,q3] at g4
 rw [q4] at g5
 rw [q2] at g3
 rw [q1] at g2
 rw [q5]
 exact ⟨⟨_,g6,rfl⟩,h _ ⟨g6,g4,⟨_,_,_,g5⟩,⟨_,g1,rfl,rfl⟩,⟨_,g2,rfl,rfl⟩,⟨_,g3,rfl,rfl⟩⟩ fun c o x=>up (Heap.get?_push_of_some _ (Heap.get?_push_of_some _ (Heap.get?_push_of_some _ x)))⟩
end
def ZxO (K:PySem.W.Frag) (l1 l2 l3:Addr):It :=
 ⟨fun i H=>∃ xs ys vs,SqL K H l1 xs∧SqT K H l2 ys∧SqT K H l3 vs∧vs.length=ys.length∧ys.length≤xs.length∧i < ys.length,
  fun i H v H'=>∃ T x y z,H T=none∧v=.ref T∧H'=upd H T (.tup [x,y,z])∧∀ xs ys vs,SqL K H l1 xs→SqT K H l2 ys→SqT K H l3 vs→xs[i]?=some x∧ys[i]?=some y∧vs[i]?=some z,
  fun i H=>∃ xs ys,SqL K H l1 xs∧SqT K H l2 ys∧ys.length≤xs.length∧i=ys.length⟩
theorem Zm7 {P:Program} {w:World} {elts:List Expr} {k:Nat} {tpos:Pos} {n l1 l2 l3:Nat} (a1:l1 < n) (a2:l2 < n) (a3:l3 < n) :
  Zp6 P w K (.Tuple elts k tpos) (ZxO K l1 l2 l3) [n+5,n+3,n+4,n,n+1,n+2] (n+5) (St3M n l1 l2 l3 .none) where
 mem:=List.mem_cons_self
 obj:=fun i h st b hb=>by
  obtain ⟨hz,hTI,⟨a,c,d,hTO⟩,⟨o1,e1,_,d1⟩,⟨o2,e2,_,d2⟩,⟨o3,e3,_,d3⟩⟩:=st
  simp only [List.mem_cons,List.not_mem_nil,or_false] at hb
  rcases hb with rfl | rfl | rfl | rfl | rfl | rfl
  ·exact ⟨_,hz,fun v z=>by cases z⟩
  ·exact ⟨_,hTI,fun v z=>by cases z⟩
  ·exact ⟨_,hTO,fun v z=>by cases z⟩
  ·exact ⟨o1,e1,fun v z=>by rw [d1] at z;cases z⟩
  ·exact ⟨o2,e2,fun v z=>by rw [d2] at z;cases z⟩
  ·exact ⟨o3,e3,fun v z=>by rw [d3] at z;cases z⟩
 keep:=fun i h h' st kk=>st.at fun c o c1 c2 e=>kk c (of6 c1 c2) o e
 item:=by
  intro X hP hw hK hc i pins s σ H E I hf st hg
  subst hP hw hK
  obtain ⟨xs,ys,vs,hx,hy,hv,ly,lv,hi⟩:=hg
  obtain ⟨its1,r1,pl1,z1⟩:=I.list hx
  obtain ⟨its2,r2,pl2,z2⟩:=I.tuple hy
  obtain ⟨its3,r3,pl3,z3⟩:=I.tuple hv
  have gx:xs[i]?=some (xs[i]'(by omega)):=List.getElem?_eq_getElem _
  have gy:ys[i]?=some (ys[i]'(by omega)):=List.getElem?_eq_getElem _
  have gv:vs[i]?=some (vs[i]'(by omega)):=List.getElem?_eq_getElem _
  obtain ⟨v1,q1,rv1⟩:=r1.get gx
  obtain ⟨v2,q2,rv2⟩:=r2.get gy
  obtain ⟨v3,q3,rv3⟩:=r3.get gv
  have hT:s.TypeIs (.ref (n+5)) "zip":=⟨_,st.1,rfl⟩
  unfold pyNext
  refine wpAny_bind (wpAny_attempt (wpAny_callSpecial?_slot (name:=Str.ofString "__next__") hT PySem.F.slot_zip_next (wpAny_call_entry PySem.F.slot_zip_next hT PySem.F.entry_zip_next (Zro a1 a2 a3 st pl1.isList pl2 pl3 (by simpa using q1) (by simpa using q2) (by simpa using q3) fun h' st' hTup hk=>wpAny_pure ⟨.ref s.heap.objs.size,rfl,?_⟩) (PySem.F.args_zip_next_1 _))))
  refine wpAny_letOwnedTupleGo_zip st'.1 fun h2' hz' hs'=>?_
  have e':=hs'.extBut
  have hsz:(n+5:Nat) < s.heap.objs.size:=Heap.lt_size st.1
  have hnT:∀ b:Addr,b∈[n+5,n+3,n+4,n,n+1,n+2]→b≠s.heap.objs.size:=fun b hb=>nA (a:=b) (by have:=in6 (b:=b) hb;omega)
  have st2:St3M n l1 l2 l3 .none (i+1) h2':=by
   obtain ⟨_,hTI,⟨a,c,d,hTO⟩,u1,u2,u3⟩:=st'
   exact ⟨hz',e' _ _ (nA (by omega)) hTI,⟨a,c,d,e' _ _ (nA (by omega)) hTO⟩,u1.extBut e' (nA (by omega)),u2.extBut e' (nA (by omega)),u3.extBut e' (nA (by omega))⟩
  have I1:Inv X pins σ H { s with heap:=h2' }:=Inv.turneds I hf fun b o hb e=>e' _ _ (fun z=>hb (by rw [z];exact List.mem_cons_self)) (hk b o (no6 hb) e)
  have hTn:H s.heap.objs.size=none:=I.hok.fresh (Nat.le_refl _)
  have hTup2:IsTup h2' s.heap.objs.size #[v1,v2,v3]:=⟨_,e' _ _ (nA (by omega)) hTup,rfl,_,rfl⟩
  have lt:∀ {b:Addr} {o:Obj},s.heap.get? b=some o→b≠s.heap.objs.size:=fun e q=>absurd (Heap.lt_size e) (by rw [q];exact Nat.lt_irrefl _)
  have I2:Inv X pins σ (upd H s.heap.objs.size (.tup [xs[i]'(by omega),ys[i]'(by omega),vs[i]'(by omega)])) { s with heap:=h2' }:=by
   refine I1.track hTn ?_ (fun x c e=>?_) (fun p hp=>?_) ?_ ⟨by show 3≤sizeLine;decide,[v1,v2,v3],.cons rv1 (.cons rv2 (.cons rv3 .nil)),hTup2⟩
   ·obtain ⟨m,⟨o,es,ep,ho,_⟩,_⟩:=I.loc
    exact Ne.symm (lt ho)
   ·obtain ⟨v,o,ho,_⟩:=I.cell x c e
    exact lt ho
   ·exact lt (I.pin p hp).1
   ·cases e:X.s₀.heap.get? s.heap.objs.size with
    | none=>rfl
    | some o=>exact absurd (Nat.lt_of_lt_of_le (Heap.lt_size e) I.sz) (Nat.lt_irrefl _)
  refine ⟨.ref s.heap.objs.size,_,I2,rfl,⟨_,_,_,_,hTn,rfl,rfl,fun xs' ys' vs' hx' hy' hv'=>?_⟩,st2,fun b hb=>?_⟩
  ·rw [I.list_inj hx' hx,I.tuple_inj hy' hy,I.tuple_inj hv' hv];exact ⟨gx,gy,gv⟩
  ·rw [ZaT (hnT b hb)];exact (hf b hb).1
 done:=by
  intro X hP hw hK hc i pins s σ H E I hf st hg
  subst hP hw hK
  obtain ⟨xs,ys,hx,hy,ly,hi⟩:=hg
  obtain ⟨its2,r2,pl2,z2⟩:=I.tuple hy
  have n2:=r2.length
  obtain ⟨its1,r1,pl1,z1⟩:=I.list hx
  have n1:=r1.length
  have hxy:its1.toArray[i]?=none∨∃ x,its1.toArray[i]?=some x∧its2.toArray[i]?=none:=by
   rcases Nat.lt_or_ge i its1.length with z | z
   ·exact .inr ⟨its1[i],by simp [z],by simp;omega⟩
   ·exact .inl (by simp;omega)
  have hT:s.TypeIs (.ref (n+5)) "zip":=⟨_,st.1,rfl⟩
  unfold pyNext
  refine wpAny_bind (wpAny_attempt (wpAny_callSpecial?_slot (name:=Str.ofString "__next__") hT PySem.F.slot_zip_next (wpAny_call_entry PySem.F.slot_zip_next hT PySem.F.entry_zip_next (Zsv (I.ok.hd hc) a1 a2 st pl1.isList pl2 hxy fun h' e hk he=>?_) (PySem.F.args_zip_next_1 _))))
  obtain ⟨o,ho,hc'⟩:=he
  exact wpAny_bind (wpAny_isInstance (T:="StopIteration") (b:=true) ⟨o,ho,hc'⟩ isSubtype_stop (wpAny_pure ⟨rfl,Inv.turneds I hf fun b o hb e=>hk b o (no6 hb) e⟩))
 self:=fun A i s Q E st h=>wpAny_pyIter_zip st.1 h
def ZuM (K:PySem.W.Frag) (ta:TA):TI:=fun σ H R=>ta σ H fun vs H1=>∃ a b c xs ys zs,vs=[.ref a,.ref b,.ref c]∧SqL K H1 a xs∧SqT K H1 b ys∧SqT K H1 c zs∧R (ZxO K a b c) H1
theorem ZqO {X:Cx} {a b c:Expr} {ta:TA} {p pos tpos:Pos} {elts:List Expr} {k:Nat} (hg:Gl X "zip") (hm:X.mg "zip"=none) (ha:PA X [a,b,c] ta) (hs:starEach [a,b,c] X.env=[(false,eval a X.env),(false,eval b X.env),(false,eval c X.env)]) (hs2:starEach [b,c] X.env=[(false,eval b X.env),(false,eval c X.env)]) :
  PI X (.Tuple elts k tpos) (.Call (.Name "zip" p) [a,b,c] [] pos) (ZuM X.K ta):=by
 intro pins s σ H R I h
 refine Call_ (Zdp I hg hm boot_zip (PyProof.Rows.callWith_type1 (thn (ha pos pins s σ H _ I h) fun us s1 zz2=>?_) (by rw [hs,hs2]) (by rw [hs2];rfl)))
 obtain ⟨vs,H1,I1,r1,q1⟩:=zz2
 obtain ⟨l1,l2,l3,xs,ys,zs,e,hx,hy,hz,q⟩:=q1
 subst e
 obtain ⟨u,u2,u3,rfl,ru,ru2,ru3⟩:=Zs5 r1
 cases ru
 cases ru2
 cases ru3
 obtain ⟨its1,_,pl1,_⟩:=I1.list hx
 obtain ⟨its2,_,pl2,_⟩:=I1.tuple hy
 obtain ⟨its3,_,pl3,_⟩:=I1.tuple hz
 have a1:l1 < s1.heap.objs.size:=by obtain ⟨_,e,_⟩:=pl1.isList;exact Heap.lt_size e
 have a2:l2 < s1.heap.objs.size:=by obtain ⟨_,e,_⟩:=pl2;exact Heap.lt_size e
 have a3:l3 < s1.heap.objs.size:=by obtain ⟨_,e,_⟩:=pl3;exact Heap.lt_size e
 refine Znk pl1.isList pl2 pl3 fun h' st hk=>wpAny_pyIter_zip st.1 ?_
 refine ⟨_,_,_,_,H1,rfl,I1.kept (t':=s1.toks) hk,Zm7 a1 a2 a3,st,fun b hb=>?_,q⟩
 have hge:s1.heap.objs.size≤b:=(in6 (b:=b) hb).1
 exact I1.fpOk hge (I1.hok.fresh hge)
theorem ZhE:∀ (xs ys zs:List W),zs.length=ys.length→ys.length≤xs.length→(ZeA xs ys zs).length=ys.length
 | _,[],[],_,_=>by cases ‹List W› <;> rfl
 | [],_::_,_,_,h=>by simp at h
 | _,[],_::_,h,_=>by simp at h
 | _,_::_,[],h,_=>by simp at h
 | _::xs,y::ys,z::zs,h,h'=>by
  simp only [List.length_cons] at h h'
  simp only [ZeA,List.length_cons,ZhE xs ys zs (by omega) (by omega)]
def Zkh (gs:GA):GI:=fun ω G R=>gs ω G fun ws G1=>∃ x xs ys zs,ws=[x,.tup ys,.tup zs]∧rdL G1 x=some xs∧zs.length=ys.length∧ys.length≤xs.length∧R (ZeA xs ys zs) (fun G=>rdL G x=some xs) G1
theorem Zqr {gs:GA} (m:gs.M):GI.M (Zkh gs):=fun ω G R R' h q=>m _ _ _ _ (by rintro ws G1 ⟨x,xs,ys,zs,e,e1,n1,n2,r⟩;exact ⟨x,xs,ys,zs,e,e1,n1,n2,h _ _ _ r⟩) q
theorem Zq8 {X:Cx} {a b c:Expr} {p pos tpos:Pos} {elts:List Expr} {k:Nat} {gs:GA} (hm:X.mg "zip"=none) (hg:Gl X "zip") (hs:starEach [a,b,c] X.env=[(false,eval a X.env),(false,eval b X.env),(false,eval c X.env)]) (hs2:starEach [b,c] X.env=[(false,eval b X.env),(false,eval c X.env)]) (ha:Am X [a,b,c] gs) :
  Im X (.Tuple elts k tpos) (.Call (.Name "zip" p) [a,b,c] [] pos) (Zkh gs):=by
 refine ⟨⟨_,ZqO hg hm ha.p hs hs2,fun σ H ω G R R0 ts r q kk=>⟨ω,G,ts,r,ha.m _ _ _ _ (fun ws G1 z vs H1 m t r1=>?_) q⟩⟩,Zqr ha.m⟩
 obtain ⟨x,xs,ys,zs,rfl,ex,n1,n2,z⟩:=z
 cases t with
 | cons tx t =>
  cases t with
  | cons ty t =>
   cases t with
   | cons tv t =>
    cases t
    obtain ⟨c1,us1,rfl,hq1,l1⟩:=Zc0 r1 tx ex
    obtain ⟨c2,us2,rfl,hq2,l2⟩:=Zj5 ty
    obtain ⟨c3,us3,rfl,hq3,l3⟩:=Zj5 tv
    have at3:∀ {H3:Hp} {G3:Hw},Mono X.K H1 H3→RelH X.K H3 G3→rdL G3 x=some xs→∃ vs1,SqL X.K H3 c1 vs1∧TrL X.K H3 vs1 xs:=fun m3 r3 g3=>by
     obtain ⟨b1,vs1,f1,h1,t1⟩:=Zc0 r3 (tx.mono m3) g3
     cases f1
     exact ⟨_,h1,t1⟩
    refine ⟨c1,c2,c3,us1,us2,us3,rfl,hq1,hq2,hq3,kk _ _ _ H1 _ z m r1 ex ⟨fun i H3 G3 m3 r3 g3 hi=>?_,fun i H3 G3 u H4 m3 r3 g3 y3 hi=>?_,fun H3 G3 m3 r3 g3=>?_⟩⟩
    ·obtain ⟨vs1,h1,t1⟩:=at3 m3 r3 g3
     rw [ZhE _ _ _ n1 n2] at hi
     exact ⟨vs1,us2,us3,h1,m3.tup _ _ hq2,m3.tup _ _ hq3,by rw [l2.length,l3.length];exact n1,by rw [l2.length,t1.length];exact n2,by rw [l2.length];exact hi⟩
    ·obtain ⟨vs1,h1,t1⟩:=at3 m3 r3 g3
     obtain ⟨T,v1,v2,v3,hT,rfl,rfl,hv⟩:=y3
     obtain ⟨g1,g2,g4⟩:=hv _ _ _ h1 (m3.tup _ _ hq2) (m3.tup _ _ hq3)
     obtain ⟨w1,q1,tw1⟩:=t1.get' g1
     obtain ⟨w2,q2,tw2⟩:=(l2.mono m3).get' g2
     obtain ⟨w3,q3,tw3⟩:=(l3.mono m3).get' g4
     have mn:Mono X.K H3 (upd H3 T (.tup [v1,v2,v3])):=Mono.new hT _
     exact ⟨mn,r3.mono0 hT,_,Zjc _ _ _ i q1 q2 q3,.tup (SqT.of Zbj) (.cons (tw1.mono mn) (.cons (tw2.mono mn) (.cons (tw3.mono mn) .nil)))⟩
    ·obtain ⟨vs1,h1,t1⟩:=at3 m3 r3 g3
     exact ⟨vs1,us2,h1,m3.tup _ _ hq2,by rw [l2.length,t1.length];exact n2,by rw [ZhE _ _ _ n1 n2,l2.length]⟩
end L3
set_option Elab.async false
set_option linter.all false
set_option maxRecDepth 100000
set_option maxHeartbeats 4000000
namespace L3
open PySem PySem.Spec PyProof.Rows L2
variable {K:PySem.W.Frag} {H H' H2:Hp}
def ZtW (x y:W) (G:Hw):Option W:=(rdL G y).bind fun ws=>(ZqL x ws).map fun b=>.bl (!b)
def ZuH (K:PySem.W.Frag):R2:=fun v u H Q=>∃ p vs ws x b,u=.ref p∧SqL K H p vs∧TrL K H vs ws∧Tr K H v x∧ZqL x ws=some b∧Q (.bl (!b)) H
open Classical in
theorem Zsx {X:Cx} (hu:X.A.units+100 < cLine):OpR X (compareOp .NotIn) (ZuH X.K):=by
 intro pins s σ H x y v u Q I rx ry h
 obtain ⟨p,vs,ws,xw,b,rfl,hq,tl,tx,e,q⟩:=h
 cases ry
 obtain ⟨its,r,pl,hz⟩:=I.list hq
 obtain ⟨f,hf,hb⟩:=Zln e
 have l1:=r.length
 have l2:=tl.length
 have at':∀ (i:Nat) (z:Value),its[i]?=some z→SeqAt.EqAt X.A.in1 s z v (f i):=fun i z hi=>by
  have hlt:i < its.length:=by
   rcases Nat.lt_or_ge i its.length with h | h
   ·exact h
   ·rw [List.getElem?_eq_none h] at hi;cases hi
  have gv:vs[i]?=some (vs[i]'(by omega)):=List.getElem?_eq_getElem _
  obtain ⟨z',g',rz⟩:=r.get gv
  rw [hi] at g';cases g'
  obtain ⟨w,gw,tw⟩:=tl.get' gv
  obtain ⟨h1,h2⟩:=hf i w gw
  exact Zlr I 99 _ _ _ _ _ _ _ X.A.in1 (by omega) tw tx rz rx h1 (by show X.A.units+1+99 < cLine;omega)
 refine SeqAt.notIn_listAt (fun z=>decide (∃ i,its[i]?=some z∧f i=true)) pl.isList (fun z hz'=>?_) ⟨.bl (!b),H,I,?_,q⟩
 ·have hm:z∈its:=by simpa using hz'
  obtain ⟨i,hi,rfl⟩:=List.getElem_of_mem hm
  have gi:its[i]?=some its[i]:=List.getElem?_eq_getElem hi
  by_cases h:∃ j,its[j]?=some its[i]∧f j=true
  ·obtain ⟨j,g,hj⟩:=h
   have:=at' j _ g
   rw [hj] at this
   rw [decide_eq_true ⟨j,g,hj⟩];exact this
  ·have:=at' i _ gi
   rw [decide_eq_false h]
   cases hfi:f i with
   | false=>rw [hfi] at this;exact this
   | true=>exact absurd ⟨i,gi,hfi⟩ h
 ·show RelV (.bl (!b)) (.bool _)
  have:(its.toArray.any fun z=>decide (∃ i,its[i]?=some z∧f i=true))=b:=by
   rw [Bool.eq_iff_iff,hb]
   simp only [List.any_toArray,List.any_eq_true,decide_eq_true_eq]
   constructor
   ·rintro ⟨z,hz',i,hi,hfi⟩
    refine ⟨i,?_,hfi⟩
    rcases Nat.lt_or_ge i its.length with h | h
    ·omega
    ·rw [List.getElem?_eq_none h] at hi;cases hi
   ·rintro ⟨j,hj,hfj⟩
    have hj':j < its.length:=by omega
    exact ⟨its[j],List.getElem_mem hj',j,List.getElem?_eq_getElem hj',hfj⟩
  rw [this];rfl
theorem ZsO (x y:W) (v u:V) (G:Hw) (H:Hp) (Q:VK) (tx:Tr K H v x) (ty:Tr K H u y) (r:RelH K H G) (q:Zan ZtW x y G (dn K H Q)):ZuH K v u H Q:=by
 obtain ⟨w,e,q'⟩:=Zeg q
 obtain ⟨ws,e1,e2⟩:=Option.bind_eq_some_iff.mp e
 obtain ⟨b,e3,e4⟩:=Option.map_eq_some_iff.mp e2
 subst e4
 obtain ⟨a,vs,rfl,hq,t⟩:=Zc0 r ty e1
 exact ⟨a,vs,ws,x,b,rfl,hq,t,tx,e3,q' _ H .refl (.bl _) r⟩
theorem Zqs {X:Cx} (hu:X.A.units+100 < cLine):Cop X .NotIn (Zan ZtW):=⟨⟨_,Zsx hu,ZsO⟩,ZeG⟩
def isB (x y:W) (_:Hw):Option W:=match x,y with | .bl a,.bl b=>some (.bl (!(a==b))) | _,_=>none
theorem Zu1 {X:Cx}:OpR X (compareOp .IsNot) (fun x y H Q=>∃ a b,x=.bl a∧y=.bl b∧Q (.bl (!(a==b))) H):=by
 intro pins s σ H x y v u Q I rx ry h
 obtain ⟨a,b,rfl,rfl,q⟩:=h
 cases rx
 cases ry
 refine wpAny_isNot_plain (by cases a <;> cases b <;> rfl) (ZaU I q ?_)
 cases a <;> cases b <;> rfl
theorem Zsd {X:Cx}:Cop X .IsNot (Zan isB):=⟨⟨_,Zu1,fun x y v u G H Q tx ty r q=>by
 obtain ⟨w,e,q'⟩:=Zeg q
 cases tx <;> first | (cases e;done) | skip
 cases ty <;> first | (cases e;done) | skip
 cases e
 exact ⟨_,_,rfl,rfl,q' _ H .refl (.bl _) r⟩⟩,ZeG⟩
end L3
namespace L3
open PySem PySem.Spec PyProof.Rows L2
section
variable {prog:Program} {w:World} {A:Around} {E:Value→Shared→Prop} {s:Shared}
theorem ZsZ:typeLookup (.type "list") "keys"=pure none:=by rw [typeLookup_type,builtinLookup_eq_fast];kernel_rfl
set_option maxRecDepth 8000 in
theorem Zog {a:Addr} {xs:Array Value} {k:Nat} {sl:Array (Option Value)} {Q:Option Value→Shared→Prop} (hx:s.heap.get? a=some { cls:=.type "list",dict:=none,data:=.seq xs k,slots:=sl }) (hA:A.handled=none)
  (h:∀ h' tk,(∀ b o,s.heap.get? b=some o→h'.get? b=some o)→Q none { s with heap:=h',toks:=tk }):wpAny (model prog w) A (getAttr? (.ref a) "keys") Q E s:=by
 obtain ⟨hp,g,d,tk,os⟩:=s
 have hT:∀ tk',(⟨hp,g,d,tk',os⟩:Shared).TypeIs (.ref a) "list":=fun _=>⟨_,hx,rfl⟩
 have f1:=sub_AttributeError
 have f3:=F.slot_list_getattribute.lookup
 have f4:=F.slot_list_getattribute.bind (.ref a)
 have f5:=am_list_getattr_none
 unfold getAttr? getAttrBy? getAttrBy
 repeat (any_goals (first | assumption | exact hT _ | ((with_reducible show wpAny _ _ (call (Value.builtin "list.__getattribute__") _ _) _ _ _);refine call_meets F.slot_list_getattribute (hT _) am_entry_list_getattribute (F.args_list_getattribute_2 _ _) (meets_getattribute_miss_list a xs k sl "keys" _ ZsZ (by decide +kernel) (by decide)) ⟨hx,hA,fun h' tk' e hx'=>?_⟩) | wp_step))
 obtain ⟨t',u',he⟩:=hx'.there
 have hT2:∀ tk',(⟨h',g,d,tk',os⟩:Shared).TypeIs (.ref e) "AttributeError":=fun _=>⟨_,he,rfl⟩
 show wpAny _ _ (getattributeRaised _ _ _ _ _ _ _) _ _ _
 unfold getattributeRaised
 repeat (any_goals (first | assumption | exact hT2 _ | wp_step))
 exact h _ _ hx'.of.keeps
end
end L3
namespace L3
open PySem PySem.Spec PyProof.Rows L2
theorem Zem:entryFor table "dict.update.loop"=some Builtin.«dict.update.loop»:=entryFor_of_tree (by kernel_rfl)
theorem Zct:plainId "dict.update.loop"=true:=by decide +kernel
section
variable {prog:Program} {w:World} {A:Around} {E:Value→Shared→Prop} {s:Shared}
theorem Zsq {S p:Addr} {x:Str} {t:Tok} {v:Value} {kvs:List (Key×Value)} {i:Int} {Q:Unit→Shared→Prop} (hp:s.heap.IsTuple p #[.str x t,v]) (hS:s.heap.DictOf (Zb0 prog w) S kvs) (hn:kvs.length≤sizeLine)
  (h:∀ h',h'.DictOf (Zb0 prog w) S (stored kvs (.inr x) v)→Heap.SameBut S s.heap h'→Q () { s with heap:=h',toks:=s.toks+1 }) :
  wpAny (model prog w) A (holding [Value.ref p] do
   let pair ← (Builtin.Dict.pairItems (.ref p)).tryCatch fun e=>do
    if !(← isInstance e (.type "TypeError")) then throw e
    rule "dict.update.element-no-sequence"
    raiseError "TypeError" s!"cannot convert dictionary update sequence element #{i} to a sequence"
   match pair with
   | [k,v]=>holding [k,v] (dictSet S k v)
   | l =>
    rule "dict.update.element-length"
    raiseError "ValueError" s!"dictionary update sequence element #{i} has length {l.length}; 2 is required") Q E s:=by
 refine wpAny_holding ?_
 have hT:s.TypeIs (.ref p) "tuple":=hp.typeIs
 have hk:wpAny (model prog w) A (Builtin.Dict.pairItems (.ref p)) (fun r s'=>r=[Value.str x t,v]∧s'=s) (fun _ _=>False) s:=by
  obtain ⟨o,ho,hc,n,hd⟩:=hp
  unfold Builtin.Dict.pairItems
  refine wpAny_bind (wpAny_typeOf hT ?_)
  rw [if_pos (by decide)]
  refine wpAny_bind (wpAny_seqItems ho hd ?_)
  exact wpAny_pure ⟨rfl,rfl⟩
 refine wpAny_bind (wpAny_tryCatch (wpAny_mono hk ?_ fun _ _ z=>z.elim))
 rintro r s' ⟨rfl,rfl⟩
 refine wpAny_holding ?_
 exact wpAny_dictSet_pairs (knd:=Zb0 prog w) (k:=.inr x) (by simp [Zb0,Zqe,Value.isStrOf]) hS h hn
theorem Zpv {R:Result→Shared→Prop} {I:Addr} {fp wr:List Addr} {G:Array GenState→Array GenState→Prop} {n:Nat} {P:Nat→Value→Prop} {St:Nat→Shared→Prop} (W:WalksS prog w A.in1 I fp wr G n P St) {S:Addr} (hSf:S∉fp)
  {ps:List (Str×Value)} (hps:ps.length=n):∀ (k i:Nat) (s:Shared) (u:Tok) (kvs:List (Key×Value)),n - i=k→i≤n→St i s→s.heap.DictOf (Zb0 prog w) S kvs→kvs.length+k≤sizeLine →
   (∀ j v,i≤j→j < n→P j v→∃ p t y,v=.ref p∧p∉S::wr∧ps[j]?=some y∧s.heap.IsTuple p #[.str y.1 t,y.2]) →
   (∀ s',Moved (S::wr) G s s'→s'.heap.DictOf (Zb0 prog w) S (merged kvs ((ps.drop i).map fun y=>(Sum.inr y.1,y.2)))→R (.ok (.ret .none)) s') →
   codeAny (model prog w) A (.builtin "dict.update.loop" ⟨[.ref S,.ref I,.int i u,.none],[]⟩) R s:=by
 have hSw:S∉wr:=fun z=>hSf (W.sub _ z)
 have hsub:∀ b∈wr,b∈S::wr:=fun b z=>List.mem_cons_of_mem _ z
 intro k
 induction k with
 | zero =>
  intro i s u kvs hk hi hst hS _ _ hR
  obtain rfl:i=n:=by omega
  refine codeAny_builtin Zem ?_
  rw [Around.under_plainId Zct _]
  refine wpAny_bind (m:=pyNext (.ref I)) (W.done s _ _ hst fun s' hm=>?_)
  refine wpAny_bind (wpAny_pure (wpAny_pure (hR s' (hm.mono hsub) ?_)))
  rw [List.drop_eq_nil_of_le (by omega)]
  obtain ⟨o,es,ep,ho,r⟩:=hS
  exact ⟨o,es,ep,hm.heap S o hSw ho,r⟩
 | succ k ih =>
  intro i s u kvs hk hi hst hS hn hP hR
  have hlt:i < n:=by omega
  refine codeAny_builtin Zem ?_
  rw [Around.under_plainId Zct _]
  refine wpAny_bind (m:=pyNext (.ref I)) (W.item i s _ _ hlt hst fun v s1 hPv hst1 hm=>?_)
  obtain ⟨p,t,y,rfl,hpn,hy,htup⟩:=hP i v (Nat.le_refl _) hlt hPv
  have hS1:s1.heap.DictOf (Zb0 prog w) S kvs:=by
   obtain ⟨o,es,ep,ho,r⟩:=hS
   exact ⟨o,es,ep,hm.heap S o hSw ho,r⟩
  have htup1:s1.heap.IsTuple p #[.str y.1 t,y.2]:=htup.at fun o e=>hm.heap p o (fun z=>hpn (hsub _ z)) e
  refine wpAny_bind (Zsq (i:=i) htup1 hS1 (by omega) fun h' hS2 hsb=>?_)
  have hdrop:ps.drop i=y::ps.drop (i+1):=by
   rw [List.drop_eq_getElem_cons (by omega)]
   rw [List.getElem?_eq_getElem (by omega)] at hy
   rw [Option.some.inj hy]
  refine wpAny_pure ⟨plainId_quiet Zct _,ih (i+1) _ _ (stored kvs (.inr y.1) y.2) (by omega) hlt (W.frame _ s1 _ _ hst1 (Nat.le_succ _) fun c hc o e=>?_) hS2 ?_ (fun j v h1 h2 hv=>?_) fun s2 hm2 hS3=>?_⟩
  ·rw [hsb.2 c fun z:c=S=>hSf (by rw [← z];exact hc)];exact e
  ·have:=merged_length_le kvs [((Sum.inr y.1:Key),y.2)]
   have e:merged kvs [((Sum.inr y.1:Key),y.2)]=stored kvs (.inr y.1) y.2:=rfl
   rw [e] at this
   simp only [List.length_cons,List.length_nil] at this
   omega
  ·obtain ⟨p',t',y',e1,e2,e3,e4⟩:=hP j v (by omega) h2 hv
   refine ⟨p',t',y',e1,e2,e3,(e4.at fun o e=>hm.heap p' o (fun z=>e2 (hsub _ z)) e).at fun o e=>?_⟩
   rw [hsb.2 p' fun z:p'=S=>e2 (by rw [z];exact List.mem_cons_self)];exact e
  ·refine hR s2 (Moved.trans W.gtrans ((hm.mono hsub).then_heap (Nat.le_succ _) fun c o hc e=>?_) hm2) ?_
   ·rw [hsb.2 c fun z:c=S=>hc (by rw [z];exact List.mem_cons_self)];exact e
   ·rw [hdrop];exact hS3
end
end L3
namespace L3
open PySem PySem.Spec PyProof.Rows L2
section
variable {prog:Program} {w:World} {A:Around} {E:Value→Shared→Prop} {s:Shared}
theorem Znj {l:Addr} {items:Array Value} {n:Nat} {sl:Array (Option Value)} {ps:List (Str×Value)} {Q:Value→Shared→Prop} (hh:A.handled=none) (hl:s.heap.get? l=some { cls:=.type "list",dict:=none,data:=.seq items n,slots:=sl })
  (hit:∀ (j:Nat) (v:Value),items[j]?=some v→∃ p t y,v=.ref p∧ps[j]?=some y∧s.heap.IsTuple p #[.str y.1 t,y.2]) (hps:ps.length=items.size) (hsz:ps.length≤sizeLine) (hn:(ps.map (·.1)).Nodup)
  (h:∀ h' tk,h'.DictOf (Zb0 prog w) s.heap.objs.size (ps.map fun y=>(Sum.inr y.1,y.2))→(∀ b o,b < s.heap.objs.size→s.heap.get? b=some o→h'.get? b=some o)→Q (.ref s.heap.objs.size) { s with heap:=h',toks:=tk }) :
  wpAny (model prog w) A (call (.type "dict") [.ref l]) Q E s:=by
 refine callType_codes (Q₁:=fun obj s₁=>obj=.ref s.heap.objs.size∧s₁={ s with heap:=s.heap.push { cls:=.type "dict",data:=.dict #[] } }) F.kt_called_dict (F.kt_typeCall_dict_1 _) F.entry_dict_init (kt_code_dict_new _ ⟨rfl,rfl⟩) ?_
 rintro obj s₁ ⟨rfl,rfl⟩
 have hnew:(s.heap.push { cls:=.type "dict",data:=.dict #[] }).DictOf (Zb0 prog w) s.heap.objs.size []:=Heap.DictOf.new s.heap
 have hl1:(s.heap.push { cls:=.type "dict",data:=.dict #[] }).get? l=some { cls:=.type "list",dict:=none,data:=.seq items n,slots:=sl }:=Heap.get?_push_of_some _ hl
 refine ⟨hnew.typeIs,F.args_dict_init_2 _ _,?_⟩
 unfold Builtin.«dict.__init__»
 refine wpAny_bind ?_
 unfold Builtin.Dict.selfAndRest
 refine wpAny_bind (wpAny_notOrdered_dict hnew.typeIs ?_)
 show wpAny _ _ (pure (s.heap.objs.size,[Value.ref l])) _ _ _
 refine wpAny_pure ?_
 show wpAny _ _ (Builtin.Dict.updateFrom "dict.__init__" s.heap.objs.size (.ref l) [] .none) _ _ _
 unfold Builtin.Dict.updateFrom
 refine wpAny_bind (wpAny_typeOf (T:="list") ⟨_,hl1,rfl⟩ ?_)
 rw [if_pos (by decide)]
 refine wpAny_bind (Zog hl1 (by simp [hh]) fun h2 tk2 k2=>?_)
 simp only [Option.isNone_none,if_true]
 refine wpAny_bind (wpAny_rule ?_)
 have hl2:h2.IsList l items:=⟨_,k2 _ _ hl1,rfl,n,rfl⟩
 have hS2:h2.DictOf (Zb0 prog w) s.heap.objs.size []:=by
  obtain ⟨o,es,ep,ho,r⟩:=hnew
  exact ⟨o,es,ep,k2 _ _ ho,r⟩
 have hlS:l < s.heap.objs.size:=Heap.lt_size hl
 have hS2s:s.heap.objs.size < h2.objs.size:=by
  obtain ⟨o,es,ep,ho,r⟩:=hS2
  exact Heap.lt_size ho
 refine wpAny_bind (wpAny_pyIter_list hl2 ?_)
 refine wpAny_pure ⟨plainId_quiet Zct _,?_⟩
 have hneI:l≠h2.objs.size:=Nat.ne_of_lt (Nat.lt_trans hlS hS2s)
 have hSf:s.heap.objs.size∉[h2.objs.size,l]:=by
  simp only [List.mem_cons,List.not_mem_nil,or_false,not_or]
  exact ⟨Nat.ne_of_lt hS2s,Nat.ne_of_gt hlS⟩
 refine Zpv (A:=A.in1) ((Walks.list (by simp [hh]) _ l hneI items).toS) hSf (ps:=ps) hps (items.size - 0) 0 _ _ [] (by omega) (Nat.zero_le _) ⟨⟨_,Heap.get?_push_size _ rfl,rfl,rfl⟩,hl2.push _⟩ (hS2.push _) (by simp only [List.length_nil];omega) ?_ ?_
 ·intro j v _ _ hv
  obtain ⟨p,t,y,e1,e2,e3⟩:=hit j v hv
  have hp:p < s.heap.objs.size:=by obtain ⟨o,ho,_⟩:=e3;exact Heap.lt_size ho
  refine ⟨p,t,y,e1,?_,e2,(e3.at fun o e=>k2 _ _ (Heap.get?_push_of_some _ e)).push _⟩
  simp only [List.mem_cons,List.not_mem_nil,or_false,not_or]
  exact ⟨Nat.ne_of_lt hp,Nat.ne_of_lt (Nat.lt_trans hp hS2s)⟩
 ·intro s' hm hS'
  obtain ⟨h',g',d',tk',os'⟩:=s'
  obtain rfl:g'=s.gens:=hm.gens
  obtain rfl:d'=s.drawn:=hm.drawn
  obtain rfl:os'=s.os:=hm.os
  refine ⟨rfl,h h' tk' ?_ fun b o hb e=>?_⟩
  ·rw [List.drop_zero,merged_nil_of_nodup _ ?_] at hS'
   ·exact hS'
   ·rw [List.map_map]
    have:((fun x:Key×Value=>x.1)∘fun y:Str×Value=>((Sum.inr y.1:Key),y.2))=(fun x:Str=>(Sum.inr x:Key))∘(·.1):=rfl
    rw [this,← List.map_map]
    exact List.Pairwise.map _ (fun a b hab z=>hab (Sum.inr.inj z)) hn
  ·refine hm.heap b o ?_ (Heap.get?_push_of_some _ (k2 _ _ (Heap.get?_push_of_some _ e)))
   simp only [List.mem_cons,List.not_mem_nil,or_false,not_or]
   exact ⟨Nat.ne_of_lt hb,Nat.ne_of_lt (Nat.lt_trans hb hS2s)⟩
end
end L3
namespace L3
open PySem PySem.Spec PyProof.Rows L2
def ZqY {α:Type} (kvs:List (Key×α)) (x:Str) (d:α):α:=((kvs.find? fun y=>decide (y.1=Sum.inr x)).map (·.2)).getD d
theorem ZfF {α:Type} {k:Key} {v d:α} {kvs:List (Key×α)} {x:Str}:ZqY ((k,v)::kvs) x d=if k=Sum.inr x then v else ZqY kvs x d:=by
 unfold ZqY
 rw [List.find?_cons]
 by_cases h:k=Sum.inr x
 ·simp [h]
 ·simp [h]
theorem ZrP {x:Str} {d:V} {r:Value} (rd:RelV d r):∀ {kvs:List (Key×V)} {vs:List (Key×Value)},KV kvs vs→RelV (ZqY kvs x d) ((valueAt vs (Sum.inr x)).getD r)
 | _,_,.nil=>rd
 | (k,v)::kvs,(k',v')::vs,.cons ⟨e,rv⟩ t=>by
  have ih:=ZrP (x:=x) rd t
  cases (show k=k' from e)
  rw [ZfF]
  unfold valueAt at ih ⊢
  rw [List.find?_cons]
  by_cases h:k=Sum.inr x
  ·simp [h];exact rv
  ·simp [h];exact ih
theorem Zoq {K:PySem.W.Frag} {H:Hp} {x:Str} {d:V} {w:W} (td:Tr K H d w):∀ {vs:List (Key×V)} {ws:List (Key×W)},TrP K H vs ws→Tr K H (ZqY vs x d) (ZqY ws x w)
 | _,_,.nil=>td
 | (k,v)::vs,(_,u)::ws,.cons tv t=>by
  rw [ZfF,ZfF]
  split
  ·exact tv
  ·exact Zoq td t
def ZwD (o:W) (ws:List W) (G:Hw) (Q:Kw):Prop:=∃ p kvs x d,o=.ref p∧ws=[.str x,d]∧G p=some (.dct kvs)∧Q (ZqY kvs x d) G
def Ztk (o:W) (G:Hw):Prop:=∃ p kvs,o=.ref p∧G p=some (.dct kvs)
theorem Zuj {X:Cx}:MtR X "dict.get" (fun v vs H Q=>∃ p kvs x d,v=.ref p∧vs=[.str x,d]∧H p=some (.dK kvs)∧Q (ZqY kvs x d) H):=by
 intro pins s σ H x vs v us Q I rx rv h
 obtain ⟨p,kvs,x,d,rfl,rfl,hH,q⟩:=h
 cases rx
 cases rv with
 | cons r1 t =>
  cases t with
  | cons r2 t =>
   cases t
   obtain ⟨t,rfl⟩:=r1
   obtain ⟨z,hd,vs,rel,dd⟩:kvs.length≤sizeLine∧(p==sysModules)=false∧∃ vs,KV kvs vs∧s.heap.DictOf (Zb0 X.prog X.w) p vs:=I.hok p _ hH
   refine call_meetsIn PySem.F.slot_dict_get dd.typeIs PySem.F.entry_dict_get (PySem.F.args_dict_get_3 _ _ _) (meets_dict_get_default (Zb0 X.prog X.w) p (k:=Sum.inr x) (by simp [Zb0,Zqe,Value.isStrOf]) hd _) ⟨_,dd.mapOf,?_⟩
   exact ⟨_,H,I.tok _,ZrP r2 rel,q⟩
theorem Zse {X:Cx}:Mth X "dict" "get" "dict.get" Ztk ZwD where
 pa:=PySem.F.plainAttrs_dict
 slot:=PySem.F.slot_dict_get
 ty:=PySem.F.type_dict_get
 ex:=⟨_,Zuj,fun o ws v vs G H Q tv tvs r q=>by
  obtain ⟨p,kvs,x,d,rfl,rfl,e,q⟩:=q
  cases tv
  cases tvs with
  | cons t1 t =>
   cases t with
   | cons t2 t =>
    cases t
    cases t1
    obtain ⟨us,e1,l⟩:=r p _ e
    exact ⟨p,us,x,_,rfl,rfl,e1,q _ _ .refl (Zoq t2 l) r⟩⟩
 pr:=fun o v G H t r h=>by
  obtain ⟨p,kvs,rfl,e⟩:=h
  cases t
  obtain ⟨us,e1,l⟩:=r p _ e
  exact .inr (.inr (.inl ⟨rfl,.inl ⟨us,e1⟩⟩))
 m:=(by rintro o ws G Q Q' h ⟨p,kvs,x,d,h1,h2,h3,q⟩;exact ⟨p,kvs,x,d,h1,h2,h3,h _ _ q⟩)
end L3
namespace L3
open PySem PySem.Spec PyProof.Rows L2
inductive PV (K:PySem.W.Frag) (H:Hp):List V→List (Str×V)→Prop where
 | nil:PV K H [] []
 | cons {q:Addr} {x:Str} {v:V} {ys:List V} {pv:List (Str×V)}:SqT K H q [.str x,v]→PV K H ys pv→PV K H (.ref q::ys) ((x,v)::pv)
theorem ZuT {K:PySem.W.Frag} {H:Hp}:∀ {ws:List (Str×W)} {vs:List V},TrL K H vs (ws.map fun y=>.tup [.str y.1,y.2])→∃ pv,PV K H vs pv∧TrP K H pv ws
 | [],_,.nil=>⟨[],.nil,.nil⟩
 | (x,w)::ws,_,.cons t r=>by
  obtain ⟨pv,h1,h2⟩:=ZuT r
  cases t with
  | tup hq l =>
   cases l with
   | cons t1 l =>
    cases l with
    | cons t2 l =>
     cases l
     cases t1
     exact ⟨(x,_)::pv,.cons hq h1,.cons t2 h2⟩
theorem ZnQ {K:PySem.W.Frag} {H:Hp}:∀ {pv:List (Str×V)} {ws:List (Str×W)},TrP K H pv ws→TrP K H (pv.map fun y=>((Sum.inr y.1:Key),y.2)) (ws.map fun y=>((Sum.inr y.1:Key),y.2))
 | _,_,.nil=>.nil
 | _,_,.cons t r=>.cons t (ZnQ r)
theorem ZoF {K:PySem.W.Frag} {H:Hp}:∀ {pv:List (Str×V)} {ws:List (Str×W)},TrP K H pv ws→pv.map (·.1)=ws.map (·.1)
 | _,_,.nil=>rfl
 | _,_,.cons t r=>by rw [List.map_cons,List.map_cons,ZoF r]
theorem ZoN {X:Cx} {pins:List (Addr×Obj)} {σ:St} {H:Hp} {s:Shared} (I:Inv X pins σ H s):∀ {ys:List V} {pv:List (Str×V)} {its:List Value},PV X.K H ys pv→Vals ys its →
  ∃ ps:List (Str×Value),KV (pv.map fun y=>((Sum.inr y.1:Key),y.2)) (ps.map fun y=>((Sum.inr y.1:Key),y.2))∧ps.map (·.1)=pv.map (·.1)∧ps.length=its.length∧∀ (j:Nat) (v:Value),its[j]?=some v→∃ p t y,v=.ref p∧ps[j]?=some y∧s.heap.IsTuple p #[.str y.1 t,y.2]
 | _,_,_,.nil,r=>by
  cases r
  exact ⟨[],.nil,rfl,rfl,fun j v h=>by simp at h⟩
 | _,_,_,.cons (q:=q) (x:=x) (v:=v) (pv:=pv) hq h,r=>by
  cases r with
  | cons r1 r2 =>
   obtain ⟨ps,h1,h2,h3,h4⟩:=ZoN I h r2
   cases (show _=Value.ref q from r1)
   obtain ⟨it,ri,pt,_⟩:=I.tuple hq
   cases ri with
   | cons a1 t =>
    cases t with
    | cons a2 t =>
     cases t
     obtain ⟨t,rfl⟩:=a1
     refine ⟨(x,_)::ps,.cons ⟨rfl,a2⟩ h1,by rw [List.map_cons,List.map_cons,h2],by rw [List.length_cons,List.length_cons,h3],fun j u hu=>?_⟩
     cases j with
     | zero =>
      rw [List.getElem?_cons_zero] at hu
      cases hu
      exact ⟨q,t,_,rfl,List.getElem?_cons_zero,pt⟩
     | succ j =>
      rw [List.getElem?_cons_succ] at hu
      obtain ⟨p,t',y,e1,e2,e3⟩:=h4 j u hu
      exact ⟨p,t',y,e1,by rw [List.getElem?_cons_succ];exact e2,e3⟩
theorem ZjN {X:Cx} (hc:X.calm=true):CallR X (.type "dict") (fun xs H Q=>∃ p ys pv,xs=[.ref p]∧SqL X.K H p ys∧PV X.K H ys pv∧(pv.map (·.1)).Nodup∧∀ l,H l=none→Q (.ref l) (upd H l (.dK (pv.map fun y=>((Sum.inr y.1:Key),y.2))))):=by
 intro pins s σ H xs us Q I r h
 obtain ⟨p,ys,pv,rfl,hq,hpv,hn,q⟩:=h
 obtain ⟨u,rfl,rx⟩:=ZjL r
 cases rx
 obtain ⟨its,r',pl,hz⟩:=I.list hq
 obtain ⟨o,n,ho,hcl,hdi,hda⟩:=pl
 obtain ⟨oc,od,oda,osl⟩:=o
 simp only at hcl hdi hda
 subst hcl hdi hda
 obtain ⟨ps,h1,h2,h3,h4⟩:=ZoN I hpv r'
 have hl:=r'.length
 have hkl:=Paired.length h1
 rw [List.length_map,List.length_map] at hkl
 refine Znj (ps:=ps) (I.ok.hd hc) ho (fun j v hv=>h4 j v (by simpa using hv)) (by rw [List.size_toArray];exact h3) (by omega) (by rw [h2];exact hn) fun h' tk dd keep=>?_
 have big:sysModules < s.heap.objs.size:=by
  have h:mainGlobals < s.heap.objs.size:=(I.mod.glob.keeps I.bk).lt
  exact Nat.lt_trans (by decide) h
 have I2:Inv X pins σ (upd H s.heap.objs.size (.dK (pv.map fun y=>((Sum.inr y.1:Key),y.2)))) { s with heap:=h',toks:=tk } :=
  I.laid (t':=tk) (fun b u e=>keep b u (Heap.lt_size e) e) (Nat.le_refl _) (show ObjOk X.prog X.w _ _ _ (.dK _) from ⟨by rw [List.length_map];omega,by simpa using Nat.ne_of_gt big,_,h1,dd⟩)
 exact ⟨.ref s.heap.objs.size,_,I2,rfl,q _ (I.hok.fresh (Nat.le_refl _))⟩
def Zqv (ws:List W) (G:Hw) (Q:Kw):Prop:=∃ p,∃ ps:List (Str×W),ws=[.ref p]∧G p=some (.lst (ps.map fun y=>.tup [.str y.1,y.2]))∧(ps.map (·.1)).Nodup∧∀ l,G l=none→Q (.ref l) (put G l (.dct (ps.map fun y=>((Sum.inr y.1:Key),y.2))))
theorem Zth:RWc.M Zqv:=(by rintro ws G Q Q' h ⟨p,ps,h1,h2,h3,q⟩;exact ⟨p,ps,h1,h2,h3,fun l hl=>h _ _ (q l hl)⟩)
theorem Zqy {K:PySem.W.Frag}:UpC K Zqv (fun xs H Q=>∃ p ys pv,xs=[.ref p]∧SqL K H p ys∧PV K H ys pv∧(pv.map (·.1)).Nodup∧∀ l,H l=none→Q (.ref l) (upd H l (.dK (pv.map fun y=>((Sum.inr y.1:Key),y.2))))):=fun ws vs G H Q t r q=>by
 obtain ⟨p,ps,rfl,hp,hn,q⟩:=q
 cases t with
 | cons tw t =>
  cases t
  cases tw
  obtain ⟨us,e1,l⟩:=r p _ hp
  obtain ⟨pv,h1,h2⟩:=ZuT l
  refine ⟨p,us,pv,rfl,.inl (Rd.of e1),h1,by rw [ZoF h2];exact hn,fun l hl=>?_⟩
  have hG:G l=none:=by
   cases e:G l with
   | none=>rfl
   | some o =>
    have:=r l o e
    cases o with
    | lst ws=>obtain ⟨_,z,_⟩:=this;rw [hl] at z;cases z
    | exc C=>rw [show H l=_ from this] at hl;cases hl
    | ins C ws=>obtain ⟨_,_,z,_⟩:=this;rw [hl] at z;cases z
    | dct ws=>obtain ⟨_,z,_⟩:=this;rw [hl] at z;cases z
  exact q l hG _ _ (Mono.new hl _) (.ref l) (RelH.laid r (Mono.new hl _) ⟨_,Zbj,(ZnQ h2).mono (Mono.new hl _)⟩)
theorem ZpY {X:Cx} (hc:X.calm=true):Blt X (.type "dict") Zqv:=⟨⟨_,ZjN hc,Zqy⟩,Zth⟩
end L3
set_option Elab.async false
set_option linter.all false
set_option maxRecDepth 100000
set_option maxHeartbeats 4000000
namespace L3
open PySem PySem.Spec PyProof.Rows L2
section
variable {X:Cx} {e:Expr} {p1 p3 q1 q3:Pos} {ta:TE}
def Zt9 (K:PySem.W.Frag) (ta:TE):TE:=fun σ H Q=>ta σ H fun x H2=>∃ (p:Addr) (xs:List Str),x=.ref p∧SqL K H2 p (xs.map V.str)∧xs.length < 64 ∧
 ∀ (zs:List Str) (r:Addr),zs.Nodup→sortedS zs=true→(∀ x,x∈zs↔x∈xs)→H2 r=none→Q (.ref r) (upd H2 r (.lst (zs.map V.str)))
theorem Zrg (hc:X.calm=true) (n1:X.mg "sorted"=none) (n2:X.mg "set"=none) (g1:Gl X "sorted") (g2:Gl X "set") (h1:starEach [e] X.env=(false,eval e X.env)::starEach [] X.env)
  (h3:starEach [.Call (.Name "set" p1) [e] [] q1] X.env=(false,eval (.Call (.Name "set" p1) [e] [] q1) X.env)::starEach [] X.env) (ha:PE X e ta) :
  PE X (.Call (.Name "sorted" p3) [.Call (.Name "set" p1) [e] [] q1] [] q3) (Zt9 X.K ta):=by
 intro pins s σ H Q I h
 have bS:bootBuiltins "sorted"=some (.builtin "sorted"):=by decide +kernel
 have bT:bootBuiltins "set"=some (.type "set"):=by decide +kernel
 have hh:X.A.handled=none:=I.ok.hd hc
 refine wpAny_Call_Name_kw (Zdp I g1 n1 bS ?_)
 refine PyProof.Rows.callWith_builtin1 (Zhu h3 ?_) h3 rfl
 refine wpAny_Call_Name_kw (Zdp I g2 n2 bT ?_)
 refine PyProof.Rows.callWith_type1 (Zhu h1 ?_) h1 rfl
 refine thn (ha pins s σ H _ I h) fun v s2 zz1=>?_
 obtain ⟨x,H2,I5,r1,p,xs,ex,hq,hn,q2⟩:=zz1
 subst ex
 cases r1
 obtain ⟨its,rv,pl,hz⟩:=I5.list hq
 have hil:its.length=xs.length:=by have:=rv.length;rw [List.length_map] at this;exact this.symm
 refine ZiY hh pl.isList (by simpa using ZfB rv) (by rw [List.size_toArray,hil];unfold scanBound;omega) fun h3 tk kc hC hxc keep3=>?_
 have lkc:kc.length < 64:=Nat.lt_of_le_of_lt (Zcx hC.nd fun x hx=>(hxc x).mp hx) hn
 refine Zio (s:={ s2 with heap:=h3,toks:=tk }) hh hC lkc fun s' r vs zs en hr hget hv hp hs keep4 hg hos=>?_
 have z2:s2.heap.objs.size < h3.objs.size:=SS.lt (s:={ s2 with heap:=h3 }) hC
 have hr2:s2.heap.objs.size≤r:=Nat.le_of_lt (Nat.lt_of_lt_of_le z2 hr)
 have kall:∀ b u,s2.heap.get? b=some u→s'.heap.get? b=some u:=fun b u z=>by
  have y2:=keep3 b u (Heap.lt_size z) z
  exact keep4 b u (Heap.lt_size y2) y2
 have hzl:zs.length≤sizeLine:=by
  have:(64:Nat)≤sizeLine:=by decide
  rw [hp.length_eq];omega
 have J:Inv X pins σ (upd H2 r (.lst (zs.map V.str))) { s2 with heap:=s'.heap,toks:=s'.toks }:=I5.laid (t':=s'.toks) kall hr2 (show ObjOk X.prog X.w _ s'.heap r (.lst (zs.map V.str)) from ⟨by rw [List.length_map];exact hzl,vs,en,Zhn hv,hget⟩)
 refine ⟨.ref r,_,⟨J.ok,by rw [hos];exact J.os,by rw [hg];exact J.bare,J.base,J.loc,J.cell,J.free,J.freeC,J.pin,J.hok,J.len⟩,rfl,q2 zs r (hp.nodup_iff.mpr hC.nd) hs (fun x=>?_) (I5.hok.fresh hr2)⟩
 rw [hp.mem_iff,hxc]
def ZjZ (ga:GE):GE:=fun ω G Q=>ga ω G fun y G2=>∃ ys:List Str,Zh0 G2 y=some (ys.map W.str)∧ys.length < 64 ∧
 ∀ (zs:List Str) (p:Addr),zs.Nodup→sortedS zs=true→(∀ x,x∈zs↔x∈ys)→G2 p=none→Q (.ref p) (put G2 p (.lst (zs.map W.str)))
theorem ZpI {ga:GE} (ma:ga.M):GE.M (ZjZ ga):=fun ω G Q Q' h q=>ma _ _ _ _ ((by rintro x G1 ⟨xs,h1,h2,q1⟩;exact ⟨xs,h1,h2,fun zs p a b c d=>h _ _ (q1 zs p a b c d)⟩)) q
theorem ZqA {ga:GE} (hc:X.calm=true) (n1:X.mg "sorted"=none) (n2:X.mg "set"=none) (g1:Gl X "sorted") (g2:Gl X "set") (h1:starEach [e] X.env=(false,eval e X.env)::starEach [] X.env)
  (h3:starEach [.Call (.Name "set" p1) [e] [] q1] X.env=(false,eval (.Call (.Name "set" p1) [e] [] q1) X.env)::starEach [] X.env) (ha:Em X e ga) :
  Em X (.Call (.Name "sorted" p3) [.Call (.Name "set" p1) [e] [] q1] [] q3) (ZjZ ga):=by
 refine ⟨Zbi (Zrg hc n1 n2 g1 g2 h1 h3 ha.p) fun σ H Q zz2=>?_,ZpI ha.m⟩
 obtain ⟨ω,G,ts,rh,q⟩:=zz2
 refine ⟨ω,G,ts,rh,ha.m _ _ _ _ (fun x G1 zz3 v H1 m1 tx r1=>?_) q⟩
 obtain ⟨xs,hx,hn,q1⟩:=zz3
 obtain ⟨a,vs,rfl,rfl,hG,hH,tv⟩:=ZeR r1 tx hx
 obtain rfl:=Zjl tv
 refine ⟨a,xs,rfl,.inl (.inl hH),hn,fun zs r z1 z2 z3 z4=>?_⟩
 exact q1 zs r z1 z2 z3 (r1.no z4) _ _ (m1.trans (Mono.new z4 _)) (.ref r) (r1.new z4 (Zls zs))
end
end L3
set_option maxHeartbeats 1000000
namespace L3
open PySem PySem.Spec PyProof.Rows L2
section
variable {α:Type} {x y z:α} {xs:List α}
theorem Zb1:atI (x::xs) 0=some x:=ZjA (j:=0) (xs:=x::xs) rfl
theorem ZcZ:atI (x::y::xs) 1=some y:=ZjA (j:=1) (xs:=x::y::xs) rfl
theorem Zek:atI (x::y::z::xs) 2=some z:=ZjA (j:=2) (xs:=x::y::z::xs) rfl
end
theorem Zaf {w:W} {f:W→Prop}:opt (some w) f=f w:=rfl
theorem Zbk {G:Hw} {p:Addr} {o:HW} (h:G p=none):Sub G (put G p o):=Sub.refl.put h
theorem ZbA {G G':Hw} {p:Addr} {o:HW} (s:Sub G G') (h:G' p=none):Sub G (put G' p o):=s.trans (Zbk h)
theorem Zgg {G:Hw} {p:Addr} {o o':HW}:put (put G p o) p o'=put G p o':=by
 funext b;unfold put;split <;> rfl
theorem Zd3 {G:Hw} {p:Addr} {xs:List W} (h:G p=some (.lst xs)):Zh0 G (.ref p)=some xs:=by unfold Zh0;dsimp only;rw [h]
theorem Zf5 {G:Hw} {p:Addr} {xs:List W} (h:G p=some (.lst xs)):ZkX G (.ref p)=some xs:=by unfold ZkX;dsimp only;rw [h]
theorem Zep {G:Hw} {p:Addr} {xs:List W} (h:G p=some (.lst xs)):rdL G (.ref p)=some xs:=by unfold rdL;dsimp only;rw [h]
theorem Zmk {G:Hw} {p:Addr} {xs:List W} {i:Int} (h:G p=some (.lst xs)):ixW (.ref p) (.int i) G=atI xs i:=by unfold ixW;dsimp only;rw [h]
theorem Zeo:∀ bs:List Bool,ZlB (bs.map W.bl)=some bs
 | []=>rfl
 | b::bs=>by show (ZlB (bs.map W.bl)).map (b::·)=_;rw [Zeo bs];rfl
theorem ZeP:∀ bs:List Str,ZiZ (bs.map W.str)=some (bs.map V.str)
 | []=>rfl
 | b::bs=>by show (Zoj (.str b)).bind (fun v=>(ZiZ (bs.map W.str)).map (v::·))=_;rw [ZeP bs];rfl
theorem ZgQ (s:Str):∀ bs:List Str,inV (.str s) (bs.map V.str)=bs.any (·==s)
 | []=>rfl
 | b::bs=>by
  show (eqV (.str b) (.str s)||inV (.str s) (bs.map V.str))=_
  rw [ZgQ s bs];rfl
theorem Zj8 {gd:Hw→Prop} {ge:GE} {R:List W→Hw→Prop} {f:W→W} {G:Hw} (hgd:gd G):∀ (ws:List W) (o:Option W) (ys:List W),(∀ x∈ws,∀ Q:Kw,Q (f x) G→ge [some x] G Q) →
  ys.length+ws.length≤sizeLine→R (ys++ws.map f) G→Zb4 gd (gNm 0) ZfY ge R ws [o] G ys
 | [],o,ys,_,_,r=>⟨hgd,by simpa using r⟩
 | x::ws,o,ys,h,hl,r=>by
  refine ⟨hgd,by simp only [List.length_cons] at hl;omega,?_⟩
  show ge [some x] G fun y G3=>Zb4 gd (gNm 0) ZfY ge R ws [some x] G3 (ys++[y])
  refine h x List.mem_cons_self _ (Zj8 hgd ws (some x) (ys++[f x]) (fun y hy=>h y (List.mem_cons_of_mem _ hy)) ?_ ?_)
  ·simp only [List.length_append,List.length_cons,List.length_nil] at hl ⊢;omega
  ·simpa [List.append_assoc] using r
theorem Zv5 {gd:Hw→Prop} {ge:GE} {R:List W→Hw→Prop} {f:W→W→W} {G:Hw} (hgd:gd G):∀ (ws:List (W×W)) (o o':Option W) (ys:List W),(∀ x∈ws,∀ Q:Kw,Q (f x.1 x.2) G→ge [some x.1,some x.2] G Q) →
  ys.length+ws.length≤sizeLine→R (ys++ws.map fun x=>f x.1 x.2) G→Zb4 gd (Znn 0 1) ZfY ge R (ws.map fun x=>W.tup [x.1,x.2]) [o,o'] G ys
 | [],o,o',ys,_,_,r=>⟨hgd,by simpa using r⟩
 | x::ws,o,o',ys,h,hl,r=>by
  refine ⟨hgd,by simp only [List.length_cons] at hl;omega,?_⟩
  show ge [some x.1,some x.2] G fun y G3=>Zb4 gd (Znn 0 1) ZfY ge R (ws.map fun x=>W.tup [x.1,x.2]) [some x.1,some x.2] G3 (ys++[y])
  refine h x List.mem_cons_self _ (Zv5 hgd ws (some x.1) (some x.2) (ys++[f x.1 x.2]) (fun y hy=>h y (List.mem_cons_of_mem _ hy)) ?_ ?_)
  ·simp only [List.length_append,List.length_cons,List.length_nil] at hl ⊢;omega
  ·simpa [List.append_assoc] using r
theorem ZlL:∀ (xs ys:List W),ZmK xs ys=(xs.zip ys).map fun x=>W.tup [x.1,x.2]
 | [],_=>by simp [ZmK]
 | _::_,[]=>by simp [ZmK]
 | x::xs,y::ys=>by simp [ZmK,ZlL xs ys]
def spR {α:Type} (A:α→List W→Hw→Prop) (f:α→W):Spw:=fun ws G Q _=>∃ x,A x ws G∧Q (f x) G
theorem Zdj {α:Type} {A:α→List W→Hw→Prop} {f:α→W}:Spw.M (spR A f):=(by rintro ws G Q Q' E E' h _ ⟨x,h1,q⟩;exact ⟨x,h1,h _ _ q⟩)
def spL {α:Type} (A:α→List W→Hw→Prop) (f:α→List W):Spw:=fun ws G Q _=>∃ x,A x ws G∧∀ p,G p=none→Q (.ref p) (put G p (.lst (f x)))
theorem Zrm {α:Type} {A:α→List W→Hw→Prop} {f:α→List W}:Spw.M (spL A f):=(by rintro ws G Q Q' E E' h _ ⟨x,h1,q⟩;exact ⟨x,h1,fun p hp=>h _ _ (q p hp)⟩)
theorem Zjz {α:Type} (xs:List α):Zk0 xs (some 1) none=xs.drop 1:=by
 have e:HT.sIx xs.length 0 (some 1)=min 1 xs.length:=HT.sIx_nat xs.length 0 1
 unfold Zk0
 rw [e,HT.sIx_none]
 cases xs with
 | nil=>rfl
 | cons x xs =>
  have e1:min 1 (x::xs).length=1:=by simp only [List.length_cons];omega
  rw [e1]
  show (xs.take ((xs.length+1) - 1))=xs
  rw [Nat.add_sub_cancel,List.take_length]
theorem Zeu {α:Type} (x:α) (xs:List α):¬ (HT.sIx (x::xs).length 0 (some 1)=0∧HT.sIx (x::xs).length (x::xs).length none=(x::xs).length):=by
 have e:HT.sIx (x::xs).length 0 (some 1)=min 1 (x::xs).length:=HT.sIx_nat (x::xs).length 0 1
 intro h
 have:=h.1
 rw [e] at this
 simp only [List.length_cons] at this
 omega
theorem Zuz {G:Hw} {p:Addr} {xs:List W} {lo hi:Option Int} {Q:Kw} (h:G p=some (.lst xs)) (q:∀ p1,G p1=none→Q (.ref p1) (put G p1 (.lst (Zk0 xs lo hi)))):slW (.ref p) lo hi G Q:=by
 unfold slW
 dsimp only
 rw [h]
 exact q
theorem ZaB {G:Hw} {p q:Addr} {o:HW} (h:G p=some o) (h':G q=none):p≠q:=by intro e;rw [e,h'] at h;cases h
theorem Za8 {n:Nat} (h:n≤100000):n≤sizeLine:=Nat.le_trans h (by decide)
theorem Zmw {n:Nat} (h:n≤100000):n < sizeLine:=Nat.lt_of_le_of_lt h (by decide)
end L3
namespace L3
open PySem PySem.Spec PyProof.Rows L2
section
variable {P:Program} {w:World} {K:PySem.W.Frag} {mg:Str→Option Value} {base:Heap}
theorem ok0 {x:Str} {st:Stmt} {f:Addr} {fd:FuncData} {N ps:List Str} {k:Nat} {sp:Spw} {g:GS} (F:Fun K x x st f fd) (S:ZaC N ps (Zac st)) (len:∀ ws G Q E,sp ws G Q E→ws.length=ps.length)
  (hg:∀ {f:Addr} {cdv:Value} {A:Around} {outer:List Env} {s:Shared} {H:Hp} {E:XK},Room k (A.deeper (envOfC x (Zac st) s.heap.objs.size f cdv))→Ssm (cxW P w K mg base N x (Zac st) f cdv A outer s H E).nox (fun B=>B=H) (Zax st) g)
  (ok:∀ ws G (Q:Kw) (E:Addr→Hw→Prop),Kw.C Q→sp ws G Q E→g (ZaW Q) (ZbX N ws) G):FnOk P w K mg base (CXe P w) (k+1) f fd ps (ZtV K sp):=by
 obtain ⟨oc,od,kV,doc,pm,an,cdv,ct,osl,rfl,lk,hcd⟩:=F.ex
 refine Zsi lk hcd S ((by rintro vs H Q E ⟨ws,G,t,r,q⟩;rw [t.length];exact len ws G _ _ q)) fun A outer s H vs Q E hr hsp=>?_
 obtain ⟨ws,G,t,r,q⟩:=hsp
 have D:=hg (cdv:=cdv) (outer:=outer) (H:=H) (E:=E) hr
 refine ⟨_,(D.p H rfl).nox,ZbX N ws,G,Ziu t,r,.refl,?_⟩
 exact D.m _ _ (ZaW (dn K H Q)) _ (fun a b z σ H2 m ts r2=>z _ H2 m Tr.non r2) (fun a b z=>z) (fun a b z=>z.elim) (fun a b z=>z.elim) (ok ws G _ _ ZxK q)
end
def Zrk:Spw:=fun ws _ Q _=>∃ ns:List Int,ws=[.rol (ns.map W.int)]∧ns.length≤63∧∀ G',Q (.bl true) G'
theorem ZmJ {K:PySem.W.Frag} {H:Hp}:∀ ns:List Int,TrL K H (ns.map V.int) (ns.map W.int)
 | []=>.nil
 | n::ns=>.cons (.int n) (ZmJ ns)
theorem Zpp {K:PySem.W.Frag} {H:Hp} {a:Addr} {ns:List Int} (hl:ns.length≤63) (hO:Zwq H) (hS:SqL K H a (ns.map V.int)):ZtV K Zrk [.ref a] H (fun v _=>v=.bl true) (fun _ _ _=>False):=by
 have ro:RoL K H a (ns.map V.int):=by
  rcases hS with (h | ⟨o,h⟩) | h
  ·rcases hO a with z | ⟨o,xs,z⟩
   ·rw [z] at h;cases h
   ·rw [z] at h;cases h
  ·exact .inl ⟨o,h⟩
  ·exact .inr h
 exact ⟨[.rol (ns.map W.int)],fun _=>none,.cons (.rol ro (ZmJ ns)) .nil,(fun a o e=>by cases e),ns,rfl,hl,fun G' v H' m t r=>ZmX t⟩
theorem Zrn {P:Program} {w:World} {H:Hp} {s:Shared} {e:Value} {s':Shared} (h:CXe P w [] H s (fun _ _ _=>False) e s'):False:=by
 obtain ⟨_,_,_,_,_,q⟩:=h
 exact q
section
variable {K:PySem.W.Frag} {h:Heap} {mg:Str→Option Value} (X:K.In h) (G:h.Ns mainGlobals mg)
include X G
theorem ZbZ {x:Str} {st:Stmt} {ps:List Str} {f:Addr} {oc:Value} {od an:Option Addr} {osl:Array (Option Value)} {kV doc pm cdv ct:Value} (e1:PySem.W.nsIn K mainGlobals x=some (some (.ref f)))
  (l:K.lookup f=some ⟨oc,od,.func (PySem.W.fnOf x x (Zfo st) (Zax st) (Zac st) .none kV doc pm an cdv ct),osl⟩) (c:PySem.W.codeIn K cdv x=true) (k:PySem.W.keepIn K (.ref f)=true)
  (b:∀ (kV doc pm:Value) (an:Option Addr) (cdv ct:Value) (us:List Value),us.length=ps.length→bindArgs (PySem.W.fnOf x x (Zfo st) (Zax st) (Zac st) .none kV doc pm an cdv ct) ⟨us,[]⟩=pure (ps.zip us)):Fn K mg st x ps :=
 ⟨f,_,PySem.W.mg_of X G e1,ZrK l c k,(ZrK l c k).binds b⟩
theorem Zlc {x:Str} {i:Int} {t:Tok} (e:PySem.W.nsIn K mainGlobals x=some (some (.int i t))):Glb K mg x (.int i):=⟨.int i,.int i t,PySem.W.mg_of X G e,⟨t,rfl⟩,fun H=>.int i⟩
theorem ZsB {x:Str} {d:Addr} {ts:List (Str×Tok)} {dd:Option Addr} {n:Nat} {sl:Array (Option Value)} (e:PySem.W.nsIn K mainGlobals x=some (some (.ref d))) (l:K.lookup d=some ⟨.type "tuple",dd,.seq ((ts.map fun p=>Value.str p.1 p.2).toArray) n,sl⟩) (hz:ts.length≤1000) :
  Glb K mg x (.tup (ts.map fun p=>.str p.1)):=by
 have vs:∀ ts:List (Str×Tok),Vals (ts.map fun p=>V.str p.1) (ts.map fun p=>Value.str p.1 p.2):=fun ts=>by
  induction ts with
  | nil=>exact .nil
  | cons p ts ih=>exact .cons ⟨p.2,rfl⟩ ih
 have tr:∀ (H:Hp) (ts:List (Str×Tok)),TrL K H (ts.map fun p=>V.str p.1) (ts.map fun p=>W.str p.1):=fun H ts=>by
  induction ts with
  | nil=>exact .nil
  | cons p ts ih=>exact .cons (.str _) ih
 refine ⟨.ref d,.ref d,PySem.W.mg_of X G e,rfl,fun H=>.tup (.inr ⟨_,_,n,l,rfl,rfl,?_,by simpa using vs ts⟩) (tr H ts)⟩
 simp only [List.size_toArray,List.length_map]
 exact Nat.le_trans hz (by decide)
end
theorem ZvQ {K:PySem.W.Frag} {h base:Heap} {mg:Str→Option Value} (X:K.In h) (G:h.Ns mainGlobals mg) (B:K.In base) {x:Str} {d:Addr} {o:Obj} {es:Array DictEntry} {ep:Nat} {D:List (Str×Int)} (e:PySem.W.nsIn K mainGlobals x=some (some (.ref d))) (l:K.lookup d=some o)
  (hd:(d==sysModules)=false) (hx:o.ExactDict) (ho:o.data=.dict es ep) (hr:KTD.Rows (KTD.Dat.At base) es.toList (D.map fun p=>(p.1,KTD.Dat.flat (.int p.2)))):Zw9 mg base x D :=
 ⟨d,PySem.W.mg_of X G e,hd,o,es,ep,B _ _ l,hx,ho,hr⟩
theorem Zxp {l:PySem.W.OpenLaw} {q:Program} {loose:List Str} {XP:(Str→Option Value)→Heap→Prop} {YP:World→Heap→Prop} {d:DefRec} {K:Params→PySem.W.Frag} {k:Nat} (hr:Room k callerA) (hn:l.most=some 63) (hdf:d.params.defaults=[])
  (hY:∀ (w:World) (h:Heap),YP w h→(K w.params).In h)
  (F:∀ (w:World) (mg:Str→Option Value) (fa:Addr) (h:Heap),(K w.params).In h→h.Ns mainGlobals mg→mg d.name=some (.ref fa) →
   ∃ fd:FuncData,(∀ (s:Shared) (u:Value),BindsTo s fd ⟨[u],[]⟩ [("script",u)])∧∀ base:Heap,(K w.params).In base→base.Ns mainGlobals mg→FnOk l.prog w (K w.params) mg base (CXe l.prog w) k fa fd ["script"] (ZtV (K w.params) Zrk)) :
  PySem.W.WalkO q loose XP YP l.row.toRowW d [] (fun f vs=>PySem.call f vs) :=
 L2.Zsl (n:=63) (k:=k) (x:="script") (CX:=fun w=>CXe l.prog w) (sp:=fun w=>ZtV (K w.params) Zrk) hn (by decide) hdf hr hY F (fun w H a ns hl hO hS=>Zpp hl hO hS) fun w H s e s' z=>Zrn z
theorem ln0 {us:List Value} (h:us.length=0):us=[]:=List.length_eq_zero_iff.mp h
theorem ln1 {us:List Value} {n:Nat} (h:us.length=n+1):∃ a r,us=a::r∧r.length=n:=by
 cases us with
 | nil=>cases h
 | cons a r=>exact ⟨a,r,rfl,Nat.succ.inj h⟩
end L3
namespace K6
open PySem L2 L3
mutual
inductive Kd where
 | any | num | truth
 | to (a b:Kd) | box (a:Kd) | row (fs:Fs) (o:Bool)
inductive Fs where
 | nil | cons (n:Str) (m:Bool) (k:Kd) (r:Fs)
end
def Zd1 (m:Bool):Str:=if m then "must" else "may"
mutual
def Kd.enc:Kd→W
 | .any=>.tup [.str "any"]
 | .num=>.tup [.str "num"]
 | .truth=>.tup [.str "truth"]
 | .to a b=>.tup [.str "to",a.enc,b.enc]
 | .box a=>.tup [.str "box",a.enc]
 | .row fs o=>.tup [.str "row",.tup fs.enc,.bl o]
def Fs.enc:Fs→List W
 | .nil=>[]
 | .cons n m k r=>.tup [.str n,.str (Zd1 m),k.enc]::r.enc
end
def Fs.kinds:Fs→List Kd
 | .nil=>[]
 | .cons _ _ k r=>k::r.kinds
def Fs.names:Fs→List Str
 | .nil=>[]
 | .cons n _ _ r=>n::r.names
def Kd.kids:Kd→List Kd
 | .to a b=>[a,b]
 | .box a=>[a]
 | .row fs _=>fs.kinds
 | _=>[]
mutual
def Kd.cnt:Kd→Nat
 | .to a b=>1+(a.cnt+b.cnt)
 | .box a=>1+a.cnt
 | .row fs _=>1+fs.cnt
 | _=>1
def Fs.cnt:Fs→Nat
 | .nil=>0
 | .cons _ _ k r=>k.cnt+r.cnt
end
mutual
def Kd.dp:Kd→Nat
 | .to a b=>1+max a.dp b.dp
 | .box a=>1+a.dp
 | .row fs _=>1+fs.dp
 | _=>1
def Fs.dp:Fs→Nat
 | .nil=>0
 | .cons _ _ k r=>max k.dp r.dp
end
mutual
def Kd.all:Kd→List Kd
 | .to a b=>.to a b::(a.all++b.all)
 | .box a=>.box a::a.all
 | .row fs o=>.row fs o::fs.all
 | .any=>[.any]
 | .num=>[.num]
 | .truth=>[.truth]
def Fs.all:Fs→List Kd
 | .nil=>[]
 | .cons _ _ k r=>k.all++r.all
end
def Zga:List Kd→Nat
 | []=>0
 | k::r=>k.cnt+Zga r
def dpL:List Kd→Nat
 | []=>0
 | k::r=>max k.dp (dpL r)
theorem ZnG:∀ fs:Fs,fs.cnt=Zga fs.kinds
 | .nil=>rfl
 | .cons _ _ k r=>by show k.cnt+r.cnt=k.cnt+Zga r.kinds;rw [ZnG r]
theorem Zua:∀ fs:Fs,fs.dp=dpL fs.kinds
 | .nil=>rfl
 | .cons _ _ k r=>by show max k.dp r.dp=max k.dp (dpL r.kinds);rw [Zua r]
theorem ZfD (k:Kd):k.cnt=1+Zga k.kids:=by
 cases k with
 | to a b=>show 1+(a.cnt+b.cnt)=1+(a.cnt+(b.cnt+0));omega
 | box a=>show 1+a.cnt=1+(a.cnt+0);omega
 | row fs o=>show 1+fs.cnt=1+Zga fs.kinds;rw [ZnG]
 | _=>rfl
theorem Zjt (k:Kd):k.dp=1+dpL k.kids:=by
 cases k with
 | to a b=>show 1+max a.dp b.dp=1+max a.dp (max b.dp 0);omega
 | box a=>show 1+a.dp=1+max a.dp 0;omega
 | row fs o=>show 1+fs.dp=1+dpL fs.kinds;rw [Zua]
 | _=>rfl
theorem ZhH:∀ (l m:List Kd),Zga (l++m)=Zga l+Zga m
 | [],m=>by simp [Zga]
 | k::l,m=>by show k.cnt+Zga (l++m)=k.cnt+Zga l+Zga m;rw [ZhH l m];omega
theorem ZiW:∀ (l m:List Kd),dpL (l++m)=max (dpL l) (dpL m)
 | [],m=>by simp [dpL]
 | k::l,m=>by show max k.dp (dpL (l++m))=max (max k.dp (dpL l)) (dpL m);rw [ZiW l m];omega
theorem ZoR (k:Kd):1≤k.cnt:=by rw [ZfD];omega
theorem Zgn (k:Kd):1≤k.dp:=by rw [Zjt];omega
theorem ZiG:∀ l:List Kd,Zga l=l.length+Zga (l.flatMap Kd.kids)
 | []=>rfl
 | k::l=>by
  show k.cnt+Zga l=(l.length+1)+Zga ((k::l).flatMap Kd.kids)
  rw [List.flatMap_cons,ZhH,ZiG l,ZfD k];omega
theorem Zkl:∀ l:List Kd,l≠[]→dpL l=1+dpL (l.flatMap Kd.kids)
 | [],h=>absurd rfl h
 | [k],_=>by
  show max k.dp 0=1+dpL ([k].flatMap Kd.kids)
  rw [List.flatMap_cons,List.flatMap_nil,List.append_nil,Zjt];omega
 | k::k'::l,_=>by
  have ih:=Zkl (k'::l) (by simp)
  show max k.dp (dpL (k'::l))=1+dpL ((k::k'::l).flatMap Kd.kids)
  rw [List.flatMap_cons,ZiW,ih,Zjt k];omega
theorem Zje:∀ l:List Kd,l.length≤Zga l
 | []=>Nat.le_refl _
 | k::l=>by have:=Zje l;have:=ZoR k;show l.length+1≤k.cnt+Zga l;omega
theorem Zi4:∀ {l:List Kd} {k:Kd},k∈l→k.cnt≤Zga l
 | k'::l,k,h=>by
  show k.cnt≤k'.cnt+Zga l
  rcases List.mem_cons.mp h with rfl | h
  ·omega
  ·have:=Zi4 h;omega
theorem Zff:∀ {l:List Kd} {k:Kd},k∈l→k.dp≤dpL l
 | k'::l,k,h=>by
  show k.dp≤max k'.dp (dpL l)
  rcases List.mem_cons.mp h with rfl | h
  ·omega
  ·have:=Zff h;omega
theorem ZaQ {k c:Kd} (h:c∈k.kids):c.dp+1≤k.dp:=by rw [Zjt k];have:=Zff h;omega
theorem ZqS {k c:Kd} (h:c∈k.kids):c.cnt+1≤k.cnt:=by rw [ZfD k];have:=Zi4 h;omega
theorem ZmA (k:Kd):k.kids.length+1≤k.cnt:=by rw [ZfD k];have:=Zje k.kids;omega
theorem ZpE:∀ fs:Fs,fs.enc.length=fs.kinds.length
 | .nil=>rfl
 | .cons _ _ k r=>by show r.enc.length+1=r.kinds.length+1;rw [ZpE r]
def Kd.unk:Kd→Bool
 | .any=>true
 | .row _ o=>o
 | _=>false
def Kd.fb:Kd→Bool
 | .to _ _=>true
 | .box _=>true
 | _=>false
def Kd.known (k:Kd):Bool:=!(k.all.any Kd.unk)
def Kd.data (k:Kd):Bool:=!(k.all.any Kd.fb)
def Kd.hd:Kd→Str
 | .any=>"any"
 | .num=>"num"
 | .truth=>"truth"
 | .to _ _=>"to"
 | .box _=>"box"
 | .row _ _=>"row"
def Kd.own:Kd→List Str
 | .row _ o=>if o then ["row","open"] else ["row"]
 | k=>[k.hd]
def ZfH (z:Str):Bool:=!ZaP z "a"&&!ZaP "z" z
def ZcD (n:Str):Bool:=decide (1≤n.length)&&decide (n.length≤8)&&n.cps.toList.all fun c=>ZfH ⟨#[c]⟩
def Zh2:List Str→Bool
 | a::b::r=>ZaP a b&&Zh2 (b::r)
 | _=>true
mutual
def Kd.ok:Kd→Bool
 | .to a b=>a.ok&&b.ok
 | .box a=>a.ok
 | .row fs _=>Zh2 fs.names&&fs.ok
 | _=>true
def Fs.ok:Fs→Bool
 | .nil=>true
 | .cons n _ k r=>ZcD n&&k.ok&&r.ok
end
theorem Zfd:∀ {fs:Fs},fs.ok=true→∀ c∈fs.kinds,c.ok=true
 | .nil,_,c,hc=>by cases hc
 | .cons n m k r,h,c,hc=>by
  have h':(ZcD n&&k.ok&&r.ok)=true:=h
  simp only [Bool.and_eq_true] at h'
  rcases List.mem_cons.mp hc with rfl | hc
  ·exact h'.1.2
  ·exact Zfd h'.2 c hc
theorem ZlC {k:Kd} (h:k.ok=true):∀ c∈k.kids,c.ok=true:=by
 intro c hc
 cases k with
 | to a b =>
  have h':(a.ok&&b.ok)=true:=h
  simp only [Bool.and_eq_true] at h'
  have hc':c=a∨c=b:=by simpa [Kd.kids] using hc
  rcases hc' with rfl | rfl
  ·exact h'.1
  ·exact h'.2
 | box a=>have hc':c=a:=by simpa [Kd.kids] using hc
          subst hc';exact h
 | row fs o =>
  have h':(Zh2 fs.names&&fs.ok)=true:=h
  simp only [Bool.and_eq_true] at h'
  exact Zfd h'.2 c hc
 | _=>cases hc
set_option Elab.async false
set_option linter.all false
set_option maxRecDepth 100000
set_option maxHeartbeats 4000000
open PySem PySem.Spec PyProof.Rows L2 L3
abbrev ZaO:Stmt:=top 22
abbrev ZbQ:Stmt:=top 23
abbrev Zde:Stmt:=top 21
abbrev ZcL:Stmt:=top 20
abbrev ZbC:Stmt:=top 19
abbrev ZcK:Stmt:=top 18
abbrev Zbh:Stmt:=top 17
abbrev Zbf:Stmt:=top 16
abbrev Zbo:Stmt:=top 15
abbrev Zdd:Stmt:=top 14
abbrev ZbE:Stmt:=top 12
abbrev ZcE:Stmt:=top 9
abbrev ZcN:Stmt:=top 10
abbrev Za6:Stmt:=top 11
abbrev Zbt:Stmt:=top 13
abbrev Zed:Stmt:=top 28
abbrev ZaJ:Stmt:=top 31
abbrev Za7:Stmt:=top 30
abbrev ZcM:Stmt:=top 29
abbrev ZbF:Stmt:=top 35
abbrev Zcc:Stmt:=top 36
abbrev Zcb:Stmt:=top 37
abbrev ZbL:Stmt:=top 40
abbrev Za3:Stmt:=top 38
abbrev ZaN:Stmt:=top 39
abbrev Za2:Stmt:=top 41
abbrev ZbR:Stmt:=top 42
abbrev Zbq:Stmt:=top 44
abbrev ZkA:Stmt:=top 45
abbrev Za4:Stmt:=top 33
abbrev ZcG:Stmt:=top 32
abbrev Zbs:Stmt:=top 26
abbrev Zdg:Stmt:=top 27
def ZhR:List (Str×Int):=[("any",1),("num",1),("truth",1),("to",3),("box",2),("row",3)]
def Zdf:List (Str×List Str):=[("any",[]),("num",[]),("truth",[]),("to",["in","out"]),("box",["inside"])]
structure Adr where
 CastError:Addr
 NoKind:Addr
structure Tx (K:PySem.W.Frag) (mg:Str→Option Value) (base:Heap) (a:Adr):Prop where
 Zju:mg "all"=none
 ZiT:mg "bool"=none
 Zit:mg "dict"=none
 Zj1:mg "int"=none
 ZaM:mg "isinstance"=none
 ZgM:mg "len"=none
 Zg3:mg "list"=none
 Zld:mg "set"=none
 Zd5:mg "sorted"=none
 ZlG:mg "str"=none
 Zcr:mg "tuple"=none
 ZhX:mg "zip"=none
 Zlj:mg "CastError"=some (.ref a.CastError)
 ZqG:mg "NoKind"=some (.ref a.NoKind)
 Zf6:Glb K mg "MARKS" (.tup [(.str "must"),(.str "may")])
 Zci:Glb K mg "MOST_DEPTH" (.int 8)
 Zcj:Glb K mg "MOST_KINDS" (.int 40)
 Zbw:Glb K mg "MOST_LETTERS" (.int 8)
 ZjO:Zw9 mg base "LENGTHS" ZhR
 Zlk:Zxw K mg base "STEPS" Zdf
 ZbT:Fn K mg ZaO "is_small_letter" ["sign"]
 Zdv:Fn K mg ZbQ "names_rise" ["names"]
 ZfN:Fn K mg Zde "is_name" ["thing"]
 ZeJ:Fn K mg ZcL "is_field" ["thing"]
 Zdt:Fn K mg ZbC "are_fields" ["thing"]
 ZeK:Fn K mg ZcK "has_form" ["thing"]
 ZcQ:Fn K mg Zbh "kinds_within" ["kind"]
 ZcP:Fn K mg Zbf "layer_within" ["layer","things_within"]
 Zdy:Fn K mg Zbo "is_made_of" ["thing","is_formed","things_within","most","deepest"]
 Zfz:Fn K mg Zdd "is_kind" ["thing"]
 Zdw:Fn K mg ZbE "check_kind" ["thing"]
 ZeH:Fn K mg ZcE "entry_of" ["row","name"]
 ZeO:Fn K mg ZcN "names_of" ["row"]
 ZcC:Fn K mg Za6 "names_of_both" ["one","other"]
 Zc4:Fn K mg Zbt "check_kinds" ["one","other"]
 Zg2:Fn K mg Zed "behind" ["step","path"]
 ZbB:Fn K mg ZaJ "clash_of_entries" ["one","other"]
 Zcp:Fn K mg Za7 "clash_of_rows" ["one","other"]
 ZdU:Fn K mg ZcM "clash_of" ["one","other"]
 Zds:Fn K mg ZbF "_law_state" ["script","k"]
 Zd4:Fn K mg Zcc "_law_take" ["state","many"]
 ZbN:Fn K mg Zcb "_law_kind" ["state","deep"]
 ZcH:Fn K mg ZbL "_law_near" ["state","kind","deep"]
 Zb5:Fn K mg Za3 "_law_renamed" ["kind","names"]
 ZbW:Fn K mg ZaN "_law_some_names" ["state"]
 ZcT:Fn K mg Za2 "_law_entries" ["kind","names"]
 ZdD:Fn K mg ZbR "_law_names" ["one","other"]
 ZcW:Fn K mg Zbq "_law_clash" ["one","other"]
 Ztl:Fn K mg ZkA "law" ["script"]
 Zcz:Fn K mg Za4 "clash_at_name" ["one","other","path"]
 ZdT:Fn K mg ZcG "clash_at" ["one","other","path"]
 Zc2:Fn K mg Zbs "first_clash" ["one","other"]
 ZfL:Fn K mg Zdg "clashes" ["one","other","path"]
section
variable {P:Program} {w:World} {K:PySem.W.Frag} {mg:Str→Option Value} {base:Heap} {a:Adr}
abbrev ZdZ:List Str:=["sign"]
theorem Zgb:ZaC ZdZ ["sign"] (Zac ZaO):=⟨rfl,rfl,rfl,by decide +kernel,rfl,by decide +kernel,by decide +kernel⟩
def ZdQ:GS:=(ZaF (Zcu (Zgm (fun i j=>decide (i≤j)) (fun a b=>!ZaP b a)) (Zgm (fun i j=>decide (i≤j)) (fun a b=>!ZaP b a)) (gC (.str "a")) (Zad 0) (gC (.str "z"))))
theorem Zf2 {k:Nat} (T:Tx K mg base a) {f:Addr} {cdv:Value} {A:Around} {outer:List Env} {s:Shared} {H:Hp} {E:XK} (hr:Room k (A.deeper (envOfC "is_small_letter" (Zac ZaO) s.heap.objs.size f cdv))):Ssm (cxW P w K mg base ZdZ "is_small_letter" (Zac ZaO) f cdv A outer s H E).nox (fun B=>B=H) (Zax ZaO) (ZdQ) :=
 have hu:=ZeU hr
 (Zaj (Zas (Zp1 Zmg Zmg rfl Zat (Zal (i:=0) rfl rfl rfl rfl) Zat)))
abbrev Zgs:List Str:=["names"]
theorem Zj9:ZaC Zgs ["names"] (Zac ZbQ):=⟨rfl,rfl,rfl,by decide +kernel,rfl,by decide +kernel,by decide +kernel⟩
def Zgy:GS:=(ZaF (gB (rF Zic) (Zab (ZcX (ZkZ (Zab (Zad 0) (Zab (gSl (Zad 0) (Zbg (gC (.int 1))) Zaw) Zam))) 2 (Znn 0 1) ZfY (Zak (Zgm (fun i j=>decide (i < j)) ZaP) (Zad 0) (Zad 1))) Zam)))
theorem ZkW {k:Nat} (T:Tx K mg base a) {f:Addr} {cdv:Value} {A:Around} {outer:List Env} {s:Shared} {H:Hp} {E:XK} (hr:Room k (A.deeper (envOfC "names_rise" (Zac ZbQ) s.heap.objs.size f cdv))):Ssm (cxW P w K mg base Zgs "names_rise" (Zac ZbQ) f cdv A outer s H E).nox (fun B=>B=H) (Zax ZbQ) (Zgy) :=
 have hu:=ZeU hr
 (Zaj (Zas (Zg8 Zl6 (Zjp rfl) rfl T.Zju (by decide) rfl rfl rfl (Zaa rfl (Zen (Nc:=["one","other"]) rfl (ZrV rfl (by decide +kernel) (by decide +kernel)) (fun _=>rfl) (ZuC T.ZhX rfl rfl rfl (Zaa rfl (Zal (i:=0) rfl rfl rfl rfl) (Zaa rfl (Zwk (Zal (i:=0) rfl rfl rfl rfl) (Zcw Zag) Zco) Zae))) (ZsU (i:=0) (j:=1) rfl (by decide) rfl rfl rfl rfl) (fun C fp s1 H1=>Zd0) (fun C fp s1 H1=>(ZdM Zps rfl (Zal (i:=0) rfl rfl rfl rfl) (Zal (i:=1) rfl rfl rfl rfl)))) Zae))))
abbrev ZkO:List Str:=["thing"]
theorem ZnZ:ZaC ZkO ["thing"] (Zac Zde):=⟨rfl,rfl,rfl,by decide +kernel,rfl,by decide +kernel,by decide +kernel⟩
def Zkg (Zbz:Spw):GS:=(Zay (gIf (gOr (gNt (Zgk (Zc5 "str" (Zad 0)))) (gNt (gTB (Zcu (Zgm (fun i j=>decide (i≤j)) (fun a b=>!ZaP b a)) (Zgm (fun i j=>decide (i≤j)) (fun a b=>!ZaP b a)) (gC (.int 1)) (gB (rF ZgK) (Zab (Zad 0) Zam)) (gC (.int 8)))))) (ZaF (gC (.bl false))) Zar) (ZaF (gB (rF Zic) (Zab (ZcX (ZbJ (Zad 0)) 1 (gNm 0) ZfY (Zaq Zbz (fun _ _ _=>False) (Zab (Zad 0) Zam))) Zam))))
theorem ZnK {k:Nat} (T:Tx K mg base a) {ZbS:Nat} {Zbz:Spw} (Zgh:Df P w K mg base "is_small_letter" ZbS 1 Zbz) (Zgj:ZbS≤k) {f:Addr} {cdv:Value} {A:Around} {outer:List Env} {s:Shared} {H:Hp} {E:XK} (hr:Room k (A.deeper (envOfC "is_name" (Zac Zde) s.heap.objs.size f cdv))):Ssm (cxW P w K mg base ZkO "is_name" (Zac Zde) f cdv A outer s H E).nox (fun B=>B=H) (Zax Zde) (Zkg Zbz) :=
 have hu:=ZeU hr
 (Zai (Zba (Zf0 (Zlm (Zfw (Zfv (fun _=>rfl) (Zfc (T:="str") (by decide) ZrE T.ZlG T.ZaM rfl rfl (by decide) rfl rfl rfl (Zal (i:=0) rfl rfl rfl rfl)))) (ZjQ (Zfw (ZqD Zmg Zmg rfl Zag (Zg8 Zg9 (Zfg) rfl T.ZgM (by decide) rfl rfl rfl (Zaa rfl (Zal (i:=0) rfl rfl rfl rfl) Zae)) (Zi6 T.Zbw rfl rfl)))))) (Zaj (Zas ZfQ)) Zau) (Zaj (Zas (Zg8 Zl6 (Zjp rfl) rfl T.Zju (by decide) rfl rfl rfl (Zaa rfl (Zen (Nc:=["sign"]) rfl (ZrV rfl (by decide +kernel) (by decide +kernel)) (fun _=>rfl) (Zdm (fun _ _=>rfl) (Zal (i:=0) rfl rfl rfl rfl)) (Zd2 (i:=0) (by decide) rfl rfl) (fun C fp s1 H1=>Zd0) (fun C fp s1 H1=>(Zap Zgh (hr.mono Zgj) rfl ZaG rfl rfl rfl (Zaa rfl (Zal (i:=0) rfl rfl rfl rfl) Zae)))) Zae)))))
abbrev ZiN:List Str:=["thing"]
theorem Znc:ZaC ZiN ["thing"] (Zac ZcL):=⟨rfl,rfl,rfl,by decide +kernel,rfl,by decide +kernel,by decide +kernel⟩
def Zis (ZeS:Spw):GS:=(Zay (gIf (gOr (gNt (Zgk (Zc5 "tuple" (Zad 0)))) (gTB (Zak (Zan (eqF true)) (gB (rF ZgK) (Zab (Zad 0) Zam)) (gC (.int 3))))) (ZaF (gC (.bl false))) Zar) (ZaF (Zc3 (Zaq ZeS (fun _ _ _=>False) (Zab (Zak (Zan ixW) (Zad 0) (gC (.int 0))) Zam)) (Zak (Zan (inF false)) (Zak (Zan ixW) (Zad 0) (gC (.int 1))) (gC (.tup [(.str "must"),(.str "may")]))))))
theorem Zna {k:Nat} (T:Tx K mg base a) {Zfu:Nat} {ZeS:Spw} (Zon:Df P w K mg base "is_name" Zfu 1 ZeS) (ZnC:Zfu≤k) {f:Addr} {cdv:Value} {A:Around} {outer:List Env} {s:Shared} {H:Hp} {E:XK} (hr:Room k (A.deeper (envOfC "is_field" (Zac ZcL) s.heap.objs.size f cdv))):Ssm (cxW P w K mg base ZiN "is_field" (Zac ZcL) f cdv A outer s H E).nox (fun B=>B=H) (Zax ZcL) (Zis ZeS) :=
 have hu:=ZeU hr
 (Zai (Zba (Zf0 (Zlm (Zfw (Zfv (fun _=>rfl) (Zfc (T:="tuple") (by decide) Zdb T.Zcr T.ZaM rfl rfl (by decide) rfl rfl rfl (Zal (i:=0) rfl rfl rfl rfl)))) (ZjQ (ZaD (Zdc hu) rfl (Zg8 Zg9 (Zfg) rfl T.ZgM (by decide) rfl rfl rfl (Zaa rfl (Zal (i:=0) rfl rfl rfl rfl) Zae)) Zag)))) (Zaj (Zas ZfQ)) Zau) (Zaj (Zas (Zki (Zap Zon (hr.mono ZnC) rfl ZaG rfl rfl rfl (Zaa rfl (Zaz (fun _ _=>rfl) (Zal (i:=0) rfl rfl rfl rfl) Zag) Zae)) (ZiX (ZdM ZjU rfl (Zaz (fun _ _=>rfl) (Zal (i:=0) rfl rfl rfl rfl) Zag) (Zi6 T.Zf6 rfl rfl)))))))
abbrev Zgr:List Str:=["thing"]
theorem ZkS:ZaC Zgr ["thing"] (Zac ZbC):=⟨rfl,rfl,rfl,by decide +kernel,rfl,by decide +kernel,by decide +kernel⟩
def Zgz (Zef:Spw) (Zc9:Spw):GS:=(Zay (gIf (gNt (Zgk (Zc5 "tuple" (Zad 0)))) (ZaF (gC (.bl false))) Zar) (ZaF (Zc3 (gB (rF Zic) (Zab (ZcX (ZbJ (Zad 0)) 1 (gNm 0) ZfY (Zaq Zef (fun _ _ _=>False) (Zab (Zad 0) Zam))) Zam)) (Zaq Zc9 (fun _ _ _=>False) (Zab (ZcX (ZbJ (Zad 0)) 1 (gNm 0) ZfY (Zak (Zan ixW) (Zad 0) (gC (.int 0)))) Zam)))))
theorem ZjX {k:Nat} (T:Tx K mg base a) {ZeI:Nat} {Zef:Spw} (ZmW:Df P w K mg base "is_field" ZeI 1 Zef) (Zm6:ZeI≤k) {Zdq:Nat} {Zc9:Spw} (Zky:Df P w K mg base "names_rise" Zdq 1 Zc9) (ZkM:Zdq≤k) {f:Addr} {cdv:Value} {A:Around} {outer:List Env} {s:Shared} {H:Hp} {E:XK} (hr:Room k (A.deeper (envOfC "are_fields" (Zac ZbC) s.heap.objs.size f cdv))):Ssm (cxW P w K mg base Zgr "are_fields" (Zac ZbC) f cdv A outer s H E).nox (fun B=>B=H) (Zax ZbC) (Zgz Zef Zc9) :=
 have hu:=ZeU hr
 (Zai (Zba (Zfw (Zfv (fun _=>rfl) (Zfc (T:="tuple") (by decide) Zdb T.Zcr T.ZaM rfl rfl (by decide) rfl rfl rfl (Zal (i:=0) rfl rfl rfl rfl)))) (Zaj (Zas ZfQ)) Zau) (Zaj (Zas (Zki (Zg8 Zl6 (Zjp rfl) rfl T.Zju (by decide) rfl rfl rfl (Zaa rfl (Zen (Nc:=["part"]) rfl (ZrV rfl (by decide +kernel) (by decide +kernel)) (fun _=>rfl) (Zdm (fun _ _=>rfl) (Zal (i:=0) rfl rfl rfl rfl)) (Zd2 (i:=0) (by decide) rfl rfl) (fun C fp s1 H1=>Zd0) (fun C fp s1 H1=>(Zap ZmW (hr.mono Zm6) rfl ZaG rfl rfl rfl (Zaa rfl (Zal (i:=0) rfl rfl rfl rfl) Zae)))) Zae)) (ZiX (Zap Zky (hr.mono ZkM) rfl ZaG rfl rfl rfl (Zaa rfl (Zen (Nc:=["part"]) rfl (ZrV rfl (by decide +kernel) (by decide +kernel)) (fun _=>rfl) (Zdm (fun _ _=>rfl) (Zal (i:=0) rfl rfl rfl rfl)) (Zd2 (i:=0) (by decide) rfl rfl) (fun C fp s1 H1=>Zd0) (fun C fp s1 H1=>(Zaz (fun _ _=>rfl) (Zal (i:=0) rfl rfl rfl rfl) Zag))) Zae)))))))
end
set_option maxHeartbeats 1000000
variable {P:Program} {w:World} {K:PySem.W.Frag} {mg:Str→Option Value} {base:Heap} {a:Adr}
local macro_rules | `(tactic| walk_at "rd") => `(tactic| ((try dsimp only [Zay, gIf, ZaF, Zbn, Zcm, Zar, Zad, gC, Zak, gTB, Zgk, gNt, ZjG, gOr, Zc3, Zkp, ZhW, L3.Zbb, Zcn, L3.Zab, L3.Zam, Zaq, gB, rF, Zan, Zc5, gMt, ZjH, Zcu, Zgm, Zf4, ZbU, L3.Ze6, Zej, gSl, Zbg, Zaw, ZcX, ZbJ, ZkZ, ZaW, ZbX, List.map_cons, List.map_nil, List.length_cons, List.length_nil, List.cons_append, List.nil_append, List.getElem?_cons_zero, List.getElem?_cons_succ, List.set_cons_zero, List.set_cons_succ, List.replicate, ZjC, tyN, Zaf, Zb1, ZcZ, Zek, ixW, eqF, eqW, ZgK, ZjI, Zic, List.getElem?_nil]); (try simp only [Zay, gIf, ZaF, Zbn, Zcm, Zar, Zad, gC, Zak, gTB, Zgk, gNt, ZjG, gOr, Zc3, Zkp, ZhW, L3.Zbb, Zcn, L3.Zab, L3.Zam, Zaq, gB, rF, Zan, Zc5, gMt, ZjH, Zcu, Zgm, Zf4, ZbU, L3.Ze6, Zej, gSl, Zbg, Zaw, ZcX, ZbJ, ZkZ, ZaW, ZbX, List.map_cons, List.map_nil, List.length_cons, List.length_nil, List.cons_append, List.nil_append, List.getElem?_cons_zero, List.getElem?_cons_succ, List.set_cons_zero, List.set_cons_succ, List.replicate, ZjC, tyN, Zaf, Zb1, ZcZ, Zek, ixW, eqF, eqW, ZgK, ZjI, Zic, List.getElem?_nil])))
abbrev Zqb:Spw:=spR (fun (z:Str) ws _=>ws=[.str z]) fun z=>.bl (ZfH z)
theorem ZbS (T:Tx K mg base a):Df P w K mg base "is_small_letter" 1 1 Zqb:=by
 refine mk0 T.ZbT rfl Zgb Zdj ((by rintro ws G Q E ⟨z,e,_⟩;rw [e];rfl)) (Zf2 T) fun ws G Q E hC q=>?_
 obtain ⟨z,rfl,q⟩:=q
 unfold ZdQ
 walk_at "rd"
 dsimp only at q
 unfold ZfH at q
 refine Zsk (fun h=>?_) (fun h=>?_)
 ·rw [h] at q;simpa using q
 ·rw [Bool.eq_false_iff.mpr h] at q;simpa using q
theorem Zmq:∀ ns:List Str,Zh2 ns=((ns.zip (ns.drop 1)).map fun x=>ZaP x.1 x.2).all id
 | []=>rfl
 | [_]=>rfl
 | a::b::r=>by
  show (ZaP a b&&Zh2 (b::r))=_
  rw [Zmq (b::r)];rfl
abbrev Zt6:Spw:=spR (fun (ns:List Str) ws G=>∃ p,ws=[.ref p]∧G p=some (.lst (ns.map W.str))∧ns.length≤1000) fun ns=>.bl (Zh2 ns)
def ltW (x y:W):W:=match x,y with | .str a,.str b=>.bl (ZaP a b) | _,_=>.non
theorem Zdq (T:Tx K mg base a):Df P w K mg base "names_rise" 1 1 Zt6:=by
 refine mk0 T.Zdv rfl Zj9 Zdj ((by rintro ws G Q E ⟨ns,⟨p,e,_⟩,_⟩;rw [e];rfl)) (ZkW T) fun ws G Q E hC q=>?_
 obtain ⟨ns,⟨p,rfl,hp,hl⟩,q⟩:=q
 unfold Zgy
 walk_at "rd"
 refine Zuz hp fun p1 h1=>?_
 have hne:=ZaB hp h1
 have e1:rdL (put G p1 (.lst (Zk0 (ns.map W.str) (some 1) none))) (.ref p)=some (ns.map W.str):=Zep (by rw [Zao hne];exact hp)
 have e2:rdL (put G p1 (.lst (Zk0 (ns.map W.str) (some 1) none))) (.ref p1)=some (Zk0 (ns.map W.str) (some 1) none):=Zep Zah
 simp only [e1,e2]
 rw [Zjz,← List.map_drop,ZlL,List.zip_map,List.map_map]
 have e3:((fun x:W×W=>W.tup [x.1,x.2])∘Prod.map W.str W.str)=(fun x:W×W=>W.tup [x.1,x.2])∘fun x:Str×Str=>(W.str x.1,W.str x.2):=rfl
 rw [e3,← List.map_map]
 refine Zv5 (f:=ltW) ⟨by rw [Zjz,← List.map_drop] at e1;exact e1,by rw [Zjz,← List.map_drop] at e2;exact e2⟩ _ none none [] (fun x hx Q' q'=>?_) ?_ ?_
 ·obtain ⟨y,hy,rfl⟩:=List.mem_map.mp hx
  exact q'
 ·rw [List.length_map,List.length_zip]
  exact Za8 (by simp only [List.length_nil];omega)
 ·intro p2 h2
  rw [List.map_map]
  have e4:((fun x:W×W=>ltW x.1 x.2)∘fun x:Str×Str=>(W.str x.1,W.str x.2))=W.bl∘fun x:Str×Str=>ZaP x.1 x.2:=rfl
  rw [e4,← List.map_map,List.nil_append]
  simp only [Zd3 Zah,Option.bind_some,Zeo,Option.map_some,Zaf]
  rw [← Zmq]
  exact hC _ _ _ (ZbA (Zbk h1) h2) q
abbrev ZvG:Spw:=spR (fun (z:Str) ws _=>ws=[.str z]∧z.length≤100000) fun z=>.bl (ZcD z)
def ZxG (x:W):W:=match x with | .str z=>.bl (ZfH z) | _=>.non
theorem Zfu (T:Tx K mg base a):Df P w K mg base "is_name" 2 1 ZvG:=by
 refine mk0 T.ZfN rfl ZnZ Zdj ((by rintro ws G Q E ⟨z,⟨e,_⟩,_⟩;rw [e];rfl)) (ZnK T (ZbS T) (Nat.le_refl _)) fun ws G Q E hC q=>?_
 obtain ⟨z,⟨rfl,hz⟩,q⟩:=q
 unfold Zkg
 walk_at "rd"
 have hz':z.length≤sizeLine:=Za8 hz
 have b1:Znt "str" "str"=true:=by decide
 simp only [b1,hz',if_true,Zaf,Bool.not_true,Bool.false_eq_true,if_false]
 unfold ZcD at q
 by_cases h1:1≤z.length
 ·by_cases h8:z.length≤8
  ·have d1:(1:Int)≤(z.length:Int):=by omega
   have d8:(z.length:Int)≤8:=by omega
   simp only [d1,d8,decide_true,if_true,Bool.not_true,Bool.false_eq_true,if_false]
   refine Zj8 (f:=ZxG) trivial (ZhJ z) none [] (fun x hx Q' q'=>?_) ?_ ?_
   ·obtain ⟨c,hc,rfl⟩:=List.mem_map.mp hx
    exact ⟨_,rfl,q'⟩
   ·rw [ZhJ,List.length_map]
    exact Za8 (by show 0+z.cps.toList.length≤100000;rw [Nat.zero_add];simpa [Str.length] using hz)
   ·intro p hp
    have e5:(ZhJ z).map ZxG=(z.cps.toList.map fun c=>ZfH ⟨#[c]⟩).map W.bl:=by
     unfold ZhJ;rw [List.map_map,List.map_map];rfl
    rw [List.nil_append,e5]
    simp only [Zd3 Zah,Option.bind_some,Zeo,Option.map_some,Zaf]
    rw [List.all_map]
    simp only [h1,h8,decide_true,Bool.true_and] at q
    exact hC _ _ _ (Zbk hp) q
  ·have d1:(1:Int)≤(z.length:Int):=by omega
   have d8:¬ (z.length:Int)≤8:=by omega
   simp only [h1,h8,decide_true,decide_false,Bool.true_and,Bool.false_and] at q
   simp only [d1,d8,decide_true,decide_false,if_true,Bool.not_false,Bool.false_eq_true,if_false]
   exact q
 ·have d1:¬ (1:Int)≤(z.length:Int):=by omega
  simp only [h1,decide_false,Bool.false_and] at q
  simp only [d1,decide_false,if_true,Bool.not_false,Bool.false_eq_true,if_false]
  exact q
section
variable {P:Program} {w:World} {K:PySem.W.Frag} {mg:Str→Option Value} {base:Heap} {a:Adr}
abbrev ZiQ:List Str:=["thing"]
theorem Znm:ZaC ZiQ ["thing"] (Zac ZcK):=⟨rfl,rfl,rfl,by decide +kernel,rfl,by decide +kernel,by decide +kernel⟩
def ZiD (Zc8:Spw):GS:=(Zay (gIf (gOr (gNt (Zgk (Zc5 "tuple" (Zad 0)))) (gOr (gTB (Zak (Zan (eqF false)) (gB (rF ZgK) (Zab (Zad 0) Zam)) (gC (.int 0)))) (gNt (Zgk (Zc5 "str" (Zak (Zan ixW) (Zad 0) (gC (.int 0)))))))) (ZaF (gC (.bl false))) Zar) (Zay (gIf (gTB (Zak (Zan (eqF true)) (gB (rF ZgK) (Zab (Zad 0) Zam)) (Zd6 ZhR (Zak (Zan ixW) (Zad 0) (gC (.int 0)))))) (ZaF (gC (.bl false))) Zar) (ZaF (Zkp (Zak (Zan (eqF true)) (Zak (Zan ixW) (Zad 0) (gC (.int 0))) (gC (.str "row"))) (Zc3 (Zaq Zc8 (fun _ _ _=>False) (Zab (Zak (Zan ixW) (Zad 0) (gC (.int 1))) Zam)) (Zc5 "bool" (Zak (Zan ixW) (Zad 0) (gC (.int 2)))))))))
theorem Zm9 {k:Nat} (T:Tx K mg base a) {ZdB:Nat} {Zc8:Spw} (ZkP:Df P w K mg base "are_fields" ZdB 1 Zc8) (ZkB:ZdB≤k) {f:Addr} {cdv:Value} {A:Around} {outer:List Env} {s:Shared} {H:Hp} {E:XK} (hr:Room k (A.deeper (envOfC "has_form" (Zac ZcK) s.heap.objs.size f cdv))):Ssm (cxW P w K mg base ZiQ "has_form" (Zac ZcK) f cdv A outer s H E).nox (fun B=>B=H) (Zax ZcK) (ZiD Zc8) :=
 have hu:=ZeU hr
 (Zai (Zba (Zf0 (Zlm (Zfw (Zfv (fun _=>rfl) (Zfc (T:="tuple") (by decide) Zdb T.Zcr T.ZaM rfl rfl (by decide) rfl rfl rfl (Zal (i:=0) rfl rfl rfl rfl)))) (Zlm (ZaD (Zch hu) rfl (Zg8 Zg9 (Zfg) rfl T.ZgM (by decide) rfl rfl rfl (Zaa rfl (Zal (i:=0) rfl rfl rfl rfl) Zae)) Zag) (ZjQ (Zfw (Zfv (fun _=>rfl) (Zfc (T:="str") (by decide) ZrE T.ZlG T.ZaM rfl rfl (by decide) rfl rfl rfl (Zaz (fun _ _=>rfl) (Zal (i:=0) rfl rfl rfl rfl) Zag)))))))) (Zaj (Zas ZfQ)) Zau) (Zai (Zba (ZaD (Zdc hu) rfl (Zg8 Zg9 (Zfg) rfl T.ZgM (by decide) rfl rfl rfl (Zaa rfl (Zal (i:=0) rfl rfl rfl rfl) Zae)) (Zn3 T.ZjO rfl rfl rfl rfl rfl rfl rfl (Zaz (fun _ _=>rfl) (Zal (i:=0) rfl rfl rfl rfl) Zag))) (Zaj (Zas ZfQ)) Zau) (Zaj (Zas (Zw4 (ZdM (Zdc hu) rfl (Zaz (fun _ _=>rfl) (Zal (i:=0) rfl rfl rfl rfl) Zag) Zat) (ZiX (Zki (Zap ZkP (hr.mono ZkB) rfl ZaG rfl rfl rfl (Zaa rfl (Zaz (fun _ _=>rfl) (Zal (i:=0) rfl rfl rfl rfl) Zag) Zae)) (ZiX (Zfc (T:="bool") (by decide) ZtO T.ZiT T.ZaM rfl rfl (by decide) rfl rfl rfl (Zaz (fun _ _=>rfl) (Zal (i:=0) rfl rfl rfl rfl) Zag))))))))))
abbrev Ze3:List Str:=["kind"]
theorem Zh9:ZaC Ze3 ["kind"] (Zac Zbh):=⟨rfl,rfl,rfl,by decide +kernel,rfl,by decide +kernel,by decide +kernel⟩
def ZeV:GS:=(Zay (gIf (gTB (Zak (Zan (eqF false)) (Zak (Zan ixW) (Zad 0) (gC (.int 0))) (gC (.str "row")))) (ZaF (ZcX (ZbJ (Zak (Zan ixW) (Zad 0) (gC (.int 1)))) 1 (gNm 0) ZfY (Zak (Zan ixW) (Zad 0) (gC (.int 2))))) Zar) (ZaF (gB (Znf) (Zab (gSl (Zad 0) (Zbg (gC (.int 1))) Zaw) Zam))))
theorem Zh8 {k:Nat} (T:Tx K mg base a) {f:Addr} {cdv:Value} {A:Around} {outer:List Env} {s:Shared} {H:Hp} {E:XK} (hr:Room k (A.deeper (envOfC "kinds_within" (Zac Zbh) s.heap.objs.size f cdv))):Ssm (cxW P w K mg base Ze3 "kinds_within" (Zac Zbh) f cdv A outer s H E).nox (fun B=>B=H) (Zax Zbh) (ZeV) :=
 have hu:=ZeU hr
 (Zai (Zba (ZaD (Zch hu) rfl (Zaz (fun _ _=>rfl) (Zal (i:=0) rfl rfl rfl rfl) Zag) Zat) (Zaj (Zas (Zen (Nc:=["field"]) rfl (ZrV rfl (by decide +kernel) (by decide +kernel)) (fun _=>rfl) (Zdm (fun _ _=>rfl) (Zaz (fun _ _=>rfl) (Zal (i:=0) rfl rfl rfl rfl) Zag)) (Zd2 (i:=0) (by decide) rfl rfl) (fun C fp s1 H1=>Zd0) (fun C fp s1 H1=>(Zaz (fun _ _=>rfl) (Zal (i:=0) rfl rfl rfl rfl) Zag))))) Zau) (Zaj (Zas (Zh3 Zsh (Zp4) rfl T.Zg3 (by decide) rfl rfl rfl (Zaa rfl (Zwk (Zal (i:=0) rfl rfl rfl rfl) (Zcw Zag) Zco) Zae)))))
abbrev ZeW:List Str:=["layer","things_within","found","thing"]
theorem ZdI:ZaC ZeW ["layer","things_within"] (Zac Zbf):=⟨rfl,rfl,rfl,by decide +kernel,rfl,by decide +kernel,by decide +kernel⟩
def Ze5 (mg:Str→Option Value) (ZaS:Spw):GS:=(Zay (Zbn 2 (Zcn Zam)) (Zay (Zel (ZbJ (Zad 0)) (gNm 3) (Zcm (gMt Zfb ZsT (Zad 2) (Zab (Zgo 1 (fAt mg "kinds_within") ZaS (fun _ _ _=>False) (Zab (Zad 3) Zam)) Zam)))) (ZaF (Zad 2))))
theorem ZhV {k:Nat} (T:Tx K mg base a) {ZaZ:Nat} {ZaS:Spw} (ZdK:Df P w K mg base "kinds_within" ZaZ 1 ZaS) (Ze7:ZaZ≤k) {f:Addr} {cdv:Value} {A:Around} {outer:List Env} {s:Shared} {H:Hp} {E:XK} (hr:Room k (A.deeper (envOfC "layer_within" (Zac Zbf) s.heap.objs.size f cdv))):Ssm (cxW P w K mg base ZeW "layer_within" (Zac Zbf) f cdv A outer s H E).nox (fun B=>B=H) (Zax Zbf) (Ze5 mg ZaS) :=
 have hu:=ZeU hr
 (Zai (ZeT (i:=2) ZdI.nd rfl rfl rfl (Zbv Zae)) (Zai (ZeZ PassesOwn.never rfl (fun _=>rfl) (Zdm (fun _ _=>rfl) (Zal (i:=0) rfl rfl rfl rfl)) (ZjE (i:=3) ZdI.nd rfl (.inl rfl) (.inr rfl)) (Zaj (ZeD rfl (Zih Zne rfl rfl rfl rfl rfl (Zal (i:=2) rfl rfl rfl rfl) (Zaa rfl (Zmr (i:=1) ZdK (hr.mono Ze7) rfl rfl ZaG rfl rfl rfl rfl (Zaa rfl (Zal (i:=3) rfl rfl rfl rfl) Zae)) Zae))))) (Zaj (Zas (Zal (i:=2) rfl rfl rfl rfl)))))
abbrev ZgC:List Str:=["thing","is_formed","things_within","most","deepest","layer","count","depth"]
theorem ZbP:ZaC ZgC ["thing","is_formed","things_within","most","deepest"] (Zac Zbo):=⟨rfl,rfl,rfl,by decide +kernel,rfl,by decide +kernel,by decide +kernel⟩
def Zgv (mg:Str→Option Value) (ZbG:Spw) (Zcy:Spw):GS:=(Zay (Zbn 5 (Zcn (Zab (Zad 0) Zam))) (Zay (Zbn 6 (gC (.int 0))) (Zay (Zbn 7 (gC (.int 0))) (Zay (ZmB (gTB (Zak (Zf4 fun i j=>decide (j < i)) (gB (rF ZgK) (Zab (Zad 5) Zam)) (gC (.int 0)))) (Zay (ZjH 6 Zej (gB (rF ZgK) (Zab (Zad 5) Zam))) (Zay (ZjH 7 Zej (gC (.int 1))) (Zay (gIf (gOr (gTB (Zak (Zf4 fun i j=>decide (j < i)) (Zad 6) (Zad 3))) (gTB (Zak (Zf4 fun i j=>decide (j < i)) (Zad 7) (Zad 4)))) (ZaF (gC (.bl false))) Zar) (Zay (gIf (gNt (Zgk (gB (rF Zic) (Zab (Zcl (ZbJ (Zad 5)) 1 [1] (gNm 0) ZfY (Zgo 1 (fAt mg "has_form") ZbG (fun _ _ _=>False) (Zab (Zad 0) Zam))) Zam)))) (ZaF (gC (.bl false))) Zar) (Zbn 5 (Zaq Zcy (fun _ _ _=>False) (Zab (Zad 5) (Zab (Zad 2) Zam))))))))) (ZaF (gC (.bl true)))))))
theorem ZkU {k:Nat} (T:Tx K mg base a) {Zcf:Nat} {ZbG:Spw} (Zgc:Df P w K mg base "has_form" Zcf 1 ZbG) (ZiE:Zcf≤k) {ZcR:Nat} {Zcy:Spw} (ZhZ:Df P w K mg base "layer_within" ZcR 2 Zcy) (Zh1:ZcR≤k) {f:Addr} {cdv:Value} {A:Around} {outer:List Env} {s:Shared} {H:Hp} {E:XK} (hr:Room k (A.deeper (envOfC "is_made_of" (Zac Zbo) s.heap.objs.size f cdv))):Ssm (cxW P w K mg base ZgC "is_made_of" (Zac Zbo) f cdv A outer s H E).nox (fun B=>B=H) (Zax Zbo) (Zgv mg ZbG Zcy) :=
 have hu:=ZeU hr
 (Zai (ZeT (i:=5) ZbP.nd rfl rfl rfl (Zbv (Zaa rfl (Zal (i:=0) rfl rfl rfl rfl) Zae))) (Zai (ZeT (i:=6) ZbP.nd rfl rfl rfl Zag) (Zai (ZeT (i:=7) ZbP.nd rfl rfl rfl Zag) (Zai (Zql PassesOwn.never (ZaD ZiO rfl (Zg8 Zg9 (Zfg) rfl T.ZgM (by decide) rfl rfl rfl (Zaa rfl (Zal (i:=5) rfl rfl rfl rfl) Zae)) Zag) (Zai (ZxD (n:=6) ZbP.nd rfl rfl (Zg8 Zg9 (Zfg) rfl T.ZgM (by decide) rfl rfl rfl (Zaa rfl (Zal (i:=5) rfl rfl rfl rfl) Zae))) (Zai (ZxD (n:=7) ZbP.nd rfl rfl Zag) (Zai (Zba (Zf0 (Zlm (ZaD ZiO rfl (Zal (i:=6) rfl rfl rfl rfl) (Zal (i:=3) rfl rfl rfl rfl)) (ZjQ (ZaD ZiO rfl (Zal (i:=7) rfl rfl rfl rfl) (Zal (i:=4) rfl rfl rfl rfl))))) (Zaj (Zas ZfQ)) Zau) (Zai (Zba (Zfw (Zfv (fun _=>rfl) (Zg8 Zl6 (Zjp rfl) rfl T.Zju (by decide) rfl rfl rfl (Zaa rfl (ZgW rfl (Zwb (own:=["part"]) (fr:=["is_formed"]) (js:=[1]) (scX:=Zac Zbo) (n:=s.heap.objs.size+1) rfl (by decide +kernel) (by decide +kernel) (by decide +kernel) (by decide +kernel) rfl rfl rfl (by decide +kernel) rfl) (fun _=>rfl) (Zdm (fun _ _=>rfl) (Zal (i:=5) rfl rfl rfl rfl)) (ZgY (i:=0) (by decide) rfl rfl) (fun C fp s1 H1=>Zd0) (fun C fp s1 H1=>(Zmr (i:=1) Zgc (hr.mono ZiE) rfl rfl ZaG rfl rfl rfl rfl (Zaa rfl (Zal (i:=0) rfl rfl rfl rfl) Zae)))) Zae)))) (Zaj (Zas ZfQ)) Zau) (Zaj (ZeT (i:=5) ZbP.nd rfl rfl rfl (Zap ZhZ (hr.mono Zh1) rfl ZaG rfl rfl rfl (Zaa rfl (Zal (i:=5) rfl rfl rfl rfl) (Zaa rfl (Zal (i:=2) rfl rfl rfl rfl) Zae)))))))))) (Zaj (Zas ZfQ))))))
abbrev ZkJ:List Str:=["thing"]
theorem Zpn:ZaC ZkJ ["thing"] (Zac Zdd):=⟨rfl,rfl,rfl,by decide +kernel,rfl,by decide +kernel,by decide +kernel⟩
def ZjM (mg:Str→Option Value) (ZbG:Spw) (ZaS:Spw) (Zc1:Spw):GS:=(ZaF (Zaq Zc1 (fun _ _ _=>False) (Zab (Zad 0) (Zab (gC (.ref (fAt mg "has_form"))) (Zab (gC (.ref (fAt mg "kinds_within"))) (Zab (gC (.int 40)) (Zab (gC (.int 8)) Zam)))))))
theorem ZnT {k:Nat} (T:Tx K mg base a) {Zcf:Nat} {ZbG:Spw} (Zgc:Df P w K mg base "has_form" Zcf 1 ZbG) (ZiE:Zcf≤k) {ZaZ:Nat} {ZaS:Spw} (ZdK:Df P w K mg base "kinds_within" ZaZ 1 ZaS) (Ze7:ZaZ≤k) {Zdx:Nat} {Zc1:Spw} (ZjY:Df P w K mg base "is_made_of" Zdx 5 Zc1) (ZkC:Zdx≤k) {f:Addr} {cdv:Value} {A:Around} {outer:List Env} {s:Shared} {H:Hp} {E:XK} (hr:Room k (A.deeper (envOfC "is_kind" (Zac Zdd) s.heap.objs.size f cdv))):Ssm (cxW P w K mg base ZkJ "is_kind" (Zac Zdd) f cdv A outer s H E).nox (fun B=>B=H) (Zax Zdd) (ZjM mg ZbG ZaS Zc1) :=
 have hu:=ZeU hr
 (Zaj (Zas (Zap ZjY (hr.mono ZkC) rfl ZaG rfl rfl rfl (Zaa rfl (Zal (i:=0) rfl rfl rfl rfl) (Zaa rfl (ZvD Zgc rfl rfl) (Zaa rfl (ZvD ZdK rfl rfl) (Zaa rfl (Zi6 T.Zcj rfl rfl) (Zaa rfl (Zi6 T.Zci rfl rfl) Zae))))))))
abbrev ZgD:List Str:=["thing"]
theorem Zkw:ZaC ZgD ["thing"] (Zac ZbE):=⟨rfl,rfl,rfl,by decide +kernel,rfl,by decide +kernel,by decide +kernel⟩
def Zgt (ZeN:Spw):GS:=(gIf (gNt (Zgk (Zaq ZeN (fun _ _ _=>False) (Zab (Zad 0) Zam)))) Zr6 Zar)
theorem Zke {k:Nat} (T:Tx K mg base a) {ZfP:Nat} {ZeN:Spw} (Znw:Df P w K mg base "is_kind" ZfP 1 ZeN) (ZnP:ZfP≤k) {f:Addr} {cdv:Value} {A:Around} {outer:List Env} {s:Shared} {H:Hp} {E:XK} (hr:Room k (A.deeper (envOfC "check_kind" (Zac ZbE) s.heap.objs.size f cdv))):Ssm (cxW P w K mg base ZgD "check_kind" (Zac ZbE) f cdv A outer s H E).nox (fun B=>B=H) (Zax ZbE) (Zgt ZeN) :=
 have hu:=ZeU hr
 (Zaj (Zba (Zfw (Zfv (fun _=>rfl) (Zap Znw (hr.mono ZnP) rfl ZaG rfl rfl rfl (Zaa rfl (Zal (i:=0) rfl rfl rfl rfl) Zae)))) (Zaj Zq9) Zau))
end
local macro_rules | `(tactic| walk_at "rd") => `(tactic| ((try dsimp only [Zay, gIf, ZaF, Zbn, Zcm, Zar, Zad, gC, Zak, gTB, Zgk, gNt, ZjG, gOr, Zc3, Zkp, ZhW, L3.Zbb, Zcn, L3.Zab, L3.Zam, Zaq, gB, rF, Zan, Zc5, gMt, ZjH, ZpH, Zcu, Zgm, Zf4, ZbU, L3.Ze6, Zej, gSl, Zbg, Zaw, ZcX, ZbJ, ZkZ, Zhx, Zel, Zd6, ZcU, ZaW, ZbX, List.map_cons, List.map_nil, List.length_cons, List.length_nil, List.cons_append, List.nil_append, List.getElem?_cons_zero, List.getElem?_cons_succ, List.set_cons_zero, List.set_cons_succ, List.replicate, ZjC, tyN, Zaf, Zb1, ZcZ, Zek, ixW, eqF, eqW, ZgK, ZjI, Zic, Zhj, Zk2, List.getElem?_nil]); (try simp only [Zay, gIf, ZaF, Zbn, Zcm, Zar, Zad, gC, Zak, gTB, Zgk, gNt, ZjG, gOr, Zc3, Zkp, ZhW, L3.Zbb, Zcn, L3.Zab, L3.Zam, Zaq, gB, rF, Zan, Zc5, gMt, ZjH, ZpH, Zcu, Zgm, Zf4, ZbU, L3.Ze6, Zej, gSl, Zbg, Zaw, ZcX, ZbJ, ZkZ, Zhx, Zel, Zd6, ZcU, ZaW, ZbX, List.map_cons, List.map_nil, List.length_cons, List.length_nil, List.cons_append, List.nil_append, List.getElem?_cons_zero, List.getElem?_cons_succ, List.set_cons_zero, List.set_cons_succ, List.replicate, ZjC, tyN, Zaf, Zb1, ZcZ, Zek, ixW, eqF, eqW, ZgK, ZjI, Zic, Zhj, Zk2, List.getElem?_nil])))
abbrev ZsA:Spw:=spR (fun (x:Str×Bool×W) ws _=>ws=[.tup [.str x.1,.str (Zd1 x.2.1),x.2.2]]∧ZcD x.1=true) fun _=>.bl true
theorem ZmO {n:Str} (h:ZcD n=true):n.length≤8:=by
 unfold ZcD at h
 simp only [Bool.and_eq_true,decide_eq_true_eq] at h
 exact h.1.2
theorem Ztq (b:Bool) (G:Hw):inF false (.str (Zd1 b)) (.tup [.str "must",.str "may"]) G=some (.bl true):=by cases b <;> kernel_rfl
theorem ZeI (T:Tx K mg base a):Df P w K mg base "is_field" 3 1 ZsA:=by
 refine mk0 T.ZeJ rfl Znc Zdj ((by rintro ws G Q E ⟨x,⟨e,_⟩,_⟩;rw [e];rfl)) (Zna T (Zfu T) (Nat.le_refl _)) fun ws G Q E hC q=>?_
 obtain ⟨⟨n,b,k⟩,⟨rfl,hn⟩,q⟩:=q
 have hl:n.length≤8:=ZmO hn
 dsimp only at q hn
 unfold Zis
 walk_at "rd"
 have b1:Znt "tuple" "tuple"=true:=by decide
 simp only [b1,Bool.not_true,Bool.false_eq_true,if_false]
 refine ⟨n,⟨rfl,by omega⟩,?_⟩
 dsimp only
 rw [hn]
 simp only [if_true,Ztq,Zaf]
 exact q
theorem ZsM (k:Kd):∃ xs,k.enc=.tup (.str k.hd::xs):=by cases k <;> exact ⟨_,rfl⟩
abbrev ZqN:Spw:=spR (fun (fs:Fs) ws _=>ws=[.tup fs.enc]∧fs.ok=true∧Zh2 fs.names=true∧fs.cnt≤1000) fun _=>.bl true
def Zkq (x:W):W:=match x with | .tup (n::_)=>n | _=>.non
theorem Zo6:∀ {fs:Fs} {x:W},fs.ok=true→x∈fs.enc→∃ n b k,x=.tup [.str n,.str (Zd1 b),k]∧ZcD n=true
 | .nil,x,_,h=>by cases h
 | .cons n m k r,x,ho,h=>by
  have h':(ZcD n&&k.ok&&r.ok)=true:=ho
  simp only [Bool.and_eq_true] at h'
  rcases List.mem_cons.mp h with rfl | h
  ·exact ⟨n,m,k.enc,rfl,h'.1.1⟩
  ·exact Zo6 h'.2 h
theorem Zes:∀ fs:Fs,fs.enc.map Zkq=fs.names.map W.str
 | .nil=>rfl
 | .cons n m k r=>by show W.str n::r.enc.map Zkq=W.str n::r.names.map W.str;rw [Zes r]
theorem ZbK:∀ fs:Fs,fs.names.length=fs.enc.length
 | .nil=>rfl
 | .cons n m k r=>by show r.names.length+1=r.enc.length+1;rw [ZbK r]
theorem Ziy (fs:Fs):fs.enc.length≤fs.cnt:=by rw [ZpE,ZnG];exact Zje _
theorem ZdB (T:Tx K mg base a):Df P w K mg base "are_fields" 4 1 ZqN:=by
 refine mk0 T.Zdt rfl ZkS Zdj ((by rintro ws G Q E ⟨x,⟨e,_⟩,_⟩;rw [e];rfl)) (ZjX T (ZeI T) (Nat.le_refl _) (Zdq T) (by omega)) fun ws G Q E hC q=>?_
 obtain ⟨fs,⟨rfl,ho,hr,hc⟩,q⟩:=q
 have hl:=Ziy fs
 unfold Zgz
 walk_at "rd"
 have b1:Znt "tuple" "tuple"=true:=by decide
 simp only [b1,Bool.not_true,Bool.false_eq_true,if_false]
 refine Zj8 (f:=fun _=>.bl true) trivial fs.enc none [] (fun x hx Q' q'=>?_) (by simp only [List.length_nil];exact Za8 (by omega)) ?_
 ·obtain ⟨n,b,k,rfl,hn⟩:=Zo6 ho hx
  exact ⟨⟨n,b,k⟩,⟨rfl,hn⟩,q'⟩
 ·intro p hp
  rw [List.nil_append,show (fun _:W=>W.bl true)=W.bl∘(fun _=>true) from rfl,← List.map_map]
  simp only [Zd3 Zah,Option.bind_some,Zeo,Option.map_some,Zaf]
  have hall:(fs.enc.map fun _=>true).all id=true:=by simp
  rw [hall]
  simp only [if_true]
  refine Zj8 (f:=Zkq) trivial fs.enc none [] (fun x hx Q' q'=>?_) (by simp only [List.length_nil];exact Za8 (by omega)) ?_
  ·obtain ⟨n,b,k,rfl,hn⟩:=Zo6 ho hx
   show Zak (Zan ixW) (Zad 0) (gC (.int 0)) [some (W.tup [.str n,.str (Zd1 b),k])] _ Q'
   walk_at "rd"
   exact q'
  ·intro p2 hp2
   rw [List.nil_append,Zes]
   refine ⟨fs.names,⟨p2,rfl,Zah,by rw [ZbK];omega⟩,?_⟩
   dsimp only
   rw [hr]
   exact hC _ _ _ (ZbA (Zbk hp) hp2) q
abbrev Zuh:Spw:=spR (fun (k:Kd) ws _=>ws=[k.enc]∧k.ok=true∧k.cnt≤1000) fun _=>.bl true
theorem Zcf (T:Tx K mg base a):Df P w K mg base "has_form" 5 1 Zuh:=by
 refine mk0 T.ZeK rfl Znm Zdj ((by rintro ws G Q E ⟨x,⟨e,_⟩,_⟩;rw [e];rfl)) (Zm9 T (ZdB T) (Nat.le_refl _)) fun ws G Q E hC q=>?_
 obtain ⟨k,⟨rfl,ho,hc⟩,q⟩:=q
 have b1:Znt "tuple" "tuple"=true:=by decide
 have b2:Znt "bool" "bool"=true:=by decide
 have b3:Znt "str" "str"=true:=by decide
 unfold ZiD
 cases k with
 | any =>
  simp only [Kd.enc];walk_at "rd"
  simp only [b1,b3,Bool.not_true,Bool.false_eq_true,if_false]
  exact q
 | num =>
  simp only [Kd.enc];walk_at "rd"
  simp only [b1,b3,Bool.not_true,Bool.false_eq_true,if_false]
  exact q
 | truth =>
  simp only [Kd.enc];walk_at "rd"
  simp only [b1,b3,Bool.not_true,Bool.false_eq_true,if_false]
  exact q
 | to x y =>
  simp only [Kd.enc];walk_at "rd"
  simp only [b1,b3,Bool.not_true,Bool.false_eq_true,if_false]
  exact q
 | box x =>
  simp only [Kd.enc];walk_at "rd"
  simp only [b1,b3,Bool.not_true,Bool.false_eq_true,if_false]
  exact q
 | row fs o =>
  have h':(Zh2 fs.names&&fs.ok)=true:=ho
  simp only [Bool.and_eq_true] at h'
  have hc':1+fs.cnt≤1000:=hc
  simp only [Kd.enc];walk_at "rd"
  simp only [b1,b3,Bool.not_true,Bool.false_eq_true,if_false]
  refine ⟨fs,⟨rfl,h'.2,h'.1,by omega⟩,?_⟩
  simp only [if_true,b2]
  exact q
def Zlh (x:W):W:=match x with | .tup [_,_,k]=>k | _=>.non
theorem Zl7:∀ fs:Fs,fs.enc.map Zlh=fs.kinds.map Kd.enc
 | .nil=>rfl
 | .cons n m k r=>by show k.enc::r.enc.map Zlh=k.enc::r.kinds.map Kd.enc;rw [Zl7 r]
theorem ZfZ:∀ {fs:Fs} {x:W},x∈fs.enc→∃ n b k,x=.tup [.str n,.str (Zd1 b),k]
 | .nil,x,h=>by cases h
 | .cons n m k r,x,h=>by
  rcases List.mem_cons.mp h with rfl | h
  ·exact ⟨n,m,k.enc,rfl⟩
  ·exact ZfZ h
abbrev Zms:Spw:=spL (fun (k:Kd) ws _=>ws=[k.enc]∧k.cnt≤20000) fun k=>k.kids.map Kd.enc
theorem ZaZ (T:Tx K mg base a):Df P w K mg base "kinds_within" 1 1 Zms:=by
 refine mk0 T.ZcQ rfl Zh9 Zrm ((by rintro ws G Q E ⟨x,⟨e,_⟩,_⟩;rw [e];rfl)) (Zh8 T) fun ws G Q E hC q=>?_
 obtain ⟨k,⟨rfl,hc⟩,q⟩:=q
 unfold ZeV
 cases k with
 | row fs o =>
  have hc':1+fs.cnt≤20000:=hc
  have hl:=Ziy fs
  simp only [Kd.enc];walk_at "rd"
  refine Zj8 (f:=Zlh) trivial fs.enc none [] (fun x hx Q' q'=>?_) (by simp only [List.length_nil];exact Za8 (by omega)) ?_
  ·obtain ⟨n,b,k,rfl⟩:=ZfZ hx
   show Zak (Zan ixW) (Zad 0) (gC (.int 2)) [some (W.tup [.str n,.str (Zd1 b),k])] _ Q'
   walk_at "rd"
   exact q'
  ·rw [List.nil_append,Zl7]
   exact q
 | any=>simp only [Kd.enc];walk_at "rd";exact ⟨Zeu _ _,q⟩
 | num=>simp only [Kd.enc];walk_at "rd";exact ⟨Zeu _ _,q⟩
 | truth=>simp only [Kd.enc];walk_at "rd";exact ⟨Zeu _ _,q⟩
 | to x y=>simp only [Kd.enc];walk_at "rd";exact ⟨Zeu _ _,q⟩
 | box x=>simp only [Kd.enc];walk_at "rd";exact ⟨Zeu _ _,q⟩
theorem Zvw {G:Hw} {p r:Addr} {xs zs:List W} {Q:Kw} (hp:G p=some (.lst xs)) (hr:G r=some (.lst zs)) (hl:xs.length+zs.length≤sizeLine) (q:Q .non (put G p (.lst (xs++zs)))):ZsT (.ref p) [.ref r] G Q:=by
 unfold ZsT
 refine Zlz hp ?_ q
 rw [Zd3 hr,Option.bind_some,if_pos hl]
theorem ZfS {G:Hw} {p:Addr} {xs:List W} (h:G p=some (.lst xs)):Zfb (.ref p) G:=⟨xs,Zd3 h⟩
set_option Elab.async false
set_option linter.all false
set_option maxRecDepth 100000
local macro_rules | `(tactic| walk_at "rd") => `(tactic| ((try dsimp only [Zay, gIf, ZaF, Zbn, Zcm, Zar, Zad, gC, Zak, gTB, Zgk, gNt, ZjG, gOr, Zc3, Zkp, ZhW, L3.Zbb, Zcn, L3.Zab, L3.Zam, Zaq, gB, rF, Zan, Zc5, gMt, ZjH, ZpH, Zcu, Zgm, Zf4, ZbU, L3.Ze6, Zej, gSl, Zbg, Zaw, ZcX, ZbJ, ZkZ, Zhx, Zel, Zd6, ZcU, Zgo, Zcl, Zh5, ZaW, ZbX, List.map_cons, List.map_nil, List.length_cons, List.length_nil, List.cons_append, List.nil_append, List.getElem?_cons_zero, List.getElem?_cons_succ, List.set_cons_zero, List.set_cons_succ, List.replicate, ZjC, tyN, Zaf, Zb1, ZcZ, Zek, ixW, eqF, eqW, ZgK, ZjI, Zic, Zhj, Zk2, List.getElem?_nil]); (try simp only [Zay, gIf, ZaF, Zbn, Zcm, Zar, Zad, gC, Zak, gTB, Zgk, gNt, ZjG, gOr, Zc3, Zkp, ZhW, L3.Zbb, Zcn, L3.Zab, L3.Zam, Zaq, gB, rF, Zan, Zc5, gMt, ZjH, ZpH, Zcu, Zgm, Zf4, ZbU, L3.Ze6, Zej, gSl, Zbg, Zaw, ZcX, ZbJ, ZkZ, Zhx, Zel, Zd6, ZcU, Zgo, Zcl, Zh5, ZaW, ZbX, List.map_cons, List.map_nil, List.length_cons, List.length_nil, List.cons_append, List.nil_append, List.getElem?_cons_zero, List.getElem?_cons_succ, List.set_cons_zero, List.set_cons_succ, List.replicate, ZjC, tyN, Zaf, Zb1, ZcZ, Zek, ixW, eqF, eqW, ZgK, ZjI, Zic, Zhj, Zk2, List.getElem?_nil])))
abbrev Zs3 (mg:Str→Option Value):Spw:=spL (fun (l:List Kd) ws G=>∃ p,ws=[.ref p,.ref (fAt mg "kinds_within")]∧G p=some (.lst (l.map Kd.enc))∧Zga l≤10000) fun l=>(l.flatMap Kd.kids).map Kd.enc
theorem ZmM {D:Ew} {p q0 fw:Addr} {items:List W}:∀ (l:List Kd) (o:Option W) (k0:W) (G:Hw) (acc:List W),acc.length+Zga l≤20000→p≠q0→G p=some (.lst acc)→G q0=some (.lst items) →
  (∀ ω G',(∃ o',ω=[some k0,some (.ref fw),some (.ref p),o'])→G' p=some (.lst (acc++(l.flatMap Kd.kids).map Kd.enc))→(∀ b,b≠p→∀ u,G b=some u→G' b=some u)→D.nx ω G') →
  Zdo (holds q0 items) (gNm 3) (Zcm (gMt Zfb ZsT (Zad 2) (L3.Zab (Zgo 1 fw Zms (fun _ _ _=>False) (L3.Zab (Zad 3) L3.Zam)) L3.Zam))) D (l.map Kd.enc) [some k0,some (.ref fw),some (.ref p),o] G
 | [],o,k0,G,acc,_,hne,hp,hq,fin=>⟨hq,fin _ G ⟨o,rfl⟩ (by simpa using hp) fun _ _ _ h=>h⟩
 | c::l,o,k0,G,acc,hl,hne,hp,hq,fin=>by
  have hll:acc.length+(c.cnt+Zga l)≤20000:=hl
  have hk:=ZmA c
  refine ⟨hq,?_⟩
  show Zcm _ _ [some k0,some (.ref fw),some (.ref p),some c.enc] G
  walk_at "rd"
  refine ⟨ZfS hp,trivial,c,⟨rfl,by omega⟩,fun r hr=>?_⟩
  have hpr:=ZaB hp hr
  have hqr:=ZaB hq hr
  refine Zvw (by rw [Zao hpr];exact hp) Zah (by rw [List.length_map];exact Za8 (by omega)) ?_
  refine ZmM l (some c.enc) k0 _ (acc++c.kids.map Kd.enc) (by rw [List.length_append,List.length_map];omega) hne Zah ?_ ?_
  ·rw [Zao (Ne.symm hne),Zao hqr];exact hq
  ·intro ω G' hω h1 h2
   refine fin ω G' hω (by rw [h1,List.flatMap_cons,List.map_append,List.append_assoc]) fun b hb u hu=>h2 b hb u ?_
   rw [Zao hb,Zao (ZaB hu hr)];exact hu
theorem ZcR (T:Tx K mg base a):Df P w K mg base "layer_within" 2 2 (Zs3 mg):=by
 refine mk0 T.ZcP rfl ZdI Zrm ((by rintro ws G Q E ⟨x,⟨p,e,_⟩,_⟩;rw [e];rfl)) (ZhV T (ZaZ T) (by omega)) fun ws G Q E hC q=>?_
 obtain ⟨l,⟨q0,rfl,hq,hl⟩,q⟩:=q
 unfold Ze5
 walk_at "rd"
 refine ⟨by decide,fun p hp=>?_⟩
 have hne:p≠q0:=Ne.symm (ZaB hq hp)
 have hq':put G p (.lst []) q0=some (.lst (l.map Kd.enc)):=by rw [Zao (Ne.symm hne)];exact hq
 simp only [hq']
 refine ZmM l none (.ref q0) _ [] (by simp only [List.length_nil];omega) hne Zah hq' ?_
 intro ω G' hω h1 h2
 obtain ⟨o',rfl⟩:=hω
 simp only [List.getElem?_cons_zero,List.getElem?_cons_succ]
 rw [List.nil_append] at h1
 have hs:Sub (put G p (.lst ((l.flatMap Kd.kids).map Kd.enc))) G':=fun b u hu=>by
  by_cases hb:b=p
  ·subst hb
   rw [Zah] at hu;cases hu
   exact h1
  ·rw [Zao hb] at hu
   exact h2 b hb u (by rw [Zao hb];exact hu)
 exact hC _ _ _ hs (q p hp)
theorem Zq3 {α:Type} {enc f:α→W} {gd:Hw→Prop} {ge:GE} {R:List W→Hw→Prop} {G:Hw} {cst:Sw} (hgd:gd G):∀ (l:List α) (o:Option W) (ys:List W),(∀ x∈l,∀ Q:Kw,Q (f x) G→ge (some (enc x)::cst) G Q) →
  ys.length+l.length≤sizeLine→R (ys++l.map f) G→Zb4 gd (gNm 0) ZfY ge R (l.map enc) (o::cst) G ys
 | [],o,ys,_,_,r=>⟨hgd,by simpa using r⟩
 | x::l,o,ys,h,hl,r=>by
  refine ⟨hgd,by simp only [List.length_cons] at hl;omega,?_⟩
  show ge (some (enc x)::cst) G fun y G3=>Zb4 gd (gNm 0) ZfY ge R (l.map enc) (some (enc x)::cst) G3 (ys++[y])
  refine h x List.mem_cons_self _ (Zq3 hgd l (some (enc x)) (ys++[f x]) (fun y hy=>h y (List.mem_cons_of_mem _ hy)) ?_ ?_)
  ·simp only [List.length_append,List.length_cons,List.length_nil] at hl ⊢;omega
  ·simpa [List.append_assoc] using r
def Zk1 (k:Kd):Bool:=decide (k.cnt≤40∧k.dp≤8)
abbrev Zvz (mg:Str→Option Value):Spw:=spR (fun (k:Kd) ws _=>ws=[k.enc,.ref (fAt mg "has_form"),.ref (fAt mg "kinds_within"),.int 40,.int 8]∧k.ok=true∧k.cnt≤1000) fun k=>.bl (Zk1 k)
theorem Zdx (T:Tx K mg base a):Df P w K mg base "is_made_of" 6 5 (Zvz mg):=by
 refine mk0 T.Zdy rfl ZbP Zdj ((by rintro ws G Q E ⟨x,⟨e,_⟩,_⟩;rw [e];rfl)) (ZkU T (Zcf T) (Nat.le_refl _) (ZcR T) (by omega)) fun ws G Q E hC q=>?_
 obtain ⟨k,⟨rfl,ho,hc⟩,q⟩:=q
 unfold Zgv
 walk_at "rd"
 refine ⟨by decide,fun p hp=>?_⟩
 refine ⟨fun m ω G'=>∃ (l:List Kd) (p:Addr) (c d:Nat),ω=[some k.enc,some (.ref (fAt mg "has_form")),some (.ref (fAt mg "kinds_within")),some (.int 40),some (.int 8),some (.ref p),some (.int c),some (.int d)]∧G' p=some (.lst (l.map Kd.enc))∧Sub G G'∧c+Zga l=k.cnt∧d+dpL l=k.dp∧(∀ x∈l,x.ok=true)∧c≤40∧d≤8∧m=9 - d,⟨9,[k],p,0,0,rfl,Zah,Zbk hp,?_,?_,?_,by omega,by omega,rfl⟩,?_⟩
 ·show 0+(k.cnt+0)=k.cnt;omega
 ·show 0+max k.dp 0=k.dp;omega
 ·intro x hx;rw [List.mem_singleton.mp hx];exact ho
 rintro m ω G1 ⟨l,p,c,d,rfl,hl,hs,e1,e2,hok,h40,h8,rfl⟩
 have hlen:(l.map Kd.enc).length=l.length:=List.length_map _
 walk_at "rd"
 simp only [hl,Zaf,hlen]
 cases l with
 | nil =>
  have d0:¬ ((0:Int) < ((([]:List Kd).length:Nat):Int)):=by simp
  simp only [d0,decide_false,Bool.false_eq_true,if_false]
  have hg:Zk1 k=true:=by
   unfold Zk1
   have z1:c+0=k.cnt:=e1
   have z2:d+0=k.dp:=e2
   simp only [decide_eq_true_eq]
   omega
  dsimp only at q
  rw [hg] at q
  exact hC _ _ _ hs q
 | cons x l =>
  have hx1:=ZiG (x::l)
  have hx2:=Zkl (x::l) (by simp)
  have d0:(0:Int) < (((x::l).length:Nat):Int):=by simp only [List.length_cons];omega
  simp only [d0,decide_true,if_true,hl,Zaf,hlen]
  have b40:decide ((40:Int) < (c:Int)+(((x::l).length:Nat):Int))=decide (40 < c+(x::l).length):=by
   rw [decide_eq_decide];omega
  have b8:decide ((8:Int) < (d:Int)+1)=decide (8 < d+1):=by
   rw [decide_eq_decide];omega
  rw [b40,b8]
  by_cases g40:40 < c+(x::l).length
  ·have hg:Zk1 k=false:=by
    unfold Zk1
    simp only [decide_eq_false_iff_not]
    omega
   dsimp only at q
   rw [hg] at q
   simp only [g40,decide_true,if_true]
   exact hC _ _ _ hs q
  ·by_cases g8:8 < d+1
   ·have hg:Zk1 k=false:=by
     unfold Zk1
     simp only [decide_eq_false_iff_not]
     omega
    dsimp only at q
    rw [hg] at q
    simp only [g40,g8,decide_true,decide_false,if_true,Bool.false_eq_true,if_false]
    exact hC _ _ _ hs q
   ·simp only [g40,g8,decide_false,Bool.false_eq_true,if_false]
    refine Zq3 (f:=fun _=>.bl true) (cst:=[some (.ref (fAt mg "has_form"))]) hl (x::l) none [] (fun z hz Q' q'=>?_) (by exact Za8 (by simp only [List.length_nil];omega)) ?_
    ·have hz2:=Zi4 hz
     exact ⟨rfl,z,⟨rfl,hok z hz,by omega⟩,q'⟩
    ·intro p1 hp1
     rw [List.nil_append,show (fun _:Kd=>W.bl true)=W.bl∘(fun _=>true) from rfl,← List.map_map]
     simp only [Zd3 Zah,Option.bind_some,Zeo,Option.map_some,Zaf]
     have hall:((x::l).map fun _=>true).all id=true:=by simp
     rw [hall]
     simp only [Bool.not_true,Bool.false_eq_true,if_false]
     refine ⟨x::l,⟨p,rfl,by rw [Zao (ZaB hl hp1)];exact hl,by omega⟩,fun p2 hp2=>?_⟩
     refine ⟨9 - (d+1),by omega,(x::l).flatMap Kd.kids,p2,c+(x::l).length,d+1,?_,Zah,?_,by omega,by omega,?_,by omega,by omega,rfl⟩
     ·simp only [Int.natCast_add,Int.natCast_one]
     ·exact ZbA (ZbA hs hp1) hp2
     ·intro y hy
      obtain ⟨z,hz,hy⟩:=List.mem_flatMap.mp hy
      exact ZlC (hok z hz) y hy
abbrev Zu7:Spw:=spR (fun (k:Kd) ws _=>ws=[k.enc]∧k.ok=true∧k.cnt≤1000) fun k=>.bl (Zk1 k)
theorem ZfP (T:Tx K mg base a):Df P w K mg base "is_kind" 7 1 Zu7:=by
 refine mk0 T.Zfz rfl Zpn Zdj ((by rintro ws G Q E ⟨x,⟨e,_⟩,_⟩;rw [e];rfl)) (ZnT T (Zcf T) (by omega) (ZaZ T) (by omega) (Zdx T) (Nat.le_refl _)) fun ws G Q E hC q=>?_
 obtain ⟨k,⟨rfl,ho,hc⟩,q⟩:=q
 unfold ZjM
 walk_at "rd"
 exact ⟨k,⟨rfl,ho,hc⟩,q⟩
abbrev Zw7:Spw:=spR (fun (k:Kd) ws _=>ws=[k.enc]∧k.ok=true∧k.cnt≤1000∧Zk1 k=true) fun _=>.non
theorem Zdz (T:Tx K mg base a):Df P w K mg base "check_kind" 8 1 Zw7:=by
 refine mk0 T.Zdw rfl Zkw Zdj ((by rintro ws G Q E ⟨x,⟨e,_⟩,_⟩;rw [e];rfl)) (Zke T (ZfP T) (Nat.le_refl _)) fun ws G Q E hC q=>?_
 obtain ⟨k,⟨rfl,ho,hc,hg⟩,q⟩:=q
 unfold Zgt
 walk_at "rd"
 refine ⟨k,⟨rfl,ho,hc⟩,?_⟩
 simp only [hg,Bool.not_true,Bool.false_eq_true,if_false]
 exact q
set_option maxHeartbeats 4000000
section
variable {P:Program} {w:World} {K:PySem.W.Frag} {mg:Str→Option Value} {base:Heap} {a:Adr}
abbrev Zgl:List Str:=["script","k","cell"]
theorem ZeE:ZaC Zgl ["script","k"] (Zac ZbF):=⟨rfl,rfl,rfl,by decide +kernel,rfl,by decide +kernel,by decide +kernel⟩
def Zgu:GS:=(Zay (Zbn 2 (gC (.int 0))) (Zay (gIf (gTB (Zak (Zgm (fun i j=>decide (i < j)) ZaP) (Zad 1) (gB (rF ZgK) (Zab (Zad 0) Zam)))) (Zbn 2 (Zak (Zan ixW) (Zad 0) (Zad 1))) Zar) (Zay (gIf (gTB (Zak (Zf4 fun i j=>decide (j≤i)) (Zad 2) (Zak (ZbU Zs8 fun i j=>i ^ j.toNat) (gC (.int 10)) (gC (.int 18))))) (ZaF (Zcn (Zab (Zak (ZbU (fun _ _=>True) fun i j=>i - j) (Zad 2) (Zak (ZbU Zs8 fun i j=>i ^ j.toNat) (gC (.int 10)) (gC (.int 18)))) (Zab (gC (.int 1)) Zam)))) Zar) (ZaF (Zcn (Zab (Zak (ZbU (fun _ j=>0 < j) fun i j=>i % j) (Zak (Ze6) (Zad 2) (Zak (ZbU CMul fun i j=>i*j) (gC (.int 7919)) (Zad 1))) (gC (.int 2147483647))) (Zab (gC (.int 0)) Zam)))))))
theorem Zko {k:Nat} (T:Tx K mg base a) {f:Addr} {cdv:Value} {A:Around} {outer:List Env} {s:Shared} {H:Hp} {E:XK} (hr:Room k (A.deeper (envOfC "_law_state" (Zac ZbF) s.heap.objs.size f cdv))):Ssm (cxW P w K mg base Zgl "_law_state" (Zac ZbF) f cdv A outer s H E).nox (fun B=>B=H) (Zax ZbF) (Zgu) :=
 have hu:=ZeU hr
 (Zai (ZeT (i:=2) ZeE.nd rfl rfl rfl Zag) (Zai (Zba (ZaD Zps rfl (Zal (i:=1) rfl rfl rfl rfl) (Zg8 Zg9 (Zfg) rfl T.ZgM (by decide) rfl rfl rfl (Zaa rfl (Zal (i:=0) rfl rfl rfl rfl) Zae))) (Zaj (ZeT (i:=2) ZeE.nd rfl rfl rfl (Zaz (fun _ _=>rfl) (Zal (i:=0) rfl rfl rfl rfl) (Zal (i:=1) rfl rfl rfl rfl)))) Zau) (Zai (Zba (ZaD ZuI rfl (Zal (i:=2) rfl rfl rfl rfl) (ZrS Zag Zag)) (Zaj (Zas (Zbv (Zaa rfl (Zgq (Zal (i:=2) rfl rfl rfl rfl) (ZrS Zag Zag)) (Zaa rfl Zag Zae))))) Zau) (Zaj (Zas (Zbv (Zaa rfl (Zif (Zkm (Zal (i:=2) rfl rfl rfl rfl) (Zhg Zag (Zal (i:=1) rfl rfl rfl rfl))) Zag) (Zaa rfl Zag Zae))))))))
abbrev ZhA:List Str:=["state","many","mixed","found"]
theorem Zea:ZaC ZhA ["state","many"] (Zac Zcc):=⟨rfl,rfl,rfl,by decide +kernel,rfl,by decide +kernel,by decide +kernel⟩
def Zhv:GS:=(Zay (gIf (ZjG (gTB (Zak (Zan (eqF false)) (Zak (Zan ixW) (Zad 0) (gC (.int 1))) (gC (.int 1)))) (gTB (Zak (Zf4 fun i j=>decide (j < i)) (Zak (Zan ixW) (Zad 0) (gC (.int 0))) (gC (.int 0))))) (Zay (Zbn 3 (Zak (ZbU (fun _ j=>0 < j) fun i j=>i % j) (Zak (Zan ixW) (Zad 0) (gC (.int 0))) (Zad 1))) (Zay (ZcU (Zak (ZbU ZtU fun i j=>i / j) (Zak (Zan ixW) (Zad 0) (gC (.int 0))) (Zad 1)) (Zad 0) (gC (.int 0))) (ZaF (Zad 3)))) Zar) (Zay (ZcU (gC (.int 0)) (Zad 0) (gC (.int 1))) (Zay (ZcU (Zak (ZbU (fun _ j=>0 < j) fun i j=>i % j) (Zak (Ze6) (Zak (ZbU CMul fun i j=>i*j) (Zak (Zan ixW) (Zad 0) (gC (.int 0))) (gC (.int 48271))) (gC (.int 69621))) (gC (.int 2147483647))) (Zad 0) (gC (.int 0))) (Zay (Zbn 2 (Zak (ZbU (fun _ j=>0 < j) fun i j=>i % j) (Zak (Ze6) (Zak (ZbU CMul fun i j=>i*j) (Zak (Zan ixW) (Zad 0) (gC (.int 0))) (Zak (Zan ixW) (Zad 0) (gC (.int 0)))) (Zak (ZbU CMul fun i j=>i*j) (gC (.int 16807)) (Zak (Zan ixW) (Zad 0) (gC (.int 0))))) (gC (.int 2147483629)))) (Zay (Zbn 2 (Zak (ZbU (fun _ j=>0 < j) fun i j=>i % j) (Zak (Ze6) (Zak (ZbU CMul fun i j=>i*j) (Zad 2) (Zad 2)) (Zak (ZbU CMul fun i j=>i*j) (gC (.int 39373)) (Zad 2))) (gC (.int 2147483587)))) (ZaF (Zak (ZbU (fun _ j=>0 < j) fun i j=>i % j) (Zak (ZbU ZtU fun i j=>i / j) (Zad 2) (gC (.int 8))) (Zad 1))))))))
theorem Zk5 {k:Nat} (T:Tx K mg base a) {f:Addr} {cdv:Value} {A:Around} {outer:List Env} {s:Shared} {H:Hp} {E:XK} (hr:Room k (A.deeper (envOfC "_law_take" (Zac Zcc) s.heap.objs.size f cdv))):Ssm (cxW P w K mg base ZhA "_law_take" (Zac Zcc) f cdv A outer s H E).nox (fun B=>B=H) (Zax Zcc) (Zhv) :=
 have hu:=ZeU hr
 (Zai (Zba (Zf0 (Zut (ZaD (Zch hu) rfl (Zaz (fun _ _=>rfl) (Zal (i:=0) rfl rfl rfl rfl) Zag) Zag) (Zsj (ZaD ZiO rfl (Zaz (fun _ _=>rfl) (Zal (i:=0) rfl rfl rfl rfl) Zag) Zag)))) (Zai (ZeT (i:=3) Zea.nd rfl rfl rfl (Zif (Zaz (fun _ _=>rfl) (Zal (i:=0) rfl rfl rfl rfl) Zag) (Zal (i:=1) rfl rfl rfl rfl))) (Zai (Zjg (fun _=>rfl) rfl rfl rfl (Zli (Zaz (fun _ _=>rfl) (Zal (i:=0) rfl rfl rfl rfl) Zag) (Zal (i:=1) rfl rfl rfl rfl)) (Zal (i:=0) rfl rfl rfl rfl) Zag) (Zaj (Zas (Zal (i:=3) rfl rfl rfl rfl))))) Zau) (Zai (Zjg (fun _=>rfl) rfl rfl rfl Zag (Zal (i:=0) rfl rfl rfl rfl) Zag) (Zai (Zjg (fun _=>rfl) rfl rfl rfl (Zif (Zkm (Zhg (Zaz (fun _ _=>rfl) (Zal (i:=0) rfl rfl rfl rfl) Zag) Zag) Zag) Zag) (Zal (i:=0) rfl rfl rfl rfl) Zag) (Zai (ZeT (i:=2) Zea.nd rfl rfl rfl (Zif (Zkm (Zhg (Zaz (fun _ _=>rfl) (Zal (i:=0) rfl rfl rfl rfl) Zag) (Zaz (fun _ _=>rfl) (Zal (i:=0) rfl rfl rfl rfl) Zag)) (Zhg Zag (Zaz (fun _ _=>rfl) (Zal (i:=0) rfl rfl rfl rfl) Zag))) Zag)) (Zai (ZeT (i:=2) Zea.nd rfl rfl rfl (Zif (Zkm (Zhg (Zal (i:=2) rfl rfl rfl rfl) (Zal (i:=2) rfl rfl rfl rfl)) (Zhg Zag (Zal (i:=2) rfl rfl rfl rfl))) Zag)) (Zaj (Zas (Zif (Zli (Zal (i:=2) rfl rfl rfl rfl) Zag) (Zal (i:=1) rfl rfl rfl rfl)))))))))
abbrev Zfh:List Str:=["state","deep","way","fields","name","pick"]
theorem Zcd:ZaC Zfh ["state","deep"] (Zac Zcb):=⟨rfl,rfl,rfl,by decide +kernel,rfl,by decide +kernel,by decide +kernel⟩
def Zdh (Zav:Spw) (ZaA:Spw):GS:=(Zay (Zbn 2 (Zaq Zav (fun _ _ _=>False) (Zab (Zad 0) (Zab (Zak (Ze6) (gC (.int 6)) (Zak (ZbU CMul fun i j=>i*j) (gC (.int 4)) (gB (rF Zk2) (Zab (Zak (Zf4 fun i j=>decide (j < i)) (Zad 1) (gC (.int 0))) Zam)))) Zam)))) (Zay (gIf (gTB (Zak (Zgm (fun i j=>decide (i < j)) ZaP) (Zad 2) (gC (.int 6)))) (ZaF (Zak (Zan ixW) (Zcn (Zab (Zbb (Zab (gC (.str "any")) Zam)) (Zab (Zbb (Zab (gC (.str "num")) Zam)) (Zab (Zbb (Zab (gC (.str "truth")) Zam)) Zam)))) (Zak (ZbU ZtU fun i j=>i / j) (Zad 2) (gC (.int 2))))) Zar) (Zay (gIf (gTB (Zak (Zan (eqF false)) (Zad 2) (gC (.int 6)))) (ZaF (Zbb (Zab (gC (.str "to")) (Zab (Zaq ZaA (fun _ _ _=>False) (Zab (Zad 0) (Zab (Zak (ZbU (fun _ _=>True) fun i j=>i - j) (Zad 1) (gC (.int 1))) Zam))) (Zab (Zaq ZaA (fun _ _ _=>False) (Zab (Zad 0) (Zab (Zak (ZbU (fun _ _=>True) fun i j=>i - j) (Zad 1) (gC (.int 1))) Zam))) Zam))))) Zar) (Zay (gIf (gTB (Zak (Zan (eqF false)) (Zad 2) (gC (.int 7)))) (ZaF (Zbb (Zab (gC (.str "box")) (Zab (Zaq ZaA (fun _ _ _=>False) (Zab (Zad 0) (Zab (Zak (ZbU (fun _ _=>True) fun i j=>i - j) (Zad 1) (gC (.int 1))) Zam))) Zam)))) Zar) (Zay (Zbn 3 (Zcn Zam)) (Zay (Zel (ZbJ (Zcn (Zab (gC (.str "a")) (Zab (gC (.str "b")) (Zab (gC (.str "cc")) Zam))))) (gNm 4) (Zay (Zbn 5 (Zaq Zav (fun _ _ _=>False) (Zab (Zad 0) (Zab (gC (.int 4)) Zam)))) (gIf (gTB (Zak (Zf4 fun i j=>decide (j < i)) (Zad 5) (gC (.int 1)))) (Zcm (gMt Zfb Zpb (Zad 3) (Zab (Zbb (Zab (Zad 4) (Zab (Zak (Zan ixW) (Zcn (Zab (gC (.str "must")) (Zab (gC (.str "may")) Zam))) (Zak (ZbU (fun _ _=>True) fun i j=>i - j) (Zad 5) (gC (.int 2)))) (Zab (Zaq ZaA (fun _ _ _=>False) (Zab (Zad 0) (Zab (Zak (ZbU (fun _ _=>True) fun i j=>i - j) (Zad 1) (gC (.int 1))) Zam))) Zam)))) Zam))) Zar))) (ZaF (Zbb (Zab (gC (.str "row")) (Zab (gB (rF Zhj) (Zab (Zad 3) Zam)) (Zab (Zak (Zan (eqF false)) (Zaq Zav (fun _ _ _=>False) (Zab (Zad 0) (Zab (gC (.int 3)) Zam))) (gC (.int 0))) Zam)))))))))))
theorem Zfi {k:Nat} (T:Tx K mg base a) {ZaH:Nat} {Zav:Spw} (Zbe:Df P w K mg base "_law_take" ZaH 2 Zav) (Zbd:ZaH≤k) {ZaV:Nat} {ZaA:Spw} (ZbI:Df P w K mg base "_law_kind" ZaV 2 ZaA) (ZbH:ZaV≤k) {f:Addr} {cdv:Value} {A:Around} {outer:List Env} {s:Shared} {H:Hp} {E:XK} (hr:Room k (A.deeper (envOfC "_law_kind" (Zac Zcb) s.heap.objs.size f cdv))):Ssm (cxW P w K mg base Zfh "_law_kind" (Zac Zcb) f cdv A outer s H E).nox (fun B=>B=H) (Zax Zcb) (Zdh Zav ZaA) :=
 have hu:=ZeU hr
 (Zai (ZeT (i:=2) Zcd.nd rfl rfl rfl (Zap Zbe (hr.mono Zbd) rfl ZaG rfl rfl rfl (Zaa rfl (Zal (i:=0) rfl rfl rfl rfl) (Zaa rfl (Zkm Zag (Zhg Zag (Zh3 ZnE (Zlf) rfl T.Zj1 (by decide) rfl rfl rfl (Zaa rfl (ZdM ZiO rfl (Zal (i:=1) rfl rfl rfl rfl) Zag) Zae)))) Zae)))) (Zai (Zba (ZaD Zps rfl (Zal (i:=2) rfl rfl rfl rfl) Zag) (Zaj (Zas (Zaz (fun _ _=>rfl) (Zbv (Zaa rfl (ZaI (Zaa rfl Zat Zae)) (Zaa rfl (ZaI (Zaa rfl Zat Zae)) (Zaa rfl (ZaI (Zaa rfl Zat Zae)) Zae)))) (Zli (Zal (i:=2) rfl rfl rfl rfl) Zag)))) Zau) (Zai (Zba (ZaD (Zch hu) rfl (Zal (i:=2) rfl rfl rfl rfl) Zag) (Zaj (Zas (ZaI (Zaa rfl Zat (Zaa rfl (Zap ZbI (hr.mono ZbH) rfl ZaG rfl rfl rfl (Zaa rfl (Zal (i:=0) rfl rfl rfl rfl) (Zaa rfl (Zgq (Zal (i:=1) rfl rfl rfl rfl) Zag) Zae))) (Zaa rfl (Zap ZbI (hr.mono ZbH) rfl ZaG rfl rfl rfl (Zaa rfl (Zal (i:=0) rfl rfl rfl rfl) (Zaa rfl (Zgq (Zal (i:=1) rfl rfl rfl rfl) Zag) Zae))) Zae)))))) Zau) (Zai (Zba (ZaD (Zch hu) rfl (Zal (i:=2) rfl rfl rfl rfl) Zag) (Zaj (Zas (ZaI (Zaa rfl Zat (Zaa rfl (Zap ZbI (hr.mono ZbH) rfl ZaG rfl rfl rfl (Zaa rfl (Zal (i:=0) rfl rfl rfl rfl) (Zaa rfl (Zgq (Zal (i:=1) rfl rfl rfl rfl) Zag) Zae))) Zae))))) Zau) (Zai (ZeT (i:=3) Zcd.nd rfl rfl rfl (Zbv Zae)) (Zai (ZeZ PassesOwn.never rfl (fun _=>rfl) (Zdm (fun _ _=>rfl) (Zbv (Zaa rfl Zat (Zaa rfl Zat (Zaa rfl Zat Zae))))) (ZjE (i:=4) Zcd.nd rfl (.inl rfl) (.inr rfl)) (Zai (ZeT (i:=5) Zcd.nd rfl rfl rfl (Zap Zbe (hr.mono Zbd) rfl ZaG rfl rfl rfl (Zaa rfl (Zal (i:=0) rfl rfl rfl rfl) (Zaa rfl Zag Zae)))) (Zaj (Zba (ZaD ZiO rfl (Zal (i:=5) rfl rfl rfl rfl) Zag) (Zaj (ZeD rfl (Zih Zgd rfl rfl rfl rfl rfl (Zal (i:=3) rfl rfl rfl rfl) (Zaa rfl (ZaI (Zaa rfl (Zal (i:=4) rfl rfl rfl rfl) (Zaa rfl (Zaz (fun _ _=>rfl) (Zbv (Zaa rfl Zat (Zaa rfl Zat Zae))) (Zgq (Zal (i:=5) rfl rfl rfl rfl) Zag)) (Zaa rfl (Zap ZbI (hr.mono ZbH) rfl ZaG rfl rfl rfl (Zaa rfl (Zal (i:=0) rfl rfl rfl rfl) (Zaa rfl (Zgq (Zal (i:=1) rfl rfl rfl rfl) Zag) Zae))) Zae)))) Zae)))) Zau)))) (Zaj (Zas (ZaI (Zaa rfl Zat (Zaa rfl (Zh3 Zdb (Zev) rfl T.Zcr (by decide) rfl rfl rfl (Zaa rfl (Zal (i:=3) rfl rfl rfl rfl) Zae)) (Zaa rfl (ZdM (Zch hu) rfl (Zap Zbe (hr.mono Zbd) rfl ZaG rfl rfl rfl (Zaa rfl (Zal (i:=0) rfl rfl rfl rfl) (Zaa rfl Zag Zae))) Zag) Zae))))))))))))
end
set_option maxHeartbeats 1000000
local macro_rules | `(tactic| walk_at "rd") => `(tactic| ((try dsimp only [Zay, gIf, ZaF, Zbn, Zcm, Zar, Zad, gC, Zak, gTB, Zgk, gNt, ZjG, gOr, Zc3, Zkp, ZhW, L3.Zbb, Zcn, L3.Zab, L3.Zam, Zaq, gB, rF, Zan, Zc5, gMt, ZjH, ZpH, Zcu, Zgm, Zf4, ZbU, L3.Ze6, Zej, gSl, Zbg, Zaw, ZcX, ZbJ, ZkZ, Zhx, Zel, Zd6, ZcU, ZaW, ZbX, List.map_cons, List.map_nil, List.length_cons, List.length_nil, List.cons_append, List.nil_append, List.getElem?_cons_zero, List.getElem?_cons_succ, List.set_cons_zero, List.set_cons_succ, List.replicate, ZjC, tyN, Zaf, Zb1, ZcZ, Zek, ixW, eqF, eqW, ZgK, ZjI, Zic, Zhj, Zk2, List.getElem?_nil]); (try simp only [Zay, gIf, ZaF, Zbn, Zcm, Zar, Zad, gC, Zak, gTB, Zgk, gNt, ZjG, gOr, Zc3, Zkp, ZhW, L3.Zbb, Zcn, L3.Zab, L3.Zam, Zaq, gB, rF, Zan, Zc5, gMt, ZjH, ZpH, Zcu, Zgm, Zf4, ZbU, L3.Ze6, Zej, gSl, Zbg, Zaw, ZcX, ZbJ, ZkZ, Zhx, Zel, Zd6, ZcU, ZaW, ZbX, List.map_cons, List.map_nil, List.length_cons, List.length_nil, List.cons_append, List.nil_append, List.getElem?_cons_zero, List.getElem?_cons_succ, List.set_cons_zero, List.set_cons_succ, List.replicate, ZjC, tyN, Zaf, Zb1, ZcZ, Zek, ixW, eqF, eqW, ZgK, ZjI, Zic, Zhj, Zk2, List.getElem?_nil])))
theorem ZpM {ns:List Int} {k:Int} (h0:0≤k) (h:k < (ns.length:Int)):∃ v:Int,atI (ns.map W.int) k=some (.int v):=by
 have hk:k.toNat < ns.length:=by omega
 have ek:k=((k.toNat:Nat):Int):=by omega
 refine ⟨ns[k.toNat],?_⟩
 have q:atI (ns.map W.int) ((k.toNat:Nat):Int)=some (.int ns[k.toNat]):=ZjA (by rw [List.getElem?_map,List.getElem?_eq_getElem hk] <;> rfl)
 rw [← ek] at q
 exact q
def Zn0:Spw:=fun ws G Q _=>∃ (ns:List Int) (k:Int),ws=[.rol (ns.map W.int),.int k]∧0≤k∧k≤1000∧∀ p (x y:Int),G p=none→Q (.ref p) (put G p (.lst [.int x,.int y]))
theorem ZoS:Spw.M Zn0:=(by rintro ws G Q Q' E E' h _ ⟨ns,k,h1,h2,h3,q⟩;exact ⟨ns,k,h1,h2,h3,fun p x y hp=>h _ _ (q p x y hp)⟩)
theorem Zr1:Zs8 10 18:=⟨by decide,by decide,by decide⟩
theorem Zdr (T:Tx K mg base a):Df P w K mg base "_law_state" 1 2 Zn0:=by
 refine mk0 T.Zds rfl ZeE ZoS ((by rintro ws G Q E ⟨ns,k,e,_⟩;rw [e];rfl)) (Zko T) fun ws G Q E hC q=>?_
 obtain ⟨ns,k,rfl,h0,h1,q⟩:=q
 unfold Zgu
 have fin:∀ x:Int,(Zay (gIf (gTB (Zak (Zf4 fun i j=>decide (j≤i)) (Zad 2) (Zak (ZbU Zs8 fun i j=>i ^ j.toNat) (gC (.int 10)) (gC (.int 18))))) (ZaF (Zcn (L3.Zab (Zak (ZbU (fun _ _=>True) fun i j=>i - j) (Zad 2) (Zak (ZbU Zs8 fun i j=>i ^ j.toNat) (gC (.int 10)) (gC (.int 18)))) (L3.Zab (gC (.int 1)) L3.Zam)))) Zar) (ZaF (Zcn (L3.Zab (Zak (ZbU (fun _ j=>0 < j) fun i j=>i % j) (Zak (L3.Ze6) (Zad 2) (Zak (ZbU CMul fun i j=>i*j) (gC (.int 7919)) (Zad 1))) (gC (.int 2147483647))) (L3.Zab (gC (.int 0)) L3.Zam))))) (ZaW Q) [some (.rol (ns.map W.int)),some (.int k),some (.int x)] G:=fun x=>by
  walk_at "rd"
  refine ⟨Zr1,?_⟩
  refine Zsk (fun h=>?_) (fun h=>?_)
  ·exact ⟨Zr1,trivial,by decide,fun p hp=>q p _ _ hp⟩
  ·exact ⟨.inl ⟨by decide,by decide⟩,by decide,by decide,fun p hp=>q p _ _ hp⟩
 show Zay (Zbn 2 (gC (.int 0))) (Zay _ _) (ZaW Q) [some (.rol (ns.map W.int)),some (.int k),none] G
 by_cases hk:k < ((ns.map W.int).length:Int)
 ·obtain ⟨v,e⟩:=ZpM h0 (by simpa using hk)
  have z:=fin v
  simp only [Zay,Zbn,gC,gIf,gTB,Zak,Zgm,gB,rF,ZgK,ZjI,L3.Zab,L3.Zam,Zad,List.getElem?_cons_zero,List.getElem?_cons_succ,List.set_cons_zero,List.set_cons_succ,Zaf,hk,decide_true,if_true,Zan,ixW,e] at z ⊢
  exact z
 ·have z:=fin 0
  simp only [Zay,Zbn,gC,gIf,gTB,Zak,Zgm,gB,rF,ZgK,ZjI,L3.Zab,L3.Zam,Zad,List.getElem?_cons_zero,List.getElem?_cons_succ,List.set_cons_zero,List.set_cons_succ,Zaf,hk,decide_false,Bool.false_eq_true,if_false,Zar] at z ⊢
  exact z
def ZfC:Spw:=fun ws G Q _=>∃ (s:Addr) (m x y:Int),ws=[.ref s,.int m]∧0 < m∧m < 1073741824∧G s=some (.lst [.int x,.int y])∧∀ r x' y':Int,0≤r→r < m→Q (.int r) (put G s (.lst [.int x',.int y']))
theorem ZqE:Spw.M ZfC:=(by rintro ws G Q Q' E E' h _ ⟨s,m,x,y,h1,h2,h3,h4,q⟩;exact ⟨s,m,x,y,h1,h2,h3,h4,fun r x' y' a b=>h _ _ (q r x' y' a b)⟩)
theorem ZwQ (n:Nat):ixN (n+1) 0=some 0:=by unfold ixN;rw [if_pos (Int.le_refl 0),if_pos (by omega)];rfl
theorem Zxj (n:Nat):ixN (n+2) 1=some 1:=by unfold ixN;rw [if_pos (by decide),if_pos (by omega)];rfl
theorem ZoA {G:Hw} {s:Addr} {x y v:W} {Q:Hw→Prop} (h:G s=some (.lst [x,y])) (q:Q (put G s (.lst [v,y]))):Zh7 (.ref s) (.int 0) v G Q:=Zjo h (ZwQ 1) q
theorem ZtB {G:Hw} {s:Addr} {x y v:W} {Q:Hw→Prop} (h:G s=some (.lst [x,y])) (q:Q (put G s (.lst [x,v]))):Zh7 (.ref s) (.int 1) v G Q:=Zjo h (Zxj 0) q
theorem ix0 {G:Hw} {s:Addr} {x y:W} (h:G s=some (.lst [x,y])):ixW (.ref s) (.int 0) G=some x:=by rw [Zmk h];exact Zb1
theorem ix1 {G:Hw} {s:Addr} {x y:W} (h:G s=some (.lst [x,y])):ixW (.ref s) (.int 1) G=some y:=by rw [Zmk h];exact ZcZ
theorem Zn8 {x m:Int} (h0:0≤x) (h1:x < m) (hm:m≤2147483647):-(2 ^ 64) < x∧x < 2 ^ 64:=by
 have:(2:Int) ^ 64=18446744073709551616:=by decide
 rw [this];omega
theorem ZaH (T:Tx K mg base a):Df P w K mg base "_law_take" 1 2 ZfC:=by
 refine mk0 T.Zd4 rfl Zea ZqE ((by rintro ws G Q E ⟨s,m,x,y,e,_⟩;rw [e];rfl)) (Zk5 T) fun ws G Q E hC q=>?_
 obtain ⟨s,m,x,y,rfl,hm0,hm1,hs,q⟩:=q
 unfold Zhv
 have tail:(Zay (ZcU (gC (.int 0)) (Zad 0) (gC (.int 1))) (Zay (ZcU (Zak (ZbU (fun _ j=>0 < j) fun i j=>i % j) (Zak (L3.Ze6) (Zak (ZbU CMul fun i j=>i*j) (Zak (Zan ixW) (Zad 0) (gC (.int 0))) (gC (.int 48271))) (gC (.int 69621))) (gC (.int 2147483647))) (Zad 0) (gC (.int 0))) (Zay (Zbn 2 (Zak (ZbU (fun _ j=>0 < j) fun i j=>i % j) (Zak (L3.Ze6) (Zak (ZbU CMul fun i j=>i*j) (Zak (Zan ixW) (Zad 0) (gC (.int 0))) (Zak (Zan ixW) (Zad 0) (gC (.int 0)))) (Zak (ZbU CMul fun i j=>i*j) (gC (.int 16807)) (Zak (Zan ixW) (Zad 0) (gC (.int 0))))) (gC (.int 2147483629)))) (Zay (Zbn 2 (Zak (ZbU (fun _ j=>0 < j) fun i j=>i % j) (Zak (L3.Ze6) (Zak (ZbU CMul fun i j=>i*j) (Zad 2) (Zad 2)) (Zak (ZbU CMul fun i j=>i*j) (gC (.int 39373)) (Zad 2))) (gC (.int 2147483587)))) (ZaF (Zak (ZbU (fun _ j=>0 < j) fun i j=>i % j) (Zak (ZbU ZtU fun i j=>i / j) (Zad 2) (gC (.int 8))) (Zad 1))))))) (ZaW Q) [some (.ref s),some (.int m),none,none] G:=by
  simp only [Zay,ZcU,gC,Zad,List.getElem?_cons_zero,List.getElem?_cons_succ]
  refine ZtB hs ?_
  have h1:put G s (.lst [.int x,.int 0]) s=some (.lst [.int x,.int 0]):=Zah
  simp only [Zak,ZbU,L3.Ze6,Zan,gC,Zad,List.getElem?_cons_zero,List.getElem?_cons_succ,ix0 h1,Zaf]
  refine ⟨.inr ⟨by decide,by decide⟩,by decide,?_⟩
  refine ZoA h1 ?_
  rw [Zgg]
  generalize hx2:(x*48271+69621) % 2147483647=x2
  have b0:0≤x2:=by rw [← hx2];exact Int.emod_nonneg _ (by decide)
  have b1:x2 < 2147483647:=by rw [← hx2];exact Int.emod_lt_of_pos _ (by decide)
  have h2:put G s (.lst [.int x2,.int 0]) s=some (.lst [.int x2,.int 0]):=Zah
  simp only [Zbn,Zak,ZbU,L3.Ze6,Zan,gC,Zad,List.getElem?_cons_zero,List.getElem?_cons_succ,List.set_cons_zero,List.set_cons_succ,ix0 h2,Zaf,ZaF,ZaW]
  refine ⟨.inl (Zn8 b0 b1 (by decide)),.inl ⟨by decide,by decide⟩,by decide,?_⟩
  generalize hx3:(x2*x2+16807*x2) % 2147483629=x3
  have c0:0≤x3:=by rw [← hx3];exact Int.emod_nonneg _ (by decide)
  have c1:x3 < 2147483629:=by rw [← hx3];exact Int.emod_lt_of_pos _ (by decide)
  refine ⟨.inl (Zn8 c0 c1 (by decide)),.inl ⟨by decide,by decide⟩,(show (0:Int) < 2147483587 by decide),?_⟩
  refine ⟨⟨by decide,by decide⟩,hm0,?_⟩
  exact q _ _ _ (Int.emod_nonneg _ (by omega)) (Int.emod_lt_of_pos _ hm0)
 show Zay (gIf _ _ Zar) _ (ZaW Q) [some (.ref s),some (.int m),none,none] G
 simp only [Zay,gIf,ZjG,gTB,Zak,Zan,Zf4,Zad,gC,List.getElem?_cons_zero,List.getElem?_cons_succ,ix1 hs,ix0 hs,Zaf,eqF,eqW,Option.map_some] at tail ⊢
 refine Zsk (fun h=>?_) (fun h=>?_)
 ·refine Zsk (fun h2=>?_) (fun h2=>?_)
  ·simp only [Zbn,ZcU,Zak,ZbU,Zan,Zad,gC,ZaF,ZaW,List.getElem?_cons_zero,List.getElem?_cons_succ,List.set_cons_zero,List.set_cons_succ,ix0 hs,Zaf]
   refine ⟨hm0,?_⟩
   simp only [Zay,ZcU,Zak,ZbU,Zan,Zad,gC,ZaF,List.getElem?_cons_zero,List.getElem?_cons_succ,List.set_cons_zero,List.set_cons_succ,ix0 hs,Zaf]
   refine ⟨⟨hm0,hm1⟩,?_⟩
   refine ZoA hs ?_
   exact q _ _ _ (Int.emod_nonneg _ (by omega)) (Int.emod_lt_of_pos _ hm0)
  ·exact tail
 ·simp only [Bool.false_eq_true,if_false]
  exact tail
theorem Zk7 {x:Str} {st:Stmt} {ps:List Str} {k:Nat} {sp:Spw} (Fx:Fn K mg st x ps) (m:sp.M) (no:∀ ws G Q E,¬ sp ws G Q E):Df P w K mg base x k ps.length sp:=by
 obtain ⟨f,fd,h1,F,h3⟩:=Fx
 exact ⟨⟨f,fd,_,h1,F.kp,h3,rfl,⟨(by rintro vs H Q E ⟨ws,G,t,r,q⟩;exact absurd q (no _ _ _ _)),(by rintro A outer s H args us vs Q E _ _ _ _ ⟨ws,G,t,r,q⟩;exact absurd q (no _ _ _ _))⟩⟩,m⟩
theorem Zn5 {G:Hw} {p:Addr} {xs:List W} {y:W} {Q:Kw} (hp:G p=some (.lst xs)) (hl:xs.length < sizeLine) (q:Q .non (put G p (.lst (xs++[y])))):Zpb (.ref p) [y] G Q:=by
 unfold Zpb
 refine Zlz hp ?_ q
 rw [if_pos hl]
def Nn:Nat→Nat
 | 0=>1
 | n+1=>1+3*Nn n
def abc:List Str:=["a","b","cc"]
mutual
def Kd.abc:Kd→Bool
 | .to x y=>x.abc&&y.abc
 | .box x=>x.abc
 | .row fs _=>fs.abc
 | _=>true
def Fs.abc:Fs→Bool
 | .nil=>true
 | .cons n _ k r=>K6.abc.contains n&&k.abc&&r.abc
end
def gen (n:Nat) (k:Kd):Prop:=k.ok=true∧k.dp≤n+1∧k.cnt≤Nn n∧k.abc=true
theorem Zui:∀ n,1≤Nn n
 | 0=>Nat.le_refl _
 | n+1=>by show 1≤1+3*Nn n;omega
def Zfq (x:Str×Bool×Kd):W:=.tup [.str x.1,.str (Zd1 x.2.1),x.2.2.enc]
def ofL:List (Str×Bool×Kd)→Fs
 | []=>.nil
 | x::l=>.cons x.1 x.2.1 x.2.2 (ofL l)
theorem Zla:∀ l,(ofL l).enc=l.map Zfq
 | []=>rfl
 | x::l=>by show Zfq x::(ofL l).enc=Zfq x::l.map Zfq;rw [Zla l]
theorem ZhM:∀ l,(ofL l).names=l.map (·.1)
 | []=>rfl
 | x::l=>by show x.1::(ofL l).names=x.1::l.map (·.1);rw [ZhM l]
theorem Zod {n:Nat}:∀ l:List (Str×Bool×Kd),(∀ y∈l,gen n y.2.2)→(ofL l).dp≤n+1
 | [],_=>Nat.zero_le _
 | x::l,h=>by
  have h1:=(h x List.mem_cons_self).2.1
  have h2:=Zod l fun y hy=>h y (List.mem_cons_of_mem _ hy)
  show max x.2.2.dp (ofL l).dp≤n+1;omega
theorem Zpt {n:Nat}:∀ l:List (Str×Bool×Kd),(∀ y∈l,gen n y.2.2)→(ofL l).cnt≤l.length*Nn n
 | [],_=>Nat.zero_le _
 | x::l,h=>by
  have h1:=(h x List.mem_cons_self).2.2.1
  have h2:=Zpt l fun y hy=>h y (List.mem_cons_of_mem _ hy)
  show x.2.2.cnt+(ofL l).cnt≤(l.length+1)*Nn n
  rw [Nat.add_mul];omega
theorem Zpc {n:Nat}:∀ l:List (Str×Bool×Kd),(∀ y∈l,gen n y.2.2)→(∀ y∈l,ZcD y.1=true)→(ofL l).ok=true
 | [],_,_=>rfl
 | x::l,h,h'=>by
  show (ZcD x.1&&x.2.2.ok&&(ofL l).ok)=true
  rw [h' x List.mem_cons_self,(h x List.mem_cons_self).1,Zpc l (fun y hy=>h y (List.mem_cons_of_mem _ hy)) (fun y hy=>h' y (List.mem_cons_of_mem _ hy))];rfl
theorem ZlI:∀ {ns:List Str},ns.Pairwise (fun x y=>ZaP x y=true)→Zh2 ns=true
 | [],_=>rfl
 | [_],_=>rfl
 | x::y::r,h=>by
  show (ZaP x y&&Zh2 (y::r))=true
  cases h with
  | cons h1 h2=>rw [h1 y List.mem_cons_self,ZlI h2];rfl
theorem ZvI:abc.Pairwise (fun x y=>ZaP x y=true):=by decide +kernel
theorem Zrv:∀ n∈abc,ZcD n=true:=by decide +kernel
theorem Zlb {n:Nat}:∀ l:List (Str×Bool×Kd),(∀ y∈l,gen n y.2.2)→(∀ y∈l,y.1∈abc)→(ofL l).abc=true
 | [],_,_=>rfl
 | x::l,h,h'=>by
  show (abc.contains x.1&&x.2.2.abc&&(ofL l).abc)=true
  rw [List.contains_iff_mem.mpr (h' x List.mem_cons_self),(h x List.mem_cons_self).2.2.2,Zlb l (fun y hy=>h y (List.mem_cons_of_mem _ hy)) (fun y hy=>h' y (List.mem_cons_of_mem _ hy))];rfl
theorem Zr7 {n:Nat} {l:List (Str×Bool×Kd)} {o:Bool} (h:(l.map (·.1)).Sublist abc) (hg:∀ y∈l,gen n y.2.2):gen (n+1) (.row (ofL l) o):=by
 have hl:l.length≤3:=by have:=h.length_le;rw [List.length_map] at this;exact this
 refine ⟨?_,?_,?_,Zlb l hg fun y hy=>h.subset (List.mem_map_of_mem hy)⟩
 ·show (Zh2 (ofL l).names&&(ofL l).ok)=true
  rw [ZhM,ZlI (ZvI.sublist h),Zpc l hg fun y hy=>Zrv _ (h.subset (List.mem_map_of_mem hy))];rfl
 ·have:=Zod l hg;show 1+(ofL l).dp≤n+1+1;omega
 ·have h1:=Zpt l hg
  have h2:l.length*Nn n≤3*Nn n:=Nat.mul_le_mul_right _ hl
  show 1+(ofL l).cnt≤1+3*Nn n;omega
theorem Zry {n:Nat} {x y:Kd} (hx:gen n x) (hy:gen n y):gen (n+1) (.to x y):=by
 refine ⟨?_,?_,?_,by show (x.abc&&y.abc)=true;rw [hx.2.2.2,hy.2.2.2];rfl⟩
 ·show (x.ok&&y.ok)=true;rw [hx.1,hy.1];rfl
 ·have:=hx.2.1;have:=hy.2.1;show 1+max x.dp y.dp≤n+1+1;omega
 ·have:=hx.2.2.1;have:=hy.2.2.1;show 1+(x.cnt+y.cnt)≤1+3*Nn n;omega
theorem Zot {n:Nat} {x:Kd} (hx:gen n x):gen (n+1) (.box x):=by
 refine ⟨hx.1,?_,?_,hx.2.2.2⟩
 ·have:=hx.2.1;show 1+x.dp≤n+1+1;omega
 ·have:=hx.2.2.1;show 1+x.cnt≤1+3*Nn n;omega
theorem ZgZ {n:Nat} {k:Kd} (h:k=.any∨k=.num∨k=.truth):gen n k:=by
 have:=Zui n
 rcases h with rfl | rfl | rfl <;> exact ⟨rfl,Nat.succ_le_succ (Nat.zero_le _),this,rfl⟩
def Znb (n:Nat):Spw:=fun ws G Q _=>∃ (s:Addr) (x y:Int),ws=[.ref s,.int n]∧G s=some (.lst [.int x,.int y])∧∀ k x' y',gen n k→Q k.enc (put G s (.lst [.int x',.int y']))
theorem Zph {n:Nat}:Spw.M (Znb n):=(by rintro ws G Q Q' E E' h _ ⟨s,x,y,h1,h2,q⟩;exact ⟨s,x,y,h1,h2,fun k x' y' g=>h _ _ (q k x' y' g)⟩)
theorem Zjw {n:Nat} {D:Ew} {s p q0:Addr} {d:Int} {way:W} {items:List W} (hd:d - 1=(n:Int)):∀ (xs:List Str) (o4 o5:Option W) (G:Hw) (l:List (Str×Bool×Kd)) (x y:Int),G s=some (.lst [.int x,.int y])→G p=some (.lst (l.map Zfq))→G q0=some (.lst items)→p≠s→q0≠s→q0≠p→l.length+xs.length≤100 →
  (∀ ω G' l2 x' y',(∃ u v,ω=[some (.ref s),some (.int d),some way,some (.ref p),u,v])→G' s=some (.lst [.int x',.int y'])→G' p=some (.lst ((l++l2).map Zfq))→(∀ b,b≠s→b≠p→∀ u,G b=some u→G' b=some u)→(l2.map (·.1)).Sublist xs→(∀ z∈l2,gen n z.2.2)→D.nx ω G') →
  Zdo (holds q0 items) (gNm 4) (Zay (Zbn 5 (Zaq ZfC (fun _ _ _=>False) (L3.Zab (Zad 0) (L3.Zab (gC (.int 4)) L3.Zam)))) (gIf (gTB (Zak (Zf4 fun i j=>decide (j < i)) (Zad 5) (gC (.int 1)))) (Zcm (gMt Zfb Zpb (Zad 3) (L3.Zab (L3.Zbb (L3.Zab (Zad 4) (L3.Zab (Zak (Zan ixW) (Zcn (L3.Zab (gC (.str "must")) (L3.Zab (gC (.str "may")) L3.Zam))) (Zak (ZbU (fun _ _=>True) fun i j=>i - j) (Zad 5) (gC (.int 2)))) (L3.Zab (Zaq (Znb n) (fun _ _ _=>False) (L3.Zab (Zad 0) (L3.Zab (Zak (ZbU (fun _ _=>True) fun i j=>i - j) (Zad 1) (gC (.int 1))) L3.Zam))) L3.Zam)))) L3.Zam))) Zar)) D (xs.map W.str) [some (.ref s),some (.int d),some way,some (.ref p),o4,o5] G
 | [],o4,o5,G,l,x,y,hs,hp,hq,_,_,_,_,fin=>⟨hq,fin _ G [] x y ⟨o4,o5,rfl⟩ hs (by rw [List.append_nil];exact hp) (fun b _ _ u h=>h) (.refl _) (by intro z hz;cases hz)⟩
 | nm::xs,o4,o5,G,l,x,y,hs,hp,hq,nps,nqs,nqp,hl,fin=>by
  refine ⟨hq,?_⟩
  show Zay _ _ _ [some (.ref s),some (.int d),some way,some (.ref p),some (.str nm),o5] G
  walk_at "rd"
  refine ⟨s,4,x,y,rfl,by decide,by decide,hs,fun r x1 y1 r0 r1=>?_⟩
  have g1s:put G s (.lst [.int x1,.int y1]) s=some (.lst [.int x1,.int y1]):=Zah
  have g1p:put G s (.lst [.int x1,.int y1]) p=some (.lst (l.map Zfq)):=by rw [Zao nps];exact hp
  have g1q:put G s (.lst [.int x1,.int y1]) q0=some (.lst items):=by rw [Zao nqs];exact hq
  have hlx:l.length+(xs.length+1)≤100:=hl
  refine Zsk (fun h=>?_) (fun h=>?_)
  ·have h1:1 < r:=of_decide_eq_true h
   refine ⟨ZfS g1p,by decide,fun p2 hp2=>?_⟩
   have n2:s≠p2:=ZaB g1s hp2
   have n3:p≠p2:=ZaB g1p hp2
   have n4:q0≠p2:=ZaB g1q hp2
   have mk:∃ b:Bool,atI [W.str "must",W.str "may"] (r - 2)=some (.str (Zd1 b)):=by
    have:r - 2=0∨r - 2=1:=by omega
    rcases this with e | e
    ·exact ⟨true,by rw [e];exact Zb1⟩
    ·exact ⟨false,by rw [e];exact ZcZ⟩
   obtain ⟨b,eb⟩:=mk
   refine ⟨trivial,?_⟩
   simp only [Zah,eb,Zaf]
   refine ⟨trivial,s,x1,y1,by rw [hd],by rw [Zao n2];exact g1s,fun k x2 y2 hk=>?_⟩
   refine ⟨(show 3≤sizeLine by decide),?_⟩
   have g3p:put (put (put G s (.lst [.int x1,.int y1])) p2 (.lst [.str "must",.str "may"])) s (.lst [.int x2,.int y2]) p=some (.lst (l.map Zfq)):=by rw [Zao nps,Zao n3];exact g1p
   refine Zn5 g3p (by rw [List.length_map];exact Zmw (by omega)) ?_
   have ee:l.map Zfq++[W.tup [.str nm,.str (Zd1 b),k.enc]]=(l++[(nm,b,k)]).map Zfq:=by rw [List.map_append];rfl
   rw [ee]
   refine Zjw hd xs _ _ _ (l++[(nm,b,k)]) x2 y2 (by rw [Zao (Ne.symm nps)];exact Zah) Zah ?_ nps nqs nqp (by rw [List.length_append];simp only [List.length_cons,List.length_nil];omega) ?_
   ·rw [Zao nqp,Zao nqs,Zao n4];exact g1q
   ·intro ω G' l2 x' y' hω f1 f2 f3 f4 f5
    refine fin ω G' ((nm,b,k)::l2) x' y' hω f1 (by rw [f2,List.append_assoc];rfl) (fun c c1 c2 u hu=>f3 c c1 c2 u ?_) (f4.cons_cons nm) ?_
    ·have hc:put G s (.lst [.int x1,.int y1]) c=some u:=by rw [Zao c1];exact hu
     rw [Zao c2,Zao c1,Zao (ZaB hc hp2)];exact hc
    ·intro z hz
     rcases List.mem_cons.mp hz with rfl | hz
     ·exact hk
     ·exact f5 z hz
  ·refine Zjw hd xs _ _ _ l x1 y1 g1s g1p g1q nps nqs nqp (by omega) ?_
   intro ω G' l2 x' y' hω f1 f2 f3 f4 f5
   exact fin ω G' l2 x' y' hω f1 f2 (fun c c1 c2 u hu=>f3 c c1 c2 u (by rw [Zao c1];exact hu)) (f4.cons nm) f5
set_option Elab.async false
set_option linter.all false
set_option maxRecDepth 100000
def Zwo:Spw:=fun _ _ _ _=>False
theorem Znr:Spw.M Zwo:=fun _ _ _ _ _ _ _ _ q=>q
theorem Zle {r:Int} (h0:0≤r) (h6:r < 6):∃ k:Kd,(k=.any∨k=.num∨k=.truth)∧atI [W.tup [.str "any"],W.tup [.str "num"],W.tup [.str "truth"]] (r / 2)=some k.enc:=by
 have:r / 2=0∨r / 2=1∨r / 2=2:=by omega
 rcases this with e | e | e
 ·exact ⟨.any,.inl rfl,by rw [e];exact Zb1⟩
 ·exact ⟨.num,.inr (.inl rfl),by rw [e];exact ZcZ⟩
 ·exact ⟨.truth,.inr (.inr rfl),by rw [e];exact Zek⟩
theorem ZkI (T:Tx K mg base a):Df P w K mg base "_law_kind" 2 2 (Znb 0):=by
 refine mk0 T.ZbN rfl Zcd Zph ((by rintro ws G Q E ⟨s,x,y,e,_⟩;rw [e];rfl)) (Zfi T (ZaH T) (Nat.le_refl _) (Zk7 (sp:=Zwo) (k:=0) T.ZbN Znr fun _ _ _ _ h=>h) (by omega)) fun ws G Q E hC q=>?_
 obtain ⟨s,x,y,rfl,hs,q⟩:=q
 unfold Zdh
 walk_at "rd"
 refine ⟨.inl ⟨by decide,by decide⟩,s,_,x,y,rfl,by decide,by decide,hs,fun r x1 y1 r0 r1=>?_⟩
 have r6:r < 6:=r1
 simp only [r6,decide_true,if_true]
 obtain ⟨k,hk,ek⟩:=Zle r0 r6
 refine ⟨by decide,by decide,by decide,by decide,fun p hp=>⟨⟨by decide,by decide⟩,?_⟩⟩
 simp only [Zah,ek,Zaf]
 exact hC _ _ _ (Zbk hp) (q k x1 y1 (ZgZ hk))
theorem ZtA {n:Nat}:∀ ws G (Q:Kw) (E:Addr→Hw→Prop),Kw.C Q→Znb (n+1) ws G Q E→Zdh ZfC (Znb n) (ZaW Q) (ZbX Zfh ws) G:=by
  intro ws G Q E hC q
  obtain ⟨s,x,y,rfl,hs,q⟩:=q
  unfold Zdh
  walk_at "rd"
  have hd:((n+1:Nat):Int) - 1=(n:Int):=by omega
  have d0:(0:Int) < ((n+1:Nat):Int):=by omega
  simp only [d0,decide_true,if_true]
  refine ⟨.inl ⟨by decide,by decide⟩,s,_,x,y,rfl,by decide,by decide,hs,fun r x1 y1 r0 r1=>?_⟩
  have g1s:put G s (.lst [.int x1,.int y1]) s=some (.lst [.int x1,.int y1]):=Zah
  by_cases r6:r < 6
  ·simp only [r6,decide_true,if_true]
   obtain ⟨k,hk,ek⟩:=Zle r0 r6
   refine ⟨by decide,by decide,by decide,by decide,fun p hp=>⟨⟨by decide,by decide⟩,?_⟩⟩
   simp only [Zah,ek,Zaf]
   exact hC _ _ _ (Zbk hp) (q k x1 y1 (ZgZ hk))
  ·simp only [r6,decide_false,Bool.false_eq_true,if_false,Option.map_some,Zaf]
   by_cases e6:r=6
   ·subst e6
    refine ⟨trivial,s,x1,y1,by rw [hd],g1s,fun k1 x2 y2 hk1=>?_⟩
    refine ⟨trivial,s,x2,y2,by rw [hd],Zah,fun k2 x3 y3 hk2=>⟨by decide,?_⟩⟩
    rw [Zgg,Zgg]
    exact q (.to k1 k2) x3 y3 (Zry hk1 hk2)
   ·have b6:(r==6)=false:=by simpa using e6
    simp only [b6,bne_self_eq_false,Bool.false_eq_true,if_false]
    by_cases e7:r=7
    ·subst e7
     refine ⟨trivial,s,x1,y1,by rw [hd],g1s,fun k1 x2 y2 hk1=>⟨by decide,?_⟩⟩
     rw [Zgg]
     exact q (.box k1) x2 y2 (Zot hk1)
    ·have b7:(r==7)=false:=by simpa using e7
     simp only [b7,bne_self_eq_false,Bool.false_eq_true,if_false]
     refine ⟨by decide,fun p hp=>?_⟩
     have nps:p≠s:=Ne.symm (ZaB g1s hp)
     refine ⟨by decide,fun q0 hq0=>?_⟩
     have g2s:put (put G s (.lst [.int x1,.int y1])) p (.lst []) s=some (.lst [.int x1,.int y1]):=by rw [Zao (Ne.symm nps)];exact g1s
     have nqs:q0≠s:=Ne.symm (ZaB g2s hq0)
     have nqp:q0≠p:=Ne.symm (ZaB Zah hq0)
     simp only [Zah]
     refine Zjw (n:=n) hd abc none none _ [] x1 y1 (by rw [Zao (Ne.symm nqs)];exact g2s) (by rw [Zao (Ne.symm nqp)];exact Zah) Zah nps nqs nqp (by decide) ?_
     intro ω G' l2 x' y' hω f1 f2 f3 f4 f5
     obtain ⟨u,v,rfl⟩:=hω
     rw [List.nil_append] at f2
     have hseq:ZkX G' (.ref p)=some (l2.map Zfq):=Zf5 f2
     walk_at "rd"
     simp only [hseq,Option.map_some,Zaf]
     refine ⟨s,3,x',y',rfl,by decide,by decide,f1,fun r2 x2 y2 _ _=>?_⟩
     simp only [Option.map_some,Zaf]
     refine ⟨by decide,?_⟩
     rw [← Zla]
     refine hC _ _ _ (fun b u hu=>?_) (q (.row (ofL l2) ((r2==0) != false)) x2 y2 (Zr7 f4 f5))
     by_cases hb:b=s
     ·subst hb
      rw [Zah] at hu ⊢;exact hu
     ·rw [Zao hb] at hu ⊢
      have hbp:b≠p:=by
       intro z;subst z
       rw [Zao hb] at hp;rw [hp] at hu;cases hu
      have hbq:b≠q0:=by
       intro z;subst z
       rw [Zao hbp,Zao hb] at hq0;rw [hq0] at hu;cases hu
      exact f3 b hb hbp u (by rw [Zao hbq,Zao hbp,Zao hb];exact hu)
theorem ZaV (T:Tx K mg base a):∀ n:Nat,Df P w K mg base "_law_kind" (n+2) 2 (Znb n)
 | 0=>ZkI T
 | n+1=>mk0 T.ZbN rfl Zcd Zph ((by rintro ws G Q E ⟨s,x,y,e,_⟩;rw [e];rfl)) (Zfi T (ZaH T) (by omega) (ZaV T n) (Nat.le_refl _)) ZtA
def Fs.find:Fs→Str→Option (Bool×Kd)
 | .nil,_=>none
 | .cons n m k r,x=>if n=x then some (m,k) else r.find x
inductive En where
 | free | nope | told (m:Bool) (k:Kd)
def En.enc:En→W
 | .free=>.tup [.str "free"]
 | .nope=>.tup [.str "none"]
 | .told m k=>.tup [.str (Zd1 m),k.enc]
def ent (fs:Fs) (o:Bool) (x:Str):En:=match fs.find x with | some (m,k)=>.told m k | none=>if o then .free else .nope
theorem ZlO:∀ {fs:Fs} {x:Str} {m:Bool} {k:Kd},fs.find x=some (m,k)→k∈fs.kinds∧x∈fs.names
 | .nil,x,m,k,h=>by cases h
 | .cons n m' k' r,x,m,k,h=>by
  unfold Fs.find at h
  split at h
  ·rename_i e
   cases h
   subst e
   exact ⟨List.mem_cons_self,List.mem_cons_self⟩
  ·obtain ⟨h1,h2⟩:=ZlO h
   exact ⟨List.mem_cons_of_mem _ h1,List.mem_cons_of_mem _ h2⟩
theorem find_some:∀ {fs:Fs} {x:Str},x∈fs.names→∃ m k,fs.find x=some (m,k)
 | .nil,x,h=>by cases h
 | .cons n m' k' r,x,h=>by
  unfold Fs.find
  split
  ·exact ⟨m',k',rfl⟩
  ·rename_i e
   rcases List.mem_cons.mp h with z | z
   ·exact absurd z.symm e
   ·exact find_some z
theorem ZgE (a:Str):ZaP a a=false:=by
 unfold ZaP
 exact decide_eq_false (List.lt_irrefl _)
theorem Zti {a b c:Str} (h1:ZaP a b=true) (h2:ZaP b c=true):ZaP a c=true:=by
 unfold ZaP at h1 h2 ⊢
 exact decide_eq_true (List.lt_trans (of_decide_eq_true h1) (of_decide_eq_true h2))
theorem Zl1:∀ {ns:List Str},Zh2 ns=true→ns.Pairwise (fun x y=>ZaP x y=true)
 | [],_=>.nil
 | [_],_=>.cons (fun _ h=>by cases h) .nil
 | x::y::r,h=>by
  have h':(ZaP x y&&Zh2 (y::r))=true:=h
  simp only [Bool.and_eq_true] at h'
  have ih:=Zl1 h'.2
  refine .cons (fun z hz=>?_) ih
  rcases List.mem_cons.mp hz with rfl | hz
  ·exact h'.1
  ·exact Zti h'.1 ((List.pairwise_cons.mp ih).1 z hz)
theorem ZlM:∀ {xs ys:List Str},xs.Pairwise (fun x y=>ZaP x y=true)→ys.Pairwise (fun x y=>ZaP x y=true)→(∀ x,x∈xs↔x∈ys)→xs=ys
 | [],[],_,_,_=>rfl
 | [],y::ys,_,_,h=>by cases (h y).mpr List.mem_cons_self
 | x::xs,[],_,_,h=>by cases (h x).mp List.mem_cons_self
 | x::xs,y::ys,hx,hy,h=>by
  obtain ⟨a1,a2⟩:=List.pairwise_cons.mp hx
  obtain ⟨b1,b2⟩:=List.pairwise_cons.mp hy
  have e:x=y:=by
   rcases List.mem_cons.mp ((h x).mp List.mem_cons_self) with e | e
   ·exact e
   ·rcases List.mem_cons.mp ((h y).mpr List.mem_cons_self) with e' | e'
    ·exact e'.symm
    ·have:=Zti (a1 y e') (b1 x e)
     rw [ZgE] at this
     cases this
  subst e
  congr 1
  refine ZlM a2 b2 fun z=>⟨fun hz=>?_,fun hz=>?_⟩
  ·rcases List.mem_cons.mp ((h z).mp (List.mem_cons_of_mem _ hz)) with e | e
   ·subst e;have:=a1 _ hz;rw [ZgE] at this;cases this
   ·exact e
  ·rcases List.mem_cons.mp ((h z).mpr (List.mem_cons_of_mem _ hz)) with e | e
   ·subst e;have:=b1 _ hz;rw [ZgE] at this;cases this
   ·exact e
theorem Zie {fs:Fs} {o:Bool} (h:(Kd.row fs o).ok=true):fs.names.Pairwise (fun x y=>ZaP x y=true)∧∀ c∈fs.kinds,c.ok=true:=by
 have h':(Zh2 fs.names&&fs.ok)=true:=h
 simp only [Bool.and_eq_true] at h'
 exact ⟨Zl1 h'.1,Zfd h'.2⟩
theorem Zmj {fs:Fs} {o:Bool} {x:Str} (h:x∈fs.names):∃ m k,ent fs o x=.told m k∧fs.find x=some (m,k):=by
 obtain ⟨m,k,e⟩:=find_some h
 exact ⟨m,k,by unfold ent;rw [e],e⟩
set_option Elab.async false
set_option linter.all false
set_option maxRecDepth 100000
set_option maxHeartbeats 4000000
section
variable {P:Program} {w:World} {K:PySem.W.Frag} {mg:Str→Option Value} {base:Heap} {a:Adr}
abbrev Zib:List Str:=["row","name","field"]
theorem ZiH:ZaC Zib ["row","name"] (Zac ZcE):=⟨rfl,rfl,rfl,by decide +kernel,rfl,by decide +kernel,by decide +kernel⟩
def Ziz:GS:=(Zay (Zel (ZbJ (Zak (Zan ixW) (Zad 0) (gC (.int 1)))) (gNm 2) (gIf (gTB (Zak (Zan (eqF false)) (Zak (Zan ixW) (Zad 2) (gC (.int 0))) (Zad 1))) (ZaF (Zbb (Zab (Zak (Zan ixW) (Zad 2) (gC (.int 1))) (Zab (Zak (Zan ixW) (Zad 2) (gC (.int 2))) Zam)))) Zar)) (ZaF (ZhW (Zgk (Zak (Zan ixW) (Zad 0) (gC (.int 2)))) (Zbb (Zab (gC (.str "free")) Zam)) (Zbb (Zab (gC (.str "none")) Zam)))))
theorem Zng {k:Nat} (T:Tx K mg base a) {f:Addr} {cdv:Value} {A:Around} {outer:List Env} {s:Shared} {H:Hp} {E:XK} (hr:Room k (A.deeper (envOfC "entry_of" (Zac ZcE) s.heap.objs.size f cdv))):Ssm (cxW P w K mg base Zib "entry_of" (Zac ZcE) f cdv A outer s H E).nox (fun B=>B=H) (Zax ZcE) (Ziz) :=
 have hu:=ZeU hr
 (Zai (ZeZ PassesOwn.never rfl (fun _=>rfl) (Zdm (fun _ _=>rfl) (Zaz (fun _ _=>rfl) (Zal (i:=0) rfl rfl rfl rfl) Zag)) (ZjE (i:=2) ZiH.nd rfl (.inl rfl) (.inr rfl)) (Zaj (Zba (ZaD (Zch hu) rfl (Zaz (fun _ _=>rfl) (Zal (i:=2) rfl rfl rfl rfl) Zag) (Zal (i:=1) rfl rfl rfl rfl)) (Zaj (Zas (ZaI (Zaa rfl (Zaz (fun _ _=>rfl) (Zal (i:=2) rfl rfl rfl rfl) Zag) (Zaa rfl (Zaz (fun _ _=>rfl) (Zal (i:=2) rfl rfl rfl rfl) Zag) Zae))))) Zau))) (Zaj (Zas (Zn4 (Zfv (fun _=>rfl) (Zaz (fun _ _=>rfl) (Zal (i:=0) rfl rfl rfl rfl) Zag)) (ZaI (Zaa rfl Zat Zae)) (ZaI (Zaa rfl Zat Zae))))))
abbrev Ziv:List Str:=["row"]
theorem Zm8:ZaC Ziv ["row"] (Zac ZcN):=⟨rfl,rfl,rfl,by decide +kernel,rfl,by decide +kernel,by decide +kernel⟩
def Zip:GS:=(ZaF (ZcX (ZbJ (Zak (Zan ixW) (Zad 0) (gC (.int 1)))) 1 (gNm 0) ZfY (Zak (Zan ixW) (Zad 0) (gC (.int 0)))))
theorem Zm3 {k:Nat} (T:Tx K mg base a) {f:Addr} {cdv:Value} {A:Around} {outer:List Env} {s:Shared} {H:Hp} {E:XK} (hr:Room k (A.deeper (envOfC "names_of" (Zac ZcN) s.heap.objs.size f cdv))):Ssm (cxW P w K mg base Ziv "names_of" (Zac ZcN) f cdv A outer s H E).nox (fun B=>B=H) (Zax ZcN) (Zip) :=
 have hu:=ZeU hr
 (Zaj (Zas (Zen (Nc:=["field"]) rfl (ZrV rfl (by decide +kernel) (by decide +kernel)) (fun _=>rfl) (Zdm (fun _ _=>rfl) (Zaz (fun _ _=>rfl) (Zal (i:=0) rfl rfl rfl rfl) Zag)) (Zd2 (i:=0) (by decide) rfl rfl) (fun C fp s1 H1=>Zd0) (fun C fp s1 H1=>(Zaz (fun _ _=>rfl) (Zal (i:=0) rfl rfl rfl rfl) Zag)))))
abbrev Zey:List Str:=["one","other"]
theorem Zg4:ZaC Zey ["one","other"] (Zac Za6):=⟨rfl,rfl,rfl,by decide +kernel,rfl,by decide +kernel,by decide +kernel⟩
def ZeF (Zdn:Spw):GS:=(ZaF (Zg5 (Zaq Zdn (fun _ _ _=>False) (Zab (Zad 0) Zam)) (Zaq Zdn (fun _ _ _=>False) (Zab (Zad 1) Zam))))
theorem Zhi {k:Nat} (T:Tx K mg base a) {ZeM:Nat} {Zdn:Spw} (ZiF:Df P w K mg base "names_of" ZeM 1 Zdn) (ZiV:ZeM≤k) {f:Addr} {cdv:Value} {A:Around} {outer:List Env} {s:Shared} {H:Hp} {E:XK} (hr:Room k (A.deeper (envOfC "names_of_both" (Zac Za6) s.heap.objs.size f cdv))):Ssm (cxW P w K mg base Zey "names_of_both" (Zac Za6) f cdv A outer s H E).nox (fun B=>B=H) (Zax Za6) (ZeF Zdn) :=
 have hu:=ZeU hr
 (Zaj (Zas (ZpZ rfl T.Zd5 T.Zld rfl rfl rfl rfl rfl (Zap ZiF (hr.mono ZiV) rfl ZaG rfl rfl rfl (Zaa rfl (Zal (i:=0) rfl rfl rfl rfl) Zae)) (Zap ZiF (hr.mono ZiV) rfl ZaG rfl rfl rfl (Zaa rfl (Zal (i:=1) rfl rfl rfl rfl) Zae)))))
abbrev ZfV:List Str:=["one","other"]
theorem Zi9:ZaC ZfV ["one","other"] (Zac Zbt):=⟨rfl,rfl,rfl,by decide +kernel,rfl,by decide +kernel,by decide +kernel⟩
def ZfI (Zcs:Spw):GS:=(Zay (Zcm (Zaq Zcs (fun _ _ _=>False) (Zab (Zad 0) Zam))) (Zcm (Zaq Zcs (fun _ _ _=>False) (Zab (Zad 1) Zam))))
theorem Zji {k:Nat} (T:Tx K mg base a) {Zdz:Nat} {Zcs:Spw} (Zgp:Df P w K mg base "check_kind" Zdz 1 Zcs) (ZgI:Zdz≤k) {f:Addr} {cdv:Value} {A:Around} {outer:List Env} {s:Shared} {H:Hp} {E:XK} (hr:Room k (A.deeper (envOfC "check_kinds" (Zac Zbt) s.heap.objs.size f cdv))):Ssm (cxW P w K mg base ZfV "check_kinds" (Zac Zbt) f cdv A outer s H E).nox (fun B=>B=H) (Zax Zbt) (ZfI Zcs) :=
 have hu:=ZeU hr
 (Zai (ZeD rfl (Zap Zgp (hr.mono ZgI) rfl ZaG rfl rfl rfl (Zaa rfl (Zal (i:=0) rfl rfl rfl rfl) Zae))) (Zaj (ZeD rfl (Zap Zgp (hr.mono ZgI) rfl ZaG rfl rfl rfl (Zaa rfl (Zal (i:=1) rfl rfl rfl rfl) Zae)))))
end
set_option maxHeartbeats 1000000
local macro_rules | `(tactic| walk_at "rd") => `(tactic| ((try dsimp only [Ze1, Zcl, ZcV, Zg5, Zb3, Zh5, Zay, gIf, ZaF, Zbn, Zcm, Zar, Zad, gC, Zak, gTB, Zgk, gNt, ZjG, gOr, Zc3, Zkp, ZhW, L3.Zbb, Zcn, L3.Zab, L3.Zam, Zaq, gB, rF, Zan, Zc5, gMt, ZjH, Zcu, Zgm, Zf4, ZbU, L3.Ze6, Zej, gSl, Zbg, Zaw, ZcX, ZbJ, ZkZ, Zel, ZaW, ZbX, List.map_cons, List.map_nil, List.length_cons, List.length_nil, List.cons_append, List.nil_append, List.getElem?_cons_zero, List.getElem?_cons_succ, List.set_cons_zero, List.set_cons_succ, List.replicate, ZjC, tyN, Zaf, Zb1, ZcZ, Zek, ixW, eqF, eqW, ZgK, ZjI, Zic, List.getElem?_nil]); (try simp only [Ze1, Zcl, ZcV, Zg5, Zb3, Zh5, Zay, gIf, ZaF, Zbn, Zcm, Zar, Zad, gC, Zak, gTB, Zgk, gNt, ZjG, gOr, Zc3, Zkp, ZhW, L3.Zbb, Zcn, L3.Zab, L3.Zam, Zaq, gB, rF, Zan, Zc5, gMt, ZjH, Zcu, Zgm, Zf4, ZbU, L3.Ze6, Zej, gSl, Zbg, Zaw, ZcX, ZbJ, ZkZ, Zel, ZaW, ZbX, List.map_cons, List.map_nil, List.length_cons, List.length_nil, List.cons_append, List.nil_append, List.getElem?_cons_zero, List.getElem?_cons_succ, List.set_cons_zero, List.set_cons_succ, List.replicate, ZjC, tyN, Zaf, Zb1, ZcZ, Zek, ixW, eqF, eqW, ZgK, ZjI, Zic, List.getElem?_nil])))
theorem ZbY (k:Kd) (G:Hw):ixW k.enc (.int 0) G=some (.str k.hd):=by
 obtain ⟨xs,e⟩:=ZsM k
 rw [e];exact Zb1
abbrev Zk3:Spw:=spR (fun (x:Fs×Bool×Str) ws _=>ws=[(Kd.row x.1 x.2.1).enc,.str x.2.2]) fun x=>(ent x.1 x.2.1 x.2.2).enc
theorem Zik {D:Ew} {G:Hw} {x:Str} {row:W}:∀ (fs:Fs) (o':Option W),(∀ m k,fs.find x=some (m,k)→D.rt (.tup [.str (Zd1 m),k.enc]) G)→(fs.find x=none→∀ o'',D.nx [some row,some (.str x),o''] G) →
  Zdo yes (gNm 2) (gIf (gTB (Zak (Zan (eqF false)) (Zak (Zan ixW) (Zad 2) (gC (.int 0))) (Zad 1))) (ZaF (L3.Zbb (L3.Zab (Zak (Zan ixW) (Zad 2) (gC (.int 1))) (L3.Zab (Zak (Zan ixW) (Zad 2) (gC (.int 2))) L3.Zam)))) Zar) D fs.enc [some row,some (.str x),o'] G
 | .nil,o',_,h=>⟨trivial,h rfl o'⟩
 | .cons n m k r,o',h1,h2=>by
  refine ⟨trivial,?_⟩
  show gIf _ _ Zar _ [some row,some (.str x),some (.tup [.str n,.str (Zd1 m),k.enc])] G
  walk_at "rd"
  simp only [Option.map_some,Zaf]
  by_cases hx:n=x
  ·subst hx
   simp only [beq_self_eq_true,bne_iff_ne,ne_eq,Bool.true_eq_false,not_false_eq_true,if_true]
   exact ⟨by decide,h1 _ _ (by unfold Fs.find;rw [if_pos rfl])⟩
  ·have e:(n==x)=false:=by simpa using hx
   simp only [e,bne_self_eq_false,Bool.false_eq_true,if_false]
   refine Zik r _ (fun m' k' hv=>h1 m' k' ?_) (fun hn=>h2 ?_)
   ·unfold Fs.find;rw [if_neg hx];exact hv
   ·unfold Fs.find;rw [if_neg hx];exact hn
theorem Zcg (T:Tx K mg base a):Df P w K mg base "entry_of" 1 2 Zk3:=by
 refine mk0 T.ZeH rfl ZiH Zdj ((by rintro ws G Q E ⟨x,e,_⟩;rw [e];rfl)) (Zng T) fun ws G Q E hC q=>?_
 obtain ⟨⟨fs,o,x⟩,rfl,q⟩:=q
 dsimp only at q
 unfold Ziz
 simp only [Kd.enc]
 walk_at "rd"
 refine Zik fs none (fun m k hv=>?_) (fun hn o''=>?_)
 ·unfold ent at q;rw [hv] at q;exact q
 ·unfold ent at q;rw [hn] at q
  simp only [List.getElem?_cons_zero,List.getElem?_cons_succ,Zek,Zaf]
  cases o with
  | true=>exact ⟨by decide,q⟩
  | false=>exact ⟨by decide,q⟩
abbrev ZtF:Spw:=spL (fun (x:Fs×Bool) ws _=>ws=[(Kd.row x.1 x.2).enc]∧x.1.names.length≤100) fun x=>x.1.names.map W.str
theorem ZeM (T:Tx K mg base a):Df P w K mg base "names_of" 1 1 ZtF:=by
 refine mk0 T.ZeO rfl Zm8 Zrm ((by rintro ws G Q E ⟨x,⟨e,_⟩,_⟩;rw [e];rfl)) (Zm3 T) fun ws G Q E hC q=>?_
 obtain ⟨⟨fs,o⟩,⟨rfl,hl⟩,q⟩:=q
 have hl':fs.enc.length≤100:=by rw [← ZbK];exact hl
 unfold Zip
 simp only [Kd.enc]
 walk_at "rd"
 refine Zj8 (f:=Zkq) trivial fs.enc none [] (fun x hx Q' q'=>?_) (by simp only [List.length_nil];exact Za8 (by omega)) ?_
 ·obtain ⟨n,b,k,rfl⟩:=ZfZ hx
  show Zak (Zan ixW) (Zad 0) (gC (.int 0)) [some (W.tup [.str n,.str (Zd1 b),k])] _ Q'
  walk_at "rd"
  exact q'
 ·rw [List.nil_append,Zes]
  exact q
def Zn1:Spw:=fun ws G Q _=>∃ (fs gs:Fs) (o p:Bool),ws=[(Kd.row fs o).enc,(Kd.row gs p).enc]∧fs.names.length < 16∧gs.names.length < 16∧∀ (zs:List Str) (r:Addr),zs.Nodup→sortedS zs=true→(∀ x,x∈zs↔x∈fs.names∨x∈gs.names)→G r=none→Q (.ref r) (put G r (.lst (zs.map W.str)))
theorem Zmv:Spw.M Zn1:=(by rintro ws G Q Q' E E' h _ ⟨fs,gs,o,p,h1,h2,h3,q⟩;exact ⟨fs,gs,o,p,h1,h2,h3,fun zs r a b c d=>h _ _ (q zs r a b c d)⟩)
theorem ZcB (T:Tx K mg base a):Df P w K mg base "names_of_both" 2 2 Zn1:=by
 refine mk0 T.ZcC rfl Zg4 Zmv ((by rintro ws G Q E ⟨_,_,_,_,e,_⟩;rw [e];rfl)) (Zhi T (ZeM T) (Nat.le_refl _)) fun ws G Q E hC q=>?_
 obtain ⟨fs,gs,o,p,rfl,h1,h2,q⟩:=q
 unfold ZeF
 walk_at "rd"
 refine ⟨(fs,o),⟨rfl,by dsimp only;omega⟩,fun p1 hp1=>?_⟩
 refine ⟨fs.names,Zd3 Zah,h1,(gs,p),⟨rfl,by dsimp only;omega⟩,fun p2 hp2=>?_⟩
 refine ⟨gs.names,Zd3 Zah,h2,fun zs r z1 z2 z3 z4=>?_⟩
 have hr2:r≠p2:=fun e=>by subst e;rw [Zah] at z4;cases z4
 rw [Zao hr2] at z4
 have hr1:r≠p1:=fun e=>by subst e;rw [Zah] at z4;cases z4
 rw [Zao hr1] at z4
 exact hC _ _ _ ((ZbA (Zbk hp1) hp2).put2) (q zs r z1 z2 z3 z4)
theorem Zbc (T:Tx K mg base a):Df P w K mg base "check_kinds" 9 2 (spR (fun (x:Kd×Kd) ws _=>ws=[x.1.enc,x.2.enc]∧(x.1.ok=true∧Zk1 x.1=true)∧(x.2.ok=true∧Zk1 x.2=true)) fun _=>.non):=by
 refine mk0 T.Zc4 rfl Zi9 Zdj ((by rintro ws G Q E ⟨x,⟨e,_⟩,_⟩;rw [e];rfl)) (Zji T (Zdz T) (Nat.le_refl _)) fun ws G Q E hC q=>?_
 obtain ⟨⟨k,l⟩,⟨rfl,h1,h2⟩,q⟩:=q
 dsimp only at h1 h2
 have g1:k.cnt≤40∧k.dp≤8:=of_decide_eq_true (by have:=h1.2;unfold Zk1 at this;exact this)
 have g2:l.cnt≤40∧l.dp≤8:=of_decide_eq_true (by have:=h2.2;unfold Zk1 at this;exact this)
 unfold ZfI
 walk_at "rd"
 exact ⟨k,⟨rfl,h1.1,by omega,h1.2⟩,l,⟨rfl,h2.1,by omega,h2.2⟩,q⟩
def wf (k:Kd):Prop:=k.ok=true∧k.abc=true
theorem Zid:∀ {fs:Fs},fs.abc=true→(∀ c∈fs.kinds,c.abc=true)∧∀ x∈fs.names,x∈abc
 | .nil,_=>⟨fun c h=>(by cases h),fun c h=>(by cases h)⟩
 | .cons n m k r,h=>by
  have h':(abc.contains n&&k.abc&&r.abc)=true:=h
  simp only [Bool.and_eq_true] at h'
  obtain ⟨i1,i2⟩:=Zid h'.2
  refine ⟨fun c hc=>?_,fun x hx=>?_⟩
  ·rcases List.mem_cons.mp hc with rfl | hc
   ·exact h'.1.2
   ·exact i1 c hc
  ·rcases List.mem_cons.mp hx with rfl | hx
   ·exact List.contains_iff_mem.mp h'.1.1
   ·exact i2 x hx
theorem Zoy {k:Kd} (h:k.abc=true):∀ c∈k.kids,c.abc=true:=by
 cases k with
 | to x y =>
  have h':(x.abc&&y.abc)=true:=h
  simp only [Bool.and_eq_true] at h'
  intro c hc
  simp only [Kd.kids,List.mem_cons,List.not_mem_nil,or_false] at hc
  rcases hc with rfl | rfl
  ·exact h'.1
  ·exact h'.2
 | box x =>
  intro c hc
  simp only [Kd.kids,List.mem_cons,List.not_mem_nil,or_false] at hc
  subst hc;exact h
 | row fs o=>exact (Zid h).1
 | any=>intro c hc;simp [Kd.kids] at hc
 | num=>intro c hc;simp [Kd.kids] at hc
 | truth=>intro c hc;simp [Kd.kids] at hc
theorem Zec {k c:Kd} (h:wf k) (hc:c∈k.kids):wf c:=⟨ZlC h.1 c hc,Zoy h.2 c hc⟩
theorem Zq0 {fs:Fs} {o:Bool} (h:wf (.row fs o)):fs.names.length < 16:=by
 have hn:fs.names.Nodup:=(Zie h.1).1.imp fun z e=>by subst e;rw [ZgE] at z;cases z
 have:=Zcx hn (Zid h.2).2
 have e:abc.length=3:=rfl
 omega
theorem Ztd {m m':Bool} (h:m≠m'):(Zd1 m==Zd1 m')=false:=by
 cases m <;> cases m' <;> first | exact absurd rfl h | decide
theorem Zhh {fs:Fs} {o:Bool} {x:Str} {m:Bool} {k:Kd} (e:ent fs o x=.told m k):k∈fs.kinds:=by
 unfold ent at e
 cases q:fs.find x with
 | none=>rw [q] at e;cases o <;> cases e
 | some p=>rw [q] at e;cases e;exact (ZlO q).1
section
variable {P:Program} {w:World} {K:PySem.W.Frag} {mg:Str→Option Value} {base:Heap} {a:Adr}
abbrev Zfk:List Str:=["state","kind","deep","way","fields","name","mark","inner","pick"]
theorem Zce:ZaC Zfk ["state","kind","deep"] (Zac ZbL):=⟨rfl,rfl,rfl,by decide +kernel,rfl,by decide +kernel,by decide +kernel⟩
def Zfe (Zav:Spw) (ZaA:Spw) (Za0:Spw):GS:=(Zay (Zbn 3 (Zaq Zav (fun _ _ _=>False) (Zab (Zad 0) (Zab (gC (.int 8)) Zam)))) (Zay (gIf (gTB (Zak (Zan (eqF false)) (Zad 3) (gC (.int 0)))) (ZaF (Zbb (Zab (gC (.str "any")) Zam))) Zar) (Zay (gIf (gTB (Zak (Zan (eqF false)) (Zad 3) (gC (.int 1)))) (ZaF (Zaq ZaA (fun _ _ _=>False) (Zab (Zad 0) (Zab (Zad 2) Zam)))) Zar) (Zay (gIf (gTB (Zak (Zan (inF false)) (Zak (Zan ixW) (Zad 1) (gC (.int 0))) (Zcn (Zab (gC (.str "to")) (Zab (gC (.str "box")) Zam))))) (ZaF (Zak (ZgL) (Zbb (Zab (Zak (Zan ixW) (Zad 1) (gC (.int 0))) Zam)) (gB (rF Zhj) (Zab (Zcl (ZbJ (Ze1 (Zad 1) (Zbg (gC (.int 1))) Zaw)) 1 [0,2] (gNm 0) ZfY (Zaq Za0 (fun _ _ _=>False) (Zab (Zad 1) (Zab (Zad 0) (Zab (Zak (ZbU (fun _ _=>True) fun i j=>i - j) (Zad 2) (gC (.int 1))) Zam))))) Zam)))) Zar) (Zay (gIf (gTB (Zak (Zan (eqF true)) (Zak (Zan ixW) (Zad 1) (gC (.int 0))) (gC (.str "row")))) (ZaF (Zad 1)) Zar) (Zay (Zbn 4 (Zcn Zam)) (Zay (Zel (ZcV (Zak (Zan ixW) (Zad 1) (gC (.int 1)))) (Zfp 5 6 7) (Zay (Zbn 8 (Zaq Zav (fun _ _ _=>False) (Zab (Zad 0) (Zab (gC (.int 8)) Zam)))) (Zay (gIf (gTB (Zak (Zan (eqF false)) (Zad 8) (gC (.int 0)))) (Zbn 6 (Zak (Zan ixW) (Zcn (Zab (gC (.str "must")) (Zab (gC (.str "may")) Zam))) (Zaq Zav (fun _ _ _=>False) (Zab (Zad 0) (Zab (gC (.int 2)) Zam))))) Zar) (gIf (gTB (Zak (Zan (eqF true)) (Zad 8) (gC (.int 1)))) (Zcm (gMt Zfb Zpb (Zad 4) (Zab (Zbb (Zab (Zad 5) (Zab (Zad 6) (Zab (Zaq Za0 (fun _ _ _=>False) (Zab (Zad 0) (Zab (Zad 7) (Zab (Zak (ZbU (fun _ _=>True) fun i j=>i - j) (Zad 2) (gC (.int 1))) Zam)))) Zam)))) Zam))) Zar)))) (ZaF (Zbb (Zab (gC (.str "row")) (Zab (gB (rF Zhj) (Zab (Zad 4) Zam)) (Zab (Zak (Zan (eqF true)) (Zak (Zan ixW) (Zad 1) (gC (.int 2))) (Zak (Zan (eqF false)) (Zaq Zav (fun _ _ _=>False) (Zab (Zad 0) (Zab (gC (.int 5)) Zam))) (gC (.int 0)))) Zam))))))))))))
theorem Zhz {k:Nat} (T:Tx K mg base a) {ZaH:Nat} {Zav:Spw} (Zbe:Df P w K mg base "_law_take" ZaH 2 Zav) (Zbd:ZaH≤k) {ZaV:Nat} {ZaA:Spw} (ZbI:Df P w K mg base "_law_kind" ZaV 2 ZaA) (ZbH:ZaV≤k) {ZbO:Nat} {Za0:Spw} (Zd9:Df P w K mg base "_law_near" ZbO 3 Za0) (Zd7:ZbO≤k) {f:Addr} {cdv:Value} {A:Around} {outer:List Env} {s:Shared} {H:Hp} {E:XK} (hr:Room k (A.deeper (envOfC "_law_near" (Zac ZbL) s.heap.objs.size f cdv))):Ssm (cxW P w K mg base Zfk "_law_near" (Zac ZbL) f cdv A outer s H E).nox (fun B=>B=H) (Zax ZbL) (Zfe Zav ZaA Za0) :=
 have hu:=ZeU hr
 (Zai (ZeT (i:=3) Zce.nd rfl rfl rfl (Zap Zbe (hr.mono Zbd) rfl ZaG rfl rfl rfl (Zaa rfl (Zal (i:=0) rfl rfl rfl rfl) (Zaa rfl Zag Zae)))) (Zai (Zba (ZaD (Zch hu) rfl (Zal (i:=3) rfl rfl rfl rfl) Zag) (Zaj (Zas (ZaI (Zaa rfl Zat Zae)))) Zau) (Zai (Zba (ZaD (Zch hu) rfl (Zal (i:=3) rfl rfl rfl rfl) Zag) (Zaj (Zas (Zap ZbI (hr.mono ZbH) rfl ZaG rfl rfl rfl (Zaa rfl (Zal (i:=0) rfl rfl rfl rfl) (Zaa rfl (Zal (i:=2) rfl rfl rfl rfl) Zae))))) Zau) (Zai (Zba (ZaD ZjU rfl (Zaz (fun _ _=>rfl) (Zal (i:=1) rfl rfl rfl rfl) Zag) (Zbv (Zaa rfl Zat (Zaa rfl Zat Zae)))) (Zaj (Zas (ZhD (ZaI (Zaa rfl (Zaz (fun _ _=>rfl) (Zal (i:=1) rfl rfl rfl rfl) Zag) Zae)) (Zh3 Zdb (Zev) rfl T.Zcr (by decide) rfl rfl rfl (Zaa rfl (ZgW rfl (Zwb (own:=["inner"]) (fr:=["state","deep"]) (js:=[0,2]) (scX:=Zac ZbL) (n:=s.heap.objs.size+1) rfl (by decide +kernel) (by decide +kernel) (by decide +kernel) (by decide +kernel) rfl rfl rfl (by decide +kernel) rfl) (fun _=>rfl) (Zdm (fun _ _=>rfl) (Zeh (Zal (i:=1) rfl rfl rfl rfl) (Zcw Zag) Zco)) (ZgY (i:=0) (by decide) rfl rfl) (fun C fp s1 H1=>Zd0) (fun C fp s1 H1=>(Zap Zd9 (hr.mono Zd7) rfl ZaG rfl rfl rfl (Zaa rfl (Zal (i:=1) rfl rfl rfl rfl) (Zaa rfl (Zal (i:=0) rfl rfl rfl rfl) (Zaa rfl (Zgq (Zal (i:=2) rfl rfl rfl rfl) Zag) Zae)))))) Zae))))) Zau) (Zai (Zba (ZaD (Zdc hu) rfl (Zaz (fun _ _=>rfl) (Zal (i:=1) rfl rfl rfl rfl) Zag) Zat) (Zaj (Zas (Zal (i:=1) rfl rfl rfl rfl))) Zau) (Zai (ZeT (i:=4) Zce.nd rfl rfl rfl (Zbv Zae)) (Zai (ZeZ PassesOwn.never rfl (fun _=>rfl) (ZmI (Zaz (fun _ _=>rfl) (Zal (i:=1) rfl rfl rfl rfl) Zag)) (ZfR (i:=5) (j:=6) (k:=7) rfl Zce.nd rfl (.inl rfl) (.inr rfl) rfl (.inl rfl) (.inr rfl) rfl (.inl rfl) (.inr rfl)) (Zai (ZeT (i:=8) Zce.nd rfl rfl rfl (Zap Zbe (hr.mono Zbd) rfl ZaG rfl rfl rfl (Zaa rfl (Zal (i:=0) rfl rfl rfl rfl) (Zaa rfl Zag Zae)))) (Zai (Zba (ZaD (Zch hu) rfl (Zal (i:=8) rfl rfl rfl rfl) Zag) (Zaj (ZeT (i:=6) Zce.nd rfl rfl rfl (Zaz (fun _ _=>rfl) (Zbv (Zaa rfl Zat (Zaa rfl Zat Zae))) (Zap Zbe (hr.mono Zbd) rfl ZaG rfl rfl rfl (Zaa rfl (Zal (i:=0) rfl rfl rfl rfl) (Zaa rfl Zag Zae)))))) Zau) (Zaj (Zba (ZaD (Zdc hu) rfl (Zal (i:=8) rfl rfl rfl rfl) Zag) (Zaj (ZeD rfl (Zih Zgd rfl rfl rfl rfl rfl (Zal (i:=4) rfl rfl rfl rfl) (Zaa rfl (ZaI (Zaa rfl (Zal (i:=5) rfl rfl rfl rfl) (Zaa rfl (Zal (i:=6) rfl rfl rfl rfl) (Zaa rfl (Zap Zd9 (hr.mono Zd7) rfl ZaG rfl rfl rfl (Zaa rfl (Zal (i:=0) rfl rfl rfl rfl) (Zaa rfl (Zal (i:=7) rfl rfl rfl rfl) (Zaa rfl (Zgq (Zal (i:=2) rfl rfl rfl rfl) Zag) Zae)))) Zae)))) Zae)))) Zau))))) (Zaj (Zas (ZaI (Zaa rfl Zat (Zaa rfl (Zh3 Zdb (Zev) rfl T.Zcr (by decide) rfl rfl rfl (Zaa rfl (Zal (i:=4) rfl rfl rfl rfl) Zae)) (Zaa rfl (ZdM (Zdc hu) rfl (Zaz (fun _ _=>rfl) (Zal (i:=1) rfl rfl rfl rfl) Zag) (ZdM (Zch hu) rfl (Zap Zbe (hr.mono Zbd) rfl ZaG rfl rfl rfl (Zaa rfl (Zal (i:=0) rfl rfl rfl rfl) (Zaa rfl Zag Zae))) Zag)) Zae)))))))))))))
abbrev ZeX:List Str:=["kind","names","fields","name","mark","inner"]
theorem ZdJ:ZaC ZeX ["kind","names"] (Zac Za3):=⟨rfl,rfl,rfl,by decide +kernel,rfl,by decide +kernel,by decide +kernel⟩
def Ze8 (ZaE:Spw):GS:=(Zay (gIf (gTB (Zak (Zan (eqF true)) (Zak (Zan ixW) (Zad 0) (gC (.int 0))) (gC (.str "row")))) (ZaF (Zak (ZgL) (Ze1 (Zad 0) Zaw (Zbg (gC (.int 1)))) (gB (rF Zhj) (Zab (Zcl (ZbJ (Ze1 (Zad 0) (Zbg (gC (.int 1))) Zaw)) 1 [1] (gNm 0) ZfY (Zaq ZaE (fun _ _ _=>False) (Zab (Zad 0) (Zab (Zad 1) Zam)))) Zam)))) Zar) (Zay (Zbn 2 (Zcn Zam)) (Zay (Zel (ZcV (Zak (Zan ixW) (Zad 0) (gC (.int 1)))) (Zfp 3 4 5) (Zcm (gMt Zfb Zpb (Zad 2) (Zab (Zbb (Zab (Zak (Zan ixW) (Zad 1) (gMt Zfb ZnB (Zcn (Zab (gC (.str "a")) (Zab (gC (.str "b")) (Zab (gC (.str "cc")) Zam)))) (Zab (Zad 3) Zam))) (Zab (Zad 4) (Zab (Zaq ZaE (fun _ _ _=>False) (Zab (Zad 5) (Zab (Zad 1) Zam))) Zam)))) Zam)))) (ZaF (Zbb (Zab (gC (.str "row")) (Zab (gB (rF Zhj) (Zab (Zad 2) Zam)) (Zab (Zak (Zan ixW) (Zad 0) (gC (.int 2))) Zam))))))))
theorem Zh4 {k:Nat} (T:Tx K mg base a) {Za1:Nat} {ZaE:Spw} (Zb7:Df P w K mg base "_law_renamed" Za1 2 ZaE) (Zb6:Za1≤k) {f:Addr} {cdv:Value} {A:Around} {outer:List Env} {s:Shared} {H:Hp} {E:XK} (hr:Room k (A.deeper (envOfC "_law_renamed" (Zac Za3) s.heap.objs.size f cdv))):Ssm (cxW P w K mg base ZeX "_law_renamed" (Zac Za3) f cdv A outer s H E).nox (fun B=>B=H) (Zax Za3) (Ze8 ZaE) :=
 have hu:=ZeU hr
 (Zai (Zba (ZaD (Zdc hu) rfl (Zaz (fun _ _=>rfl) (Zal (i:=0) rfl rfl rfl rfl) Zag) Zat) (Zaj (Zas (ZhD (Zeh (Zal (i:=0) rfl rfl rfl rfl) Zco (Zcw Zag)) (Zh3 Zdb (Zev) rfl T.Zcr (by decide) rfl rfl rfl (Zaa rfl (ZgW rfl (Zwb (own:=["inner"]) (fr:=["names"]) (js:=[1]) (scX:=Zac Za3) (n:=s.heap.objs.size+1) rfl (by decide +kernel) (by decide +kernel) (by decide +kernel) (by decide +kernel) rfl rfl rfl (by decide +kernel) rfl) (fun _=>rfl) (Zdm (fun _ _=>rfl) (Zeh (Zal (i:=0) rfl rfl rfl rfl) (Zcw Zag) Zco)) (ZgY (i:=0) (by decide) rfl rfl) (fun C fp s1 H1=>Zd0) (fun C fp s1 H1=>(Zap Zb7 (hr.mono Zb6) rfl ZaG rfl rfl rfl (Zaa rfl (Zal (i:=0) rfl rfl rfl rfl) (Zaa rfl (Zal (i:=1) rfl rfl rfl rfl) Zae))))) Zae))))) Zau) (Zai (ZeT (i:=2) ZdJ.nd rfl rfl rfl (Zbv Zae)) (Zai (ZeZ PassesOwn.never rfl (fun _=>rfl) (ZmI (Zaz (fun _ _=>rfl) (Zal (i:=0) rfl rfl rfl rfl) Zag)) (ZfR (i:=3) (j:=4) (k:=5) rfl ZdJ.nd rfl (.inl rfl) (.inr rfl) rfl (.inl rfl) (.inr rfl) rfl (.inl rfl) (.inr rfl)) (Zaj (ZeD rfl (Zih Zgd rfl rfl rfl rfl rfl (Zal (i:=2) rfl rfl rfl rfl) (Zaa rfl (ZaI (Zaa rfl (Zaz (fun _ _=>rfl) (Zal (i:=1) rfl rfl rfl rfl) (Zih Zpi rfl rfl rfl rfl rfl (Zbv (Zaa rfl Zat (Zaa rfl Zat (Zaa rfl Zat Zae)))) (Zaa rfl (Zal (i:=3) rfl rfl rfl rfl) Zae))) (Zaa rfl (Zal (i:=4) rfl rfl rfl rfl) (Zaa rfl (Zap Zb7 (hr.mono Zb6) rfl ZaG rfl rfl rfl (Zaa rfl (Zal (i:=5) rfl rfl rfl rfl) (Zaa rfl (Zal (i:=1) rfl rfl rfl rfl) Zae))) Zae)))) Zae))))) (Zaj (Zas (ZaI (Zaa rfl Zat (Zaa rfl (Zh3 Zdb (Zev) rfl T.Zcr (by decide) rfl rfl rfl (Zaa rfl (Zal (i:=2) rfl rfl rfl rfl) Zae)) (Zaa rfl (Zaz (fun _ _=>rfl) (Zal (i:=0) rfl rfl rfl rfl) Zag) Zae)))))))))
abbrev ZdN:List Str:=["state","some"]
theorem ZdS:ZaC ZdN ["state"] (Zac ZaN):=⟨rfl,rfl,rfl,by decide +kernel,rfl,by decide +kernel,by decide +kernel⟩
def ZdO (Zav:Spw):GS:=(Zay (Zbn 1 (Zcn (Zab (Zcn (Zab (gC (.str "a")) (Zab (gC (.str "b")) (Zab (gC (.str "cc")) Zam)))) (Zab (Zcn (Zab (gC (.str "any")) (Zab (gC (.str "num")) (Zab (gC (.str "truth")) Zam)))) (Zab (Zcn (Zab (gC (.str "in")) (Zab (gC (.str "inside")) (Zab (gC (.str "out")) Zam)))) (Zab (Zcn (Zab (gC (.str "may")) (Zab (gC (.str "row")) (Zab (gC (.str "zzzzzzzz")) Zam)))) Zam)))))) (ZaF (Zak (Zan ixW) (Zad 1) (Zaq Zav (fun _ _ _=>False) (Zab (Zad 0) (Zab (gC (.int 4)) Zam))))))
theorem Zf7 {k:Nat} (T:Tx K mg base a) {ZaH:Nat} {Zav:Spw} (Zbe:Df P w K mg base "_law_take" ZaH 2 Zav) (Zbd:ZaH≤k) {f:Addr} {cdv:Value} {A:Around} {outer:List Env} {s:Shared} {H:Hp} {E:XK} (hr:Room k (A.deeper (envOfC "_law_some_names" (Zac ZaN) s.heap.objs.size f cdv))):Ssm (cxW P w K mg base ZdN "_law_some_names" (Zac ZaN) f cdv A outer s H E).nox (fun B=>B=H) (Zax ZaN) (ZdO Zav) :=
 have hu:=ZeU hr
 (Zai (ZeT (i:=1) ZdS.nd rfl rfl rfl (Zbv (Zaa rfl (Zbv (Zaa rfl Zat (Zaa rfl Zat (Zaa rfl Zat Zae)))) (Zaa rfl (Zbv (Zaa rfl Zat (Zaa rfl Zat (Zaa rfl Zat Zae)))) (Zaa rfl (Zbv (Zaa rfl Zat (Zaa rfl Zat (Zaa rfl Zat Zae)))) (Zaa rfl (Zbv (Zaa rfl Zat (Zaa rfl Zat (Zaa rfl Zat Zae)))) Zae)))))) (Zaj (Zas (Zaz (fun _ _=>rfl) (Zal (i:=1) rfl rfl rfl rfl) (Zap Zbe (hr.mono Zbd) rfl ZaG rfl rfl rfl (Zaa rfl (Zal (i:=0) rfl rfl rfl rfl) (Zaa rfl Zag Zae)))))))
end
def Fs.toL:Fs→List (Str×Bool×Kd)
 | .nil=>[]
 | .cons n m k r=>(n,m,k)::r.toL
theorem Zhp:∀ fs:Fs,fs.enc=fs.toL.map Zfq
 | .nil=>rfl
 | .cons n m k r=>by show _::r.enc=_::r.toL.map Zfq;rw [Zhp r];rfl
theorem Zex:∀ fs:Fs,fs.names=fs.toL.map (·.1)
 | .nil=>rfl
 | .cons n m k r=>by show _::r.names=_::r.toL.map _;rw [Zex r]
theorem Zkj:∀ {fs:Fs} {u:Str×Bool×Kd},u∈fs.toL→u.2.2∈fs.kinds
 | .nil,u,h=>by cases h
 | .cons n m k r,u,h=>by
  rcases List.mem_cons.mp h with rfl | h
  ·exact List.mem_cons_self
  ·exact List.mem_cons_of_mem _ (Zkj h)
theorem ZkG:∀ (n:Nat) {k:Kd},wf k→k.dp≤n+1→k.cnt≤Nn n
 | 0,k,h,hd=>by
  cases k with
  | any=>exact Nat.le_refl _
  | num=>exact Nat.le_refl _
  | truth=>exact Nat.le_refl _
  | to x y=>have h1:=ZaQ (k:=.to x y) (c:=x) (by simp [Kd.kids]);have:=Zgn x;omega
  | box x=>have h1:=ZaQ (k:=.box x) (c:=x) (by simp [Kd.kids]);have:=Zgn x;omega
  | row fs o =>
   cases fs with
   | nil=>exact Nat.le_refl _
   | cons n m k r=>have h1:=ZaQ (k:=.row (.cons n m k r) o) (c:=k) (by simp [Kd.kids,Fs.kinds]);have:=Zgn k;omega
 | n+1,k,h,hd=>by
  have hk:∀ c∈k.kids,c.cnt≤Nn n:=fun c hc=>ZkG n (Zec h hc) (by have:=ZaQ hc;omega)
  have hl:k.kids.length≤3:=by
   cases k with
   | row fs o =>
    have hn:fs.names.Nodup:=(Zie h.1).1.imp fun z e=>by subst e;rw [ZgE] at z;cases z
    have h1:=Zcx hn (Zid h.2).2
    have e:abc.length=3:=rfl
    have e2:fs.names.length=fs.kinds.length:=by rw [ZbK,ZpE]
    show fs.kinds.length≤3
    omega
   | _=>simp [Kd.kids]
  have hs:∀ (l:List Kd),(∀ c∈l,c.cnt≤Nn n)→Zga l≤l.length*Nn n:=by
   intro l
   induction l with
   | nil=>intro _;exact Nat.zero_le _
   | cons c l ih =>
    intro hc
    have h1:=hc c List.mem_cons_self
    have h2:=ih fun x hx=>hc x (List.mem_cons_of_mem _ hx)
    show c.cnt+Zga l≤(l.length+1)*Nn n
    rw [Nat.add_mul];omega
  rw [ZfD]
  have h1:=hs k.kids hk
  have h2:k.kids.length*Nn n≤3*Nn n:=Nat.mul_le_mul_right _ hl
  show 1+Zga k.kids≤1+3*Nn n
  omega
theorem Zhe {n:Nat} {k:Kd} (h:wf k) (hd:k.dp≤n+1):gen n k:=⟨h.1,hd,ZkG n h hd,h.2⟩
theorem Zgx {n:Nat} {k:Kd} (h:gen n k):wf k∧k.dp≤n+1:=⟨⟨h.1,h.2.2.2⟩,h.2.1⟩
theorem Zwe {n:Nat} {l:List (Str×Bool×Kd)} {o:Bool} (hp:(l.map (·.1)).Pairwise (fun x y=>ZaP x y=true)) (ha:∀ y∈l,y.1∈abc) (hg:∀ y∈l,gen n y.2.2):gen (n+1) (.row (ofL l) o):=by
 have ho:(Kd.row (ofL l) o).ok=true:=by
  show (Zh2 (ofL l).names&&(ofL l).ok)=true
  rw [ZhM,ZlI hp,Zpc l hg fun y hy=>Zrv _ (ha y hy)];rfl
 have hb:(Kd.row (ofL l) o).abc=true:=Zlb l hg ha
 have hd:(Kd.row (ofL l) o).dp≤n+2:=by
  have:=Zod l hg
  show 1+(ofL l).dp≤n+2
  omega
 exact Zhe ⟨ho,hb⟩ hd
theorem ZsH {G:Hw} {p:Addr} {h:Str} {bs:List Str}:inF false (.str h) (.ref p) (put G p (.lst (bs.map W.str)))=some (.bl (bs.any (·==h))):=by
 unfold inF
 rw [Zf5 Zah]
 show (ZiZ (bs.map W.str)).map _=_
 rw [ZeP]
 show some (W.bl (inV (.str h) (bs.map V.str)))=_
 rw [ZgQ]
theorem Zxs {G:Hw} {p:Addr} {h:Str}:inF false (.str h) (.ref p) (put G p (.lst [.str "to",.str "box"]))=some (.bl ((["to","box"]:List Str).any (·==h))):=ZsH (bs:=["to","box"])
theorem Zxb (k:Kd):(["to","box"]:List Str).any (·==k.hd)=k.fb:=by cases k <;> (simp only [Kd.hd,Kd.fb];decide)
abbrev Zq7 (js:List Nat) (ge:GE):GE:=Zak ZgL (L3.Zbb (L3.Zab (Zak (Zan ixW) (Zad 1) (gC (.int 0))) L3.Zam)) (gB (rF Zhj) (L3.Zab (Zcl (ZbJ (Ze1 (Zad 1) (Zbg (gC (.int 1))) Zaw)) 1 js (gNm 0) ZfY ge) L3.Zam))
theorem ZtK {js:List Nat} {ge:GE} {ω tl:Sw} {G:Hw} {Q:Kw} {a1 a2:Kd} {s:Addr} {x y:Int} {Rk:Kd→Kd→Prop} (h1:ω[1]?=some (some (Kd.to a1 a2).enc)) (hc:Zh5 1 js ω=none::tl) (hs:G s=some (.lst [.int x,.int y]))
  (step:∀ k,k=a1∨k=a2→∀ (G:Hw) (x y:Int) (Q:Kw),G s=some (.lst [.int x,.int y])→(∀ k' x' y',Rk k k'→Q k'.enc (put G s (.lst [.int x',.int y'])))→ge (some k.enc::tl) G Q)
  (fin:∀ k1 k2 x' y' p,Rk a1 k1→Rk a2 k2→put G s (.lst [.int x',.int y']) p=none→Q (Kd.to k1 k2).enc (put (put G s (.lst [.int x',.int y'])) p (.lst [k1.enc,k2.enc]))):Zq7 js ge ω G Q:=by
 have e:(Kd.to a1 a2).enc=.tup [.str "to",a1.enc,a2.enc]:=rfl
 rw [e] at h1
 unfold Zq7
 simp only [Zak,L3.Zbb,L3.Zab,L3.Zam,Zad,h1,gC,Zan,ixW,Zb1,Zaf,gB,Zcl,ZbJ,Ze1,Zbg,Zaw,slA,hc]
 refine ⟨by decide,?_⟩
 show Zb4 yes (gNm 0) ZfY ge _ [a1.enc,a2.enc] (none::tl) G []
 refine ⟨trivial,by decide,?_⟩
 show ge (some a1.enc::tl) G _
 refine step a1 (.inl rfl) G x y _ hs fun k1 x1 y1 r1=>⟨trivial,(show 1 < sizeLine by decide),?_⟩
 show ge (some a2.enc::tl) _ _
 refine step a2 (.inr rfl) _ x1 y1 _ Zah fun k2 x2 y2 r2=>⟨trivial,fun p hp=>?_⟩
 rw [Zgg] at hp ⊢
 simp only [rF,Zhj,Zf5 Zah,Option.map_some,Zaf]
 rw [Zb3]
 exact ⟨(show 1+2≤sizeLine by decide),fin k1 k2 x2 y2 p r1 r2 hp⟩
theorem ZpQ {js:List Nat} {ge:GE} {ω tl:Sw} {G:Hw} {Q:Kw} {a1:Kd} {s:Addr} {x y:Int} {Rk:Kd→Kd→Prop} (h1:ω[1]?=some (some (Kd.box a1).enc)) (hc:Zh5 1 js ω=none::tl) (hs:G s=some (.lst [.int x,.int y]))
  (step:∀ k,k=a1→∀ (G:Hw) (x y:Int) (Q:Kw),G s=some (.lst [.int x,.int y])→(∀ k' x' y',Rk k k'→Q k'.enc (put G s (.lst [.int x',.int y'])))→ge (some k.enc::tl) G Q)
  (fin:∀ k1 x' y' p,Rk a1 k1→put G s (.lst [.int x',.int y']) p=none→Q (Kd.box k1).enc (put (put G s (.lst [.int x',.int y'])) p (.lst [k1.enc]))):Zq7 js ge ω G Q:=by
 have e:(Kd.box a1).enc=.tup [.str "box",a1.enc]:=rfl
 rw [e] at h1
 unfold Zq7
 simp only [Zak,L3.Zbb,L3.Zab,L3.Zam,Zad,h1,gC,Zan,ixW,Zb1,Zaf,gB,Zcl,ZbJ,Ze1,Zbg,Zaw,slA,hc]
 refine ⟨by decide,?_⟩
 show Zb4 yes (gNm 0) ZfY ge _ [a1.enc] (none::tl) G []
 refine ⟨trivial,by decide,?_⟩
 show ge (some a1.enc::tl) G _
 refine step a1 rfl G x y _ hs fun k1 x1 y1 r1=>⟨trivial,fun p hp=>?_⟩
 simp only [rF,Zhj,Zf5 Zah,Option.map_some,Zaf]
 rw [Zb3]
 exact ⟨(show 1+1≤sizeLine by decide),fin k1 x1 y1 p r1 hp⟩
theorem ZkV {G G3:Hw} {s:Addr} {o:HW} (h1:G3 s=some o) (h2:∀ b,b≠s→∀ u,G b=some u→G3 b=some u):Sub (put G s o) G3:=fun b u hu=>by
 by_cases hb:b=s
 ·subst hb;rw [Zah] at hu;cases hu;exact h1
 ·rw [Zao hb] at hu;exact h2 b hb u hu
theorem ZsN {k:Kd} {e:GE} {Zck:GS} {D:Ew} {ω:Sw} {G:Hw} (h1:ω[1]?=some (some k.enc)) (h:∀ p0,G p0=none→if k.fb=true then e ω (put G p0 (.lst [.str "to",.str "box"])) D.rt else Zck D ω (put G p0 (.lst [.str "to",.str "box"]))) :
  Zay (gIf (gTB (Zak (Zan (inF false)) (Zak (Zan ixW) (Zad 1) (gC (.int 0))) (Zcn (L3.Zab (gC (.str "to")) (L3.Zab (gC (.str "box")) L3.Zam))))) (ZaF e) Zar) Zck D ω G:=by
 simp only [Zay,gIf,gTB,Zak,Zan,Zad,h1,gC,Zcn,L3.Zab,L3.Zam,ZaF,Zar]
 rw [ZbY]
 simp only [Zaf]
 refine ⟨by decide,fun p0 hp0=>?_⟩
 rw [Zxs,Zxb]
 simp only [Zaf]
 exact h p0 hp0
theorem Zmm {k:Kd} {e:GE} {Zck:GS} {D:Ew} {ω:Sw} {G:Hw} (h1:ω[1]?=some (some k.enc)) (h:if k.hd="row" then Zck D ω G else e ω G D.rt) :
  Zay (gIf (gTB (Zak (Zan (eqF true)) (Zak (Zan ixW) (Zad 1) (gC (.int 0))) (gC (.str "row")))) (ZaF e) Zar) Zck D ω G:=by
 simp only [Zay,gIf,gTB,Zak,Zan,Zad,h1,gC,ZaF,Zar]
 rw [ZbY]
 simp only [Zaf,eqF,eqW,Option.map_some]
 by_cases z:k.hd="row"
 ·rw [if_pos z] at h
  simp only [z,beq_self_eq_true,bne_self_eq_false,Bool.false_eq_true,if_false]
  exact h
 ·rw [if_neg z] at h
  have:(k.hd=="row")=false:=by simpa using z
  simp only [this,show (false != true)=true from rfl,if_true]
  exact h
theorem Ztb {x:Str} {j m:Nat} {sp sp':Spw} (D:Df P w K mg base x j m sp) (h:∀ ws G Q E,sp' ws G Q E→sp ws G Q E) (mo:Spw.M sp'):Df P w K mg base x j m sp':=by
 obtain ⟨⟨f,fd,_,h1,kp,h3,e,A⟩,_⟩:=D
 refine ⟨⟨f,fd,_,h1,kp,h3,e,⟨?_,?_⟩⟩,mo⟩
 ·rintro vs H Q E ⟨ws,G,t,r,q⟩
  exact A.len vs H Q E ⟨ws,G,t,r,h _ _ _ _ q⟩
 ·rintro A' outer s H args us vs Q E hr he hb hv ⟨ws,G,t,r,q⟩
  exact A.run A' outer s H args us vs Q E hr he hb hv ⟨ws,G,t,r,h _ _ _ _ q⟩
def Zws (n:Nat):Spw:=fun ws G Q _=>∃ (s:Addr) (x y:Int),ws=[.ref s,.int ((n:Int) - 1)]∧G s=some (.lst [.int x,.int y])∧∀ k x' y',gen n k→Q k.enc (put G s (.lst [.int x',.int y']))
theorem Zrz {n:Nat}:Spw.M (Zws n):=(by rintro ws G Q Q' E E' h _ ⟨s,x,y,h1,h2,q⟩;exact ⟨s,x,y,h1,h2,fun k x' y' g=>h _ _ (q k x' y' g)⟩)
theorem Zwi {n:Nat} {k:Kd} (h:gen n k):gen (n+1) k:=Zhe (Zgx h).1 (by have:=(Zgx h).2;omega)
local macro_rules | `(tactic| walk_at "kd") => `(tactic| simp only [Zay, gIf, ZaF, Zbn, Zcm, Zar, Zad, gC, Zak, gTB, Zgk, gNt, ZjG, gOr, Zc3, Zkp, ZhW, L3.Zbb, Zcn, L3.Zab, L3.Zam, Zaq, gB, rF, Zan, Zc5, gMt, ZjH, ZpH, Zcu, Zgm, Zf4, ZbU, L3.Ze6, Zej, gSl, Zbg, Zaw, ZcX, ZbJ, ZkZ, Zhx, Zel, Zd6, ZcU, ZaW, ZbX, List.map_cons, List.map_nil, List.length_cons, List.length_nil, List.cons_append, List.nil_append, List.getElem?_cons_zero, List.getElem?_cons_succ, List.set_cons_zero, List.set_cons_succ, List.replicate, ZjC, tyN, Zaf, Zb1, ZcZ, Zek, ixW, eqF, eqW, ZgK, ZjI, Zic, Zhj, Zk2, List.getElem?_nil])
theorem ZgH (T:Tx K mg base a):∀ n:Nat,Df P w K mg base "_law_kind" (n+2) 2 (Zws n)
 | 0=>by
  refine mk0 T.ZbN rfl Zcd Zrz ((by rintro ws G Q E ⟨s,x,y,e,_⟩;rw [e];rfl)) (Zfi T (ZaH T) (Nat.le_refl _) (Zk7 (sp:=Zwo) (k:=0) T.ZbN Znr fun _ _ _ _ h=>h) (by omega)) fun ws G Q E hC q=>?_
  obtain ⟨s,x,y,rfl,hs,q⟩:=q
  unfold Zdh
  walk_at "kd"
  refine ⟨.inl ⟨by decide,by decide⟩,s,_,x,y,rfl,by decide,by decide,hs,fun r x1 y1 r0 r1=>?_⟩
  have r6:r < 6:=r1
  simp only [r6,decide_true,if_true]
  obtain ⟨k,hk,ek⟩:=Zle r0 r6
  refine ⟨by decide,by decide,by decide,by decide,fun p hp=>⟨⟨by decide,by decide⟩,?_⟩⟩
  simp only [Zah,ek,Zaf]
  exact hC _ _ _ (Zbk hp) (q k x1 y1 (ZgZ hk))
 | n+1=>by
  have z:=Ztb (ZaV T n) (P:=P) (w:=w) (base:=base) (sp':=Zws (n+1)) (by
   rintro ws G Q E ⟨s,x,y,e,hs,q⟩
   exact ⟨s,x,y,by rw [e];exact congrArg (fun i=>[W.ref s,W.int i]) (by omega),hs,fun k x' y' g=>q k x' y' (Zwi g)⟩) Zrz
  obtain ⟨f,fd,ps,h1,h2,h3,h4,F⟩:=z.ex
  exact ⟨⟨f,fd,ps,h1,h2,h3,h4,F.mono (by omega)⟩,z.mono⟩
def ZgA (n:Nat):Spw:=fun ws G Q _=>∃ (s:Addr) (x y:Int) (k:Kd),ws=[.ref s,k.enc,.int ((n:Int) - 1)]∧G s=some (.lst [.int x,.int y])∧gen n k∧∀ k' x' y',gen n k'→Q k'.enc (put G s (.lst [.int x',.int y']))
theorem Zl4 {n:Nat}:Spw.M (ZgA n):=(by rintro ws G Q Q' E E' h _ ⟨s,x,y,k,h1,h2,h3,q⟩;exact ⟨s,x,y,k,h1,h2,h3,fun k x' y' g=>h _ _ (q k x' y' g)⟩)
def Zsm (sp:Spw):GS:=gIf (gTB (Zak (Zan (eqF true)) (Zad 8) (gC (.int 1)))) (Zcm (gMt Zfb Zpb (Zad 4) (L3.Zab (L3.Zbb (L3.Zab (Zad 5) (L3.Zab (Zad 6) (L3.Zab (Zaq sp (fun _ _ _=>False) (L3.Zab (Zad 0) (L3.Zab (Zad 7) (L3.Zab (Zak (ZbU (fun _ _=>True) fun i j=>i - j) (Zad 2) (gC (.int 1))) L3.Zam)))) L3.Zam)))) L3.Zam))) Zar
def ZmN (sp:Spw):GS:=Zay (Zbn 8 (Zaq ZfC (fun _ _ _=>False) (L3.Zab (Zad 0) (L3.Zab (gC (.int 8)) L3.Zam)))) (Zay (gIf (gTB (Zak (Zan (eqF false)) (Zad 8) (gC (.int 0)))) (Zbn 6 (Zak (Zan ixW) (Zcn (L3.Zab (gC (.str "must")) (L3.Zab (gC (.str "may")) L3.Zam))) (Zaq ZfC (fun _ _ _=>False) (L3.Zab (Zad 0) (L3.Zab (gC (.int 2)) L3.Zam))))) Zar) (Zsm sp))
theorem Zhl {n:Nat} {D:Ew} {s p:Addr} {k0 way:W} {d:Int} (hd:d - 1=(n:Int) - 1):∀ (l dn:List (Str×Bool×Kd)) (o5 o6 o7 o8:Option W) (G:Hw) (x y:Int),(∀ u∈l,gen n u.2.2)→dn.length+l.length≤100→p≠s→G s=some (.lst [.int x,.int y])→G p=some (.lst (dn.map Zfq)) →
  (∀ ω G' l2 x' y',(∃ u v t z,ω=[some (.ref s),some k0,some (.int d),some way,some (.ref p),u,v,t,z])→G' s=some (.lst [.int x',.int y'])→G' p=some (.lst ((dn++l2).map Zfq))→(∀ b,b≠s→b≠p→∀ u,G b=some u→G' b=some u)→(l2.map (·.1)).Sublist (l.map (·.1))→(∀ u∈l2,gen n u.2.2)→D.nx ω G') →
  Zdo yes (Zfp 5 6 7) (ZmN (ZgA n)) D (l.map Zfq) [some (.ref s),some k0,some (.int d),some way,some (.ref p),o5,o6,o7,o8] G
 | [],dn,o5,o6,o7,o8,G,x,y,_,_,_,hs,hp,fin=>⟨trivial,fin _ G [] x y ⟨o5,o6,o7,o8,rfl⟩ hs (by rw [List.append_nil];exact hp) (fun b _ _ u h=>h) (.refl _) (fun u h=>(by cases h))⟩
 | u::l,dn,o5,o6,o7,o8,G,x,y,hg,hl,nps,hs,hp,fin=>by
  rw [List.length_cons] at hl
  have app:∀ (mk:Bool) (r:Int) (G:Hw) (x y:Int),G s=some (.lst [.int x,.int y])→G p=some (.lst (dn.map Zfq)) →
    (∀ ω G' l2 x' y',(∃ u v t z,ω=[some (.ref s),some k0,some (.int d),some way,some (.ref p),u,v,t,z])→G' s=some (.lst [.int x',.int y'])→G' p=some (.lst ((dn++l2).map Zfq))→(∀ b,b≠s→b≠p→∀ u,G b=some u→G' b=some u)→(l2.map (·.1)).Sublist ((u::l).map (·.1))→(∀ u∈l2,gen n u.2.2)→D.nx ω G') →
    Zsm (ZgA n) { nx:=Zdo yes (Zfp 5 6 7) (ZmN (ZgA n)) D (l.map Zfq),rt:=D.rt,bk:=D.nx,ct:=Zdo yes (Zfp 5 6 7) (ZmN (ZgA n)) D (l.map Zfq) } [some (.ref s),some k0,some (.int d),some way,some (.ref p),some (.str u.1),some (.str (Zd1 mk)),some u.2.2.enc,some (.int r)] G:=by
   intro mk r G x y hs hp fin
   unfold Zsm
   simp only [gIf,gTB,Zak,Zan,Zad,gC,List.getElem?_cons_zero,List.getElem?_cons_succ,eqF,eqW,Option.map_some,Zaf,Zcm,gMt,L3.Zab,L3.Zam,L3.Zbb,Zaq,Zar,ZbU]
   refine Zsk (fun h=>?_) (fun h=>?_)
   ·refine ⟨ZfS hp,trivial,s,x,y,u.2.2,by rw [hd],hs,hg u List.mem_cons_self,fun k' x1 y1 g1=>⟨(show 3≤sizeLine by decide),?_⟩⟩
    refine Zn5 (by rw [Zao nps];exact hp) (by rw [List.length_map];exact Zmw (by omega)) ?_
    have ee:dn.map Zfq++[W.tup [.str u.1,.str (Zd1 mk),k'.enc]]=(dn++[(u.1,mk,k')]).map Zfq:=by rw [List.map_append];rfl
    rw [ee]
    refine Zhl hd l (dn++[(u.1,mk,k')]) _ _ _ _ _ x1 y1 (fun v hv=>hg v (List.mem_cons_of_mem _ hv)) (by rw [List.length_append];simp only [List.length_cons,List.length_nil];omega) nps (by rw [Zao (Ne.symm nps)];exact Zah) Zah fun ω G' l2 x' y' hω f1 f2 f3 L L2=>?_
    refine fin ω G' ((u.1,mk,k')::l2) x' y' hω f1 (by rw [f2,List.append_assoc];rfl) (fun b b1 b2 v hv=>f3 b b1 b2 v (by rw [Zao b2,Zao b1];exact hv)) (L.cons_cons _) fun v hv=>?_
    rcases List.mem_cons.mp hv with rfl | hv
    ·exact g1
    ·exact L2 v hv
   ·refine Zhl hd l dn _ _ _ _ G x y (fun v hv=>hg v (List.mem_cons_of_mem _ hv)) (by omega) nps hs hp fun ω G' l2 x' y' hω f1 f2 f3 L L2=>?_
    exact fin ω G' l2 x' y' hω f1 f2 f3 (L.cons _) L2
  refine ⟨trivial,?_⟩
  have eu:Zfq u=.tup [.str u.1,.str (Zd1 u.2.1),u.2.2.enc]:=rfl
  rw [eu]
  simp only [Zfp,List.set_cons_zero,List.set_cons_succ]
  show Zay _ _ _ _ _
  simp only [Zay,Zbn,Zaq,Zad,gC,L3.Zab,L3.Zam,List.getElem?_cons_zero,List.getElem?_cons_succ,List.set_cons_zero,List.set_cons_succ,gIf,gTB,Zak,Zan,eqF,eqW,Option.map_some,Zaf,Zar,Zcn]
  refine ⟨s,8,x,y,rfl,by decide,by decide,hs,fun r x1 y1 r0 r1=>?_⟩
  have g1s:put G s (.lst [.int x1,.int y1]) s=some (.lst [.int x1,.int y1]):=Zah
  have g1p:put G s (.lst [.int x1,.int y1]) p=some (.lst (dn.map Zfq)):=by rw [Zao nps];exact hp
  refine Zsk (fun h=>?_) (fun h=>?_)
  ·refine ⟨by decide,fun p2 hp2=>?_⟩
   have n2:s≠p2:=ZaB g1s hp2
   have n3:p≠p2:=ZaB g1p hp2
   refine ⟨s,2,x1,y1,rfl,by decide,by decide,by rw [Zao n2];exact g1s,fun r2 x2 y2 r20 r21=>?_⟩
   have mk:∃ b:Bool,atI [W.str "must",W.str "may"] r2=some (.str (Zd1 b)):=by
    have:r2=0∨r2=1:=by omega
    rcases this with e | e
    ·exact ⟨true,by rw [e];exact Zb1⟩
    ·exact ⟨false,by rw [e];exact ZcZ⟩
   obtain ⟨b,eb⟩:=mk
   have gp2:put (put (put G s (.lst [.int x1,.int y1])) p2 (.lst [.str "must",.str "may"])) s (.lst [.int x2,.int y2]) p2=some (.lst [.str "must",.str "may"]):=by rw [Zao (Ne.symm n2)];exact Zah
   simp only [ixW,gp2,eb,Zaf]
   refine app b r _ x2 y2 Zah (by rw [Zao nps,Zao n3];exact g1p) fun ω G' l2 x' y' hω f1 f2 f3 L L2=>?_
   refine fin ω G' l2 x' y' hω f1 f2 (fun c c1 c2 v hv=>f3 c c1 c2 v ?_) L L2
   have hc:put G s (.lst [.int x1,.int y1]) c=some v:=by rw [Zao c1];exact hv
   rw [Zao c1,Zao (ZaB hc hp2)];exact hc
  ·refine app u.2.1 r _ x1 y1 g1s g1p fun ω G' l2 x' y' hω f1 f2 f3 L L2=>?_
   exact fin ω G' l2 x' y' hω f1 f2 (fun c c1 c2 v hv=>f3 c c1 c2 v (by rw [Zao c1];exact hv)) L L2
set_option Elab.async false
set_option linter.all false
set_option maxRecDepth 100000
set_option maxHeartbeats 1000000
abbrev Zok (sp:Spw):GS:=(Zay (Zbn 4 (Zcn L3.Zam)) (Zay (Zel (ZcV (Zak (Zan ixW) (Zad 1) (gC (.int 1)))) (Zfp 5 6 7) (ZmN sp)) (ZaF (L3.Zbb (L3.Zab (gC (.str "row")) (L3.Zab (gB (rF Zhj) (L3.Zab (Zad 4) L3.Zam)) (L3.Zab (Zak (Zan (eqF true)) (Zak (Zan ixW) (Zad 1) (gC (.int 2))) (Zak (Zan (eqF false)) (Zaq ZfC (fun _ _ _=>False) (L3.Zab (Zad 0) (L3.Zab (gC (.int 5)) L3.Zam))) (gC (.int 0)))) L3.Zam)))))))
theorem Zn7 {n:Nat} {sp:Spw} {G:Hw} {Q:Kw} {s:Addr} {x y:Int} {fs:Fs} {o:Bool} {way:W} (hC:Kw.C Q) (hs:G s=some (.lst [.int x,.int y])) (hg:gen n (.row fs o)) (hsp:fs.kinds≠[]→∃ n',n=n'+1∧sp=ZgA n') (q:∀ k' x' y',gen n k'→Q k'.enc (put G s (.lst [.int x',.int y']))) :
  Zok sp (ZaW Q) [some (.ref s),some (Kd.row fs o).enc,some (.int ((n:Int) - 1)),some way,none,none,none,none,none] G:=by
 have wk:=Zgx hg
 have ee:(Kd.row fs o).enc=.tup [.str "row",.tup fs.enc,.bl o]:=rfl
 rw [ee]
 unfold Zok
 simp only [Zay,Zbn,Zcn,L3.Zam,List.set_cons_zero,List.set_cons_succ,Zel,ZcV,Zak,Zad,gC,Zan,ixW,List.getElem?_cons_zero,List.getElem?_cons_succ,ZcZ,Zaf,ZaF,L3.Zbb,L3.Zab,gB,rF,ZaW]
 refine ⟨by decide,fun p hp=>?_⟩
 have nps:p≠s:=Ne.symm (ZaB hs hp)
 have key:∀ ω G' l2 (x' y':Int),(∃ u v t z,ω=[some (.ref s),some (W.tup [.str "row",.tup fs.enc,.bl o]),some (.int ((n:Int) - 1)),some way,some (.ref p),u,v,t,z])→G' s=some (.lst [.int x',.int y'])→G' p=some (.lst (([]++l2).map Zfq))→(∀ b,b≠s→b≠p→∀ u,put G p (.lst []) b=some u→G' b=some u)→(∀ o',gen n (.row (ofL l2) o'))→ZaF (L3.Zbb (L3.Zab (gC (.str "row")) (L3.Zab (gB (rF Zhj) (L3.Zab (Zad 4) L3.Zam)) (L3.Zab (Zak (Zan (eqF true)) (Zak (Zan ixW) (Zad 1) (gC (.int 2))) (Zak (Zan (eqF false)) (Zaq ZfC (fun _ _ _=>False) (L3.Zab (Zad 0) (L3.Zab (gC (.int 5)) L3.Zam))) (gC (.int 0)))) L3.Zam)))) (ZaW Q) ω G':=by
  rintro ω G' l2 x' y' ⟨u,v,t,z,rfl⟩ f1 f2 f3 g
  rw [List.nil_append] at f2
  simp only [ZaF,L3.Zbb,L3.Zab,L3.Zam,gC,gB,rF,Zan,Zak,Zaq,Zad,ixW,Zek,List.getElem?_cons_zero,List.getElem?_cons_succ,Zhj,Zf5 f2,Option.map_some,Zaf,ZaW]
  refine ⟨s,5,x',y',rfl,by decide,by decide,f1,fun r x2 y2 _ _=>?_⟩
  simp only [eqF,eqW,Option.map_some,Zaf]
  refine ⟨(show 3≤sizeLine by decide),?_⟩
  rw [← Zla]
  exact hC _ _ _ (ZkV Zah fun b hb u hu=>by rw [Zao hb];exact f3 b hb (ZaB hu hp) u (by rw [Zao (ZaB hu hp)];exact hu)) (q (.row (ofL l2) _) x2 y2 (g _))
 cases fs with
 | nil =>
  exact ⟨trivial,key _ _ [] x y ⟨none,none,none,none,rfl⟩ (by rw [Zao (Ne.symm nps)];exact hs) Zah (fun b _ _ u h=>h) fun o'=>Zhe ⟨rfl,rfl⟩ (by have:=wk.2;exact this)⟩
 | cons nm mk k0 r =>
  obtain ⟨n',rfl,rfl⟩:=hsp (by show k0::r.kinds≠[];exact List.cons_ne_nil _ _)
  rw [Zhp]
  have pw:=(Zie wk.1.1).1
  refine Zhl (n:=n') (by omega) (Fs.cons nm mk k0 r).toL [] none none none none _ x y (fun u hu=>?_) ?_ nps (by rw [Zao (Ne.symm nps)];exact hs) Zah fun ω G' l2 x' y' hω f1 f2 f3 L L2=>?_
  ·have hk:u.2.2∈(Kd.row (.cons nm mk k0 r) o).kids:=Zkj hu
   exact Zhe (Zec wk.1 hk) (by have:=ZaQ hk;omega)
  ·have:=Zq0 wk.1
   rw [Zex,List.length_map] at this
   show 0+_≤100;omega
  ·rw [← Zhp] at hω
   rw [Zex] at pw
   refine key ω G' l2 x' y' hω f1 f2 f3 fun o'=>Zwe (pw.sublist L) (fun y hy=>?_) L2
   refine (Zid wk.1.2).2 _ ?_
   rw [Zex]
   exact L.subset (List.mem_map.mpr ⟨y,hy,rfl⟩)
theorem Zmd {i:Nat} {v c:Int} {e:GE} {Zck:GS} {D:Ew} {ω:Sw} {G:Hw} (h1:ω[i]?=some (some (.int v))) (h:if v=c then e ω G D.rt else Zck D ω G) :
  Zay (gIf (gTB (Zak (Zan (eqF false)) (Zad i) (gC (.int c)))) (ZaF e) Zar) Zck D ω G:=by
 simp only [Zay,gIf,gTB,Zak,Zan,Zad,h1,gC,ZaF,Zar,Zaf,eqF,eqW,Option.map_some]
 by_cases z:v=c
 ·rw [if_pos z] at h
  subst z
  simp only [beq_self_eq_true,show (true != false)=true from rfl,if_true]
  exact h
 ·rw [if_neg z] at h
  have:(v==c)=false:=by simpa using z
  simp only [this,bne_self_eq_false,Bool.false_eq_true,if_false]
  exact h
theorem Zj6 {n:Nat} {sp:Spw} {G:Hw} {Q:Kw} {s:Addr} {x y:Int} {k:Kd} (hC:Kw.C Q) (hs:G s=some (.lst [.int x,.int y])) (hg:gen n k) (hsp:k.kids≠[]→∃ n',n=n'+1∧sp=ZgA n') (q:∀ k' x' y',gen n k'→Q k'.enc (put G s (.lst [.int x',.int y']))) :
  Zfe ZfC (Zws n) sp (ZaW Q) (ZbX Zfk [.ref s,k.enc,.int ((n:Int) - 1)]) G:=by
 have wk:=Zgx hg
 unfold Zfe
 show Zay (Zbn 3 _) _ (ZaW Q) [some (.ref s),some k.enc,some (.int ((n:Int) - 1)),none,none,none,none,none,none] G
 simp only [Zay,Zbn,Zaq,Zad,gC,L3.Zab,L3.Zam,List.getElem?_cons_zero,List.getElem?_cons_succ,List.set_cons_zero,List.set_cons_succ]
 refine ⟨s,8,x,y,rfl,by decide,by decide,hs,fun r x1 y1 r0 r1=>?_⟩
 have g1s:put G s (.lst [.int x1,.int y1]) s=some (.lst [.int x1,.int y1]):=Zah
 refine Zmd (v:=r) rfl ?_
 by_cases e0:r=0
 ·rw [if_pos e0]
  exact ⟨by decide,q .any x1 y1 (ZgZ (.inl rfl))⟩
 rw [if_neg e0]
 refine Zmd (v:=r) rfl ?_
 by_cases e1:r=1
 ·rw [if_pos e1]
  refine ⟨s,x1,y1,rfl,g1s,fun k' x2 y2 g=>?_⟩
  rw [Zgg]
  exact q k' x2 y2 g
 rw [if_neg e1]
 refine ZsN (k:=k) rfl fun p0 hp0=>?_
 have n0:s≠p0:=ZaB g1s hp0
 have g2s:put (put G s (.lst [.int x1,.int y1])) p0 (.lst [.str "to",.str "box"]) s=some (.lst [.int x1,.int y1]):=by rw [Zao n0];exact g1s
 have kp:∀ b,b≠s→∀ u,G b=some u→put (put G s (.lst [.int x1,.int y1])) p0 (.lst [.str "to",.str "box"]) b=some u:=fun b hb u hu=>by
  have:put G s (.lst [.int x1,.int y1]) b=some u:=by rw [Zao hb];exact hu
  rw [Zao (ZaB this hp0)];exact this
 have leaf:k.fb=false→k.hd≠"row"→Zay (gIf (gTB (Zak (Zan (eqF true)) (Zak (Zan ixW) (Zad 1) (gC (.int 0))) (gC (.str "row")))) (ZaF (Zad 1)) Zar) (Zok sp) (ZaW Q) [some (.ref s),some k.enc,some (.int ((n:Int) - 1)),some (.int r),none,none,none,none,none] (put (put G s (.lst [.int x1,.int y1])) p0 (.lst [.str "to",.str "box"])):=fun _ h=>by
  refine Zmm (k:=k) rfl ?_
  rw [if_neg h]
  exact hC _ _ _ (ZkV g2s kp) (q k x1 y1 hg)
 cases k with
 | any=>rw [if_neg (by decide)];exact leaf rfl (by decide)
 | num=>rw [if_neg (by decide)];exact leaf rfl (by decide)
 | truth=>rw [if_neg (by decide)];exact leaf rfl (by decide)
 | to a1 a2 =>
  obtain ⟨n',rfl,rfl⟩:=hsp (by simp [Kd.kids])
  have h1:gen n' a1:=Zhe (Zec wk.1 (by simp [Kd.kids])) (by have:=ZaQ (k:=.to a1 a2) (c:=a1) (by simp [Kd.kids]);omega)
  have h2:gen n' a2:=Zhe (Zec wk.1 (by simp [Kd.kids])) (by have:=ZaQ (k:=.to a1 a2) (c:=a2) (by simp [Kd.kids]);omega)
  rw [if_pos (show (Kd.to a1 a2).fb=true from rfl)]
  refine ZtK (js:=[0,2]) (tl:=[some (.ref s),some (.int (((n'+1:Nat):Int) - 1))]) (Rk:=fun _ k'=>gen n' k') rfl rfl g2s ?_ ?_
  ·rintro k hk G1 x2 y2 Q1 hs1 q1
   refine ⟨trivial,s,x2,y2,k,?_,hs1,hk.elim (fun e=>e▸h1) (fun e=>e▸h2),fun k' x' y' g=>q1 k' x' y' g⟩
   exact congrArg (fun i=>[W.ref s,k.enc,W.int i]) (show ((n'+1:Nat):Int) - 1 - 1=(n':Int) - 1 by omega)
  ·rintro k1 k2 x' y' p g1 g2 hp
   refine hC _ _ _ (ZkV ?_ ?_) (q (.to k1 k2) x' y' (Zry g1 g2))
   ·rw [Zao (ZaB Zah hp)];exact Zah
   ·intro b hb u hu
    have h':put (put (put G s (.lst [.int x1,.int y1])) p0 (.lst [.str "to",.str "box"])) s (.lst [.int x',.int y']) b=some u:=by rw [Zao hb];exact kp b hb u hu
    rw [Zao (ZaB h' hp)];exact h'
 | box a1 =>
  obtain ⟨n',rfl,rfl⟩:=hsp (by simp [Kd.kids])
  have h1:gen n' a1:=Zhe (Zec wk.1 (by simp [Kd.kids])) (by have:=ZaQ (k:=.box a1) (c:=a1) (by simp [Kd.kids]);omega)
  rw [if_pos (show (Kd.box a1).fb=true from rfl)]
  refine ZpQ (js:=[0,2]) (tl:=[some (.ref s),some (.int (((n'+1:Nat):Int) - 1))]) (Rk:=fun _ k'=>gen n' k') rfl rfl g2s ?_ ?_
  ·rintro k rfl G1 x2 y2 Q1 hs1 q1
   refine ⟨trivial,s,x2,y2,k,?_,hs1,h1,fun k' x' y' g=>q1 k' x' y' g⟩
   exact congrArg (fun i=>[W.ref s,k.enc,W.int i]) (show ((n'+1:Nat):Int) - 1 - 1=(n':Int) - 1 by omega)
  ·rintro k1 x' y' p g1 hp
   refine hC _ _ _ (ZkV ?_ ?_) (q (.box k1) x' y' (Zot g1))
   ·rw [Zao (ZaB Zah hp)];exact Zah
   ·intro b hb u hu
    have h':put (put (put G s (.lst [.int x1,.int y1])) p0 (.lst [.str "to",.str "box"])) s (.lst [.int x',.int y']) b=some u:=by rw [Zao hb];exact kp b hb u hu
    rw [Zao (ZaB h' hp)];exact h'
 | row fs o =>
  rw [if_neg (show ¬ (Kd.row fs o).fb=true from fun z=>by cases z)]
  refine Zmm (k:=.row fs o) rfl ?_
  rw [if_pos (show (Kd.row fs o).hd="row" from rfl)]
  exact Zn7 hC g2s hg hsp fun k' x' y' g=>hC _ _ _ (ZkV Zah fun b hb u hu=>by rw [Zao hb];exact kp b hb u hu) (q k' x' y' g)
theorem ZbO (T:Tx K mg base a):∀ n:Nat,Df P w K mg base "_law_near" (n+3) 3 (ZgA n)
 | 0=>by
  refine mk0 T.ZcH rfl Zce Zl4 (by rintro ws G Q E ⟨s,x,y,k,e,_⟩;rw [e];rfl) (Zhz T (ZaH T) (by omega) (ZgH T 0) (Nat.le_refl _) (Zk7 (sp:=Zwo) (k:=0) T.ZcH Znr fun _ _ _ _ h=>h) (by omega)) ?_
  rintro ws G Q E hC ⟨s,x,y,k,rfl,hs,hg,q⟩
  refine Zj6 hC hs hg (fun h=>?_) q
  obtain ⟨c,hc⟩:=List.exists_mem_of_ne_nil _ h
  have h1:=ZaQ hc
  have h2:=Zgn c
  have h3:=(Zgx hg).2
  omega
 | n+1=>by
  refine mk0 T.ZcH rfl Zce Zl4 (by rintro ws G Q E ⟨s,x,y,k,e,_⟩;rw [e];rfl) (Zhz T (ZaH T) (by omega) (ZgH T (n+1)) (Nat.le_refl _) (ZbO T n) (Nat.le_refl _)) ?_
  rintro ws G Q E hC ⟨s,x,y,k,rfl,hs,hg,q⟩
  exact Zj6 hC hs hg (fun _=>⟨n,rfl,rfl⟩) q
set_option maxHeartbeats 4000000
section
variable {P:Program} {w:World} {K:PySem.W.Frag} {mg:Str→Option Value} {base:Heap} {a:Adr}
abbrev Ze2:List Str:=["kind","names","told","rest"]
theorem ZdH:ZaC Ze2 ["kind","names"] (Zac Za2):=⟨rfl,rfl,rfl,by decide +kernel,rfl,by decide +kernel,by decide +kernel⟩
def Ze9:GS:=(Zay (Zbn 2 (gB (Zqv) (Zab (ZcX (ZbJ (Zak (Zan ixW) (Zad 0) (gC (.int 1)))) 1 (gNm 0) ZfY (Zbb (Zab (Zak (Zan ixW) (Zad 0) (gC (.int 0))) (Zab (Ze1 (Zad 0) (Zbg (gC (.int 1))) Zaw) Zam)))) Zam))) (Zay (Zbn 3 (Zak (Zan ixW) (Zcn (Zab (Zbb (Zab (gC (.str "none")) Zam)) (Zab (Zbb (Zab (gC (.str "free")) Zam)) Zam))) (gB (rF Zk2) (Zab (Zak (Zan ixW) (Zad 0) (gC (.int 2))) Zam)))) (ZaF (Zcl (ZbJ (Zad 1)) 1 [2,3] (gNm 0) ZfY (gMt Ztk ZwD (Zad 1) (Zab (Zad 0) (Zab (Zad 2) Zam)))))))
theorem Zia {k:Nat} (T:Tx K mg base a) {f:Addr} {cdv:Value} {A:Around} {outer:List Env} {s:Shared} {H:Hp} {E:XK} (hr:Room k (A.deeper (envOfC "_law_entries" (Zac Za2) s.heap.objs.size f cdv))):Ssm (cxW P w K mg base Ze2 "_law_entries" (Zac Za2) f cdv A outer s H E).nox (fun B=>B=H) (Zax Za2) (Ze9) :=
 have hu:=ZeU hr
 (Zai (Zvm (i:=2) ZdH.nd rfl rfl rfl rfl (Zh3 Zsa (ZpY rfl) rfl T.Zit (by decide) rfl rfl rfl (Zaa rfl (Zen (Nc:=["field"]) rfl (ZrV rfl (by decide +kernel) (by decide +kernel)) (fun _=>rfl) (Zdm (fun _ _=>rfl) (Zaz (fun _ _=>rfl) (Zal (i:=0) rfl rfl rfl rfl) Zag)) (Zd2 (i:=0) (by decide) rfl rfl) (fun C fp s1 H1=>Zd0) (fun C fp s1 H1=>(ZaI (Zaa rfl (Zaz (fun _ _=>rfl) (Zal (i:=0) rfl rfl rfl rfl) Zag) (Zaa rfl (Zeh (Zal (i:=0) rfl rfl rfl rfl) (Zcw Zag) Zco) Zae))))) Zae))) (Zai (Zvm (i:=3) ZdH.nd rfl rfl rfl rfl (Zaz (fun _ _=>rfl) (Zbv (Zaa rfl (ZaI (Zaa rfl Zat Zae)) (Zaa rfl (ZaI (Zaa rfl Zat Zae)) Zae))) (Zh3 ZnE (Zlf) rfl T.Zj1 (by decide) rfl rfl rfl (Zaa rfl (Zaz (fun _ _=>rfl) (Zal (i:=0) rfl rfl rfl rfl) Zag) Zae)))) (Zaj (Zas (ZgW rfl (Zwb (own:=["name"]) (fr:=["told","rest"]) (js:=[2,3]) (scX:=Zac Za2) (n:=s.heap.objs.size+1) rfl (by decide +kernel) (by decide +kernel) (by decide +kernel) (by decide +kernel) rfl rfl rfl (by decide +kernel) rfl) (fun _=>rfl) (Zdm (fun _ _=>rfl) (Zal (i:=1) rfl rfl rfl rfl)) (ZgY (i:=0) (by decide) rfl rfl) (fun C fp s1 H1=>Zd0) (fun C fp s1 H1=>(Zih Zse rfl rfl rfl rfl rfl (Zal (i:=1) rfl rfl rfl rfl) (Zaa rfl (Zal (i:=0) rfl rfl rfl rfl) (Zaa rfl (Zal (i:=2) rfl rfl rfl rfl) Zae)))))))))
abbrev ZgB:List Str:=["one","other"]
theorem ZjR:ZaC ZgB ["one","other"] (Zac ZbR):=⟨rfl,rfl,rfl,by decide +kernel,rfl,by decide +kernel,by decide +kernel⟩
def Zgw:GS:=(ZaF (ZjZ (ZcX (ZbJ (Zak (ZgL) (Zak (Zan ixW) (Zad 0) (gC (.int 1))) (Zak (Zan ixW) (Zad 1) (gC (.int 1))))) 1 (gNm 0) ZfY (Zak (Zan ixW) (Zad 0) (gC (.int 0))))))
theorem ZkH {k:Nat} (T:Tx K mg base a) {f:Addr} {cdv:Value} {A:Around} {outer:List Env} {s:Shared} {H:Hp} {E:XK} (hr:Room k (A.deeper (envOfC "_law_names" (Zac ZbR) s.heap.objs.size f cdv))):Ssm (cxW P w K mg base ZgB "_law_names" (Zac ZbR) f cdv A outer s H E).nox (fun B=>B=H) (Zax ZbR) (Zgw) :=
 have hu:=ZeU hr
 (Zaj (Zas (ZqA rfl T.Zd5 T.Zld rfl rfl rfl rfl (Zen (Nc:=["field"]) rfl (ZrV rfl (by decide +kernel) (by decide +kernel)) (fun _=>rfl) (Zdm (fun _ _=>rfl) (ZhD (Zaz (fun _ _=>rfl) (Zal (i:=0) rfl rfl rfl rfl) Zag) (Zaz (fun _ _=>rfl) (Zal (i:=1) rfl rfl rfl rfl) Zag))) (Zd2 (i:=0) (by decide) rfl rfl) (fun C fp s1 H1=>Zd0) (fun C fp s1 H1=>(Zaz (fun _ _=>rfl) (Zal (i:=0) rfl rfl rfl rfl) Zag))))))
abbrev ZgF:List Str:=["one","other","step","a","b","names","pairs","steps","inner"]
theorem ZbM:ZaC ZgF ["one","other"] (Zac Zbq):=⟨rfl,rfl,rfl,by decide +kernel,rfl,by decide +kernel,by decide +kernel⟩
def ZgJ (Zc6:Spw) (ZbD:Spw) (ZaX:Spw):GS:=(Zay (gIf (gTB (Zak (Zan inT) (Zbb (Zab (gC (.str "any")) Zam)) (Zcn (Zab (Zad 0) (Zab (Zad 1) Zam))))) (ZaF (gC .non)) Zar) (Zay (gIf (gTB (Zak (Zan (eqF true)) (Zak (Zan ixW) (Zad 0) (gC (.int 0))) (Zak (Zan ixW) (Zad 1) (gC (.int 0))))) (ZaF (Zbb Zam)) Zar) (Zay (gIf (gTB (Zak (Zan (eqF false)) (Zak (Zan ixW) (Zad 0) (gC (.int 0))) (gC (.str "row")))) (Zay (Zbn 5 (Zaq Zc6 (fun _ _ _=>False) (Zab (Zad 0) (Zab (Zad 1) Zam)))) (Zbn 6 (Zwr (Zab (Zad 5) (Zab (Zaq ZbD (fun _ _ _=>False) (Zab (Zad 0) (Zab (Zad 5) Zam))) (Zab (Zaq ZbD (fun _ _ _=>False) (Zab (Zad 1) (Zab (Zad 5) Zam))) Zam)))))) (Zay (Zbn 7 (Zak (Zan ixW) (Zcn (Zab (Zcn (Zab (gC (.str "inside")) Zam)) (Zab (Zcn (Zab (gC (.str "in")) (Zab (gC (.str "out")) Zam))) Zam))) (gB (rF Zk2) (Zab (Zak (Zan (eqF false)) (Zak (Zan ixW) (Zad 0) (gC (.int 0))) (gC (.str "to"))) Zam)))) (Zbn 6 (Zcl (Zkh (Zab (Zad 7) (Zab (Ze1 (Zad 0) (Zbg (gC (.int 1))) Zaw) (Zab (Ze1 (Zad 1) (Zbg (gC (.int 1))) Zaw) Zam)))) 3 [] (Zfp 0 1 2) ZfY (Zbb (Zab (Zad 0) (Zab (Zbb (Zab (gC (.str "must")) (Zab (Zad 1) Zam))) (Zab (Zbb (Zab (gC (.str "must")) (Zab (Zad 2) Zam))) Zam)))))))) (Zay (Zel (ZcV (Zad 6)) (Zfp 2 3 4) (gIf (gTB (Zak (Zan ZtW) (Zbb (Zab (gC (.str "free")) Zam)) (Zcn (Zab (Zad 3) (Zab (Zad 4) Zam))))) (Zay (gIf (gTB (Zak (Zan (eqF true)) (Zak (Zan ixW) (Zad 3) (gC (.int 0))) (Zak (Zan ixW) (Zad 4) (gC (.int 0))))) (ZaF (Zbb (Zab (Zad 2) Zam))) Zar) (Zay (Zbn 8 (Zaq ZaX (fun _ _ _=>False) (Zab (Zak (Zan ixW) (Zad 3) (gC (.int 1))) (Zab (Zak (Zan ixW) (Zad 4) (gC (.int 1))) Zam)))) (gIf (gTB (Zak (Zan (isF true)) (Zad 8) (gC .non))) (ZaF (Zak (ZgL) (Zbb (Zab (Zad 2) Zam)) (Zad 8))) Zar))) Zar)) (ZaF (gC .non))))))
theorem Zkz {k:Nat} (T:Tx K mg base a) {ZdC:Nat} {Zc6:Spw} (ZkT:Df P w K mg base "_law_names" ZdC 2 Zc6) (ZkE:ZdC≤k) {ZcS:Nat} {ZbD:Spw} (Ze4:Df P w K mg base "_law_entries" ZcS 2 ZbD) (Zfa:ZcS≤k) {Zbp:Nat} {ZaX:Spw} (Zer:Df P w K mg base "_law_clash" Zbp 2 ZaX) (Zew:Zbp≤k) {f:Addr} {cdv:Value} {A:Around} {outer:List Env} {s:Shared} {H:Hp} {E:XK} (hr:Room k (A.deeper (envOfC "_law_clash" (Zac Zbq) s.heap.objs.size f cdv))):Ssm (cxW P w K mg base ZgF "_law_clash" (Zac Zbq) f cdv A outer s H E).nox (fun B=>B=H) (Zax Zbq) (ZgJ Zc6 ZbD ZaX) :=
 have hu:=ZeU hr
 (Zai (Zba (ZaD (Zts hu) rfl (ZaI (Zaa rfl Zat Zae)) (Zbv (Zaa rfl (Zal (i:=0) rfl rfl rfl rfl) (Zaa rfl (Zal (i:=1) rfl rfl rfl rfl) Zae)))) (Zaj (Zas Zdl)) Zau) (Zai (Zba (ZaD (Zdc hu) rfl (Zaz (fun _ _=>rfl) (Zal (i:=0) rfl rfl rfl rfl) Zag) (Zaz (fun _ _=>rfl) (Zal (i:=1) rfl rfl rfl rfl) Zag)) (Zaj (Zas (ZaI Zae))) Zau) (Zai (Zba (ZaD (Zch hu) rfl (Zaz (fun _ _=>rfl) (Zal (i:=0) rfl rfl rfl rfl) Zag) Zat) (Zai (ZeT (i:=5) ZbM.nd rfl rfl rfl (Zap ZkT (hr.mono ZkE) rfl ZaG rfl rfl rfl (Zaa rfl (Zal (i:=0) rfl rfl rfl rfl) (Zaa rfl (Zal (i:=1) rfl rfl rfl rfl) Zae)))) (Zaj (ZeT (i:=6) ZbM.nd rfl rfl rfl (Zlo rfl T.Zg3 rfl T.ZhX rfl rfl rfl rfl (Zaa rfl (Zal (i:=5) rfl rfl rfl rfl) (Zaa rfl (Zap Ze4 (hr.mono Zfa) rfl ZaG rfl rfl rfl (Zaa rfl (Zal (i:=0) rfl rfl rfl rfl) (Zaa rfl (Zal (i:=5) rfl rfl rfl rfl) Zae))) (Zaa rfl (Zap Ze4 (hr.mono Zfa) rfl ZaG rfl rfl rfl (Zaa rfl (Zal (i:=1) rfl rfl rfl rfl) (Zaa rfl (Zal (i:=5) rfl rfl rfl rfl) Zae))) Zae))))))) (Zai (ZeT (i:=7) ZbM.nd rfl rfl rfl (Zaz (fun _ _=>rfl) (Zbv (Zaa rfl (Zbv (Zaa rfl Zat Zae)) (Zaa rfl (Zbv (Zaa rfl Zat (Zaa rfl Zat Zae))) Zae))) (Zh3 ZnE (Zlf) rfl T.Zj1 (by decide) rfl rfl rfl (Zaa rfl (ZdM (Zch hu) rfl (Zaz (fun _ _=>rfl) (Zal (i:=0) rfl rfl rfl rfl) Zag) Zat) Zae)))) (Zaj (Zqq (i:=6) ZbM.nd rfl rfl rfl rfl (Zwb (own:=["step","a","b"]) (fr:=[]) (js:=[]) (scX:=Zac Zbq) (n:=s.heap.objs.size+1) rfl (by decide +kernel) (by decide +kernel) (by decide +kernel) (by decide +kernel) rfl rfl rfl (by decide +kernel) rfl) (fun _=>rfl) (Zq8 T.ZhX rfl rfl rfl (Zaa rfl (Zal (i:=7) rfl rfl rfl rfl) (Zaa rfl (Zeh (Zal (i:=0) rfl rfl rfl rfl) (Zcw Zag) Zco) (Zaa rfl (Zeh (Zal (i:=1) rfl rfl rfl rfl) (Zcw Zag) Zco) Zae)))) (ZnO (i:=0) (j:=1) (k:=2) rfl (by decide) rfl rfl rfl rfl rfl rfl) (fun C fp s1 H1=>Zd0) (fun C fp s1 H1=>(ZaI (Zaa rfl (Zal (i:=0) rfl rfl rfl rfl) (Zaa rfl (ZaI (Zaa rfl Zat (Zaa rfl (Zal (i:=1) rfl rfl rfl rfl) Zae))) (Zaa rfl (ZaI (Zaa rfl Zat (Zaa rfl (Zal (i:=2) rfl rfl rfl rfl) Zae))) Zae))))))))) (Zai (ZeZ PassesOwn.never rfl (fun _=>rfl) (ZmI (Zal (i:=6) rfl rfl rfl rfl)) (ZfR (i:=2) (j:=3) (k:=4) rfl ZbM.nd rfl (.inl rfl) (.inr rfl) rfl (.inl rfl) (.inr rfl) rfl (.inl rfl) (.inr rfl)) (Zaj (Zba (ZaD (Zqs hu) rfl (ZaI (Zaa rfl Zat Zae)) (Zbv (Zaa rfl (Zal (i:=3) rfl rfl rfl rfl) (Zaa rfl (Zal (i:=4) rfl rfl rfl rfl) Zae)))) (Zai (Zba (ZaD (Zdc hu) rfl (Zaz (fun _ _=>rfl) (Zal (i:=3) rfl rfl rfl rfl) Zag) (Zaz (fun _ _=>rfl) (Zal (i:=4) rfl rfl rfl rfl) Zag)) (Zaj (Zas (ZaI (Zaa rfl (Zal (i:=2) rfl rfl rfl rfl) Zae)))) Zau) (Zai (ZeT (i:=8) ZbM.nd rfl rfl rfl (Zap Zer (hr.mono Zew) rfl ZaG rfl rfl rfl (Zaa rfl (Zaz (fun _ _=>rfl) (Zal (i:=3) rfl rfl rfl rfl) Zag) (Zaa rfl (Zaz (fun _ _=>rfl) (Zal (i:=4) rfl rfl rfl rfl) Zag) Zae)))) (Zaj (Zba (ZaD Zjv rfl (Zal (i:=8) rfl rfl rfl rfl) Zdl) (Zaj (Zas (ZhD (ZaI (Zaa rfl (Zal (i:=2) rfl rfl rfl rfl) Zae)) (Zal (i:=8) rfl rfl rfl rfl)))) Zau)))) Zau))) (Zaj (Zas Zdl))))))
abbrev ZuE:List Str:=["script","state","one","other","names","first","second","found","due"]
theorem ZhT:ZaC ZuE ["script"] (Zac ZkA):=⟨rfl,rfl,rfl,by decide +kernel,rfl,by decide +kernel,by decide +kernel⟩
def Zug (Zda:Spw) (ZaA:Spw) (Za0:Spw) (Zbx:Spw) (ZaE:Spw) (Zb2:Spw) (ZaX:Spw) (ZeL:Spw):GS:=(Zay (Zbn 1 (Zaq Zda (fun _ _ _=>False) (Zab (Zad 0) (Zab (gC (.int 0)) Zam)))) (Zay (Zbn 2 (Zaq ZaA (fun _ _ _=>False) (Zab (Zad 1) (Zab (gC (.int 3)) Zam)))) (Zay (Zbn 3 (Zaq Za0 (fun _ _ _=>False) (Zab (Zad 1) (Zab (Zad 2) (Zab (gC (.int 2)) Zam))))) (Zay (Zbn 4 (Zaq Zbx (fun _ _ _=>False) (Zab (Zad 1) Zam))) (Zay (Zbn 2 (Zaq ZaE (fun _ _ _=>False) (Zab (Zad 2) (Zab (Zad 4) Zam)))) (Zay (Zbn 3 (Zaq ZaE (fun _ _ _=>False) (Zab (Zad 3) (Zab (Zad 4) Zam)))) (Zay (Zel (ZcV (Zcn (Zab (Zbb (Zab (Zad 2) (Zab (Zad 3) Zam))) (Zab (Zbb (Zab (Zad 3) (Zab (Zad 2) Zam))) Zam)))) (Znn 5 6) (Zay (Zbn 7 (Zaq Zb2 (fun _ _ _=>False) (Zab (Zad 5) (Zab (Zad 6) Zam)))) (Zay (Zbn 8 (Zaq ZaX (fun _ _ _=>False) (Zab (Zad 5) (Zab (Zad 6) Zam)))) (gIf (gTB (Zak (Zan (isF false)) (Zad 8) (gC .non))) (gIf (gTB (Zak (Zan (isF true)) (Zad 7) (gC .non))) (ZaF (gC (.bl false))) Zar) (gIf (gOr (gNt (Zgk (Zc5 "tuple" (Zad 7)))) (gOr (gTB (Zak (Zan (eqF true)) (Zad 7) (Zad 8))) (gTB (Zak (Zan isB) (Zaq ZeL (fun _ _ _=>False) (Zab (Zad 5) (Zab (Zad 6) (Zab (Zad 7) Zam)))) (gC (.bl true)))))) (ZaF (gC (.bl false))) Zar))))) (ZaF (Zak (Zan (isF false)) (Zaq Zb2 (fun _ _ _=>False) (Zab (Zad 2) (Zab (Zad 2) Zam))) (gC .non))))))))))
theorem ZwU {k:Nat} (T:Tx K mg base a) {Zdr:Nat} {Zda:Spw} (Zkr:Df P w K mg base "_law_state" Zdr 2 Zda) (Zj4:Zdr≤k) {ZaV:Nat} {ZaA:Spw} (ZbI:Df P w K mg base "_law_kind" ZaV 2 ZaA) (ZbH:ZaV≤k) {ZbO:Nat} {Za0:Spw} (Zd9:Df P w K mg base "_law_near" ZbO 3 Za0) (Zd7:ZbO≤k) {ZbV:Nat} {Zbx:Spw} (Zge:Df P w K mg base "_law_some_names" ZbV 1 Zbx) (Zgi:ZbV≤k) {Za1:Nat} {ZaE:Spw} (Zb7:Df P w K mg base "_law_renamed" Za1 2 ZaE) (Zb6:Za1≤k) {Zc7:Nat} {Zb2:Spw} (ZfW:Df P w K mg base "first_clash" Zc7 2 Zb2) (ZfT:Zc7≤k) {Zbp:Nat} {ZaX:Spw} (Zer:Df P w K mg base "_law_clash" Zbp 2 ZaX) (Zew:Zbp≤k) {ZfG:Nat} {ZeL:Spw} (ZoB:Df P w K mg base "clashes" ZfG 3 ZeL) (Zop:ZfG≤k) {f:Addr} {cdv:Value} {A:Around} {outer:List Env} {s:Shared} {H:Hp} {E:XK} (hr:Room k (A.deeper (envOfC "law" (Zac ZkA) s.heap.objs.size f cdv))):Ssm (cxW P w K mg base ZuE "law" (Zac ZkA) f cdv A outer s H E).nox (fun B=>B=H) (Zax ZkA) (Zug Zda ZaA Za0 Zbx ZaE Zb2 ZaX ZeL) :=
 have hu:=ZeU hr
 (Zai (ZeT (i:=1) ZhT.nd rfl rfl rfl (Zap Zkr (hr.mono Zj4) rfl ZaG rfl rfl rfl (Zaa rfl (Zal (i:=0) rfl rfl rfl rfl) (Zaa rfl Zag Zae)))) (Zai (ZeT (i:=2) ZhT.nd rfl rfl rfl (Zap ZbI (hr.mono ZbH) rfl ZaG rfl rfl rfl (Zaa rfl (Zal (i:=1) rfl rfl rfl rfl) (Zaa rfl Zag Zae)))) (Zai (ZeT (i:=3) ZhT.nd rfl rfl rfl (Zap Zd9 (hr.mono Zd7) rfl ZaG rfl rfl rfl (Zaa rfl (Zal (i:=1) rfl rfl rfl rfl) (Zaa rfl (Zal (i:=2) rfl rfl rfl rfl) (Zaa rfl Zag Zae))))) (Zai (ZeT (i:=4) ZhT.nd rfl rfl rfl (Zap Zge (hr.mono Zgi) rfl ZaG rfl rfl rfl (Zaa rfl (Zal (i:=1) rfl rfl rfl rfl) Zae))) (Zai (ZeT (i:=2) ZhT.nd rfl rfl rfl (Zap Zb7 (hr.mono Zb6) rfl ZaG rfl rfl rfl (Zaa rfl (Zal (i:=2) rfl rfl rfl rfl) (Zaa rfl (Zal (i:=4) rfl rfl rfl rfl) Zae)))) (Zai (ZeT (i:=3) ZhT.nd rfl rfl rfl (Zap Zb7 (hr.mono Zb6) rfl ZaG rfl rfl rfl (Zaa rfl (Zal (i:=3) rfl rfl rfl rfl) (Zaa rfl (Zal (i:=4) rfl rfl rfl rfl) Zae)))) (Zai (ZeZ PassesOwn.never rfl (fun _=>rfl) (ZmI (Zbv (Zaa rfl (ZaI (Zaa rfl (Zal (i:=2) rfl rfl rfl rfl) (Zaa rfl (Zal (i:=3) rfl rfl rfl rfl) Zae))) (Zaa rfl (ZaI (Zaa rfl (Zal (i:=3) rfl rfl rfl rfl) (Zaa rfl (Zal (i:=2) rfl rfl rfl rfl) Zae))) Zae)))) (Zv3 (i:=5) (j:=6) rfl ZhT.nd rfl (.inl rfl) (.inr rfl) rfl (.inl rfl) (.inr rfl)) (Zai (ZeT (i:=7) ZhT.nd rfl rfl rfl (Zap ZfW (hr.mono ZfT) rfl ZaG rfl rfl rfl (Zaa rfl (Zal (i:=5) rfl rfl rfl rfl) (Zaa rfl (Zal (i:=6) rfl rfl rfl rfl) Zae)))) (Zai (ZeT (i:=8) ZhT.nd rfl rfl rfl (Zap Zer (hr.mono Zew) rfl ZaG rfl rfl rfl (Zaa rfl (Zal (i:=5) rfl rfl rfl rfl) (Zaa rfl (Zal (i:=6) rfl rfl rfl rfl) Zae)))) (Zaj (Zba (ZaD Zny rfl (Zal (i:=8) rfl rfl rfl rfl) Zdl) (Zaj (Zba (ZaD Zjv rfl (Zal (i:=7) rfl rfl rfl rfl) Zdl) (Zaj (Zas ZfQ)) Zau)) (Zaj (Zba (Zf0 (Zlm (Zfw (Zfv (fun _=>rfl) (Zfc (T:="tuple") (by decide) Zdb T.Zcr T.ZaM rfl rfl (by decide) rfl rfl rfl (Zal (i:=7) rfl rfl rfl rfl)))) (Zlm (ZaD (Zdc hu) rfl (Zal (i:=7) rfl rfl rfl rfl) (Zal (i:=8) rfl rfl rfl rfl)) (ZjQ (ZaD Zsd rfl (Zap ZoB (hr.mono Zop) rfl ZaG rfl rfl rfl (Zaa rfl (Zal (i:=5) rfl rfl rfl rfl) (Zaa rfl (Zal (i:=6) rfl rfl rfl rfl) (Zaa rfl (Zal (i:=7) rfl rfl rfl rfl) Zae)))) ZfQ))))) (Zaj (Zas ZfQ)) Zau))))))) (Zaj (Zas (ZdM Zny rfl (Zap ZfW (hr.mono ZfT) rfl ZaG rfl rfl rfl (Zaa rfl (Zal (i:=2) rfl rfl rfl rfl) (Zaa rfl (Zal (i:=2) rfl rfl rfl rfl) Zae))) Zdl))))))))))
end
mutual
def plW:W→Bool
 | .str _=>true
 | .bl _=>true
 | .tup xs=>plL xs
 | _=>false
def plL:List W→Bool
 | []=>true
 | x::xs=>plW x&&plL xs
end
theorem Zl0 {x:W} {xs:List W} (h:plL (x::xs)=true):plW x=true∧plL xs=true:=Bool.and_eq_true_iff.mp h
theorem ZpP {x y:W} {xs ys:List W} {a b:Bool} (h1:eqD x y=some a) (h2:ZgN xs ys=some b):ZgN (x::xs) (y::ys)=some (a&&b):=by
 show (match eqD x y,ZgN xs ys with | some a,some b=>some (a&&b) | _,_=>none)=_
 rw [h1,h2]
mutual
theorem plD:∀ (x y:W),plW x=true→plW y=true→∃ b,eqD x y=some b∧(b=true↔x=y)
 | .str s,.str t,_,_=>⟨s==t,rfl,by simp⟩
 | .str s,.bl t,_,_=>⟨false,rfl,by simp⟩
 | .str s,.tup t,_,_=>⟨false,rfl,by simp⟩
 | .bl s,.str t,_,_=>⟨false,rfl,by simp⟩
 | .bl s,.bl t,_,_=>⟨s==t,rfl,by simp⟩
 | .bl s,.tup t,_,_=>⟨false,rfl,by simp⟩
 | .tup s,.str t,_,_=>⟨false,rfl,by simp⟩
 | .tup s,.bl t,_,_=>⟨false,rfl,by simp⟩
 | .tup s,.tup t,h,h'=>by
  obtain ⟨b,e,i⟩:=ZxN s t h h'
  exact ⟨b,e,by rw [i];simp⟩
 | .str _,.non,_,h=>by cases h
 | .str _,.int _,_,h=>by cases h
 | .str _,.rol _,_,h=>by cases h
 | .str _,.ref _,_,h=>by cases h
 | .bl _,.non,_,h=>by cases h
 | .bl _,.int _,_,h=>by cases h
 | .bl _,.rol _,_,h=>by cases h
 | .bl _,.ref _,_,h=>by cases h
 | .tup _,.non,_,h=>by cases h
 | .tup _,.int _,_,h=>by cases h
 | .tup _,.rol _,_,h=>by cases h
 | .tup _,.ref _,_,h=>by cases h
 | .non,_,h,_=>by cases h
 | .int _,_,h,_=>by cases h
 | .rol _,_,h,_=>by cases h
 | .ref _,_,h,_=>by cases h
theorem ZxN:∀ (xs ys:List W),plL xs=true→plL ys=true→∃ b,ZgN xs ys=some b∧(b=true↔xs=ys)
 | [],[],_,_=>⟨true,rfl,by simp⟩
 | [],_::_,_,_=>⟨false,rfl,by simp⟩
 | _::_,[],_,_=>⟨false,rfl,by simp⟩
 | x::xs,y::ys,h,h'=>by
  obtain ⟨h1,h2⟩:=Zl0 h
  obtain ⟨h3,h4⟩:=Zl0 h'
  obtain ⟨b,e,i⟩:=plD x y h1 h3
  obtain ⟨c,e',i'⟩:=ZxN xs ys h2 h4
  exact ⟨b&&c,ZpP e e',by rw [Bool.and_eq_true,i,i',List.cons.injEq]⟩
end
mutual
theorem ZiL:∀ k:Kd,plW k.enc=true
 | .any=>rfl
 | .num=>rfl
 | .truth=>rfl
 | .to x y=>by
  have h1:=ZiL x
  have h2:=ZiL y
  show (true&&(plW x.enc&&(plW y.enc&&true)))=true
  rw [h1,h2];rfl
 | .box x=>by
  have h1:=ZiL x
  show (true&&(plW x.enc&&true))=true
  rw [h1];rfl
 | .row fs o=>by
  have h1:=ZpF fs
  show (true&&(plL fs.enc&&(true&&true)))=true
  rw [h1];rfl
theorem ZpF:∀ fs:Fs,plL fs.enc=true
 | .nil=>rfl
 | .cons n m k r=>by
  have h1:=ZiL k
  have h2:=ZpF r
  show ((true&&(true&&(plW k.enc&&true)))&&plL r.enc)=true
  rw [h1,h2];rfl
end
theorem Zl8 {m m':Bool} (h:Zd1 m=Zd1 m'):m=m':=by
 by_cases e:m=m'
 ·exact e
 ·have:=Ztd e;rw [h] at this;simp at this
theorem Zij {k l:Kd} (h:k.enc=l.enc):k.hd=l.hd:=by
 have h1:=ZbY k (fun _=>none)
 rw [h,ZbY] at h1
 exact (W.str.inj (Option.some.inj h1)).symm
mutual
theorem ZhK:∀ {k l:Kd},k.enc=l.enc→k=l
 | .any,l,h=>by
  cases l with
  | any=>rfl
  | _=>have:=Zij h;simp only [Kd.hd] at this;exact absurd this (by decide)
 | .num,l,h=>by
  cases l with
  | num=>rfl
  | _=>have:=Zij h;simp only [Kd.hd] at this;exact absurd this (by decide)
 | .truth,l,h=>by
  cases l with
  | truth=>rfl
  | _=>have:=Zij h;simp only [Kd.hd] at this;exact absurd this (by decide)
 | .to x y,l,h=>by
  cases l with
  | to x' y' =>
   have h':W.tup [.str "to",x.enc,y.enc]=W.tup [.str "to",x'.enc,y'.enc]:=h
   injection h' with h'
   injection h' with _ h'
   injection h' with h1 h'
   injection h' with h2 _
   rw [ZhK h1,ZhK h2]
  | _=>have:=Zij h;simp only [Kd.hd] at this;exact absurd this (by decide)
 | .box x,l,h=>by
  cases l with
  | box x' =>
   have h':W.tup [.str "box",x.enc]=W.tup [.str "box",x'.enc]:=h
   injection h' with h'
   injection h' with _ h'
   injection h' with h1 h'
   rw [ZhK h1]
  | _=>have:=Zij h;simp only [Kd.hd] at this;exact absurd this (by decide)
 | .row fs o,l,h=>by
  cases l with
  | row gs p =>
   have h':W.tup [.str "row",.tup fs.enc,.bl o]=W.tup [.str "row",.tup gs.enc,.bl p]:=h
   injection h' with h'
   injection h' with _ h'
   injection h' with h1 h'
   injection h' with h2 _
   injection h1 with h1
   injection h2 with h2
   rw [ZlX h1,h2]
  | _=>have:=Zij h;simp only [Kd.hd] at this;exact absurd this (by decide)
theorem ZlX:∀ {fs gs:Fs},fs.enc=gs.enc→fs=gs
 | .nil,gs,h=>by
  cases gs with
  | nil=>rfl
  | cons n m k r=>exact absurd (show ([]:List W)=_::_ from h) (by simp)
 | .cons n m k r,gs,h=>by
  cases gs with
  | nil=>exact absurd (show _::_=([]:List W) from h) (by simp)
  | cons n' m' k' r' =>
   have h':W.tup [.str n,.str (Zd1 m),k.enc]::r.enc=W.tup [.str n',.str (Zd1 m'),k'.enc]::r'.enc:=h
   injection h' with h1 h2
   injection h1 with h1
   injection h1 with a1 h1
   injection h1 with a2 h1
   injection h1 with a3 _
   injection a1 with a1
   injection a2 with a2
   rw [a1,Zl8 a2,ZhK a3,ZlX h2]
end
mutual
theorem ZiM:∀ k:Kd,dpW k.enc≤3*k.dp
 | .any=>by show 1≤3*1;omega
 | .num=>by show 1≤3*1;omega
 | .truth=>by show 1≤3*1;omega
 | .to x y=>by have:=ZiM x;have:=ZiM y;show max 0 (max (dpW x.enc) (max (dpW y.enc) 0))+1≤3*(1+max x.dp y.dp);omega
 | .box x=>by have:=ZiM x;show max 0 (max (dpW x.enc) 0)+1≤3*(1+x.dp);omega
 | .row fs o=>by have:=ZnV fs;show max 0 (max (L3.dpL fs.enc+1) (max 0 0))+1≤3*(1+fs.dp);omega
theorem ZnV:∀ fs:Fs,L3.dpL fs.enc≤3*fs.dp+1
 | .nil=>Nat.zero_le _
 | .cons n m k r=>by
  have:=ZiM k
  have:=ZnV r
  show max (max 0 (max 0 (max (dpW k.enc) 0))+1) (L3.dpL r.enc)≤3*max k.dp r.dp+1;omega
end
local macro_rules | `(tactic| walk_at "rd") => `(tactic| ((try dsimp only [ZjZ, Ze1, Zcl, ZcV, Zg5, Zb3, Zh5, Zay, gIf, ZaF, Zbn, Zcm, Zar, Zad, gC, Zak, gTB, Zgk, gNt, ZjG, gOr, Zc3, Zkp, ZhW, L3.Zbb, Zcn, L3.Zab, L3.Zam, Zaq, gB, rF, Zan, Zc5, gMt, ZjH, Zcu, Zgm, Zf4, ZbU, L3.Ze6, Zej, gSl, Zbg, Zaw, ZcX, ZbJ, ZkZ, Zel, ZaW, ZbX, List.map_cons, List.map_nil, List.length_cons, List.length_nil, List.cons_append, List.nil_append, List.getElem?_cons_zero, List.getElem?_cons_succ, List.set_cons_zero, List.set_cons_succ, List.replicate, ZjC, tyN, Zaf, Zb1, ZcZ, Zek, ixW, eqF, eqW, ZgK, ZjI, Zic, List.getElem?_nil]); (try simp only [ZjZ, Ze1, Zcl, ZcV, Zg5, Zb3, Zh5, Zay, gIf, ZaF, Zbn, Zcm, Zar, Zad, gC, Zak, gTB, Zgk, gNt, ZjG, gOr, Zc3, Zkp, ZhW, L3.Zbb, Zcn, L3.Zab, L3.Zam, Zaq, gB, rF, Zan, Zc5, gMt, ZjH, Zcu, Zgm, Zf4, ZbU, L3.Ze6, Zej, gSl, Zbg, Zaw, ZcX, ZbJ, ZkZ, Zel, ZaW, ZbX, List.map_cons, List.map_nil, List.length_cons, List.length_nil, List.cons_append, List.nil_append, List.getElem?_cons_zero, List.getElem?_cons_succ, List.set_cons_zero, List.set_cons_succ, List.replicate, ZjC, tyN, Zaf, Zb1, ZcZ, Zek, ixW, eqF, eqW, ZgK, ZjI, Zic, List.getElem?_nil])))
theorem ZdC (T:Tx K mg base a):Df P w K mg base "_law_names" 1 2 Zn1:=by
 refine mk0 T.ZdD rfl ZjR Zmv ((by rintro ws G Q E ⟨_,_,_,_,e,_⟩;rw [e];rfl)) (ZkH T) fun ws G Q E hC q=>?_
 obtain ⟨fs,gs,o,p,rfl,h1,h2,q⟩:=q
 have l1:fs.enc.length < 16:=by rw [← ZbK];exact h1
 have l2:gs.enc.length < 16:=by rw [← ZbK];exact h2
 unfold Zgw
 simp only [Kd.enc]
 walk_at "rd"
 refine ⟨Za8 (by omega),Zj8 (f:=Zkq) trivial (fs.enc++gs.enc) none [] (fun x hx Q' q'=>?_) (by simp only [List.length_nil,List.length_append];exact Za8 (by omega)) ?_⟩
 ·have:∃ n b k,x=.tup [.str n,.str (Zd1 b),k]:=(List.mem_append.mp hx).elim ZfZ ZfZ
  obtain ⟨n,b,k,rfl⟩:=this
  show Zak (Zan ixW) (Zad 0) (gC (.int 0)) [some (W.tup [.str n,.str (Zd1 b),k])] _ Q'
  walk_at "rd"
  exact q'
 ·intro p1 hp1
  rw [List.nil_append,List.map_append,Zes,Zes,← List.map_append]
  refine ⟨fs.names++gs.names,Zd3 Zah,by rw [List.length_append];omega,fun zs r z1 z2 z3 z4=>?_⟩
  have hr1:r≠p1:=fun e=>by subst e;rw [Zah] at z4;cases z4
  rw [Zao hr1] at z4
  exact hC _ _ _ ((Zbk hp1).put2) (q zs r z1 z2 (fun x=>by rw [z3,List.mem_append]) z4)
def Zol (x:W):W:=match x with | .tup [n,m,k]=>.tup [n,.tup [m,k]] | _=>.non
def told (fs:Fs):List (Str×W):=fs.toL.map fun u=>(u.1,.tup [.str (Zd1 u.2.1),u.2.2.enc])
theorem Zkk:∀ fs:Fs,fs.enc.map Zol=(told fs).map fun y=>W.tup [.str y.1,y.2]
 | .nil=>rfl
 | .cons n m k r=>by
  show W.tup [.str n,.tup [.str (Zd1 m),k.enc]]::r.enc.map Zol=W.tup [.str n,.tup [.str (Zd1 m),k.enc]]::(told r).map _
  rw [Zkk r]
theorem ZmR (fs:Fs):(told fs).map (·.1)=fs.names:=by
 unfold told
 rw [List.map_map,Zex];rfl
theorem Zme {o:Bool} {x:Str}:∀ fs:Fs,ZqY ((told fs).map fun y=>((Sum.inr y.1:Key),y.2)) x (if o then En.free else En.nope).enc=(ent fs o x).enc
 | .nil=>rfl
 | .cons n m k r=>by
  have ih:=Zme (o:=o) (x:=x) r
  have e:(told (.cons n m k r)).map (fun y=>((Sum.inr y.1:Key),y.2))=((Sum.inr n:Key),W.tup [.str (Zd1 m),k.enc])::(told r).map fun y=>((Sum.inr y.1:Key),y.2):=rfl
  rw [e,ZfF]
  by_cases h:n=x
  ·subst h
   have e2:(Fs.cons n m k r).find n=some (m,k):=by unfold Fs.find;rw [if_pos rfl]
   rw [if_pos rfl];unfold ent;rw [e2];rfl
  ·have e2:(Fs.cons n m k r).find x=r.find x:=by show (if n=x then some (m,k) else r.find x)=_;rw [if_neg h]
   rw [if_neg (fun z=>h (Sum.inr.inj z)),ih];unfold ent;rw [e2]
abbrev Zvk:Spw:=spL (fun (x:Fs×Bool×Addr×List Str) ws G=>ws=[(Kd.row x.1 x.2.1).enc,.ref x.2.2.1]∧G x.2.2.1=some (.lst (x.2.2.2.map W.str))∧x.1.names.Nodup∧x.1.names.length < 16∧x.2.2.2.length≤100) fun x=>x.2.2.2.map fun z=>(ent x.1 x.2.1 z).enc
theorem ZcS (T:Tx K mg base a):Df P w K mg base "_law_entries" 1 2 Zvk:=by
 refine mk0 T.ZcT rfl ZdH Zrm ((by rintro ws G Q E ⟨x,⟨e,_⟩,_⟩;rw [e];rfl)) (Zia T) fun ws G Q E hC q=>?_
 obtain ⟨⟨fs,o,p,zs⟩,⟨rfl,hp,hn,hl,hz⟩,q⟩:=q
 dsimp only at hp hn hl hz q
 have l1:fs.enc.length < 16:=by rw [← ZbK];exact hl
 unfold Ze9
 simp only [Kd.enc]
 walk_at "rd"
 refine Zj8 (f:=Zol) trivial fs.enc none [] (fun x hx Q' q'=>?_) (by simp only [List.length_nil];exact Za8 (by omega)) ?_
 ·obtain ⟨n,b,k,rfl⟩:=ZfZ hx
  show L3.Zbb _ [some (W.tup [.str n,.str (Zd1 b),k])] _ Q'
  walk_at "rd"
  exact ⟨(show 2≤sizeLine by decide),q'⟩
 ·intro p1 hp1
  rw [List.nil_append,Zkk]
  refine ⟨p1,told fs,rfl,Zah,by rw [ZmR];exact hn,fun d hd=>?_⟩
  refine ⟨by decide,by decide,by decide,fun p3 hp3=>?_⟩
  have np1:p≠p1:=ZaB hp hp1
  have g1:put G p1 (.lst ((told fs).map fun y=>W.tup [.str y.1,y.2])) p=some (.lst (zs.map W.str)):=by rw [Zao np1];exact hp
  have npd:p≠d:=ZaB g1 hd
  have g2:put (put G p1 (.lst ((told fs).map fun y=>W.tup [.str y.1,y.2]))) d (.dct ((told fs).map fun y=>((Sum.inr y.1:Key),y.2))) p=some (.lst (zs.map W.str)):=by rw [Zao npd];exact g1
  have np3:p≠p3:=ZaB g2 hp3
  have nd3:d≠p3:=ZaB Zah hp3
  have g3:put (put (put G p1 (.lst ((told fs).map fun y=>W.tup [.str y.1,y.2]))) d (.dct ((told fs).map fun y=>((Sum.inr y.1:Key),y.2)))) p3 (.lst [.tup [.str "none"],.tup [.str "free"]]) p=some (.lst (zs.map W.str)):=by rw [Zao np3];exact g2
  have g3d:put (put (put G p1 (.lst ((told fs).map fun y=>W.tup [.str y.1,y.2]))) d (.dct ((told fs).map fun y=>((Sum.inr y.1:Key),y.2)))) p3 (.lst [.tup [.str "none"],.tup [.str "free"]]) d=some (.dct ((told fs).map fun y=>((Sum.inr y.1:Key),y.2))):=by rw [Zao nd3];exact Zah
  have hsub:Sub G (put (put (put G p1 (.lst ((told fs).map fun y=>W.tup [.str y.1,y.2]))) d (.dct ((told fs).map fun y=>((Sum.inr y.1:Key),y.2)))) p3 (.lst [.tup [.str "none"],.tup [.str "free"]])):=ZbA (ZbA (Zbk hp1) hd) hp3
  have ei:Zk2 [.bl o]=fun _=>some (.int (if o then 1 else 0)):=rfl
  have ea:atI [W.tup [.str "none"],.tup [.str "free"]] (if o then 1 else 0)=some (if o then En.free else En.nope).enc:=by
   cases o
   ·exact Zb1
   ·exact ZcZ
  simp only [ei,Zaf,Zah,ea,g3]
  refine Zq3 (enc:=W.str) (f:=fun x=>(ent fs o x).enc) (cst:=[some (.ref d),some (if o then En.free else En.nope).enc]) g3 zs none [] (fun x hx Q' q'=>?_) (by simp only [List.length_nil];exact Za8 (by omega)) fun r hr=>?_
  ·show gMt Ztk ZwD (Zad 1) _ [some (.str x),some (.ref d),some (if o then En.free else En.nope).enc] _ Q'
   walk_at "rd"
   refine ⟨⟨d,_,rfl,g3d⟩,d,_,x,_,rfl,rfl,g3d,?_⟩
   rw [Zme];exact q'
  ·rw [List.nil_append]
   have hG:G r=none:=by
    cases e:G r with
    | none=>rfl
    | some u=>have:=hsub r u e;rw [hr] at this;cases this
   exact hC _ _ _ hsub.put2 (q r hG)
set_option Elab.async false
set_option linter.all false
set_option maxRecDepth 100000
set_option maxHeartbeats 1000000
mutual
def Kd.thr:Kd→Bool
 | .to a b=>a.thr&&b.thr
 | .box a=>a.thr
 | .row fs _=>decide (fs.names.length≤3)&&fs.thr
 | _=>true
def Fs.thr:Fs→Bool
 | .nil=>true
 | .cons _ _ k r=>k.thr&&r.thr
end
def wg (k:Kd):Prop:=k.ok=true∧k.thr=true
theorem ZrQ:∀ {fs:Fs},fs.thr=true→∀ c∈fs.kinds,c.thr=true
 | .nil,_,c,hc=>by cases hc
 | .cons n m k r,h,c,hc=>by
  have h':(k.thr&&r.thr)=true:=h
  simp only [Bool.and_eq_true] at h'
  rcases List.mem_cons.mp hc with rfl | hc
  ·exact h'.1
  ·exact ZrQ h'.2 c hc
theorem ZaY {k c:Kd} (h:wg k) (hc:c∈k.kids):wg c:=by
 refine ⟨ZlC h.1 c hc,?_⟩
 have ht:=h.2
 cases k with
 | to x y =>
  have h':(x.thr&&y.thr)=true:=ht
  simp only [Bool.and_eq_true] at h'
  simp only [Kd.kids,List.mem_cons,List.not_mem_nil,or_false] at hc
  rcases hc with rfl | rfl
  ·exact h'.1
  ·exact h'.2
 | box x =>
  simp only [Kd.kids,List.mem_cons,List.not_mem_nil,or_false] at hc
  subst hc;exact ht
 | row fs o =>
  have h':(decide (fs.names.length≤3)&&fs.thr)=true:=ht
  simp only [Bool.and_eq_true] at h'
  exact ZrQ h'.2 c hc
 | any=>simp [Kd.kids] at hc
 | num=>simp [Kd.kids] at hc
 | truth=>simp [Kd.kids] at hc
theorem ZdA {fs:Fs} {o:Bool} (h:wg (.row fs o)):fs.names.length < 16:=by
 have h':(decide (fs.names.length≤3)&&fs.thr)=true:=h.2
 simp only [Bool.and_eq_true,decide_eq_true_eq] at h'
 omega
theorem Zvn {x y:Str} (h:ZaP x y=false) (hne:x≠y):ZaP y x=true:=by
 unfold ZaP at h ⊢
 refine decide_eq_true ?_
 have h1:y.cps.toList≤x.cps.toList:=of_decide_eq_false h
 rcases List.le_iff_lt_or_eq.mp h1 with z | z
 ·exact z
 ·exact absurd (by cases x;cases y;congr 1;exact (Array.toList_inj.mp z).symm) hne
theorem ZvJ:∀ (p:Str) (r:List Str),risingS p r=true→(p::r).Nodup→(p::r).Pairwise (fun x y=>ZaP x y=true)
 | p,[],_,_=>.cons (fun _ h=>by cases h) .nil
 | p,x::r,h,hn=>by
  have h':(!ltCps x.cps.toList p.cps.toList&&risingS x r)=true:=h
  simp only [Bool.and_eq_true,Bool.not_eq_true'] at h'
  obtain ⟨n1,n2⟩:=List.nodup_cons.mp hn
  have ih:=ZvJ x r h'.2 n2
  have hpx:ZaP p x=true:=Zvn (by rw [← h'.1,ltCps_eq];rfl) fun e=>n1 (by rw [e];exact List.mem_cons_self)
  refine .cons (fun z hz=>?_) ih
  rcases List.mem_cons.mp hz with rfl | hz
  ·exact hpx
  ·exact Zti hpx ((List.pairwise_cons.mp ih).1 z hz)
open Classical in
noncomputable def Zwz (fs gs:Fs):List Str:=if h:∃ zs:List Str,zs.Pairwise (fun x y=>ZaP x y=true)∧∀ x,x∈zs↔x∈fs.names∨x∈gs.names then choose h else []
theorem ZoD {fs gs:Fs} {zs:List Str} (z1:zs.Nodup) (z2:sortedS zs=true) (z3:∀ x,x∈zs↔x∈fs.names∨x∈gs.names):zs=Zwz fs gs:=by
 have hp:zs.Pairwise (fun x y=>ZaP x y=true):=by
  cases zs with
  | nil=>exact .nil
  | cons x r=>exact ZvJ x r z2 z1
 have h:∃ zs:List Str,zs.Pairwise (fun x y=>ZaP x y=true)∧∀ x,x∈zs↔x∈fs.names∨x∈gs.names:=⟨zs,hp,z3⟩
 unfold Zwz
 rw [dif_pos h]
 have:=Classical.choose_spec h
 exact ZlM hp this.1 fun x=>by rw [z3,this.2]
def ZiC:List (Str×Option (List Str))→Option (List Str)
 | []=>none
 | (x,some p)::_=>some (x::p)
 | (_,none)::r=>ZiC r
def clE (f:Kd→Kd→Option (List Str)):En→En→Option (List Str)
 | .free,_=>none
 | _,.free=>none
 | .nope,.nope=>none
 | .told m k,.told m' k'=>if m=m' then f k k' else some []
 | _,_=>some []
noncomputable def cl:Nat→Kd→Kd→Option (List Str)
 | 0,_,_=>none
 | _+1,.any,_=>none
 | _+1,_,.any=>none
 | _+1,.num,.num=>none
 | _+1,.truth,.truth=>none
 | n+1,.to a b,.to c d=>ZiC [("in",cl n a c),("out",cl n b d)]
 | n+1,.box a,.box b=>ZiC [("inside",cl n a b)]
 | n+1,.row fs o,.row gs p=>ZiC ((Zwz fs gs).map fun x=>(x,clE (cl n) (ent fs o x) (ent gs p x)))
 | _+1,_,_=>some []
def pW:Option (List Str)→W
 | none=>.non
 | some l=>.tup (l.map W.str)
theorem Zg1 {n:Nat}:∀ {us:List (Str×Option (List Str))} {p:List Str},(∀ u∈us,∀ q,u.2=some q→q.length≤n)→ZiC us=some p→p.length≤n+1
 | (x,some q)::_,p,h,e=>by
  cases e
  have:=h _ List.mem_cons_self q rfl
  simp only [List.length_cons];omega
 | (_,none)::r,p,h,e=>Zg1 (us:=r) (fun u hu=>h u (List.mem_cons_of_mem _ hu)) e
theorem ZnY {n:Nat} {f:Kd→Kd→Option (List Str)} (h:∀ k l p,f k l=some p→p.length≤n) {e e':En} {p:List Str} (hp:clE f e e'=some p):p.length≤n:=by
 cases e <;> cases e' <;> first | (cases hp;done) | (cases hp;exact Nat.zero_le _) | skip
 rename_i m k m' k'
 have hp':(if m=m' then f k k' else some [])=some p:=hp
 by_cases z:m=m'
 ·rw [if_pos z] at hp';exact h _ _ _ hp'
 ·rw [if_neg z] at hp';cases hp';exact Nat.zero_le _
theorem ZhF:∀ (n:Nat) (k l:Kd) (p:List Str),cl n k l=some p→p.length≤n
 | 0,_,_,p,h=>by cases h
 | n+1,k,l,p,h=>by
  cases k <;> cases l <;> first | (cases h;done) | (cases h;exact Nat.zero_le _) | skip
  ·refine Zg1 (fun u hu q hq=>?_) h
   simp only [List.mem_cons,List.not_mem_nil,or_false] at hu
   rcases hu with rfl | rfl
   ·exact ZhF n _ _ _ hq
   ·exact ZhF n _ _ _ hq
  ·refine Zg1 (fun u hu q hq=>?_) h
   simp only [List.mem_cons,List.not_mem_nil,or_false] at hu
   subst hu
   exact ZhF n _ _ _ hq
  ·refine Zg1 (fun u hu q hq=>?_) h
   obtain ⟨x,_,rfl⟩:=List.mem_map.mp hu
   exact ZnY (ZhF n) hq
def caE (f:Kd→Kd→List Str→Bool):En→En→List Str→Bool
 | .free,_,_=>false
 | _,.free,_=>false
 | .nope,.nope,_=>false
 | .told m k,.told m' k',p=>if m=m' then f k k' p else p.isEmpty
 | _,_,p=>p.isEmpty
def ca:Nat→Kd→Kd→List Str→Bool
 | 0,_,_,_=>false
 | n+1,k,l,p=>if k.hd=l.hd then (match p with
   | []=>false
   | x::p=>match k,l with
    | .to a b,.to c d=>if "in"=x then ca n a c p else if "out"=x then ca n b d p else false
    | .box a,.box b=>if "inside"=x then ca n a b p else false
    | .row fs o,.row gs q=>caE (ca n) (ent fs o x) (ent gs q x) p
    | _,_=>false) else p.isEmpty&&!(k.hd=="any")&&!(l.hd=="any")
theorem ZfU:∀ {us:List (Str×Option (List Str))} {p:List Str},ZiC us=some p→∃ x q,p=x::q∧(x,some q)∈us
 | (x,some q)::_,p,e=>by cases e;exact ⟨x,q,rfl,List.mem_cons_self⟩
 | (_,none)::r,p,e=>by obtain ⟨x,q,h1,h2⟩:=ZfU (us:=r) e;exact ⟨x,q,h1,List.mem_cons_of_mem _ h2⟩
theorem Zvg {f:Kd→Kd→Option (List Str)} {g:Kd→Kd→List Str→Bool} (h:∀ k l p,f k l=some p→g k l p=true) {e e':En} {p:List Str} (hp:clE f e e'=some p):caE g e e' p=true:=by
 cases e <;> cases e' <;> first | (cases hp;done) | (cases hp;rfl) | skip
 rename_i m k m' k'
 have hp':(if m=m' then f k k' else some [])=some p:=hp
 show (if m=m' then g k k' p else p.isEmpty)=true
 by_cases z:m=m'
 ·rw [if_pos z] at hp' ⊢;exact h _ _ _ hp'
 ·rw [if_neg z] at hp' ⊢;cases hp';rfl
theorem Zw3 {n:Nat} {k l:Kd} (h:k.hd≠l.hd) (h1:k.hd≠"any") (h2:l.hd≠"any"):ca (n+1) k l []=true:=by
 unfold ca
 rw [if_neg h]
 simp [h1,h2]
theorem Zoe:∀ (n:Nat) (k l:Kd) (p:List Str),cl n k l=some p→ca n k l p=true
 | 0,_,_,p,h=>by cases h
 | n+1,k,l,p,h=>by
  have ne:("in":Str)≠"out":=by decide +kernel
  cases k <;> cases l <;> first | (cases h;done) | (cases h;exact Zw3 (by simp only [Kd.hd];decide) (by simp only [Kd.hd];decide) (by simp only [Kd.hd];decide)) | skip
  ·rename_i a b c d
   obtain ⟨x,q,rfl,hm⟩:=ZfU (show ZiC [("in",cl n a c),("out",cl n b d)]=some p from h)
   show (if ("to":Str)="to" then (if "in"=x then ca n a c q else if "out"=x then ca n b d q else false) else _)=true
   rw [if_pos rfl]
   simp only [List.mem_cons,List.not_mem_nil,or_false,Prod.mk.injEq] at hm
   rcases hm with ⟨rfl,e⟩ | ⟨rfl,e⟩
   ·rw [if_pos rfl];exact Zoe n _ _ _ e.symm
   ·rw [if_neg ne,if_pos rfl];exact Zoe n _ _ _ e.symm
  ·rename_i a b
   obtain ⟨x,q,rfl,hm⟩:=ZfU (show ZiC [("inside",cl n a b)]=some p from h)
   show (if ("box":Str)="box" then (if "inside"=x then ca n a b q else false) else _)=true
   rw [if_pos rfl]
   simp only [List.mem_cons,List.not_mem_nil,or_false,Prod.mk.injEq] at hm
   obtain ⟨rfl,e⟩:=hm
   rw [if_pos rfl];exact Zoe n _ _ _ e.symm
  ·rename_i fs o gs p'
   obtain ⟨x,q,rfl,hm⟩:=ZfU (show ZiC ((Zwz fs gs).map fun x=>(x,clE (cl n) (ent fs o x) (ent gs p' x)))=some p from h)
   show (if ("row":Str)="row" then caE (ca n) (ent fs o x) (ent gs p' x) q else _)=true
   rw [if_pos rfl]
   obtain ⟨y,_,e⟩:=List.mem_map.mp hm
   obtain ⟨rfl,e2⟩:=Prod.mk.inj e
   exact Zvg (Zoe n) e2
set_option maxHeartbeats 4000000
section
variable {P:Program} {w:World} {K:PySem.W.Frag} {mg:Str→Option Value} {base:Heap} {a:Adr}
abbrev ZlV:List Str:=["step","path"]
theorem Zqz:ZaC ZlV ["step","path"] (Zac Zed):=⟨rfl,rfl,rfl,by decide +kernel,rfl,by decide +kernel,by decide +kernel⟩
def Zmn:GS:=(ZaF (ZhW (gTB (Zak (Zan (isF false)) (Zad 1) (gC .non))) (gC .non) (Zak (ZgL) (Zbb (Zab (Zad 0) Zam)) (Zad 1))))
theorem ZpR {k:Nat} (T:Tx K mg base a) {f:Addr} {cdv:Value} {A:Around} {outer:List Env} {s:Shared} {H:Hp} {E:XK} (hr:Room k (A.deeper (envOfC "behind" (Zac Zed) s.heap.objs.size f cdv))):Ssm (cxW P w K mg base ZlV "behind" (Zac Zed) f cdv A outer s H E).nox (fun B=>B=H) (Zax Zed) (Zmn) :=
 have hu:=ZeU hr
 (Zaj (Zas (Zn4 (ZaD Zny rfl (Zal (i:=1) rfl rfl rfl rfl) Zdl) Zdl (ZhD (ZaI (Zaa rfl (Zal (i:=0) rfl rfl rfl rfl) Zae)) (Zal (i:=1) rfl rfl rfl rfl)))))
abbrev ZdE:List Str:=["one","other"]
theorem ZfO:ZaC ZdE ["one","other"] (Zac ZaJ):=⟨rfl,rfl,rfl,by decide +kernel,rfl,by decide +kernel,by decide +kernel⟩
def Zdu (ZaK:Spw):GS:=(Zay (gIf (gTB (Zak (Zan (inF false)) (gC (.str "free")) (Zbb (Zab (Zak (Zan ixW) (Zad 0) (gC (.int 0))) (Zab (Zak (Zan ixW) (Zad 1) (gC (.int 0))) Zam))))) (ZaF (gC .non)) Zar) (Zay (gIf (gTB (Zak (Zan (eqF true)) (Zak (Zan ixW) (Zad 0) (gC (.int 0))) (Zak (Zan ixW) (Zad 1) (gC (.int 0))))) (ZaF (Zbb Zam)) Zar) (ZaF (ZhW (gTB (Zak (Zan (eqF false)) (Zak (Zan ixW) (Zad 0) (gC (.int 0))) (gC (.str "none")))) (gC .non) (Zaq ZaK (fun _ _ _=>False) (Zab (Zak (Zan ixW) (Zad 0) (gC (.int 1))) (Zab (Zak (Zan ixW) (Zad 1) (gC (.int 1))) Zam)))))))
theorem ZfE {k:Nat} (T:Tx K mg base a) {Zbl:Nat} {ZaK:Spw} (ZdX:Df P w K mg base "clash_of" Zbl 2 ZaK) (ZdV:Zbl≤k) {f:Addr} {cdv:Value} {A:Around} {outer:List Env} {s:Shared} {H:Hp} {E:XK} (hr:Room k (A.deeper (envOfC "clash_of_entries" (Zac ZaJ) s.heap.objs.size f cdv))):Ssm (cxW P w K mg base ZdE "clash_of_entries" (Zac ZaJ) f cdv A outer s H E).nox (fun B=>B=H) (Zax ZaJ) (Zdu ZaK) :=
 have hu:=ZeU hr
 (Zai (Zba (ZaD ZjU rfl Zat (ZaI (Zaa rfl (Zaz (fun _ _=>rfl) (Zal (i:=0) rfl rfl rfl rfl) Zag) (Zaa rfl (Zaz (fun _ _=>rfl) (Zal (i:=1) rfl rfl rfl rfl) Zag) Zae)))) (Zaj (Zas Zdl)) Zau) (Zai (Zba (ZaD (Zdc hu) rfl (Zaz (fun _ _=>rfl) (Zal (i:=0) rfl rfl rfl rfl) Zag) (Zaz (fun _ _=>rfl) (Zal (i:=1) rfl rfl rfl rfl) Zag)) (Zaj (Zas (ZaI Zae))) Zau) (Zaj (Zas (Zn4 (ZaD (Zch hu) rfl (Zaz (fun _ _=>rfl) (Zal (i:=0) rfl rfl rfl rfl) Zag) Zat) Zdl (Zap ZdX (hr.mono ZdV) rfl ZaG rfl rfl rfl (Zaa rfl (Zaz (fun _ _=>rfl) (Zal (i:=0) rfl rfl rfl rfl) Zag) (Zaa rfl (Zaz (fun _ _=>rfl) (Zal (i:=1) rfl rfl rfl rfl) Zag) Zae))))))))
abbrev ZeC:List Str:=["one","other","name","found"]
theorem Zdk:ZaC ZeC ["one","other"] (Zac Za7):=⟨rfl,rfl,rfl,by decide +kernel,rfl,by decide +kernel,by decide +kernel⟩
def Zeq (Zb9:Spw) (Za5:Spw) (Zbu:Spw) (Zcq:Spw):GS:=(Zay (Zel (ZbJ (Zaq Zb9 (fun _ _ _=>False) (Zab (Zad 0) (Zab (Zad 1) Zam)))) (gNm 2) (Zay (Zbn 3 (Zaq Zbu (fun _ _ _=>False) (Zab (Zaq Za5 (fun _ _ _=>False) (Zab (Zad 0) (Zab (Zad 2) Zam))) (Zab (Zaq Za5 (fun _ _ _=>False) (Zab (Zad 1) (Zab (Zad 2) Zam))) Zam)))) (gIf (gTB (Zak (Zan (isF true)) (Zad 3) (gC .non))) (ZaF (Zaq Zcq (fun _ _ _=>False) (Zab (Zad 2) (Zab (Zad 3) Zam)))) Zar))) (ZaF (gC .non)))
theorem Zhb {k:Nat} (T:Tx K mg base a) {ZcB:Nat} {Zb9:Spw} (Zhd:Df P w K mg base "names_of_both" ZcB 2 Zb9) (Zg7:ZcB≤k) {Zcg:Nat} {Za5:Spw} (ZdR:Df P w K mg base "entry_of" Zcg 2 Za5) (ZdW:Zcg≤k) {Zby:Nat} {Zbu:Spw} (ZfA:Df P w K mg base "clash_of_entries" Zby 2 Zbu) (ZfM:Zby≤k) {ZdF:Nat} {Zcq:Spw} (Zjd:Df P w K mg base "behind" ZdF 2 Zcq) (Zjr:ZdF≤k) {f:Addr} {cdv:Value} {A:Around} {outer:List Env} {s:Shared} {H:Hp} {E:XK} (hr:Room k (A.deeper (envOfC "clash_of_rows" (Zac Za7) s.heap.objs.size f cdv))):Ssm (cxW P w K mg base ZeC "clash_of_rows" (Zac Za7) f cdv A outer s H E).nox (fun B=>B=H) (Zax Za7) (Zeq Zb9 Za5 Zbu Zcq) :=
 have hu:=ZeU hr
 (Zai (ZeZ PassesOwn.never rfl (fun _=>rfl) (Zdm (fun _ _=>rfl) (Zap Zhd (hr.mono Zg7) rfl ZaG rfl rfl rfl (Zaa rfl (Zal (i:=0) rfl rfl rfl rfl) (Zaa rfl (Zal (i:=1) rfl rfl rfl rfl) Zae)))) (ZjE (i:=2) Zdk.nd rfl (.inl rfl) (.inr rfl)) (Zai (ZeT (i:=3) Zdk.nd rfl rfl rfl (Zap ZfA (hr.mono ZfM) rfl ZaG rfl rfl rfl (Zaa rfl (Zap ZdR (hr.mono ZdW) rfl ZaG rfl rfl rfl (Zaa rfl (Zal (i:=0) rfl rfl rfl rfl) (Zaa rfl (Zal (i:=2) rfl rfl rfl rfl) Zae))) (Zaa rfl (Zap ZdR (hr.mono ZdW) rfl ZaG rfl rfl rfl (Zaa rfl (Zal (i:=1) rfl rfl rfl rfl) (Zaa rfl (Zal (i:=2) rfl rfl rfl rfl) Zae))) Zae)))) (Zaj (Zba (ZaD Zjv rfl (Zal (i:=3) rfl rfl rfl rfl) Zdl) (Zaj (Zas (Zap Zjd (hr.mono Zjr) rfl ZaG rfl rfl rfl (Zaa rfl (Zal (i:=2) rfl rfl rfl rfl) (Zaa rfl (Zal (i:=3) rfl rfl rfl rfl) Zae))))) Zau)))) (Zaj (Zas Zdl)))
abbrev ZiU:List Str:=["one","other","step","left","right","found"]
theorem Zf8:ZaC ZiU ["one","other"] (Zac ZcM):=⟨rfl,rfl,rfl,by decide +kernel,rfl,by decide +kernel,by decide +kernel⟩
def Zim (Zb8:Spw) (ZaK:Spw) (Zcq:Spw):GS:=(Zay (gIf (gTB (Zak (Zan (inF false)) (gC (.str "any")) (Zbb (Zab (Zak (Zan ixW) (Zad 0) (gC (.int 0))) (Zab (Zak (Zan ixW) (Zad 1) (gC (.int 0))) Zam))))) (ZaF (gC .non)) Zar) (Zay (gIf (gTB (Zak (Zan (eqF true)) (Zak (Zan ixW) (Zad 0) (gC (.int 0))) (Zak (Zan ixW) (Zad 1) (gC (.int 0))))) (ZaF (Zbb Zam)) Zar) (Zay (gIf (gTB (Zak (Zan (eqF false)) (Zak (Zan ixW) (Zad 0) (gC (.int 0))) (gC (.str "row")))) (ZaF (Zaq Zb8 (fun _ _ _=>False) (Zab (Zad 0) (Zab (Zad 1) Zam)))) Zar) (Zay (Zel (ZgG (Zab (Zly Zdf (Zak (Zan ixW) (Zad 0) (gC (.int 0)))) (Zab (Ze1 (Zad 0) (Zbg (gC (.int 1))) Zaw) (Zab (Ze1 (Zad 1) (Zbg (gC (.int 1))) Zaw) Zam)))) (Zfp 2 3 4) (Zay (Zbn 5 (Zaq ZaK (fun _ _ _=>False) (Zab (Zad 3) (Zab (Zad 4) Zam)))) (gIf (gTB (Zak (Zan (isF true)) (Zad 5) (gC .non))) (ZaF (Zaq Zcq (fun _ _ _=>False) (Zab (Zad 2) (Zab (Zad 5) Zam)))) Zar))) (ZaF (gC .non))))))
theorem ZmT {k:Nat} (T:Tx K mg base a) {Zcv:Nat} {Zb8:Spw} (ZhI:Df P w K mg base "clash_of_rows" Zcv 2 Zb8) (Zhr:Zcv≤k) {Zbl:Nat} {ZaK:Spw} (ZdX:Df P w K mg base "clash_of" Zbl 2 ZaK) (ZdV:Zbl≤k) {ZdF:Nat} {Zcq:Spw} (Zjd:Df P w K mg base "behind" ZdF 2 Zcq) (Zjr:ZdF≤k) {f:Addr} {cdv:Value} {A:Around} {outer:List Env} {s:Shared} {H:Hp} {E:XK} (hr:Room k (A.deeper (envOfC "clash_of" (Zac ZcM) s.heap.objs.size f cdv))):Ssm (cxW P w K mg base ZiU "clash_of" (Zac ZcM) f cdv A outer s H E).nox (fun B=>B=H) (Zax ZcM) (Zim Zb8 ZaK Zcq) :=
 have hu:=ZeU hr
 (Zai (Zba (ZaD ZjU rfl Zat (ZaI (Zaa rfl (Zaz (fun _ _=>rfl) (Zal (i:=0) rfl rfl rfl rfl) Zag) (Zaa rfl (Zaz (fun _ _=>rfl) (Zal (i:=1) rfl rfl rfl rfl) Zag) Zae)))) (Zaj (Zas Zdl)) Zau) (Zai (Zba (ZaD (Zdc hu) rfl (Zaz (fun _ _=>rfl) (Zal (i:=0) rfl rfl rfl rfl) Zag) (Zaz (fun _ _=>rfl) (Zal (i:=1) rfl rfl rfl rfl) Zag)) (Zaj (Zas (ZaI Zae))) Zau) (Zai (Zba (ZaD (Zch hu) rfl (Zaz (fun _ _=>rfl) (Zal (i:=0) rfl rfl rfl rfl) Zag) Zat) (Zaj (Zas (Zap ZhI (hr.mono Zhr) rfl ZaG rfl rfl rfl (Zaa rfl (Zal (i:=0) rfl rfl rfl rfl) (Zaa rfl (Zal (i:=1) rfl rfl rfl rfl) Zae))))) Zau) (Zai (ZeZ PassesOwn.never rfl (fun _=>rfl) (Zmf T.ZhX rfl rfl rfl (Zaa rfl (Zoz T.Zlk rfl rfl (fun _ _=>rfl) (Zaz (fun _ _=>rfl) (Zal (i:=0) rfl rfl rfl rfl) Zag)) (Zaa rfl (Zeh (Zal (i:=0) rfl rfl rfl rfl) (Zcw Zag) Zco) (Zaa rfl (Zeh (Zal (i:=1) rfl rfl rfl rfl) (Zcw Zag) Zco) Zae)))) (ZfR (i:=2) (j:=3) (k:=4) rfl Zf8.nd rfl (.inl rfl) (.inr rfl) rfl (.inl rfl) (.inr rfl) rfl (.inl rfl) (.inr rfl)) (Zai (ZeT (i:=5) Zf8.nd rfl rfl rfl (Zap ZdX (hr.mono ZdV) rfl ZaG rfl rfl rfl (Zaa rfl (Zal (i:=3) rfl rfl rfl rfl) (Zaa rfl (Zal (i:=4) rfl rfl rfl rfl) Zae)))) (Zaj (Zba (ZaD Zjv rfl (Zal (i:=5) rfl rfl rfl rfl) Zdl) (Zaj (Zas (Zap Zjd (hr.mono Zjr) rfl ZaG rfl rfl rfl (Zaa rfl (Zal (i:=2) rfl rfl rfl rfl) (Zaa rfl (Zal (i:=5) rfl rfl rfl rfl) Zae))))) Zau)))) (Zaj (Zas Zdl))))))
end
def En.hd:En→Str
 | .free=>"free"
 | .nope=>"none"
 | .told m _=>Zd1 m
theorem Ze0 (e:En) (G:Hw):ixW e.enc (.int 0) G=some (.str e.hd):=by cases e <;> exact Zb1
theorem ZfX {x y:W} {s t:Str} {e:GE} {Zck:GS} {D:Ew} {ω:Sw} {G:Hw} (h0:ω[0]?=some (some x)) (h1:ω[1]?=some (some y)) (e0:ixW x (.int 0) G=some (.str s)) (e1:ixW y (.int 0) G=some (.str t)) (h:if s=t then Zck D ω G else e ω G D.rt) :
  Zay (gIf (gTB (Zak (Zan (eqF true)) (Zak (Zan ixW) (Zad 0) (gC (.int 0))) (Zak (Zan ixW) (Zad 1) (gC (.int 0))))) (ZaF e) Zar) Zck D ω G:=by
 simp only [Zay,gIf,gTB,Zak,Zan,Zad,h0,h1,gC,ZaF,Zar]
 rw [e0,Zaf,e1,Zaf]
 simp only [eqF,eqW,Option.map_some,Zaf]
 by_cases z:s=t
 ·rw [if_pos z] at h
  have:(s==t)=true:=by simp [z]
  simp only [this,bne_self_eq_false,Bool.false_eq_true,if_false]
  exact h
 ·rw [if_neg z] at h
  have:(s==t)=false:=by simp [z]
  simp only [this,show (false != true)=true from rfl,if_true]
  exact h
theorem ZcY (m:Bool):Zd1 m≠"free"∧Zd1 m≠"none"∧(("free":Str)≠"none"):=by cases m <;> decide +kernel
theorem Zkb {k:Kd} {e:GE} {Zck:GS} {D:Ew} {ω:Sw} {G:Hw} (h1:ω[0]?=some (some k.enc)) (h:if k.hd="row" then e ω G D.rt else Zck D ω G) :
  Zay (gIf (gTB (Zak (Zan (eqF false)) (Zak (Zan ixW) (Zad 0) (gC (.int 0))) (gC (.str "row")))) (ZaF e) Zar) Zck D ω G:=by
 simp only [Zay,gIf,gTB,Zak,Zan,Zad,h1,gC,ZaF,Zar]
 rw [ZbY]
 simp only [Zaf,eqF,eqW,Option.map_some]
 by_cases z:k.hd="row"
 ·rw [if_pos z] at h
  simp only [z,beq_self_eq_true,show (true != false)=true from rfl,if_true]
  exact h
 ·rw [if_neg z] at h
  have:(k.hd=="row")=false:=by simpa using z
  simp only [this,bne_self_eq_false,Bool.false_eq_true,if_false]
  exact h
theorem Zix {k:Kd} (h:k.hd="row"):∃ fs o,k=.row fs o:=by
 cases k <;> first | exact ⟨_,_,rfl⟩ | exact absurd h (by simp only [Kd.hd];decide)
theorem Zja {x y:W} {s a b:Str} {e:GE} {Zck:GS} {D:Ew} {ω:Sw} {G:Hw} (h0:ω[0]?=some (some x)) (h1:ω[1]?=some (some y)) (e0:ixW x (.int 0) G=some (.str a)) (e1:ixW y (.int 0) G=some (.str b)) (h:if a=s∨b=s then e ω G D.rt else Zck D ω G) :
  Zay (gIf (gTB (Zak (Zan (inF false)) (gC (.str s)) (L3.Zbb (L3.Zab (Zak (Zan ixW) (Zad 0) (gC (.int 0))) (L3.Zab (Zak (Zan ixW) (Zad 1) (gC (.int 0))) L3.Zam))))) (ZaF e) Zar) Zck D ω G:=by
 simp only [Zay,gIf,gTB,Zak,Zan,Zad,h0,h1,gC,ZaF,Zar,L3.Zbb,L3.Zab,L3.Zam]
 rw [e0,Zaf,e1,Zaf]
 refine ⟨(show 2≤sizeLine by decide),?_⟩
 have ei:inF false (.str s) (.tup [.str a,.str b]) G=some (.bl ([a,b].any (·==s))):=by
  unfold inF
  show (ZiZ ([a,b].map W.str)).map (fun us=>W.bl (if false=true then !inV (.str s) us else inV (.str s) us))=_
  rw [ZeP]
  show some (W.bl (inV (.str s) ([a,b].map V.str)))=_
  rw [ZgQ]
 rw [ei,Zaf]
 by_cases z:a=s∨b=s
 ·rw [if_pos z] at h
  have:[a,b].any (·==s)=true:=by simpa using z
  rw [this];exact h
 ·rw [if_neg z] at h
  have:[a,b].any (·==s)=false:=by
   rw [List.any_eq_false]
   intro c hc
   simp only [List.mem_cons,List.not_mem_nil,or_false] at hc
   rcases hc with rfl | rfl
   ·simpa using fun q=>z (.inl q)
   ·simpa using fun q=>z (.inr q)
  rw [this];exact h
abbrev Zg0:Spw:=spR (fun (x:Str×List W) ws _=>ws=[.str x.1,.tup x.2]∧x.2.length≤100) fun x=>.tup (.str x.1::x.2)
theorem ZdF (T:Tx K mg base a):Df P w K mg base "behind" 1 2 Zg0:=by
 refine mk0 T.Zg2 rfl Zqz Zdj (fun ws G Q E ⟨x,⟨e,_⟩,_⟩=>by rw [e];rfl) (ZpR T) fun ws G Q E hC q=>?_
 obtain ⟨⟨s,xs⟩,⟨rfl,hl⟩,q⟩:=q
 dsimp only at hl q
 unfold Zmn
 show ZaF _ (ZaW Q) [some (.str s),some (.tup xs)] G
 simp only [ZaF,ZhW,gTB,Zak,Zan,Zad,gC,List.getElem?_cons_zero,List.getElem?_cons_succ,isF,Zi8,Zaf,show (false != false)=false from rfl,Bool.false_eq_true,if_false,L3.Zbb,L3.Zab,L3.Zam,ZaW]
 refine ⟨(show 1≤sizeLine by decide),?_⟩
 rw [Zb3]
 exact ⟨by simp only [List.length_cons,List.length_nil];exact Za8 (by omega),q⟩
abbrev ZhC (n:Nat):Spw:=spR (fun (x:Kd×Kd) ws _=>ws=[x.1.enc,x.2.enc]∧wg x.1∧wg x.2∧x.1.dp≤n) fun x=>pW (cl n x.1 x.2)
abbrev Zwy (n:Nat):Spw:=spR (fun (x:En×En) ws _=>ws=[x.1.enc,x.2.enc]∧∀ m k m' k',x.1=.told m k→x.2=.told m' k'→wg k∧wg k'∧k.dp≤n) fun x=>pW (clE (cl n) x.1 x.2)
theorem ZlT {f:Kd→Kd→Option (List Str)} {e e':En} (hf:e.hd="free"∨e'.hd="free"):clE f e e'=none:=by
 cases e with
 | free=>rfl
 | nope =>
  cases e' with
  | free=>rfl
  | nope=>rfl
  | told m k=>exact absurd (hf.resolve_left (by decide)) (ZcY m).1
 | told m k =>
  cases e' with
  | free=>rfl
  | nope=>exact absurd (hf.resolve_right (by decide)) (ZcY m).1
  | told m' k'=>exact absurd hf (fun z=>z.elim (ZcY m).1 (ZcY m').1)
theorem ZrO {f:Kd→Kd→Option (List Str)} {e e':En} (hf:¬ (e.hd="free"∨e'.hd="free")) (z:¬ e.hd=e'.hd):clE f e e'=some []:=by
 cases e with
 | free=>exact absurd (.inl rfl) hf
 | nope =>
  cases e' with
  | free=>exact absurd (.inr rfl) hf
  | nope=>exact absurd rfl z
  | told m k=>rfl
 | told m k =>
  cases e' with
  | free=>exact absurd (.inr rfl) hf
  | nope=>rfl
  | told m' k' =>
   have:m≠m':=fun q=>z (by rw [q];rfl)
   show (if m=m' then f k k' else some [])=some []
   rw [if_neg this]
theorem Zll {e e':En} (hf:¬ (e.hd="free"∨e'.hd="free")) (z:e.hd=e'.hd):(e=.nope∧e'=.nope)∨∃ m k k',e=.told m k∧e'=.told m k':=by
 cases e with
 | free=>exact absurd (.inl rfl) hf
 | nope =>
  cases e' with
  | free=>exact absurd (.inr rfl) hf
  | nope=>exact .inl ⟨rfl,rfl⟩
  | told m k=>exact absurd z.symm (ZcY m).2.1
 | told m k =>
  obtain ⟨n1,n2,_⟩:=ZcY m
  cases e' with
  | free=>exact absurd z n1
  | nope=>exact absurd z n2
  | told m' k'=>obtain rfl:=Zl8 z;exact .inr ⟨m,k,k',rfl,rfl⟩
theorem Zfy {f:Kd→Kd→Option (List Str)} {m:Bool} {k k':Kd}:clE f (.told m k) (.told m k')=f k k':=by show (if m=m then f k k' else some [])=_;rw [if_pos rfl]
theorem Zby (T:Tx K mg base a) {j n:Nat} (D:Df P w K mg base "clash_of" j 2 (ZhC n)):Df P w K mg base "clash_of_entries" (j+1) 2 (Zwy n):=by
 refine mk0 T.ZbB rfl ZfO Zdj (fun ws G Q E ⟨x,⟨e,_⟩,_⟩=>by rw [e];rfl) (ZfE T D (Nat.le_refl _)) fun ws G Q E hC q=>?_
 obtain ⟨⟨e,e'⟩,⟨rfl,h⟩,q⟩:=q
 dsimp only at h q
 unfold Zdu
 show Zay (gIf _ _ Zar) _ (ZaW Q) [some e.enc,some e'.enc] G
 refine Zja rfl rfl (Ze0 e G) (Ze0 e' G) ?_
 by_cases hf:e.hd="free"∨e'.hd="free"
 ·rw [if_pos hf]
  rw [ZlT hf] at q
  exact q
 ·rw [if_neg hf]
  refine ZfX rfl rfl (Ze0 e G) (Ze0 e' G) ?_
  by_cases z:e.hd=e'.hd
  ·rw [if_pos z]
   rcases Zll hf z with ⟨rfl,rfl⟩ | ⟨m,k,k',rfl,rfl⟩
   ·exact q
   ·obtain ⟨w1,w2,hd⟩:=h m k m k' rfl rfl
    have hm:(Zd1 m=="none")=false:=by simpa using (ZcY m).2.1
    rw [Zfy] at q
    simp only [ZaF,ZhW,gTB,Zak,Zan,Zad,gC,En.enc,List.getElem?_cons_zero,List.getElem?_cons_succ,ixW,Zb1,ZcZ,Zaf,eqF,eqW,hm,Option.map_some,bne_self_eq_false,Bool.false_eq_true,if_false,Zaq,L3.Zab,L3.Zam,ZaW]
    exact ⟨(k,k'),⟨rfl,w1,w2,hd⟩,q⟩
  ·rw [if_neg z]
   rw [ZrO hf z] at q
   exact ⟨by decide,q⟩
theorem ZgX {α:Type} (f g h:α→W):∀ xs:List α,ZeA (xs.map f) (xs.map g) (xs.map h)=xs.map fun x=>W.tup [f x,g x,h x]
 | []=>rfl
 | x::xs=>by show _::ZeA (xs.map f) (xs.map g) (xs.map h)=_;rw [ZgX f g h xs];rfl
theorem Zii {i j:Nat} {ge:GE} {D:Ew} {ω:Sw} {G:Hw} {c:Option (List Str)} {s:Str} (hj:ω[j]?=some (some (.str s))) (hij:j≠i) (hi:i < ω.length) (hn:∀ p,c=some p→p.length≤100) (hg:∀ Q:Kw,Q (pW c) G→ge ω G Q) (h1:c=none→D.nx (ω.set i (some .non)) G) (h2:∀ p,c=some p→D.rt (pW (some (s::p))) G) :
  Zay (Zbn i ge) (gIf (gTB (Zak (Zan (isF true)) (Zad i) (gC .non))) (ZaF (Zaq Zg0 (fun _ _ _=>False) (L3.Zab (Zad j) (L3.Zab (Zad i) L3.Zam)))) Zar) D ω G:=by
 refine hg _ ?_
 have gi:∀ r:W,(ω.set i (some r))[i]?=some (some r):=fun r=>by rw [List.getElem?_set_self hi]
 have gj:∀ r:W,(ω.set i (some r))[j]?=some (some (.str s)):=fun r=>by rw [List.getElem?_set_ne (Ne.symm hij)];exact hj
 simp only [gIf,gTB,Zak,Zan,Zad,gi,gj,gC,isF,Zaf,ZaF,Zaq,L3.Zab,L3.Zam,Zar]
 cases c with
 | none=>exact h1 rfl
 | some p =>
  have hl:=hn p rfl
  simp only [pW,Zi8,show (false != true)=true from rfl,if_true]
  exact ⟨(s,p.map W.str),⟨rfl,by rw [List.length_map];exact hl⟩,h2 p rfl⟩
abbrev gCR (sp:Spw):GS:=Zay (Zbn 3 (Zaq sp (fun _ _ _=>False) (L3.Zab (Zaq Zk3 (fun _ _ _=>False) (L3.Zab (Zad 0) (L3.Zab (Zad 2) L3.Zam))) (L3.Zab (Zaq Zk3 (fun _ _ _=>False) (L3.Zab (Zad 1) (L3.Zab (Zad 2) L3.Zam))) L3.Zam)))) (gIf (gTB (Zak (Zan (isF true)) (Zad 3) (gC .non))) (ZaF (Zaq Zg0 (fun _ _ _=>False) (L3.Zab (Zad 2) (L3.Zab (Zad 3) L3.Zam)))) Zar)
theorem Zo3 {n:Nat} {D:Ew} {gd:Hw→Prop} {G:Hw} {fs gs:Fs} {o p:Bool} (hgd:gd G) (hn:n≤100) (hs:∀ x m k m' k',ent fs o x=.told m k→ent gs p x=.told m' k'→wg k∧wg k'∧k.dp≤n):∀ (xs:List Str) (o2 o3:Option W),
  (∀ q,ZiC (xs.map fun x=>(x,clE (cl n) (ent fs o x) (ent gs p x)))=some q→D.rt (pW (some q)) G)→(ZiC (xs.map fun x=>(x,clE (cl n) (ent fs o x) (ent gs p x)))=none→∀ o2 o3,D.nx [some (Kd.row fs o).enc,some (Kd.row gs p).enc,o2,o3] G) →
  Zdo gd (gNm 2) (gCR (Zwy n)) D (xs.map W.str) [some (Kd.row fs o).enc,some (Kd.row gs p).enc,o2,o3] G
 | [],o2,o3,_,h=>⟨hgd,h rfl o2 o3⟩
 | x::xs,o2,o3,hb,h=>by
  refine ⟨hgd,?_⟩
  show gCR (Zwy n) _ [some (Kd.row fs o).enc,some (Kd.row gs p).enc,some (.str x),o3] G
  refine Zii (i:=3) (j:=2) (c:=clE (cl n) (ent fs o x) (ent gs p x)) (s:=x) rfl (by decide) (by simp) (fun q e=>Nat.le_trans (ZnY (ZhF n) e) hn) (fun Q hQ=>?_) (fun e=>?_) (fun q e=>?_)
  ·simp only [Zaq,L3.Zab,L3.Zam,Zad,List.getElem?_cons_zero,List.getElem?_cons_succ]
   exact ⟨(fs,o,x),rfl,(gs,p,x),rfl,(ent fs o x,ent gs p x),⟨rfl,hs x⟩,hQ⟩
  ·refine Zo3 hgd hn hs xs _ _ (fun q z=>hb q ?_) (fun z=>h ?_)
   ·rw [List.map_cons,e];exact z
   ·rw [List.map_cons,e];exact z
  ·exact hb _ (by rw [List.map_cons,e];rfl)
abbrev Zyh (n:Nat):Spw:=spR (fun (x:Fs×Bool×Fs×Bool) ws _=>ws=[(Kd.row x.1 x.2.1).enc,(Kd.row x.2.2.1 x.2.2.2).enc]∧wg (.row x.1 x.2.1)∧wg (.row x.2.2.1 x.2.2.2)∧(Kd.row x.1 x.2.1).dp≤n+1) fun x=>pW (cl (n+1) (.row x.1 x.2.1) (.row x.2.2.1 x.2.2.2))
theorem Zcv (T:Tx K mg base a) {j n:Nat} (hj:2≤j) (hn:n≤90) (D:Df P w K mg base "clash_of_entries" j 2 (Zwy n)):Df P w K mg base "clash_of_rows" (j+1) 2 (Zyh n):=by
 refine mk0 T.Zcp rfl Zdk Zdj (fun ws G Q E ⟨x,⟨e,_⟩,_⟩=>by rw [e];rfl) (Zhb T (ZcB T) hj (Zcg T) (by omega) D (Nat.le_refl _) (ZdF T) (by omega)) fun ws G Q E hC q=>?_
 obtain ⟨⟨fs,o,gs,p⟩,⟨rfl,w1,w2,hd⟩,q⟩:=q
 dsimp only at w1 w2 hd q
 unfold Zeq
 show Zay (Zel _ _ _) _ (ZaW Q) [some (Kd.row fs o).enc,some (Kd.row gs p).enc,none,none] G
 simp only [Zay,Zel,ZbJ,Zaq,Zad,L3.Zab,L3.Zam,List.getElem?_cons_zero,List.getElem?_cons_succ]
 refine ⟨fs,gs,o,p,rfl,ZdA w1,ZdA w2,fun zs r z1 z2 z3 z4=>?_⟩
 have hz:=ZoD z1 z2 z3
 simp only [Zah]
 have hs:∀ x m k m' k',ent fs o x=.told m k→ent gs p x=.told m' k'→wg k∧wg k'∧k.dp≤n:=fun x m k m' k' u1 u2=>by
  have h1:=Zhh u1
  have h2:=Zhh u2
  have hk:=ZaQ (k:=.row fs o) (c:=k) h1
  exact ⟨ZaY w1 h1,ZaY w2 h2,by omega⟩
 have q':Q (pW (ZiC (zs.map fun x=>(x,clE (cl n) (ent fs o x) (ent gs p x))))) G:=by rw [hz];exact q
 refine Zo3 (gd:=fun G'=>G' r=some (.lst (zs.map W.str))) Zah (by omega) hs zs none none (fun u z=>?_) (fun z o2 o3=>?_)
 ·rw [z] at q'
  exact hC _ _ _ (Zbk z4) q'
 ·rw [z] at q'
  exact hC _ _ _ (Zbk z4) q'
abbrev gCK (sp:Spw):GS:=Zay (Zbn 5 (Zaq sp (fun _ _ _=>False) (L3.Zab (Zad 3) (L3.Zab (Zad 4) L3.Zam)))) (gIf (gTB (Zak (Zan (isF true)) (Zad 5) (gC .non))) (ZaF (Zaq Zg0 (fun _ _ _=>False) (L3.Zab (Zad 2) (L3.Zab (Zad 5) L3.Zam)))) Zar)
theorem ZnJ {n:Nat} {D:Ew} {G:Hw} {w0 w1:Option W} (hn:n≤100):∀ (xs:List (Str×Kd×Kd)) (o2 o3 o4 o5:Option W),(∀ u∈xs,wg u.2.1∧wg u.2.2∧u.2.1.dp≤n) →
  (∀ q,ZiC (xs.map fun u=>(u.1,cl n u.2.1 u.2.2))=some q→D.rt (pW (some q)) G)→(ZiC (xs.map fun u=>(u.1,cl n u.2.1 u.2.2))=none→∀ o2 o3 o4 o5,D.nx [w0,w1,o2,o3,o4,o5] G) →
  Zdo yes (Zfp 2 3 4) (gCK (ZhC n)) D (xs.map fun u=>W.tup [.str u.1,u.2.1.enc,u.2.2.enc]) [w0,w1,o2,o3,o4,o5] G
 | [],o2,o3,o4,o5,_,_,h=>⟨trivial,h rfl o2 o3 o4 o5⟩
 | u::xs,o2,o3,o4,o5,hs,hb,h=>by
  refine ⟨trivial,?_⟩
  show gCK (ZhC n) _ [w0,w1,some (.str u.1),some u.2.1.enc,some u.2.2.enc,o5] G
  obtain ⟨h1,h2,h3⟩:=hs u List.mem_cons_self
  refine Zii (i:=5) (j:=2) (c:=cl n u.2.1 u.2.2) (s:=u.1) rfl (by decide) (by simp) (fun q e=>Nat.le_trans (ZhF n _ _ _ e) hn) (fun Q hQ=>?_) (fun e=>?_) (fun q e=>?_)
  ·simp only [Zaq,L3.Zab,L3.Zam,Zad,List.getElem?_cons_zero,List.getElem?_cons_succ]
   exact ⟨(u.2.1,u.2.2),⟨rfl,h1,h2,h3⟩,hQ⟩
  ·refine ZnJ hn xs _ _ _ _ (fun v hv=>hs v (List.mem_cons_of_mem _ hv)) (fun q z=>hb q ?_) (fun z=>h ?_)
   ·rw [List.map_cons,e];exact z
   ·rw [List.map_cons,e];exact z
  ·exact hb _ (by rw [List.map_cons,e];rfl)
abbrev gCT (sp:Spw):GS:=Zay (Zel (ZgG (L3.Zab (Zly Zdf (Zak (Zan ixW) (Zad 0) (gC (.int 0)))) (L3.Zab (Ze1 (Zad 0) (Zbg (gC (.int 1))) Zaw) (L3.Zab (Ze1 (Zad 1) (Zbg (gC (.int 1))) Zaw) L3.Zam)))) (Zfp 2 3 4) (gCK sp)) (ZaF (gC .non))
theorem Zqc {n:Nat} {k l:Kd} {s t:Str} {G:Hw} {Q:Kw} (us:List (Str×Kd×Kd)) (hn:n≤100) (e0:k.enc=.tup (.str s::us.map fun u=>u.2.1.enc)) (e1:l.enc=.tup (.str t::us.map fun u=>u.2.2.enc)) (hT:KTD.datumAt s Zdf=some (us.map (·.1))) (hs:∀ u∈us,wg u.2.1∧wg u.2.2∧u.2.1.dp≤n)
  (he:ZiC (us.map fun u=>(u.1,cl n u.2.1 u.2.2))=cl (n+1) k l) (q:Q (pW (cl (n+1) k l)) G):gCT (ZhC n) (ZaW Q) [some k.enc,some l.enc,none,none,none,none] G:=by
 unfold gCT
 rw [e0,e1]
 simp only [Zay,Zel,ZgG,Zly,L3.Zab,L3.Zam,Zak,Zad,gC,Zan,ixW,List.getElem?_cons_zero,List.getElem?_cons_succ,Zb1,Zaf,Ze1,Zbg,Zaw,slA,Zjz,List.drop_succ_cons,List.drop_zero]
 refine ⟨_,hT,_,_,_,rfl,by simp,by simp,?_⟩
 rw [List.map_map]
 have ez:=ZgX (fun u:Str×Kd×Kd=>W.str u.1) (fun u=>u.2.1.enc) (fun u=>u.2.2.enc) us
 rw [show ((W.str∘fun x:Str×Kd×Kd=>x.1))=fun u:Str×Kd×Kd=>W.str u.1 from rfl,ez]
 rw [← he] at q
 refine ZnJ hn us none none none none hs (fun u z=>?_) (fun z o2 o3 o4 o5=>?_)
 ·rw [z] at q
  exact q
 ·rw [z] at q
  exact q
theorem ZnN {k:Kd} (h:k.hd="any"):k=.any:=by
 cases k <;> first | rfl | exact absurd h (by simp only [Kd.hd];decide)
theorem Zt4 {n:Nat} {k l:Kd} (h:k.hd="any"∨l.hd="any"):cl (n+1) k l=none:=by
 rcases h with h | h
 ·rw [ZnN h];rfl
 ·rw [ZnN h];cases k <;> rfl
theorem ZvL {n:Nat} {k l:Kd} (h:k.hd≠l.hd) (hk:k≠.any) (hl:l≠.any):cl (n+1) k l=some []:=by
 cases k <;> cases l <;> first | rfl | exact absurd rfl h | exact absurd rfl hk | exact absurd rfl hl
theorem Zbl (T:Tx K mg base a):∀ n:Nat,n≤80→Df P w K mg base "clash_of" (3*n+2) 2 (ZhC n)
 | 0,_=>Zk7 T.ZdU Zdj fun ws G Q E ⟨x,⟨_,_,_,h⟩,_⟩=>by have:=Zgn x.1;omega
 | n+1,hn=>by
  have D:=Zbl T n (by omega)
  have DE:=Zby T D
  have DR:=Zcv T (by omega) (by omega) DE
  refine mk0 (k:=3*n+4) T.ZdU rfl Zf8 Zdj (fun ws G Q E ⟨x,⟨e,_⟩,_⟩=>by rw [e];rfl) (ZmT T DR (Nat.le_refl _) D (by omega) (ZdF T) (by omega)) fun ws G Q E hC q=>?_
  obtain ⟨⟨k,l⟩,⟨rfl,w1,w2,hd⟩,q⟩:=q
  dsimp only at w1 w2 hd q
  unfold Zim
  show Zay (gIf _ _ Zar) _ (ZaW Q) [some k.enc,some l.enc,none,none,none,none] G
  refine Zja rfl rfl (ZbY k G) (ZbY l G) ?_
  by_cases ha:k.hd="any"∨l.hd="any"
  ·rw [if_pos ha]
   rw [Zt4 ha] at q
   exact q
  ·rw [if_neg ha]
   refine ZfX rfl rfl (ZbY k G) (ZbY l G) ?_
   by_cases hh:k.hd=l.hd
   ·rw [if_pos hh]
    refine Zkb (k:=k) rfl ?_
    by_cases hr:k.hd="row"
    ·rw [if_pos hr]
     obtain ⟨fs,o,rfl⟩:=Zix hr
     obtain ⟨gs,p,rfl⟩:=Zix (hh▸hr)
     exact ⟨(fs,o,gs,p),⟨rfl,w1,w2,hd⟩,q⟩
    ·rw [if_neg hr]
     cases k <;> cases l <;> first | exact absurd hh (by simp only [Kd.hd];decide) | exact absurd rfl hr | exact absurd (.inl rfl) ha | skip
     ·exact Zqc (s:="num") (t:="num") [] (by omega) rfl rfl rfl (fun u hu=>by cases hu) rfl q
     ·exact Zqc (s:="truth") (t:="truth") [] (by omega) rfl rfl rfl (fun u hu=>by cases hu) rfl q
     ·rename_i a1 a2 b1 b2
      have d1:=ZaQ (k:=.to a1 a2) (c:=a1) (by simp [Kd.kids])
      have d2:=ZaQ (k:=.to a1 a2) (c:=a2) (by simp [Kd.kids])
      refine Zqc (s:="to") (t:="to") [("in",a1,b1),("out",a2,b2)] (by omega) rfl rfl rfl (fun u hu=>?_) rfl q
      simp only [List.mem_cons,List.not_mem_nil,or_false] at hu
      rcases hu with rfl | rfl
      ·exact ⟨ZaY w1 (by simp [Kd.kids]),ZaY w2 (by simp [Kd.kids]),by dsimp only;omega⟩
      ·exact ⟨ZaY w1 (by simp [Kd.kids]),ZaY w2 (by simp [Kd.kids]),by dsimp only;omega⟩
     ·rename_i a1 b1
      have d1:=ZaQ (k:=.box a1) (c:=a1) (by simp [Kd.kids])
      refine Zqc (s:="box") (t:="box") [("inside",a1,b1)] (by omega) rfl rfl rfl (fun u hu=>?_) rfl q
      simp only [List.mem_cons,List.not_mem_nil,or_false] at hu
      subst hu
      exact ⟨ZaY w1 (by simp [Kd.kids]),ZaY w2 (by simp [Kd.kids]),by dsimp only;omega⟩
   ·rw [if_neg hh]
    rw [ZvL hh (fun z=>ha (.inl (by rw [z];rfl))) (fun z=>ha (.inr (by rw [z];rfl)))] at q
    exact ⟨by decide,q⟩
set_option Elab.async false
set_option linter.all false
set_option maxRecDepth 100000
section
variable {P:Program} {w:World} {K:PySem.W.Frag} {mg:Str→Option Value} {base:Heap} {a:Adr}
abbrev Zez:List Str:=["one","other","path"]
theorem Zho:ZaC Zez ["one","other","path"] (Zac Za4):=⟨rfl,rfl,rfl,by decide +kernel,rfl,by decide +kernel,by decide +kernel⟩
def ZeB (ZaL:Spw):GS:=(Zay (gIf (gTB (Zak (Zan (inF false)) (gC (.str "free")) (Zbb (Zab (Zak (Zan ixW) (Zad 0) (gC (.int 0))) (Zab (Zak (Zan ixW) (Zad 1) (gC (.int 0))) Zam))))) (ZaF (gC (.bl false))) Zar) (Zay (gIf (gTB (Zak (Zan (eqF true)) (Zak (Zan ixW) (Zad 0) (gC (.int 0))) (Zak (Zan ixW) (Zad 1) (gC (.int 0))))) (ZaF (Zak (Zan (eqF false)) (Zad 2) (Zbb Zam))) Zar) (ZaF (Zc3 (Zak (Zan (eqF true)) (Zak (Zan ixW) (Zad 0) (gC (.int 0))) (gC (.str "none"))) (Zaq ZaL (fun _ _ _=>False) (Zab (Zak (Zan ixW) (Zad 0) (gC (.int 1))) (Zab (Zak (Zan ixW) (Zad 1) (gC (.int 1))) (Zab (Zad 2) Zam))))))))
theorem Zhf {k:Nat} (T:Tx K mg base a) {Zbm:Nat} {ZaL:Spw} (ZdY:Df P w K mg base "clash_at" Zbm 3 ZaL) (ZdP:Zbm≤k) {f:Addr} {cdv:Value} {A:Around} {outer:List Env} {s:Shared} {H:Hp} {E:XK} (hr:Room k (A.deeper (envOfC "clash_at_name" (Zac Za4) s.heap.objs.size f cdv))):Ssm (cxW P w K mg base Zez "clash_at_name" (Zac Za4) f cdv A outer s H E).nox (fun B=>B=H) (Zax Za4) (ZeB ZaL) :=
 have hu:=ZeU hr
 (Zai (Zba (ZaD ZjU rfl Zat (ZaI (Zaa rfl (Zaz (fun _ _=>rfl) (Zal (i:=0) rfl rfl rfl rfl) Zag) (Zaa rfl (Zaz (fun _ _=>rfl) (Zal (i:=1) rfl rfl rfl rfl) Zag) Zae)))) (Zaj (Zas ZfQ)) Zau) (Zai (Zba (ZaD (Zdc hu) rfl (Zaz (fun _ _=>rfl) (Zal (i:=0) rfl rfl rfl rfl) Zag) (Zaz (fun _ _=>rfl) (Zal (i:=1) rfl rfl rfl rfl) Zag)) (Zaj (Zas (ZdM (Zch hu) rfl (Zal (i:=2) rfl rfl rfl rfl) (ZaI Zae)))) Zau) (Zaj (Zas (Zki (ZdM (Zdc hu) rfl (Zaz (fun _ _=>rfl) (Zal (i:=0) rfl rfl rfl rfl) Zag) Zat) (ZiX (Zap ZdY (hr.mono ZdP) rfl ZaG rfl rfl rfl (Zaa rfl (Zaz (fun _ _=>rfl) (Zal (i:=0) rfl rfl rfl rfl) Zag) (Zaa rfl (Zaz (fun _ _=>rfl) (Zal (i:=1) rfl rfl rfl rfl) Zag) (Zaa rfl (Zal (i:=2) rfl rfl rfl rfl) Zae))))))))))
abbrev ZiI:List Str:=["one","other","path","step","left","right"]
theorem ZiB:ZaC ZiI ["one","other","path"] (Zac ZcG):=⟨rfl,rfl,rfl,by decide +kernel,rfl,by decide +kernel,by decide +kernel⟩
def Ziq (Za5:Spw) (Zca:Spw) (ZaL:Spw):GS:=(Zay (gIf (gTB (Zak (Zan (eqF true)) (Zak (Zan ixW) (Zad 0) (gC (.int 0))) (Zak (Zan ixW) (Zad 1) (gC (.int 0))))) (ZaF (Zc3 (Zak (Zan (eqF false)) (Zad 2) (Zbb Zam)) (Zak (Zan (inF true)) (gC (.str "any")) (Zbb (Zab (Zak (Zan ixW) (Zad 0) (gC (.int 0))) (Zab (Zak (Zan ixW) (Zad 1) (gC (.int 0))) Zam)))))) Zar) (Zay (gIf (gTB (Zak (Zan (eqF false)) (Zad 2) (Zbb Zam))) (ZaF (gC (.bl false))) Zar) (Zay (gIf (gTB (Zak (Zan (eqF false)) (Zak (Zan ixW) (Zad 0) (gC (.int 0))) (gC (.str "row")))) (ZaF (Zaq Zca (fun _ _ _=>False) (Zab (Zaq Za5 (fun _ _ _=>False) (Zab (Zad 0) (Zab (Zak (Zan ixW) (Zad 2) (gC (.int 0))) Zam))) (Zab (Zaq Za5 (fun _ _ _=>False) (Zab (Zad 1) (Zab (Zak (Zan ixW) (Zad 2) (gC (.int 0))) Zam))) (Zab (Ze1 (Zad 2) (Zbg (gC (.int 1))) Zaw) Zam))))) Zar) (Zay (Zel (ZgG (Zab (Zly Zdf (Zak (Zan ixW) (Zad 0) (gC (.int 0)))) (Zab (Ze1 (Zad 0) (Zbg (gC (.int 1))) Zaw) (Zab (Ze1 (Zad 1) (Zbg (gC (.int 1))) Zaw) Zam)))) (Zfp 3 4 5) (gIf (gTB (Zak (Zan (eqF false)) (Zad 3) (Zak (Zan ixW) (Zad 2) (gC (.int 0))))) (ZaF (Zaq ZaL (fun _ _ _=>False) (Zab (Zad 4) (Zab (Zad 5) (Zab (Ze1 (Zad 2) (Zbg (gC (.int 1))) Zaw) Zam))))) Zar)) (ZaF (gC (.bl false)))))))
theorem Znd {k:Nat} (T:Tx K mg base a) {Zcg:Nat} {Za5:Spw} (ZdR:Df P w K mg base "entry_of" Zcg 2 Za5) (ZdW:Zcg≤k) {ZcA:Nat} {Zca:Spw} (ZhB:Df P w K mg base "clash_at_name" ZcA 3 Zca) (Zhq:ZcA≤k) {Zbm:Nat} {ZaL:Spw} (ZdY:Df P w K mg base "clash_at" Zbm 3 ZaL) (ZdP:Zbm≤k) {f:Addr} {cdv:Value} {A:Around} {outer:List Env} {s:Shared} {H:Hp} {E:XK} (hr:Room k (A.deeper (envOfC "clash_at" (Zac ZcG) s.heap.objs.size f cdv))):Ssm (cxW P w K mg base ZiI "clash_at" (Zac ZcG) f cdv A outer s H E).nox (fun B=>B=H) (Zax ZcG) (Ziq Za5 Zca ZaL) :=
 have hu:=ZeU hr
 (Zai (Zba (ZaD (Zdc hu) rfl (Zaz (fun _ _=>rfl) (Zal (i:=0) rfl rfl rfl rfl) Zag) (Zaz (fun _ _=>rfl) (Zal (i:=1) rfl rfl rfl rfl) Zag)) (Zaj (Zas (Zki (ZdM (Zch hu) rfl (Zal (i:=2) rfl rfl rfl rfl) (ZaI Zae)) (ZiX (ZdM Zr8 rfl Zat (ZaI (Zaa rfl (Zaz (fun _ _=>rfl) (Zal (i:=0) rfl rfl rfl rfl) Zag) (Zaa rfl (Zaz (fun _ _=>rfl) (Zal (i:=1) rfl rfl rfl rfl) Zag) Zae)))))))) Zau) (Zai (Zba (ZaD (Zch hu) rfl (Zal (i:=2) rfl rfl rfl rfl) (ZaI Zae)) (Zaj (Zas ZfQ)) Zau) (Zai (Zba (ZaD (Zch hu) rfl (Zaz (fun _ _=>rfl) (Zal (i:=0) rfl rfl rfl rfl) Zag) Zat) (Zaj (Zas (Zap ZhB (hr.mono Zhq) rfl ZaG rfl rfl rfl (Zaa rfl (Zap ZdR (hr.mono ZdW) rfl ZaG rfl rfl rfl (Zaa rfl (Zal (i:=0) rfl rfl rfl rfl) (Zaa rfl (Zaz (fun _ _=>rfl) (Zal (i:=2) rfl rfl rfl rfl) Zag) Zae))) (Zaa rfl (Zap ZdR (hr.mono ZdW) rfl ZaG rfl rfl rfl (Zaa rfl (Zal (i:=1) rfl rfl rfl rfl) (Zaa rfl (Zaz (fun _ _=>rfl) (Zal (i:=2) rfl rfl rfl rfl) Zag) Zae))) (Zaa rfl (Zeh (Zal (i:=2) rfl rfl rfl rfl) (Zcw Zag) Zco) Zae)))))) Zau) (Zai (ZeZ PassesOwn.never rfl (fun _=>rfl) (Zmf T.ZhX rfl rfl rfl (Zaa rfl (Zoz T.Zlk rfl rfl (fun _ _=>rfl) (Zaz (fun _ _=>rfl) (Zal (i:=0) rfl rfl rfl rfl) Zag)) (Zaa rfl (Zeh (Zal (i:=0) rfl rfl rfl rfl) (Zcw Zag) Zco) (Zaa rfl (Zeh (Zal (i:=1) rfl rfl rfl rfl) (Zcw Zag) Zco) Zae)))) (ZfR (i:=3) (j:=4) (k:=5) rfl ZiB.nd rfl (.inl rfl) (.inr rfl) rfl (.inl rfl) (.inr rfl) rfl (.inl rfl) (.inr rfl)) (Zaj (Zba (ZaD (Zch hu) rfl (Zal (i:=3) rfl rfl rfl rfl) (Zaz (fun _ _=>rfl) (Zal (i:=2) rfl rfl rfl rfl) Zag)) (Zaj (Zas (Zap ZdY (hr.mono ZdP) rfl ZaG rfl rfl rfl (Zaa rfl (Zal (i:=4) rfl rfl rfl rfl) (Zaa rfl (Zal (i:=5) rfl rfl rfl rfl) (Zaa rfl (Zeh (Zal (i:=2) rfl rfl rfl rfl) (Zcw Zag) Zco) Zae)))))) Zau))) (Zaj (Zas ZfQ))))))
abbrev ZfJ:List Str:=["one","other"]
theorem Zi2:ZaC ZfJ ["one","other"] (Zac Zbs):=⟨rfl,rfl,rfl,by decide +kernel,rfl,by decide +kernel,by decide +kernel⟩
def Zfx (ZaR:Spw) (ZaK:Spw):GS:=(Zay (Zcm (Zaq ZaR (fun _ _ _=>False) (Zab (Zad 0) (Zab (Zad 1) Zam)))) (ZaF (Zaq ZaK (fun _ _ _=>False) (Zab (Zad 0) (Zab (Zad 1) Zam)))))
theorem Zjy {k:Nat} (T:Tx K mg base a) {Zbc:Nat} {ZaR:Spw} (Zee:Df P w K mg base "check_kinds" Zbc 2 ZaR) (Zd8:Zbc≤k) {Zbl:Nat} {ZaK:Spw} (ZdX:Df P w K mg base "clash_of" Zbl 2 ZaK) (ZdV:Zbl≤k) {f:Addr} {cdv:Value} {A:Around} {outer:List Env} {s:Shared} {H:Hp} {E:XK} (hr:Room k (A.deeper (envOfC "first_clash" (Zac Zbs) s.heap.objs.size f cdv))):Ssm (cxW P w K mg base ZfJ "first_clash" (Zac Zbs) f cdv A outer s H E).nox (fun B=>B=H) (Zax Zbs) (Zfx ZaR ZaK) :=
 have hu:=ZeU hr
 (Zai (ZeD rfl (Zap Zee (hr.mono Zd8) rfl ZaG rfl rfl rfl (Zaa rfl (Zal (i:=0) rfl rfl rfl rfl) (Zaa rfl (Zal (i:=1) rfl rfl rfl rfl) Zae)))) (Zaj (Zas (Zap ZdX (hr.mono ZdV) rfl ZaG rfl rfl rfl (Zaa rfl (Zal (i:=0) rfl rfl rfl rfl) (Zaa rfl (Zal (i:=1) rfl rfl rfl rfl) Zae))))))
abbrev ZkD:List Str:=["one","other","path"]
theorem ZoT:ZaC ZkD ["one","other","path"] (Zac Zdg):=⟨rfl,rfl,rfl,by decide +kernel,rfl,by decide +kernel,by decide +kernel⟩
def ZjJ (ZaR:Spw) (ZaL:Spw):GS:=(Zay (Zcm (Zaq ZaR (fun _ _ _=>False) (Zab (Zad 0) (Zab (Zad 1) Zam)))) (ZaF (Zaq ZaL (fun _ _ _=>False) (Zab (Zad 0) (Zab (Zad 1) (Zab (Zad 2) Zam))))))
theorem Znx {k:Nat} (T:Tx K mg base a) {Zbc:Nat} {ZaR:Spw} (Zee:Df P w K mg base "check_kinds" Zbc 2 ZaR) (Zd8:Zbc≤k) {Zbm:Nat} {ZaL:Spw} (ZdY:Df P w K mg base "clash_at" Zbm 3 ZaL) (ZdP:Zbm≤k) {f:Addr} {cdv:Value} {A:Around} {outer:List Env} {s:Shared} {H:Hp} {E:XK} (hr:Room k (A.deeper (envOfC "clashes" (Zac Zdg) s.heap.objs.size f cdv))):Ssm (cxW P w K mg base ZkD "clashes" (Zac Zdg) f cdv A outer s H E).nox (fun B=>B=H) (Zax Zdg) (ZjJ ZaR ZaL) :=
 have hu:=ZeU hr
 (Zai (ZeD rfl (Zap Zee (hr.mono Zd8) rfl ZaG rfl rfl rfl (Zaa rfl (Zal (i:=0) rfl rfl rfl rfl) (Zaa rfl (Zal (i:=1) rfl rfl rfl rfl) Zae)))) (Zaj (Zas (Zap ZdY (hr.mono ZdP) rfl ZaG rfl rfl rfl (Zaa rfl (Zal (i:=0) rfl rfl rfl rfl) (Zaa rfl (Zal (i:=1) rfl rfl rfl rfl) (Zaa rfl (Zal (i:=2) rfl rfl rfl rfl) Zae)))))))
end
set_option maxHeartbeats 1000000
theorem ZjB:∀ p:List Str,L3.dpL (p.map W.str)=0
 | []=>rfl
 | x::p=>by show max 0 (L3.dpL (p.map W.str))=0;rw [ZjB p];rfl
theorem Zou (p:List Str) (G:Hw):eqF false (pW (some p)) (.tup []) G=some (.bl p.isEmpty):=by
 show (eqW (.tup (p.map W.str)) (.tup []) G).map _=_
 have:eqW (.tup (p.map W.str)) (.tup []) G=some p.isEmpty:=by
  show (if L3.dpL (p.map W.str) < 90 then ZgN (p.map W.str) [] else none)=_
  rw [ZjB,if_pos (by decide)]
  cases p <;> rfl
 rw [this]
 cases p.isEmpty <;> rfl
abbrev Zuq (n:Nat):Spw:=spR (fun (x:Kd×Kd×List Str) ws _=>ws=[x.1.enc,x.2.1.enc,pW (some x.2.2)]∧wg x.1∧wg x.2.1∧x.1.dp≤n) fun x=>.bl (ca n x.1 x.2.1 x.2.2)
abbrev ZxU (n:Nat):Spw:=spR (fun (x:En×En×List Str) ws _=>ws=[x.1.enc,x.2.1.enc,pW (some x.2.2)]∧∀ m k m' k',x.1=.told m k→x.2.1=.told m' k'→wg k∧wg k'∧k.dp≤n) fun x=>.bl (caE (ca n) x.1 x.2.1 x.2.2)
theorem Zrh {f:Kd→Kd→List Str→Bool} {e e':En} {p:List Str} (hf:e.hd="free"∨e'.hd="free"):caE f e e' p=false:=by
 cases e with
 | free=>rfl
 | nope =>
  cases e' with
  | free=>rfl
  | nope=>rfl
  | told m k=>exact absurd (hf.resolve_left (by decide)) (ZcY m).1
 | told m k =>
  cases e' with
  | free=>rfl
  | nope=>exact absurd (hf.resolve_right (by decide)) (ZcY m).1
  | told m' k'=>exact absurd hf (fun z=>z.elim (ZcY m).1 (ZcY m').1)
theorem Zul {f:Kd→Kd→List Str→Bool} {e e':En} {p:List Str} (hf:¬ (e.hd="free"∨e'.hd="free")) (z:¬ e.hd=e'.hd):caE f e e' p=p.isEmpty:=by
 cases e with
 | free=>exact absurd (.inl rfl) hf
 | nope =>
  cases e' with
  | free=>exact absurd (.inr rfl) hf
  | nope=>exact absurd rfl z
  | told m k=>rfl
 | told m k =>
  cases e' with
  | free=>exact absurd (.inr rfl) hf
  | nope=>rfl
  | told m' k' =>
   have:m≠m':=fun q=>z (by rw [q];rfl)
   show (if m=m' then f k k' p else p.isEmpty)=_
   rw [if_neg this]
theorem Zq1 {f:Kd→Kd→List Str→Bool} {m:Bool} {k k':Kd} {p:List Str}:caE f (.told m k) (.told m k') p=f k k' p:=by show (if m=m then f k k' p else p.isEmpty)=_;rw [if_pos rfl]
theorem ZcA (T:Tx K mg base a) {j n:Nat} (D:Df P w K mg base "clash_at" j 3 (Zuq n)):Df P w K mg base "clash_at_name" (j+1) 3 (ZxU n):=by
 refine mk0 T.Zcz rfl Zho Zdj (fun ws G Q E ⟨x,⟨e,_⟩,_⟩=>by rw [e];rfl) (Zhf T D (Nat.le_refl _)) fun ws G Q E hC q=>?_
 obtain ⟨⟨e,e',p⟩,⟨rfl,h⟩,q⟩:=q
 dsimp only at h q
 unfold ZeB
 show Zay (gIf _ _ Zar) _ (ZaW Q) [some e.enc,some e'.enc,some (pW (some p))] G
 refine Zja rfl rfl (Ze0 e G) (Ze0 e' G) ?_
 by_cases hf:e.hd="free"∨e'.hd="free"
 ·rw [if_pos hf]
  rw [Zrh hf] at q
  exact q
 ·rw [if_neg hf]
  refine ZfX rfl rfl (Ze0 e G) (Ze0 e' G) ?_
  by_cases z:e.hd=e'.hd
  ·rw [if_pos z]
   rcases Zll hf z with ⟨rfl,rfl⟩ | ⟨m,k,k',rfl,rfl⟩
   ·simp only [ZaF,Zc3,Zak,Zan,Zad,gC,En.enc,List.getElem?_cons_zero,List.getElem?_cons_succ,ixW,Zb1,Zaf,eqF,eqW,beq_self_eq_true,Option.map_some,bne_self_eq_false,Bool.false_eq_true,if_false,ZaW]
    exact q
   ·obtain ⟨w1,w2,hd⟩:=h m k m k' rfl rfl
    have hm:(Zd1 m=="none")=false:=by simpa using (ZcY m).2.1
    rw [Zq1] at q
    simp only [ZaF,Zc3,Zak,Zan,Zad,gC,En.enc,List.getElem?_cons_zero,List.getElem?_cons_succ,ixW,Zb1,ZcZ,Zaf,eqF,eqW,hm,Option.map_some,show (false != true)=true from rfl,if_true,Zaq,L3.Zab,L3.Zam,ZaW]
    exact ⟨(k,k',p),⟨rfl,w1,w2,hd⟩,q⟩
  ·rw [if_neg z]
   rw [Zul hf z] at q
   simp only [Zak,Zad,L3.Zbb,L3.Zam,Zan,List.getElem?_cons_zero,List.getElem?_cons_succ]
   refine ⟨by decide,?_⟩
   rw [Zou]
   exact q
def atS (n:Nat) (x:Str) (p:List Str):List (Str×Kd×Kd)→Bool
 | []=>false
 | u::us=>if u.1=x then ca n u.2.1 u.2.2 p else atS n x p us
abbrev gAK (sp:Spw):GS:=gIf (gTB (Zak (Zan (eqF false)) (Zad 3) (Zak (Zan ixW) (Zad 2) (gC (.int 0))))) (ZaF (Zaq sp (fun _ _ _=>False) (L3.Zab (Zad 4) (L3.Zab (Zad 5) (L3.Zab (Ze1 (Zad 2) (Zbg (gC (.int 1))) Zaw) L3.Zam))))) Zar
theorem ZpA {n:Nat} {D:Ew} {G:Hw} {w0 w1:Option W} {x:Str} {p:List Str}:∀ (xs:List (Str×Kd×Kd)) (o3 o4 o5:Option W),(∀ u∈xs,wg u.2.1∧wg u.2.2∧u.2.1.dp≤n) →
  D.rt (.bl (atS n x p xs)) G→(atS n x p xs=false→∀ o3 o4 o5,D.nx [w0,w1,some (pW (some (x::p))),o3,o4,o5] G) →
  Zdo yes (Zfp 3 4 5) (gAK (Zuq n)) D (xs.map fun u=>W.tup [.str u.1,u.2.1.enc,u.2.2.enc]) [w0,w1,some (pW (some (x::p))),o3,o4,o5] G
 | [],o3,o4,o5,_,_,h=>⟨trivial,h rfl o3 o4 o5⟩
 | u::xs,o3,o4,o5,hs,hb,h=>by
  refine ⟨trivial,?_⟩
  show gAK (Zuq n) _ [w0,w1,some (pW (some (x::p))),some (.str u.1),some u.2.1.enc,some u.2.2.enc] G
  obtain ⟨h1,h2,h3⟩:=hs u List.mem_cons_self
  simp only [gIf,gTB,Zak,Zan,Zad,gC,pW,List.map_cons,List.getElem?_cons_zero,List.getElem?_cons_succ,ixW,Zb1,Zaf,eqF,eqW,Option.map_some]
  by_cases z:u.1=x
  ·have hz:(u.1==x)=true:=by simp [z]
   simp only [hz,show (true != false)=true from rfl,if_true,ZaF,Zaq,L3.Zab,L3.Zam,Zad,Ze1,Zbg,Zaw,gC,List.getElem?_cons_zero,List.getElem?_cons_succ,slA,Zjz,List.drop_succ_cons,List.drop_zero]
   refine ⟨(u.2.1,u.2.2,p),⟨rfl,h1,h2,h3⟩,?_⟩
   have e:atS n x p (u::xs)=ca n u.2.1 u.2.2 p:=if_pos z
   rw [e] at hb;exact hb
  ·have hz:(u.1==x)=false:=by simpa using z
   have e:atS n x p (u::xs)=atS n x p xs:=if_neg z
   rw [e] at hb h
   simp only [hz,bne_self_eq_false,Bool.false_eq_true,if_false,Zar]
   exact ZpA xs _ _ _ (fun v hv=>hs v (List.mem_cons_of_mem _ hv)) hb h
abbrev gAT (sp:Spw):GS:=Zay (Zel (ZgG (L3.Zab (Zly Zdf (Zak (Zan ixW) (Zad 0) (gC (.int 0)))) (L3.Zab (Ze1 (Zad 0) (Zbg (gC (.int 1))) Zaw) (L3.Zab (Ze1 (Zad 1) (Zbg (gC (.int 1))) Zaw) L3.Zam)))) (Zfp 3 4 5) (gAK sp)) (ZaF (gC (.bl false)))
theorem ZoQ {n:Nat} {k l:Kd} {s t:Str} {G:Hw} {Q:Kw} {x:Str} {p:List Str} (us:List (Str×Kd×Kd)) (e0:k.enc=.tup (.str s::us.map fun u=>u.2.1.enc)) (e1:l.enc=.tup (.str t::us.map fun u=>u.2.2.enc)) (hT:KTD.datumAt s Zdf=some (us.map (·.1))) (hs:∀ u∈us,wg u.2.1∧wg u.2.2∧u.2.1.dp≤n)
  (q:Q (.bl (atS n x p us)) G):gAT (Zuq n) (ZaW Q) [some k.enc,some l.enc,some (pW (some (x::p))),none,none,none] G:=by
 unfold gAT
 rw [e0,e1]
 simp only [Zay,Zel,ZgG,Zly,L3.Zab,L3.Zam,Zak,Zad,gC,Zan,ixW,List.getElem?_cons_zero,List.getElem?_cons_succ,Zb1,Zaf,Ze1,Zbg,Zaw,slA,Zjz,List.drop_succ_cons,List.drop_zero]
 refine ⟨_,hT,_,_,_,rfl,by simp,by simp,?_⟩
 rw [List.map_map]
 have ez:=ZgX (fun u:Str×Kd×Kd=>W.str u.1) (fun u=>u.2.1.enc) (fun u=>u.2.2.enc) us
 rw [show ((W.str∘fun x:Str×Kd×Kd=>x.1))=fun u:Str×Kd×Kd=>W.str u.1 from rfl,ez]
 refine ZpA us none none none hs q (fun z o3 o4 o5=>?_)
 rw [z] at q
 exact q
def caM (n:Nat) (x:Str) (p:List Str):Kd→Kd→Bool
 | .to a b,.to c d=>if "in"=x then ca n a c p else if "out"=x then ca n b d p else false
 | .box a,.box b=>if "inside"=x then ca n a b p else false
 | .row fs o,.row gs q=>caE (ca n) (ent fs o x) (ent gs q x) p
 | _,_=>false
theorem Zwf {n:Nat} {k l:Kd} (hh:k.hd=l.hd):ca (n+1) k l []=false:=if_pos hh
theorem Ztj {n:Nat} {k l:Kd} {x:Str} {p:List Str} (hh:k.hd=l.hd):ca (n+1) k l (x::p)=caM n x p k l:=if_pos hh
theorem Zbm (T:Tx K mg base a):∀ n:Nat,Df P w K mg base "clash_at" (2*n+2) 3 (Zuq n)
 | 0=>Zk7 T.ZdT Zdj fun ws G Q E ⟨x,⟨_,_,_,h⟩,_⟩=>by have:=Zgn x.1;omega
 | n+1=>by
  have D:=Zbm T n
  have DE:=ZcA T D
  refine mk0 (k:=2*n+3) T.ZdT rfl ZiB Zdj (fun ws G Q E ⟨x,⟨e,_⟩,_⟩=>by rw [e];rfl) (Znd T (Zcg T) (by omega) DE (Nat.le_refl _) D (by omega)) fun ws G Q E hC q=>?_
  obtain ⟨⟨k,l,p⟩,⟨rfl,w1,w2,hd⟩,q⟩:=q
  dsimp only at w1 w2 hd q
  unfold Ziq
  show Zay (gIf _ _ Zar) _ (ZaW Q) [some k.enc,some l.enc,some (pW (some p)),none,none,none] G
  refine ZfX rfl rfl (ZbY k G) (ZbY l G) ?_
  by_cases hh:k.hd=l.hd
  ·rw [if_pos hh]
   simp only [Zay,gIf,gTB,Zak,Zad,L3.Zbb,L3.Zam,Zan,List.getElem?_cons_zero,List.getElem?_cons_succ]
   refine ⟨by decide,?_⟩
   rw [Zou,Zaf]
   cases p with
   | nil=>rw [Zwf hh] at q;exact q
   | cons x p =>
    rw [Ztj hh] at q
    simp only [List.isEmpty_cons,Bool.false_eq_true,if_false,Zar]
    refine Zkb (k:=k) rfl ?_
    by_cases hr:k.hd="row"
    ·rw [if_pos hr]
     obtain ⟨fs,o,rfl⟩:=Zix hr
     obtain ⟨gs,p',rfl⟩:=Zix (hh▸hr)
     simp only [Zaq,L3.Zab,L3.Zam,Zak,Zad,gC,Zan,List.getElem?_cons_zero,List.getElem?_cons_succ,pW,List.map_cons,ixW,Zb1,Zaf,Ze1,Zbg,Zaw,slA,Zjz,List.drop_succ_cons,List.drop_zero]
     refine ⟨(fs,o,x),rfl,(gs,p',x),rfl,(ent fs o x,ent gs p' x,p),⟨rfl,fun m k m' k' u1 u2=>?_⟩,q⟩
     have h1:=Zhh u1
     have h2:=Zhh u2
     have hk:=ZaQ (k:=.row fs o) (c:=k) h1
     exact ⟨ZaY w1 h1,ZaY w2 h2,by omega⟩
    ·rw [if_neg hr]
     cases k <;> cases l <;> first | exact absurd hh (by simp only [Kd.hd];decide) | exact absurd rfl hr | skip
     ·exact ZoQ (s:="any") (t:="any") [] rfl rfl rfl (fun u hu=>by cases hu) q
     ·exact ZoQ (s:="num") (t:="num") [] rfl rfl rfl (fun u hu=>by cases hu) q
     ·exact ZoQ (s:="truth") (t:="truth") [] rfl rfl rfl (fun u hu=>by cases hu) q
     ·rename_i a1 a2 b1 b2
      have d1:=ZaQ (k:=.to a1 a2) (c:=a1) (by simp [Kd.kids])
      have d2:=ZaQ (k:=.to a1 a2) (c:=a2) (by simp [Kd.kids])
      refine ZoQ (s:="to") (t:="to") [("in",a1,b1),("out",a2,b2)] rfl rfl rfl (fun u hu=>?_) q
      simp only [List.mem_cons,List.not_mem_nil,or_false] at hu
      rcases hu with rfl | rfl
      ·exact ⟨ZaY w1 (by simp [Kd.kids]),ZaY w2 (by simp [Kd.kids]),by dsimp only;omega⟩
      ·exact ⟨ZaY w1 (by simp [Kd.kids]),ZaY w2 (by simp [Kd.kids]),by dsimp only;omega⟩
     ·rename_i a1 b1
      have d1:=ZaQ (k:=.box a1) (c:=a1) (by simp [Kd.kids])
      refine ZoQ (s:="box") (t:="box") [("inside",a1,b1)] rfl rfl rfl (fun u hu=>?_) q
      simp only [List.mem_cons,List.not_mem_nil,or_false] at hu
      subst hu
      exact ⟨ZaY w1 (by simp [Kd.kids]),ZaY w2 (by simp [Kd.kids]),by dsimp only;omega⟩
  ·rw [if_neg hh]
   have hca:ca (n+1) k l p=(p.isEmpty&&!(k.hd=="any")&&!(l.hd=="any")):=if_neg hh
   rw [hca] at q
   simp only [Zc3,Zak,Zad,L3.Zbb,L3.Zab,L3.Zam,gC,Zan,List.getElem?_cons_zero,List.getElem?_cons_succ]
   refine ⟨by decide,?_⟩
   rw [Zou,Zaf]
   cases he:p.isEmpty with
   | false=>rw [he] at q;exact q
   | true =>
    rw [he] at q
    simp only [if_true]
    rw [ZbY,Zaf,ZbY,Zaf]
    refine ⟨(show 2≤sizeLine by decide),?_⟩
    have ei:inF true (.str "any") (.tup [.str k.hd,.str l.hd]) G=some (.bl (!([k.hd,l.hd].any (·=="any")))):=by
     unfold inF
     show (ZiZ ([k.hd,l.hd].map W.str)).map (fun us=>W.bl (if true=true then !inV (.str "any") us else inV (.str "any") us))=_
     rw [ZeP]
     show some (W.bl (!inV (.str "any") ([k.hd,l.hd].map V.str)))=_
     rw [ZgQ]
    rw [ei,Zaf]
    have:(!([k.hd,l.hd].any (·=="any")))=(true&&!(k.hd=="any")&&!(l.hd=="any")):=by
     simp only [List.any_cons,List.any_nil,Bool.or_false,Bool.not_or,Bool.true_and]
    rw [this];exact q
def kd8 (k:Kd):Prop:=k.ok=true∧Zk1 k=true∧k.thr=true
theorem ZlS {k:Kd} (h:kd8 k):k.dp≤8:=by
 have:=h.2.1
 unfold Zk1 at this
 exact (of_decide_eq_true this).2
abbrev ZwB:Spw:=spR (fun (x:Kd×Kd) ws _=>ws=[x.1.enc,x.2.enc]∧kd8 x.1∧kd8 x.2) fun x=>pW (cl 8 x.1 x.2)
theorem Zc7 (T:Tx K mg base a):Df P w K mg base "first_clash" 27 2 ZwB:=by
 refine mk0 T.Zc2 rfl Zi2 Zdj (fun ws G Q E ⟨x,⟨e,_⟩,_⟩=>by rw [e];rfl) (Zjy T (Zbc T) (by omega) (Zbl T 8 (by omega)) (Nat.le_refl _)) fun ws G Q E hC q=>?_
 obtain ⟨⟨k,l⟩,⟨rfl,h1,h2⟩,q⟩:=q
 dsimp only at h1 h2 q
 unfold Zfx
 walk_at "rd"
 exact ⟨(k,l),⟨rfl,⟨h1.1,h1.2.1⟩,⟨h2.1,h2.2.1⟩⟩,(k,l),⟨rfl,⟨h1.1,h1.2.2⟩,⟨h2.1,h2.2.2⟩,ZlS h1⟩,q⟩
abbrev ZxB:Spw:=spR (fun (x:Kd×Kd×List Str) ws _=>ws=[x.1.enc,x.2.1.enc,pW (some x.2.2)]∧kd8 x.1∧kd8 x.2.1) fun x=>.bl (ca 8 x.1 x.2.1 x.2.2)
theorem ZfG (T:Tx K mg base a):Df P w K mg base "clashes" 19 3 ZxB:=by
 refine mk0 T.ZfL rfl ZoT Zdj (fun ws G Q E ⟨x,⟨e,_⟩,_⟩=>by rw [e];rfl) (Znx T (Zbc T) (by omega) (Zbm T 8) (by omega)) fun ws G Q E hC q=>?_
 obtain ⟨⟨k,l,p⟩,⟨rfl,h1,h2⟩,q⟩:=q
 dsimp only at h1 h2 q
 unfold ZjJ
 walk_at "rd"
 exact ⟨(k,l),⟨rfl,⟨h1.1,h1.2.1⟩,⟨h2.1,h2.2.1⟩⟩,(k,l,p),⟨rfl,⟨h1.1,h1.2.2⟩,⟨h2.1,h2.2.2⟩,ZlS h1⟩,q⟩
theorem Zep {G:Hw} {p:Addr} {xs:List W} (h:G p=some (.lst xs)):rdL G (.ref p)=some xs:=by unfold rdL;dsimp only;rw [h]
theorem ZoW (k:Kd):∃ b,eqD k.enc (.tup [.str "any"])=some b∧(b=true↔k=.any):=by
 obtain ⟨b,e,i⟩:=plD k.enc Kd.any.enc (ZiL k) (ZiL .any)
 exact ⟨b,e,i.trans ⟨ZhK,fun z=>by rw [z]⟩⟩
theorem ZxE {k:Kd} (hd:k.dp≤20):dpW k.enc < 90:=by have:=ZiM k;omega
theorem Zn9 {k l:Kd} {e:GE} {Zck:GS} {D:Ew} {ω:Sw} {G:Hw} (hk:k.dp≤20) (hl:l.dp≤20) (h0:ω[0]?=some (some k.enc)) (h1:ω[1]?=some (some l.enc)) (h:∀ p,G p=none→k=.any∨l=.any→e ω (put G p (.lst [k.enc,l.enc])) D.rt) (h':∀ p,G p=none→¬ (k=.any∨l=.any)→Zck D ω (put G p (.lst [k.enc,l.enc]))) :
  Zay (gIf (gTB (Zak (Zan inT) (L3.Zbb (L3.Zab (gC (.str "any")) L3.Zam)) (Zcn (L3.Zab (Zad 0) (L3.Zab (Zad 1) L3.Zam))))) (ZaF e) Zar) Zck D ω G:=by
 obtain ⟨b,eb,ib⟩:=ZoW k
 obtain ⟨c,ec,ic⟩:=ZoW l
 simp only [Zay,gIf,gTB,Zak,Zan,Zad,h0,h1,gC,L3.Zbb,Zcn,L3.Zab,L3.Zam,ZaF,Zar]
 refine ⟨by decide,(show 2≤sizeLine by decide),fun p hp=>?_⟩
 have ei:inT (.tup [.str "any"]) (.ref p) (put G p (.lst [k.enc,l.enc]))=some (.bl (b||(c||false))):=by
  unfold inT
  rw [Zep Zah,Option.bind_some]
  simp only [ZqL,ZxE hk,ZxE hl,if_true,eb,ec,Option.map_some]
 rw [ei,Zaf]
 by_cases z:k=.any∨l=.any
 ·have:(b||(c||false))=true:=by
   rcases z with z | z
   ·rw [ib.mpr z];rfl
   ·rw [ic.mpr z];cases b <;> rfl
  rw [this];exact h p hp z
 ·have hb:b=false:=by cases b with | false=>rfl | true=>exact absurd (.inl (ib.mp rfl)) z
  have hc:c=false:=by cases c with | false=>rfl | true=>exact absurd (.inr (ic.mp rfl)) z
  rw [hb,hc];exact h' p hp z
theorem Zp7 (e:En):eqD e.enc (.tup [.str "free"])=some (e.hd=="free"):=by
 cases e with
 | free=>show some (("free":Str)=="free"&&true)=_;rw [Bool.and_true];rfl
 | nope=>show some (("none":Str)=="free"&&true)=_;rw [Bool.and_true];rfl
 | told m k =>
  show (match some (Zd1 m=="free"),some false with | some a,some b=>some (a&&b) | _,_=>none)=some (Zd1 m=="free")
  have:(Zd1 m=="free")=false:=by cases m <;> decide +kernel
  rw [this];rfl
def ZtT:En→Nat
 | .told _ k=>k.dp
 | _=>1
theorem ZxI {e:En} (h:ZtT e≤20):dpW e.enc < 90:=by
 cases e with
 | free=>decide
 | nope=>decide
 | told m k =>
  have:=ZiM k
  have h':k.dp≤20:=h
  show max 0 (max (dpW k.enc) 0)+1 < 90
  omega
theorem ZpK {i j:Nat} {x y:W} {s t:Str} {e:GE} {Zck:GS} {D:Ew} {ω:Sw} {G:Hw} (h0:ω[i]?=some (some x)) (h1:ω[j]?=some (some y)) (e0:ixW x (.int 0) G=some (.str s)) (e1:ixW y (.int 0) G=some (.str t)) (h:if s=t then Zck D ω G else e ω G D.rt) :
  Zay (gIf (gTB (Zak (Zan (eqF true)) (Zak (Zan ixW) (Zad i) (gC (.int 0))) (Zak (Zan ixW) (Zad j) (gC (.int 0))))) (ZaF e) Zar) Zck D ω G:=by
 simp only [Zay,gIf,gTB,Zak,Zan,Zad,h0,h1,gC,ZaF,Zar]
 rw [e0,Zaf,e1,Zaf]
 simp only [eqF,eqW,Option.map_some,Zaf]
 by_cases z:s=t
 ·rw [if_pos z] at h
  have:(s==t)=true:=by simp [z]
  simp only [this,bne_self_eq_false,Bool.false_eq_true,if_false]
  exact h
 ·rw [if_neg z] at h
  have:(s==t)=false:=by simp [z]
  simp only [this,show (false != true)=true from rfl,if_true]
  exact h
abbrev ZsV (n:Nat):Spw:=spR (fun (x:Kd×Kd) ws _=>ws=[x.1.enc,x.2.enc]∧wg x.1∧wg x.2∧x.1.dp≤n∧x.2.dp≤20) fun x=>pW (cl n x.1 x.2)
abbrev gLB (sp:Spw):GS:=gIf (gTB (Zak (Zan ZtW) (L3.Zbb (L3.Zab (gC (.str "free")) L3.Zam)) (Zcn (L3.Zab (Zad 3) (L3.Zab (Zad 4) L3.Zam))))) (Zay (gIf (gTB (Zak (Zan (eqF true)) (Zak (Zan ixW) (Zad 3) (gC (.int 0))) (Zak (Zan ixW) (Zad 4) (gC (.int 0))))) (ZaF (L3.Zbb (L3.Zab (Zad 2) L3.Zam))) Zar) (Zay (Zbn 8 (Zaq sp (fun _ _ _=>False) (L3.Zab (Zak (Zan ixW) (Zad 3) (gC (.int 1))) (L3.Zab (Zak (Zan ixW) (Zad 4) (gC (.int 1))) L3.Zam)))) (gIf (gTB (Zak (Zan (isF true)) (Zad 8) (gC .non))) (ZaF (Zak (ZgL) (L3.Zbb (L3.Zab (Zad 2) L3.Zam)) (Zad 8))) Zar))) Zar
theorem Zpm {n:Nat} {D:Ew} {pp:Addr} {L:List W} {w0 w1 w5 w6 w7:Option W} (hn:n≤20):∀ (us:List (Str×En×En)) (o2 o3 o4 o8:Option W) (G:Hw),G pp=some (.lst L)→(∀ u∈us,ZtT u.2.1≤20∧ZtT u.2.2≤20∧¬ (u.2.1=.nope∧u.2.2=.nope)∧∀ m k m' k',u.2.1=.told m k→u.2.2=.told m' k'→wg k∧wg k'∧k.dp≤n∧k'.dp≤20) →
  (∀ q G',Sub G G'→ZiC (us.map fun u=>(u.1,clE (cl n) u.2.1 u.2.2))=some q→D.rt (pW (some q)) G')→(∀ G' o2 o3 o4 o8,Sub G G'→ZiC (us.map fun u=>(u.1,clE (cl n) u.2.1 u.2.2))=none→D.nx [w0,w1,o2,o3,o4,w5,w6,w7,o8] G') →
  Zdo (holds pp L) (Zfp 2 3 4) (gLB (ZsV n)) D (us.map fun u=>W.tup [.str u.1,u.2.1.enc,u.2.2.enc]) [w0,w1,o2,o3,o4,w5,w6,w7,o8] G
 | [],o2,o3,o4,o8,G,hp,_,_,h=>⟨hp,h G o2 o3 o4 o8 .refl rfl⟩
 | (x,e,e')::us,o2,o3,o4,o8,G,hp,hs,hb,h=>by
  refine ⟨hp,?_⟩
  show gLB (ZsV n) _ [w0,w1,some (.str x),some e.enc,some e'.enc,w5,w6,w7,o8] G
  obtain ⟨d1,d2,hno,hk⟩:=hs _ List.mem_cons_self
  dsimp only at d1 d2 hno hk
  unfold gLB
  simp only [gIf,gTB,Zak,Zan,Zad,gC,L3.Zbb,Zcn,L3.Zab,L3.Zam,List.getElem?_cons_zero,List.getElem?_cons_succ]
  refine ⟨by decide,(show 2≤sizeLine by decide),fun p0 h0=>?_⟩
  have ei:ZtW (.tup [.str "free"]) (.ref p0) (put G p0 (.lst [e.enc,e'.enc]))=some (.bl (!((e.hd=="free")||((e'.hd=="free")||false)))):=by
   unfold ZtW
   rw [Zep Zah,Option.bind_some]
   simp only [ZqL,ZxI d1,ZxI d2,if_true,Zp7,Option.map_some]
  rw [ei,Zaf]
  have hs0:Sub G (put G p0 (.lst [e.enc,e'.enc])):=Zbk h0
  have hp':put G p0 (.lst [e.enc,e'.enc]) pp=some (.lst L):=hs0 _ _ hp
  generalize put G p0 (.lst [e.enc,e'.enc])=G1 at hs0 hp' ⊢
  have again:clE (cl n) e e'=none→∀ o2 o3 o4 o8,Zdo (holds pp L) (Zfp 2 3 4) (gLB (ZsV n)) D (us.map fun u=>W.tup [.str u.1,u.2.1.enc,u.2.2.enc]) [w0,w1,o2,o3,o4,w5,w6,w7,o8] G1:=fun hc o2 o3 o4 o8 =>
   Zpm hn us o2 o3 o4 o8 G1 hp' (fun u hu=>hs u (List.mem_cons_of_mem _ hu)) (fun q G' s z=>hb q G' (hs0.trans s) (by rw [List.map_cons,hc];exact z)) (fun G' p2 p3 p4 p8 s z=>h G' p2 p3 p4 p8 (hs0.trans s) (by rw [List.map_cons,hc];exact z))
  by_cases hf:e.hd="free"∨e'.hd="free"
  ·have:(!((e.hd=="free")||((e'.hd=="free")||false)))=false:=by rcases hf with z | z <;> simp [z]
   rw [this]
   simp only [Bool.false_eq_true,if_false,Zar]
   exact again (ZlT hf) _ _ _ _
  ·have:(!((e.hd=="free")||((e'.hd=="free")||false)))=true:=by
    simp only [not_or] at hf
    simp [hf.1,hf.2]
   rw [this]
   simp only [if_true]
   show Zay (gIf (gTB (Zak (Zan (eqF true)) (Zak (Zan ixW) (Zad 3) (gC (.int 0))) (Zak (Zan ixW) (Zad 4) (gC (.int 0))))) (ZaF _) Zar) _ _ [w0,w1,some (.str x),some e.enc,some e'.enc,w5,w6,w7,o8] G1
   refine ZpK (i:=3) (j:=4) rfl rfl (Ze0 e G1) (Ze0 e' G1) ?_
   by_cases z:e.hd=e'.hd
   ·rw [if_pos z]
    rcases Zll hf z with ⟨rfl,rfl⟩ | ⟨m,k,k',rfl,rfl⟩
    ·exact absurd ⟨rfl,rfl⟩ hno
    ·obtain ⟨g1,g2,g3,g4⟩:=hk m k m k' rfl rfl
     simp only [Zay,Zbn,Zaq,L3.Zab,L3.Zam,Zak,Zad,gC,Zan,En.enc,List.getElem?_cons_zero,List.getElem?_cons_succ,ixW,ZcZ,Zaf]
     refine ⟨(k,k'),⟨rfl,g1,g2,g3,g4⟩,?_⟩
     simp only [gIf,gTB,Zak,Zan,Zad,gC,List.set_cons_zero,List.set_cons_succ,List.getElem?_cons_zero,List.getElem?_cons_succ,isF,Zaf]
     cases hc:cl n k k' with
     | none=>exact again (by rw [Zfy];exact hc) _ _ _ _
     | some q =>
      simp only [pW,Zi8,show (false != true)=true from rfl,if_true,ZaF,Zak,Zad,L3.Zbb,L3.Zab,L3.Zam,List.getElem?_cons_zero,List.getElem?_cons_succ]
      refine ⟨(show 1≤sizeLine by decide),?_⟩
      rw [Zb3]
      have hl:=ZhF n _ _ _ hc
      refine ⟨by simp only [List.length_cons,List.length_nil,List.length_map];exact Za8 (by omega),?_⟩
      exact hb (x::q) G1 hs0 (by rw [List.map_cons,Zfy,hc];rfl)
   ·rw [if_neg z]
    exact ⟨(show 1≤sizeLine by decide),hb [x] G1 hs0 (by rw [List.map_cons,ZrO hf z];rfl)⟩
theorem Zow {k:Kd} {B B' Zck:GS} {D:Ew} {ω:Sw} {G:Hw} (h1:ω[0]?=some (some k.enc)) (h:if k.hd="row" then B { D with nx:=Zck D } ω G else B' { D with nx:=Zck D } ω G) :
  Zay (gIf (gTB (Zak (Zan (eqF false)) (Zak (Zan ixW) (Zad 0) (gC (.int 0))) (gC (.str "row")))) B B') Zck D ω G:=by
 simp only [Zay,gIf,gTB,Zak,Zan,Zad,h1,gC]
 rw [ZbY]
 simp only [Zaf,eqF,eqW,Option.map_some]
 by_cases z:k.hd="row"
 ·rw [if_pos z] at h
  simp only [z,beq_self_eq_true,show (true != false)=true from rfl,if_true]
  exact h
 ·rw [if_neg z] at h
  have:(k.hd=="row")=false:=by simpa using z
  simp only [this,bne_self_eq_false,Bool.false_eq_true,if_false]
  exact h
theorem ZtE {n:Nat} {k l:Kd} (h:k=.any∨l=.any):cl (n+1) k l=none:=by
 rcases h with rfl | rfl
 ·rfl
 ·cases k <;> rfl
theorem Znq {n:Nat} {k l:Kd} {G G':Hw} {Q:Kw} {pp:Addr} {w5 w7:Option W} (us:List (Str×En×En)) (hn:n≤20) (hC:Kw.C Q) (hsub:Sub G G') (hp:G' pp=some (.lst (us.map fun u=>W.tup [.str u.1,u.2.1.enc,u.2.2.enc]))) (hs:∀ u∈us,ZtT u.2.1≤20∧ZtT u.2.2≤20∧¬ (u.2.1=.nope∧u.2.2=.nope)∧∀ m k m' k',u.2.1=.told m k→u.2.2=.told m' k'→wg k∧wg k'∧k.dp≤n∧k'.dp≤20)
  (q:Q (pW (ZiC (us.map fun u=>(u.1,clE (cl n) u.2.1 u.2.2)))) G):Zay (Zel (ZcV (Zad 6)) (Zfp 2 3 4) (gLB (ZsV n))) (ZaF (gC .non)) (ZaW Q) [some k.enc,some l.enc,none,none,none,w5,some (.ref pp),w7,none] G':=by
 simp only [Zay,Zel,ZcV,Zad,List.getElem?_cons_zero,List.getElem?_cons_succ,hp]
 refine Zpm hn us none none none none G' hp hs (fun u G2 s z=>?_) (fun G2 o2 o3 o4 o8 s z=>?_)
 ·rw [z] at q
  exact hC _ _ _ (hsub.trans s) q
 ·rw [z] at q
  exact hC _ _ _ (hsub.trans s) q
theorem ZrA {α:Type} {e1 e2 e3 f:α→W} {gd:Hw→Prop} {ge:GE} {R:List W→Hw→Prop} {G:Hw} (hgd:gd G):∀ (l:List α) (o o' o'':Option W) (ys:List W),(∀ x∈l,∀ Q:Kw,Q (f x) G→ge [some (e1 x),some (e2 x),some (e3 x)] G Q) →
  ys.length+l.length≤sizeLine→R (ys++l.map f) G→Zb4 gd (Zfp 0 1 2) ZfY ge R (l.map fun x=>W.tup [e1 x,e2 x,e3 x]) [o,o',o''] G ys
 | [],o,o',o'',ys,_,_,r=>⟨hgd,by simpa using r⟩
 | x::l,o,o',o'',ys,h,hl,r=>by
  refine ⟨hgd,by simp only [List.length_cons] at hl;omega,?_⟩
  show ge [some (e1 x),some (e2 x),some (e3 x)] G fun y G3=>Zb4 gd (Zfp 0 1 2) ZfY ge R (l.map fun x=>W.tup [e1 x,e2 x,e3 x]) [some (e1 x),some (e2 x),some (e3 x)] G3 (ys++[y])
  refine h x List.mem_cons_self _ (ZrA hgd l _ _ _ (ys++[f x]) (fun y hy=>h y (List.mem_cons_of_mem _ hy)) ?_ ?_)
  ·simp only [List.length_append,List.length_cons,List.length_nil] at hl ⊢;omega
  ·simpa [List.append_assoc] using r
abbrev gLT (sp:Spw):GS:=Zay (Zel (ZcV (Zad 6)) (Zfp 2 3 4) (gLB sp)) (ZaF (gC .non))
abbrev gLK:GS:=Zay (Zbn 7 (Zak (Zan ixW) (Zcn (L3.Zab (Zcn (L3.Zab (gC (.str "inside")) L3.Zam)) (L3.Zab (Zcn (L3.Zab (gC (.str "in")) (L3.Zab (gC (.str "out")) L3.Zam))) L3.Zam))) (gB (rF Zk2) (L3.Zab (Zak (Zan (eqF false)) (Zak (Zan ixW) (Zad 0) (gC (.int 0))) (gC (.str "to"))) L3.Zam)))) (Zbn 6 (Zcl (Zkh (L3.Zab (Zad 7) (L3.Zab (Ze1 (Zad 0) (Zbg (gC (.int 1))) Zaw) (L3.Zab (Ze1 (Zad 1) (Zbg (gC (.int 1))) Zaw) L3.Zam)))) 3 [] (Zfp 0 1 2) ZfY (L3.Zbb (L3.Zab (Zad 0) (L3.Zab (L3.Zbb (L3.Zab (gC (.str "must")) (L3.Zab (Zad 1) L3.Zam))) (L3.Zab (L3.Zbb (L3.Zab (gC (.str "must")) (L3.Zab (Zad 2) L3.Zam))) L3.Zam))))))
theorem Zmt:∀ (us:List (Str×Kd×Kd)) (r:List Str),ZeA ((us.map (·.1)++r).map W.str) (us.map fun u=>u.2.1.enc) (us.map fun u=>u.2.2.enc)=us.map fun u=>W.tup [.str u.1,u.2.1.enc,u.2.2.enc]
 | [],r=>by cases r <;> rfl
 | u::us,r=>by show _::ZeA ((us.map (·.1)++r).map W.str) (us.map fun u=>u.2.1.enc) (us.map fun u=>u.2.2.enc)=_::_;rw [Zmt us r]
theorem Zrd {n:Nat} {k l:Kd} {s t:Str} {G G':Hw} {Q:Kw} (us:List (Str×Kd×Kd)) (hn:n≤20) (hC:Kw.C Q) (hsub:Sub G G') (e0:k.enc=.tup (.str s::us.map fun u=>u.2.1.enc)) (e1:l.enc=.tup (.str t::us.map fun u=>u.2.2.enc)) (hT:∃ r,(if s="to" then (["in","out"]:List Str) else ["inside"])=us.map (·.1)++r) (hl:us.length≤2) (hs:∀ u∈us,wg u.2.1∧wg u.2.2∧u.2.1.dp≤n∧u.2.2.dp≤20)
  (q:Q (pW (ZiC (us.map fun u=>(u.1,cl n u.2.1 u.2.2)))) G):gLK { ZaW Q with nx:=gLT (ZsV n) (ZaW Q) } [some k.enc,some l.enc,none,none,none,none,none,none,none] G':=by
 obtain ⟨r,hT⟩:=hT
 have ek:ixW k.enc (.int 0)=fun _=>some (.str s):=by rw [e0];funext G;exact Zb1
 simp only [gLK,Zay,Zbn,Zak,Zan,Zcn,L3.Zab,L3.Zam,gC]
 refine ⟨(show 1≤sizeLine by decide),fun p1 h1=>⟨(show 2≤sizeLine by decide),fun p2 h2=>⟨(show 2≤sizeLine by decide),fun p3 h3=>?_⟩⟩⟩
 simp only [gB,rF,L3.Zab,L3.Zam,Zak,Zan,gC,Zad,List.getElem?_cons_zero,List.getElem?_cons_succ,ek,Zaf,eqF,eqW,Option.map_some,Zk2]
 have s3:Sub G' (put (put (put G' p1 (.lst [.str "inside"])) p2 (.lst [.str "in",.str "out"])) p3 (.lst [.ref p1,.ref p2])):=ZbA (ZbA (Zbk h1) h2) h3
 have g2:put (put (put G' p1 (.lst [.str "inside"])) p2 (.lst [.str "in",.str "out"])) p3 (.lst [.ref p1,.ref p2]) p2=some (.lst [.str "in",.str "out"]):=by rw [Zao (ZaB Zah h3)];exact Zah
 have g1:put (put (put G' p1 (.lst [.str "inside"])) p2 (.lst [.str "in",.str "out"])) p3 (.lst [.ref p1,.ref p2]) p1=some (.lst [.str "inside"]):=(ZbA (Zbk h2) h3) _ _ Zah
 have g3:put (put (put G' p1 (.lst [.str "inside"])) p2 (.lst [.str "in",.str "out"])) p3 (.lst [.ref p1,.ref p2]) p3=some (.lst [.ref p1,.ref p2]):=Zah
 generalize put (put (put G' p1 (.lst [.str "inside"])) p2 (.lst [.str "in",.str "out"])) p3 (.lst [.ref p1,.ref p2])=G3 at s3 g1 g2 g3 ⊢
 obtain ⟨ps,eps,gps⟩:∃ ps,ixW (.ref p3) (.int (if ((s=="to") != false)=true then 1 else 0)) G3=some (.ref ps)∧G3 ps=some (.lst ((us.map (·.1)++r).map W.str)):=by
  rw [← hT]
  by_cases z:s="to"
  ·refine ⟨p2,?_,?_⟩
   ·rw [Zmk g3];simp only [z,beq_self_eq_true,show (true != false)=true from rfl,if_true];exact ZcZ
   ·rw [if_pos z];exact g2
  ·have hz:(s=="to")=false:=by simpa using z
   refine ⟨p1,?_,?_⟩
   ·rw [Zmk g3];simp only [hz,bne_self_eq_false,Bool.false_eq_true,if_false];exact Zb1
   ·rw [if_neg z];exact g1
 rw [eps,Zaf]
 simp only [Zcl,Zkh,L3.Zab,L3.Zam,Zad,List.set_cons_zero,List.set_cons_succ,List.getElem?_cons_zero,List.getElem?_cons_succ,Ze1,Zbg,Zaw,gC,e0,e1,slA,Zjz,List.drop_succ_cons,List.drop_zero]
 refine ⟨_,_,_,_,rfl,Zep gps,by simp,by simp,?_⟩
 have ez:ZeA ((us.map (·.1)++r).map W.str) (us.map fun u=>u.2.1.enc) (us.map fun u=>u.2.2.enc)=us.map fun u=>W.tup [.str u.1,u.2.1.enc,u.2.2.enc]:=Zmt us r
 rw [ez]
 refine ZrA (α:=Str×Kd×Kd) (e1:=fun u=>.str u.1) (e2:=fun u=>u.2.1.enc) (e3:=fun u=>u.2.2.enc) (f:=fun u=>.tup [.str u.1,(En.told true u.2.1).enc,(En.told true u.2.2).enc]) (Zep gps) us none none none [] (fun u hu Q' q'=>?_) (by simp only [List.length_nil];exact Za8 (by omega)) fun p4 h4=>?_
 ·simp only [L3.Zbb,L3.Zab,L3.Zam,Zad,gC,List.getElem?_cons_zero,List.getElem?_cons_succ]
  exact ⟨(show 2≤sizeLine by decide),(show 2≤sizeLine by decide),(show 3≤sizeLine by decide),q'⟩
 ·simp only [List.nil_append,List.set_cons_zero,List.set_cons_succ]
  have hu:(us.map fun u:Str×Kd×Kd=>W.tup [.str u.1,(En.told true u.2.1).enc,(En.told true u.2.2).enc])=(us.map fun u=>(u.1,En.told true u.2.1,En.told true u.2.2)).map fun u=>W.tup [.str u.1,u.2.1.enc,u.2.2.enc]:=by rw [List.map_map];rfl
  rw [← e0,← e1]
  refine Znq (n:=n) (us.map fun u=>(u.1,En.told true u.2.1,En.told true u.2.2)) hn hC ((hsub.trans s3).trans (Zbk h4)) (by rw [Zah,hu]) (fun v hv=>?_) ?_
  ·obtain ⟨u,hu,rfl⟩:=List.mem_map.mp hv
   obtain ⟨g1,g2,g3,g4⟩:=hs u hu
   refine ⟨Nat.le_trans g3 hn,g4,fun z=>(by cases z.1),fun m k m' k' z z'=>?_⟩
   cases z;cases z'
   exact ⟨g1,g2,g3,g4⟩
  ·rw [List.map_map]
   have:((fun u:Str×En×En=>(u.1,clE (cl n) u.2.1 u.2.2))∘fun u:Str×Kd×Kd=>(u.1,En.told true u.2.1,En.told true u.2.2))=fun u=>(u.1,cl n u.2.1 u.2.2):=by funext u;show (u.1,clE _ _ _)=_;rw [Zfy]
   rw [this];exact q
theorem ZuO {fs:Fs} {o:Bool} {x:Str} (h:(Kd.row fs o).dp≤20):ZtT (ent fs o x)≤20:=by
 cases e:ent fs o x with
 | free=>decide
 | nope=>decide
 | told m k =>
  have hk:=ZaQ (k:=.row fs o) (c:=k) (Zhh e)
  show k.dp≤20
  omega
theorem Zbp (T:Tx K mg base a):∀ n:Nat,n≤20→Df P w K mg base "_law_clash" (n+1) 2 (ZsV n)
 | 0,_=>Zk7 T.ZcW Zdj fun ws G Q E ⟨x,⟨_,_,_,h,_⟩,_⟩=>by have:=Zgn x.1;omega
 | n+1,hn=>by
  have D:=Zbp T n (by omega)
  refine mk0 (k:=n+1) T.ZcW rfl ZbM Zdj (fun ws G Q E ⟨x,⟨e,_⟩,_⟩=>by rw [e];rfl) (Zkz T (ZdC T) (by omega) (ZcS T) (by omega) D (Nat.le_refl _)) fun ws G Q E hC q=>?_
  obtain ⟨⟨k,l⟩,⟨rfl,w1,w2,hd,hd2⟩,q⟩:=q
  dsimp only at w1 w2 hd hd2 q
  unfold ZgJ
  show Zay (gIf _ _ Zar) _ (ZaW Q) [some k.enc,some l.enc,none,none,none,none,none,none,none] G
  refine Zn9 (k:=k) (l:=l) (by omega) hd2 rfl rfl (fun p0 h0 z=>?_) (fun p0 h0 z=>?_)
  ·rw [ZtE z] at q
   exact hC _ _ _ (Zbk h0) q
  have s0:Sub G (put G p0 (.lst [k.enc,l.enc])):=Zbk h0
  generalize put G p0 (.lst [k.enc,l.enc])=G1 at s0 ⊢
  refine ZfX rfl rfl (ZbY k G1) (ZbY l G1) ?_
  by_cases hh:k.hd=l.hd
  ·rw [if_pos hh]
   refine Zow (k:=k) rfl ?_
   by_cases hr:k.hd="row"
   ·rw [if_pos hr]
    obtain ⟨fs,o,rfl⟩:=Zix hr
    obtain ⟨gs,p,rfl⟩:=Zix (hh▸hr)
    simp only [Zay,Zbn,Zaq,L3.Zab,L3.Zam,Zad,List.getElem?_cons_zero,List.getElem?_cons_succ]
    refine ⟨fs,gs,o,p,rfl,ZdA w1,ZdA w2,fun zs r z1 z2 z3 z4=>?_⟩
    have hz:=ZoD z1 z2 z3
    have hlen:zs.length≤100:=by
     have hsub:zs.length≤(fs.names++gs.names).length:=Zcx z1 fun x hx=>List.mem_append.mpr ((z3 x).mp hx)
     have n1:=ZdA w1
     have n2:=ZdA w2
     rw [List.length_append] at hsub
     omega
    have nd1:fs.names.Nodup:=(Zie w1.1).1.imp fun z e=>by subst e;rw [ZgE] at z;cases z
    have nd2:gs.names.Nodup:=(Zie w2.1).1.imp fun z e=>by subst e;rw [ZgE] at z;cases z
    simp only [List.set_cons_zero,List.set_cons_succ,Zwr,L3.Zab,L3.Zam,Zad,Zaq,List.getElem?_cons_zero,List.getElem?_cons_succ]
    have s1:Sub G (put G1 r (.lst (zs.map W.str))):=ZbA s0 z4
    have gr:put G1 r (.lst (zs.map W.str)) r=some (.lst (zs.map W.str)):=Zah
    generalize put G1 r (.lst (zs.map W.str))=G2 at s1 gr ⊢
    refine ⟨(fs,o,r,zs),⟨rfl,gr,nd1,ZdA w1,hlen⟩,fun p1 hp1=>?_⟩
    have nr1:r≠p1:=ZaB gr hp1
    refine ⟨(gs,p,r,zs),⟨rfl,by dsimp only;rw [Zao nr1];exact gr,nd2,ZdA w2,hlen⟩,fun p2 hp2=>?_⟩
    have k1:put G2 p1 (.lst (zs.map fun z=>(ent fs o z).enc)) r=some (.lst (zs.map W.str)):=by rw [Zao nr1];exact gr
    have nr2:r≠p2:=ZaB k1 hp2
    have n12:p1≠p2:=ZaB Zah hp2
    have s2:Sub G (put (put G2 p1 (.lst (zs.map fun z=>(ent fs o z).enc))) p2 (.lst (zs.map fun z=>(ent gs p z).enc))):=ZbA (ZbA s1 hp1) hp2
    have e0:put (put G2 p1 (.lst (zs.map fun z=>(ent fs o z).enc))) p2 (.lst (zs.map fun z=>(ent gs p z).enc)) r=some (.lst (zs.map W.str)):=by rw [Zao nr2];exact k1
    have e1:put (put G2 p1 (.lst (zs.map fun z=>(ent fs o z).enc))) p2 (.lst (zs.map fun z=>(ent gs p z).enc)) p1=some (.lst (zs.map fun z=>(ent fs o z).enc)):=by rw [Zao n12];exact Zah
    have e2:put (put G2 p1 (.lst (zs.map fun z=>(ent fs o z).enc))) p2 (.lst (zs.map fun z=>(ent gs p z).enc)) p2=some (.lst (zs.map fun z=>(ent gs p z).enc)):=Zah
    dsimp only
    generalize put (put G2 p1 (.lst (zs.map fun z=>(ent fs o z).enc))) p2 (.lst (zs.map fun z=>(ent gs p z).enc))=G3 at s2 e0 e1 e2 ⊢
    refine ⟨.ref r,.ref p1,.ref p2,_,_,_,rfl,Zep e0,Zep e1,Zep e2,by rw [List.length_map,List.length_map],by rw [List.length_map,List.length_map],fun p3 hp3=>?_⟩
    rw [ZgX W.str (fun z=>(ent fs o z).enc) fun z=>(ent gs p z).enc]
    have hu:(zs.map fun x=>W.tup [W.str x,(ent fs o x).enc,(ent gs p x).enc])=(zs.map fun x=>(x,ent fs o x,ent gs p x)).map fun u=>W.tup [.str u.1,u.2.1.enc,u.2.2.enc]:=by rw [List.map_map];rfl
    rw [hu]
    refine Znq (n:=n) (zs.map fun x=>(x,ent fs o x,ent gs p x)) (by omega) hC (ZbA s2 hp3) Zah (fun v hv=>?_) ?_
    ·obtain ⟨x,hx,rfl⟩:=List.mem_map.mp hv
     refine ⟨ZuO (by omega),ZuO hd2,fun z=>?_,fun m k m' k' u1 u2=>?_⟩
     ·dsimp only at z
      rcases (z3 x).mp hx with h | h
      ·obtain ⟨m,k,e,_⟩:=Zmj (o:=o) h;rw [z.1] at e;cases e
      ·obtain ⟨m,k,e,_⟩:=Zmj (o:=p) h;rw [z.2] at e;cases e
     ·have h1:=Zhh u1
      have h2:=Zhh u2
      have hk:=ZaQ (k:=.row fs o) (c:=k) h1
      have hk2:=ZaQ (k:=.row gs p) (c:=k') h2
      exact ⟨ZaY w1 h1,ZaY w2 h2,by omega,by omega⟩
    ·rw [List.map_map]
     rw [hz];exact q
   ·rw [if_neg hr]
    cases k <;> cases l <;> first | exact absurd hh (by simp only [Kd.hd];decide) | exact absurd rfl hr | exact absurd (.inl rfl) z | skip
    ·exact Zrd (n:=n) (s:="num") (t:="num") [] (by omega) hC s0 rfl rfl ⟨_,rfl⟩ (by decide) (fun u hu=>by cases hu) q
    ·exact Zrd (n:=n) (s:="truth") (t:="truth") [] (by omega) hC s0 rfl rfl ⟨_,rfl⟩ (by decide) (fun u hu=>by cases hu) q
    ·rename_i a1 a2 b1 b2
     have d1:=ZaQ (k:=.to a1 a2) (c:=a1) (by simp [Kd.kids])
     have d2:=ZaQ (k:=.to a1 a2) (c:=a2) (by simp [Kd.kids])
     have d3:=ZaQ (k:=.to b1 b2) (c:=b1) (by simp [Kd.kids])
     have d4:=ZaQ (k:=.to b1 b2) (c:=b2) (by simp [Kd.kids])
     refine Zrd (n:=n) (s:="to") (t:="to") [("in",a1,b1),("out",a2,b2)] (by omega) hC s0 rfl rfl ⟨[],rfl⟩ (by simp) (fun u hu=>?_) q
     simp only [List.mem_cons,List.not_mem_nil,or_false] at hu
     rcases hu with rfl | rfl
     ·exact ⟨ZaY w1 (by simp [Kd.kids]),ZaY w2 (by simp [Kd.kids]),by dsimp only;omega,by dsimp only;omega⟩
     ·exact ⟨ZaY w1 (by simp [Kd.kids]),ZaY w2 (by simp [Kd.kids]),by dsimp only;omega,by dsimp only;omega⟩
    ·rename_i a1 b1
     have d1:=ZaQ (k:=.box a1) (c:=a1) (by simp [Kd.kids])
     have d3:=ZaQ (k:=.box b1) (c:=b1) (by simp [Kd.kids])
     refine Zrd (n:=n) (s:="box") (t:="box") [("inside",a1,b1)] (by omega) hC s0 rfl rfl ⟨[],rfl⟩ (by simp) (fun u hu=>?_) q
     simp only [List.mem_cons,List.not_mem_nil,or_false] at hu
     subst hu
     exact ⟨ZaY w1 (by simp [Kd.kids]),ZaY w2 (by simp [Kd.kids]),by dsimp only;omega,by dsimp only;omega⟩
  ·rw [if_neg hh]
   rw [ZvL hh (fun e=>z (.inl e)) (fun e=>z (.inr e))] at q
   exact ⟨by decide,hC _ _ _ s0 q⟩
set_option Elab.async false
set_option linter.all false
set_option maxRecDepth 100000
set_option maxHeartbeats 1000000
theorem Zrx:∀ {fs:Fs} {n:Nat},fs.dp≤n→∀ x∈fs.toL,x.2.2.dp≤n
 | .nil,_,_,x,hx=>by cases hx
 | .cons n m k r,j,h,x,hx=>by
  have h':max k.dp r.dp≤j:=h
  rcases List.mem_cons.mp hx with rfl | hx
  ·show k.dp≤j;omega
  ·exact Zrx (n:=j) (by omega) x hx
theorem Zpl:∀ {fs:Fs},∀ x∈fs.toL,x.2.2.cnt≤fs.cnt
 | .nil,x,hx=>by cases hx
 | .cons n m k r,x,hx=>by
  show x.2.2.cnt≤k.cnt+r.cnt
  rcases List.mem_cons.mp hx with rfl | hx
  ·show k.cnt≤_;omega
  ·have:=Zpl x hx;omega
theorem ZoO:∀ fs:Fs,fs.toL.length≤fs.cnt
 | .nil=>Nat.le_refl _
 | .cons n m k r=>by
  show r.toL.length+1≤k.cnt+r.cnt
  have:=ZoO r
  have:=ZoR k
  omega
theorem Zks {G:Hw} {p:Addr} {xs:List W} (h:G p=some (.lst xs)):Zhj [.ref p] G=some (.tup xs):=by
 unfold Zhj;dsimp only;rw [Zf5 h];rfl
mutual
def Kd.ren (f:Str→Str):Kd→Kd
 | .to x y=>.to (x.ren f) (y.ren f)
 | .box x=>.box (x.ren f)
 | .row fs o=>.row (fs.ren f) o
 | k=>k
def Fs.ren (f:Str→Str):Fs→Fs
 | .nil=>.nil
 | .cons n m k r=>.cons (f n) m (k.ren f) (r.ren f)
end
def nm3 (x y z n:Str):Str:=if n="a" then x else if n="b" then y else z
structure ZmZ (x y z:Str):Prop where
 o1:ZcD x=true
 o2:ZcD y=true
 o3:ZcD z=true
 xy:ZaP x y=true
 yz:ZaP y z=true
 xz:ZaP x z=true
mutual
theorem ZhG (f:Str→Str):∀ k:Kd,(k.ren f).cnt=k.cnt
 | .any=>rfl
 | .num=>rfl
 | .truth=>rfl
 | .to x y=>by show 1+((x.ren f).cnt+(y.ren f).cnt)=1+(x.cnt+y.cnt);rw [ZhG f x,ZhG f y]
 | .box x=>by show 1+(x.ren f).cnt=1+x.cnt;rw [ZhG f x]
 | .row fs o=>by show 1+(fs.ren f).cnt=1+fs.cnt;rw [ZlZ f fs]
theorem ZlZ (f:Str→Str):∀ fs:Fs,(fs.ren f).cnt=fs.cnt
 | .nil=>rfl
 | .cons n m k r=>by show (k.ren f).cnt+(r.ren f).cnt=k.cnt+r.cnt;rw [ZhG f k,ZlZ f r]
end
mutual
theorem Zj3 (f:Str→Str):∀ k:Kd,(k.ren f).dp=k.dp
 | .any=>rfl
 | .num=>rfl
 | .truth=>rfl
 | .to x y=>by show 1+max (x.ren f).dp (y.ren f).dp=1+max x.dp y.dp;rw [Zj3 f x,Zj3 f y]
 | .box x=>by show 1+(x.ren f).dp=1+x.dp;rw [Zj3 f x]
 | .row fs o=>by show 1+(fs.ren f).dp=1+fs.dp;rw [ZoG f fs]
theorem ZoG (f:Str→Str):∀ fs:Fs,(fs.ren f).dp=fs.dp
 | .nil=>rfl
 | .cons n m k r=>by show max (k.ren f).dp (r.ren f).dp=max k.dp r.dp;rw [Zj3 f k,ZoG f r]
end
theorem Zqg {x y z:Str} (g:ZmZ x y z):∀ n∈abc,∀ m∈abc,ZaP n m=true→ZaP (nm3 x y z n) (nm3 x y z m)=true:=by
 have f1:ZaP ("a":Str) "a"=false:=by decide +kernel
 have f2:ZaP ("b":Str) "b"=false:=by decide +kernel
 have f3:ZaP ("cc":Str) "cc"=false:=by decide +kernel
 have f4:ZaP ("b":Str) "a"=false:=by decide +kernel
 have f5:ZaP ("cc":Str) "a"=false:=by decide +kernel
 have f6:ZaP ("cc":Str) "b"=false:=by decide +kernel
 have a1:nm3 x y z "a"=x:=if_pos rfl
 have n1:¬ (("b":Str)="a"):=by decide +kernel
 have n2:¬ (("cc":Str)="a"):=by decide +kernel
 have n3:¬ (("cc":Str)="b"):=by decide +kernel
 have a2:nm3 x y z "b"=y:=by unfold nm3;rw [if_neg n1,if_pos rfl]
 have a3:nm3 x y z "cc"=z:=by unfold nm3;rw [if_neg n2,if_neg n3]
 intro n hn m hm h
 simp only [abc,List.mem_cons,List.not_mem_nil,or_false] at hn hm
 rcases hn with rfl | rfl | rfl <;> rcases hm with rfl | rfl | rfl <;> simp only [a1,a2,a3] <;> first | exact g.xy | exact g.yz | exact g.xz | (rw [f1] at h;cases h) | (rw [f2] at h;cases h) | (rw [f3] at h;cases h) | (rw [f4] at h;cases h) | (rw [f5] at h;cases h) | (rw [f6] at h;cases h)
theorem ZvT {x y z:Str} (g:ZmZ x y z) (n:Str):ZcD (nm3 x y z n)=true:=by
 unfold nm3
 split
 ·exact g.o1
 ·split
  ·exact g.o2
  ·exact g.o3
theorem Zmx {f:Str→Str} (hf:∀ n∈abc,∀ m∈abc,ZaP n m=true→ZaP (f n) (f m)=true):∀ {ns:List Str},(∀ n∈ns,n∈abc)→Zh2 ns=true→Zh2 (ns.map f)=true
 | [],_,_=>rfl
 | [_],_,_=>rfl
 | n::m::r,h,hr=>by
  have hr':(ZaP n m&&Zh2 (m::r))=true:=hr
  simp only [Bool.and_eq_true] at hr'
  show (ZaP (f n) (f m)&&Zh2 ((m::r).map f))=true
  rw [hf n (h n List.mem_cons_self) m (h m (List.mem_cons_of_mem _ List.mem_cons_self)) hr'.1,Zmx hf (fun k hk=>h k (List.mem_cons_of_mem _ hk)) hr'.2];rfl
theorem Zhs (f:Str→Str):∀ fs:Fs,(fs.ren f).names=fs.names.map f
 | .nil=>rfl
 | .cons n m k r=>by show f n::(r.ren f).names=f n::r.names.map f;rw [Zhs f r]
theorem ZkR:∀ {fs:Fs},fs.abc=true→∀ n∈fs.names,n∈abc
 | .nil,_,n,hn=>by cases hn
 | .cons n0 m k r,h,n,hn=>by
  have h':(abc.contains n0&&k.abc&&r.abc)=true:=h
  simp only [Bool.and_eq_true] at h'
  rcases List.mem_cons.mp hn with rfl | hn
  ·exact List.contains_iff_mem.mp h'.1.1
  ·exact ZkR h'.2 n hn
mutual
theorem Zkt {x y z:Str} (g:ZmZ x y z):∀ {k:Kd},k.ok=true→k.abc=true→(k.ren (nm3 x y z)).ok=true
 | .any,_,_=>rfl
 | .num,_,_=>rfl
 | .truth,_,_=>rfl
 | .to c d,h,h2=>by
  have h':(c.ok&&d.ok)=true:=h
  have h2':(c.abc&&d.abc)=true:=h2
  simp only [Bool.and_eq_true] at h' h2'
  show ((c.ren _).ok&&(d.ren _).ok)=true
  rw [Zkt g h'.1 h2'.1,Zkt g h'.2 h2'.2];rfl
 | .box c,h,h2=>Zkt (k:=c) g h h2
 | .row fs o,h,h2=>by
  have h':(Zh2 fs.names&&fs.ok)=true:=h
  simp only [Bool.and_eq_true] at h'
  show (Zh2 (fs.ren _).names&&(fs.ren _).ok)=true
  rw [Zhs,Zmx (Zqg g) (ZkR h2) h'.1,Zo1 g h'.2 h2];rfl
theorem Zo1 {x y z:Str} (g:ZmZ x y z):∀ {fs:Fs},fs.ok=true→fs.abc=true→(fs.ren (nm3 x y z)).ok=true
 | .nil,_,_=>rfl
 | .cons n m k r,h,h2=>by
  have h':(ZcD n&&k.ok&&r.ok)=true:=h
  have h2':(abc.contains n&&k.abc&&r.abc)=true:=h2
  simp only [Bool.and_eq_true] at h' h2'
  show (ZcD (nm3 x y z n)&&(k.ren _).ok&&(r.ren _).ok)=true
  rw [ZvT g,Zkt g h'.1.2 h2'.1.2,Zo1 g h'.2 h2'.2];rfl
end
def Zs7 (n:Nat):Spw:=fun ws G Q _=>∃ (k:Kd) (p:Addr) (x y z:Str),ws=[k.enc,.ref p]∧G p=some (.lst [.str x,.str y,.str z])∧k.abc=true∧k.dp≤n∧k.cnt≤1000∧Q (k.ren (nm3 x y z)).enc G
theorem Zof {n:Nat}:Spw.M (Zs7 n):=(by rintro ws G Q Q' E E' h _ ⟨k,p,x,y,z,h1,h2,h3,h4,h5,q⟩;exact ⟨k,p,x,y,z,h1,h2,h3,h4,h5,h _ _ q⟩)
theorem Zwc {k:Kd} (h:∀ fs o,k≠.row fs o) (f:Str→Str):k.enc=.tup (.str k.hd::k.kids.map Kd.enc)∧(k.ren f).enc=.tup (.str k.hd::k.kids.map fun c=>(c.ren f).enc)∧(k.hd==("row":Str))=false:=by
 cases k with
 | row fs o=>exact absurd rfl (h fs o)
 | any=>exact ⟨rfl,rfl,by decide +kernel⟩
 | num=>exact ⟨rfl,rfl,by decide +kernel⟩
 | truth=>exact ⟨rfl,rfl,by decide +kernel⟩
 | to x y=>exact ⟨rfl,rfl,(by decide +kernel:(("to":Str)==("row":Str))=false)⟩
 | box x=>exact ⟨rfl,rfl,(by decide +kernel:(("box":Str)==("row":Str))=false)⟩
theorem Zrl {k:Kd} (h:k.abc=true):∀ c∈k.kids,c.abc=true:=by
 have hf:∀ {fs:Fs},fs.abc=true→∀ c∈fs.kinds,c.abc=true:=by
  intro fs
  induction fs using Fs.rec (motive_1:=fun _=>True) with
  | nil=>intro _ c hc;cases hc
  | cons n m k r _ ih =>
   intro h c hc
   have h':(abc.contains n&&k.abc&&r.abc)=true:=h
   simp only [Bool.and_eq_true] at h'
   rcases List.mem_cons.mp hc with rfl | hc
   ·exact h'.1.2
   ·exact ih h'.2 c hc
  | _=>trivial
 intro c hc
 cases k with
 | to x y =>
  have h':(x.abc&&y.abc)=true:=h
  simp only [Bool.and_eq_true] at h'
  have:c=x∨c=y:=by simpa [Kd.kids] using hc
  rcases this with rfl | rfl
  ·exact h'.1
  ·exact h'.2
 | box x =>
  have:c=x:=by simpa [Kd.kids] using hc
  subst this;exact h
 | row fs o=>exact hf h c hc
 | any=>cases hc
 | num=>cases hc
 | truth=>cases hc
def Zwm (x y z:Str) (u:Str×Bool×Kd):Str×Bool×Kd:=(nm3 x y z u.1,u.2.1,u.2.2.ren (nm3 x y z))
theorem Znv (x y z:Str):∀ fs:Fs,(fs.ren (nm3 x y z)).toL=fs.toL.map (Zwm x y z)
 | .nil=>rfl
 | .cons n m k r=>by show _::(r.ren _).toL=_::r.toL.map _;rw [Znv x y z r];rfl
theorem ZnH:∀ {fs:Fs},fs.abc=true→∀ u∈fs.toL,u.1∈abc∧u.2.2.abc=true
 | .nil,_,u,hu=>by cases hu
 | .cons n0 m k r,h,u,hu=>by
  have h':(abc.contains n0&&k.abc&&r.abc)=true:=h
  simp only [Bool.and_eq_true] at h'
  rcases List.mem_cons.mp hu with rfl | hu
  ·exact ⟨List.contains_iff_mem.mp h'.1.1,h'.1.2⟩
  ·exact ZnH h'.2 u hu
theorem ZnA {n:Str} (h:n∈abc):∃ j:Nat,abc[j]?=some n∧(∀ m,m < j→abc[m]?≠some n)∧∀ x y z:Str,atI [W.str x,.str y,.str z] (j:Int)=some (.str (nm3 x y z n)):=by
 have n1:¬ (("b":Str)="a"):=by decide +kernel
 have n2:¬ (("cc":Str)="a"):=by decide +kernel
 have n3:¬ (("cc":Str)="b"):=by decide +kernel
 simp only [abc,List.mem_cons,List.not_mem_nil,or_false] at h
 rcases h with rfl | rfl | rfl
 ·exact ⟨0,rfl,fun m hm=>by omega,fun x y z=>by rw [show ((0:Nat):Int)=0 from rfl,Zb1];unfold nm3;rw [if_pos rfl]⟩
 ·refine ⟨1,rfl,fun m hm=>?_,fun x y z=>by rw [show ((1:Nat):Int)=1 from rfl,ZcZ];unfold nm3;rw [if_neg n1,if_pos rfl]⟩
  obtain rfl:m=0:=by omega
  exact fun e=>n1 (Option.some.inj e).symm
 ·refine ⟨2,rfl,fun m hm=>?_,fun x y z=>by rw [show ((2:Nat):Int)=2 from rfl,Zek];unfold nm3;rw [if_neg n2,if_neg n3]⟩
  obtain rfl | rfl:m=0∨m=1:=by omega
  ·exact fun e=>n2 (Option.some.inj e).symm
  ·exact fun e=>n3 (Option.some.inj e).symm
theorem ZmD {n:Nat} {D:Ew} {pn p:Addr} {k0:W} {x y z:Str}:∀ (l dn:List (Str×Bool×Kd)) (o3 o4 o5:Option W) (G:Hw),(∀ u∈l,u.1∈abc∧u.2.2.abc=true)→(∀ u∈l,u.2.2.dp≤n)→(∀ u∈l,u.2.2.cnt≤1000)→dn.length+l.length≤1000→p≠pn →
  G p=some (.lst (dn.map Zfq))→G pn=some (.lst [.str x,.str y,.str z]) →
  (∀ ω G',(∃ u v t,ω=[some k0,some (.ref pn),some (.ref p),u,v,t])→G' p=some (.lst ((dn++l.map (Zwm x y z)).map Zfq))→(∀ b,b≠p→∀ u,G b=some u→G' b=some u)→D.nx ω G') →
  Zdo yes (Zfp 3 4 5) (Zcm (gMt Zfb Zpb (Zad 2) (L3.Zab (L3.Zbb (L3.Zab (Zak (Zan ixW) (Zad 1) (gMt Zfb ZnB (Zcn (L3.Zab (gC (.str "a")) (L3.Zab (gC (.str "b")) (L3.Zab (gC (.str "cc")) L3.Zam)))) (L3.Zab (Zad 3) L3.Zam))) (L3.Zab (Zad 4) (L3.Zab (Zaq (Zs7 n) (fun _ _ _=>False) (L3.Zab (Zad 5) (L3.Zab (Zad 1) L3.Zam))) L3.Zam)))) L3.Zam))) D (l.map Zfq) [some k0,some (.ref pn),some (.ref p),o3,o4,o5] G
 | [],dn,o3,o4,o5,G,_,_,_,_,_,hp,_,fin=>⟨trivial,fin _ G ⟨o3,o4,o5,rfl⟩ (by simpa using hp) fun _ _ _ h=>h⟩
 | u::l,dn,o3,o4,o5,G,h1,h2,h3,hl,hne,hp,hpn,fin=>by
  refine ⟨trivial,?_⟩
  have eu:Zfq u=.tup [.str u.1,.str (Zd1 u.2.1),u.2.2.enc]:=rfl
  rw [eu]
  simp only [Zfp]
  walk_at "rd"
  obtain ⟨j,hj,hno,hat⟩:=ZnA (h1 u List.mem_cons_self).1
  refine ⟨ZfS hp,by decide,fun q hq=>⟨ZfS Zah,?_⟩⟩
  have hpq:=ZaB hp hq
  have hnq:=ZaB hpn hq
  refine ⟨_,abc,u.1,j,Zep Zah,rfl,rfl,hj,hno,?_⟩
  have hpn':put G q (.lst [.str "a",.str "b",.str "cc"]) pn=some (.lst [.str x,.str y,.str z]):=by rw [Zao hnq];exact hpn
  simp only [hpn',hat x y z,Zaf]
  refine ⟨u.2.2,pn,x,y,z,rfl,hpn',(h1 u List.mem_cons_self).2,h2 u List.mem_cons_self,h3 u List.mem_cons_self,by decide,?_⟩
  rw [List.length_cons] at hl
  refine Zn5 (by rw [Zao hpq];exact hp) (by rw [List.length_map];exact Nat.lt_of_le_of_lt (m:=1000) (by omega) (by decide)) ?_
  refine ZmD l (dn++[Zwm x y z u]) _ _ _ _ (fun v hv=>h1 v (List.mem_cons_of_mem _ hv)) (fun v hv=>h2 v (List.mem_cons_of_mem _ hv)) (fun v hv=>h3 v (List.mem_cons_of_mem _ hv)) (by rw [List.length_append];simp only [List.length_cons,List.length_nil];omega) hne (by rw [Zah,List.map_append];rfl) (by rw [Zao (Ne.symm hne)];exact hpn') fun ω G' hω h4 h5=>?_
  refine fin ω G' hω (by rw [h4,List.map_cons];simp) fun b hb v hv=>h5 b hb v ?_
  rw [Zao hb,Zao (ZaB hv hq)];exact hv
theorem ZwX {α:Type} (h:α) (t:List α):Zk0 (h::t) none (some 1)=[h]:=by
 have e:HT.sIx (h::t).length (h::t).length (some 1)=min 1 (h::t).length:=HT.sIx_nat _ _ 1
 unfold Zk0
 rw [HT.sIx_none,e]
 simp
theorem Za1 (T:Tx K mg base a):∀ n:Nat,Df P w K mg base "_law_renamed" (n+1) 2 (Zs7 n)
 | 0=>Zk7 T.Zb5 Zof (by rintro ws G Q E ⟨k,p,x,y,z,_,_,_,h,_⟩;have:=Zgn k;omega)
 | n+1=>by
  have D:=Za1 T n
  refine mk0 (k:=n+1) T.Zb5 rfl ZdJ Zof ((by rintro ws G Q E ⟨k,p,x,y,z,e,_⟩;rw [e];rfl)) (Zh4 T D (Nat.le_refl _)) fun ws G Q E hC q=>?_
  obtain ⟨k,p,x,y,z,rfl,hp,ha,hd,hc,q⟩:=q
  unfold Ze8
  by_cases hrow:∃ fs o,k=.row fs o
  ·obtain ⟨fs,o,rfl⟩:=hrow
   have hd':1+fs.dp≤n+1:=hd
   have hc':1+fs.cnt≤1000:=hc
   simp only [Kd.enc]
   walk_at "rd"
   simp only [beq_self_eq_true,show (true != true)=false from rfl,Option.map_some,Zaf,Bool.false_eq_true,if_false]
   refine ⟨by decide,fun p2 hp2=>?_⟩
   have hpp:=ZaB hp hp2
   rw [Zhp]
   have hll:=ZoO fs
   refine ZmD (n:=n) (x:=x) (y:=y) (z:=z) fs.toL [] none none none _ (ZnH ha) (Zrx (by omega)) (fun u hu=>Nat.le_trans (Zpl u hu) (by omega)) (by simp only [List.length_nil];omega) (Ne.symm hpp) Zah (by rw [Zao hpp];exact hp) ?_
   intro ω G' hω h1 h2
   obtain ⟨u,v,t,rfl⟩:=hω
   walk_at "rd"
   rw [Zks h1]
   simp only [Zaf,List.nil_append]
   refine ⟨by decide,hC _ _ _ (fun b u hu=>h2 b (ZaB hu hp2) u (by rw [Zao (ZaB hu hp2)];exact hu)) ?_⟩
   have e:(Kd.ren (nm3 x y z) (.row fs o)).enc=.tup [.str "row",.tup ((fs.toL.map (Zwm x y z)).map Zfq),.bl o]:=by rw [← Znv,← Zhp];rfl
   rw [e] at q
   exact q
  ·obtain ⟨e1,e2,e3⟩:=Zwc (fun fs o h=>hrow ⟨fs,o,h⟩) (nm3 x y z) (k:=k)
   rw [e1]
   walk_at "rd"
   simp only [e3,show (false != true)=true from rfl,Option.map_some,Zaf,if_true]
   simp only [slA,ZwX,Zjz,List.drop_succ_cons,List.drop_zero]
   have hkl:=ZmA k
   refine Zq3 (f:=fun c=>(c.ren (nm3 x y z)).enc) (cst:=[some (.ref p)]) trivial k.kids none [] (fun c hcm Q' q'=>?_) (by simp only [List.length_nil];exact Za8 (by omega)) fun p1 hp1=>?_
   ·exact ⟨c,p,x,y,z,rfl,hp,Zrl ha c hcm,by have:=ZaQ hcm;omega,by have:=ZqS hcm;omega,q'⟩
   ·rw [Zks Zah]
    simp only [Zaf,List.nil_append]
    rw [Zb3]
    refine ⟨Za8 (by simp only [List.length_cons,List.length_nil,List.length_map];omega),hC _ _ _ (Zbk hp1) ?_⟩
    rw [e2] at q
    exact q
def ZrI:Spw:=fun ws G Q _=>∃ (s:Addr) (x y:Int),ws=[.ref s]∧G s=some (.lst [.int x,.int y])∧∀ (p:Addr) (n1 n2 n3:Str) (x' y':Int) (G':Hw),ZmZ n1 n2 n3→G' p=some (.lst [.str n1,.str n2,.str n3])→Sub (put G s (.lst [.int x',.int y'])) G'→Q (.ref p) G'
theorem Zqa:Spw.M ZrI:=(by rintro ws G Q Q' E E' h _ ⟨s,x,y,h1,h2,q⟩;exact ⟨s,x,y,h1,h2,fun p n1 n2 n3 x' y' G' g h3 h4=>h _ _ (q p n1 n2 n3 x' y' G' g h3 h4)⟩)
theorem ZbV (T:Tx K mg base a):Df P w K mg base "_law_some_names" 2 1 ZrI:=by
 refine mk0 (k:=1) T.ZbW rfl ZdS Zqa ((by rintro ws G Q E ⟨s,x,y,e,_⟩;rw [e];rfl)) (Zf7 T (ZaH T) (Nat.le_refl _)) fun ws G Q E hC q=>?_
 obtain ⟨s,x,y,rfl,hs,q⟩:=q
 unfold ZdO
 walk_at "rd"
 refine ⟨by decide,fun p0 h0=>⟨by decide,fun p1 h1=>⟨by decide,fun p2 h2=>⟨by decide,fun p3 h3=>⟨by decide,fun q0 hq=>?_⟩⟩⟩⟩⟩
 have s1:Sub G (put G p0 (.lst [.str "a",.str "b",.str "cc"])):=Sub.refl.put h0
 have f0:put G p0 (.lst [.str "a",.str "b",.str "cc"]) p0=some (.lst [.str "a",.str "b",.str "cc"]):=Zah
 generalize put G p0 (.lst [.str "a",.str "b",.str "cc"])=G1 at *
 have s2:Sub G1 (put G1 p1 (.lst [.str "any",.str "num",.str "truth"])):=Sub.refl.put h1
 have f1:put G1 p1 (.lst [.str "any",.str "num",.str "truth"]) p1=some (.lst [.str "any",.str "num",.str "truth"]):=Zah
 generalize put G1 p1 (.lst [.str "any",.str "num",.str "truth"])=G2 at *
 have s3:Sub G2 (put G2 p2 (.lst [.str "in",.str "inside",.str "out"])):=Sub.refl.put h2
 have f2:put G2 p2 (.lst [.str "in",.str "inside",.str "out"]) p2=some (.lst [.str "in",.str "inside",.str "out"]):=Zah
 generalize put G2 p2 (.lst [.str "in",.str "inside",.str "out"])=G3 at *
 have s4:Sub G3 (put G3 p3 (.lst [.str "may",.str "row",.str "zzzzzzzz"])):=Sub.refl.put h3
 have f3:put G3 p3 (.lst [.str "may",.str "row",.str "zzzzzzzz"]) p3=some (.lst [.str "may",.str "row",.str "zzzzzzzz"]):=Zah
 generalize put G3 p3 (.lst [.str "may",.str "row",.str "zzzzzzzz"])=G4 at *
 have s5:Sub G4 (put G4 q0 (.lst [.ref p0,.ref p1,.ref p2,.ref p3])):=Sub.refl.put hq
 have f4:put G4 q0 (.lst [.ref p0,.ref p1,.ref p2,.ref p3]) q0=some (.lst [.ref p0,.ref p1,.ref p2,.ref p3]):=Zah
 generalize put G4 q0 (.lst [.ref p0,.ref p1,.ref p2,.ref p3])=G5 at *
 have S:=(((s1.trans s2).trans s3).trans s4).trans s5
 have hs5:=S _ _ hs
 have k0:=s5 _ _ (s4 _ _ (s3 _ _ (s2 _ _ f0)))
 have k1:=s5 _ _ (s4 _ _ (s3 _ _ f1))
 have k2:=s5 _ _ (s4 _ _ f2)
 have k3:=s5 _ _ f3
 have ns:∀ {p:Addr} {L:List W} {v:W},G5 p=some (.lst L)→L≠[.int x,.int y]→p≠s:=fun h hne e=>by
  subst e
  rw [hs5] at h
  exact hne (HW.lst.inj (Option.some.inj h)).symm
 refine ⟨s,4,x,y,rfl,by decide,by decide,hs5,fun r x1 y1 r0 r1=>?_⟩
 have m0:=ns (v:=.non) k0 (by intro e;cases e)
 have m1:=ns (v:=.non) k1 (by intro e;cases e)
 have m2:=ns (v:=.non) k2 (by intro e;cases e)
 have m3:=ns (v:=.non) k3 (by intro e;cases e)
 have m4:=ns (v:=.non) f4 (by intro e;cases e)
 have F4:put G5 s (.lst [.int x1,.int y1]) q0=some (.lst [.ref p0,.ref p1,.ref p2,.ref p3]):=by rw [Zao m4];exact f4
 simp only [F4]
 have SS:Sub (put G s (.lst [.int x1,.int y1])) (put G5 s (.lst [.int x1,.int y1])):=S.put2
 have cases4:r=0∨r=1∨r=2∨r=3:=by omega
 rcases cases4 with rfl | rfl | rfl | rfl
 ·rw [Zb1]
  exact q p0 "a" "b" "cc" x1 y1 _ ⟨by decide +kernel,by decide +kernel,by decide +kernel,by decide +kernel,by decide +kernel,by decide +kernel⟩ (by rw [Zao m0];exact k0) SS
 ·rw [ZcZ]
  exact q p1 "any" "num" "truth" x1 y1 _ ⟨by decide +kernel,by decide +kernel,by decide +kernel,by decide +kernel,by decide +kernel,by decide +kernel⟩ (by rw [Zao m1];exact k1) SS
 ·rw [Zek]
  exact q p2 "in" "inside" "out" x1 y1 _ ⟨by decide +kernel,by decide +kernel,by decide +kernel,by decide +kernel,by decide +kernel,by decide +kernel⟩ (by rw [Zao m2];exact k2) SS
 ·have e3:atI [W.ref p0,.ref p1,.ref p2,.ref p3] 3=some (.ref p3):=rfl
  rw [e3]
  exact q p3 "may" "row" "zzzzzzzz" x1 y1 _ ⟨by decide +kernel,by decide +kernel,by decide +kernel,by decide +kernel,by decide +kernel,by decide +kernel⟩ (by rw [Zao m3];exact k3) SS
mutual
theorem ZhS {f:Str→Str}:∀ {k:Kd},wf k→(k.ren f).thr=true
 | .any,_=>rfl
 | .num,_=>rfl
 | .truth,_=>rfl
 | .to c d,h=>by
  show ((c.ren f).thr&&(d.ren f).thr)=true
  rw [ZhS (Zec h (c:=c) (by simp [Kd.kids])),ZhS (Zec h (c:=d) (by simp [Kd.kids]))];rfl
 | .box c,h=>ZhS (k:=c) (Zec h (c:=c) (by simp [Kd.kids]))
 | .row fs o,h=>by
  show (decide ((fs.ren f).names.length≤3)&&(fs.ren f).thr)=true
  have hn:fs.names.Nodup:=(Zie h.1).1.imp fun z e=>by subst e;rw [ZgE] at z;cases z
  have h3:=Zcx hn (Zid h.2).2
  have e3:abc.length=3:=rfl
  rw [Zhs,List.length_map,decide_eq_true (by omega),ZlW fun c hc=>Zec h hc];rfl
theorem ZlW {f:Str→Str}:∀ {fs:Fs},(∀ c∈fs.kinds,wf c)→(fs.ren f).thr=true
 | .nil,_=>rfl
 | .cons n m k r,h=>by
  show ((k.ren f).thr&&(r.ren f).thr)=true
  rw [ZhS (h k List.mem_cons_self),ZlW fun c hc=>h c (List.mem_cons_of_mem _ hc)];rfl
end
theorem ZrR {x y z:Str} (g:ZmZ x y z) {k:Kd} (h:gen 3 k):kd8 (k.ren (nm3 x y z)):=by
 obtain ⟨w1,d1⟩:=Zgx h
 refine ⟨Zkt g w1.1 w1.2,?_,?_⟩
 ·unfold Zk1
  rw [ZhG,Zj3]
  have:=h.2.2.1
  have e:Nn 3=40:=rfl
  exact decide_eq_true ⟨by omega,by omega⟩
 ·exact ZhS w1
theorem Zfs:∀ {us:List (Str×Option (List Str))},(∀ u∈us,u.2=none)→ZiC us=none
 | [],_=>rfl
 | (x,c)::us,h=>by
  obtain rfl:c=none:=h _ List.mem_cons_self
  exact Zfs (us:=us) fun u hu=>h u (List.mem_cons_of_mem _ hu)
theorem Zhc:∀ (n:Nat) (k:Kd),cl n k k=none
 | 0,_=>rfl
 | n+1,k=>by
  cases k with
  | any=>rfl
  | num=>rfl
  | truth=>rfl
  | to a b =>
   refine Zfs fun u hu=>?_
   simp only [List.mem_cons,List.not_mem_nil,or_false] at hu
   rcases hu with rfl | rfl
   ·exact Zhc n a
   ·exact Zhc n b
  | box a =>
   refine Zfs fun u hu=>?_
   simp only [List.mem_cons,List.not_mem_nil,or_false] at hu
   subst hu
   exact Zhc n a
  | row fs o =>
   refine Zfs fun u hu=>?_
   obtain ⟨x,_,rfl⟩:=List.mem_map.mp hu
   show clE (cl n) (ent fs o x) (ent fs o x)=none
   cases ent fs o x with
   | free=>rfl
   | nope=>rfl
   | told m k=>rw [Zfy];exact Zhc n k
theorem Zkv:∀ p:List Str,ZgN (p.map W.str) (p.map W.str)=some true
 | []=>rfl
 | x::p=>by
  show (match some (x==x),ZgN (p.map W.str) (p.map W.str) with | some a,some b=>some (a&&b) | _,_=>none)=some true
  rw [Zkv p];simp
theorem ZsJ (p:List Str) (G:Hw):eqF true (pW (some p)) (pW (some p)) G=some (.bl false):=by
 show (eqW (.tup (p.map W.str)) (.tup (p.map W.str)) G).map _=_
 have:eqW (.tup (p.map W.str)) (.tup (p.map W.str)) G=some true:=by
  show (if L3.dpL (p.map W.str) < 90 then ZgN (p.map W.str) (p.map W.str) else none)=_
  rw [ZjB,if_pos (by decide),Zkv]
 rw [this];rfl
theorem ZdG {i:Nat} {ge:GE} {Zck:GS} {D:Ew} {ω:Sw} {G:Hw} (h:ge ω G fun w G1=>Zck D (ω.set i (some w)) G1):Zay (Zbn i ge) Zck D ω G:=h
abbrev gWB:GS:=Zay (Zbn 7 (Zaq ZwB (fun _ _ _=>False) (L3.Zab (Zad 5) (L3.Zab (Zad 6) L3.Zam)))) (Zay (Zbn 8 (Zaq (ZsV 8) (fun _ _ _=>False) (L3.Zab (Zad 5) (L3.Zab (Zad 6) L3.Zam)))) (gIf (gTB (Zak (Zan (isF false)) (Zad 8) (gC .non))) (gIf (gTB (Zak (Zan (isF true)) (Zad 7) (gC .non))) (ZaF (gC (.bl false))) Zar) (gIf (gOr (gNt (Zgk (Zc5 "tuple" (Zad 7)))) (gOr (gTB (Zak (Zan (eqF true)) (Zad 7) (Zad 8))) (gTB (Zak (Zan isB) (Zaq ZxB (fun _ _ _=>False) (L3.Zab (Zad 5) (L3.Zab (Zad 6) (L3.Zab (Zad 7) L3.Zam)))) (gC (.bl true)))))) (ZaF (gC (.bl false))) Zar)))
theorem Zu2 {k l:Kd} {D:Ew} {w0 w1 w2 w3 w4 o7 o8:Option W} {G:Hw} (hk:kd8 k) (hl:kd8 l) (h:∀ o7 o8,D.nx [w0,w1,w2,w3,w4,some k.enc,some l.enc,o7,o8] G) :
  gWB D [w0,w1,w2,w3,w4,some k.enc,some l.enc,o7,o8] G:=by
 unfold gWB
 refine ZdG ?_
 refine ⟨(k,l),⟨rfl,hk,hl⟩,?_⟩
 simp only [List.set_cons_zero,List.set_cons_succ]
 refine ZdG ?_
 refine ⟨(k,l),⟨rfl,⟨hk.1,hk.2.2⟩,⟨hl.1,hl.2.2⟩,ZlS hk,Nat.le_trans (ZlS hl) (by decide)⟩,?_⟩
 simp only [List.set_cons_zero,List.set_cons_succ]
 cases hc:cl 8 k l with
 | none =>
  simp only [gIf,gTB,Zak,Zan,Zad,gC,List.getElem?_cons_zero,List.getElem?_cons_succ,isF,pW,Zi8,Zaf,show (true != false)=true from rfl,if_true,show (true != true)=false from rfl,Bool.false_eq_true,if_false,Zar]
  exact h _ _
 | some p =>
  have e:=ZsJ p
  simp only [gIf,gTB,Zak,Zan,Zad,gC,List.getElem?_cons_zero,List.getElem?_cons_succ,isF,Zaf,gOr,gNt,Zgk,Zc5,Zaq,L3.Zab,L3.Zam,Zar]
  simp only [pW,Zi8,show (false != false)=false from rfl,Bool.false_eq_true,if_false]
  simp only [pW] at e
  have hi:Znt "tuple" "tuple"=true:=by first | rfl | decide +kernel
  simp only [tyN,ZjC,hi,Bool.not_true,Bool.false_eq_true,if_false]
  rw [e,Zaf]
  simp only [Bool.false_eq_true,if_false]
  refine ⟨(k,l,p),⟨rfl,hk,hl⟩,?_⟩
  dsimp only
  rw [Zoe 8 k l p hc]
  exact h _ _
abbrev gWT:GS:=Zay (Zel (ZcV (Zcn (L3.Zab (L3.Zbb (L3.Zab (Zad 2) (L3.Zab (Zad 3) L3.Zam))) (L3.Zab (L3.Zbb (L3.Zab (Zad 3) (L3.Zab (Zad 2) L3.Zam))) L3.Zam)))) (Znn 5 6) gWB) (ZaF (Zak (Zan (isF false)) (Zaq ZwB (fun _ _ _=>False) (L3.Zab (Zad 2) (L3.Zab (Zad 2) L3.Zam))) (gC .non)))
theorem Zxe {k l:Kd} {Q:Kw} {w0 w1 w4:Option W} {G:Hw} (hk:kd8 k) (hl:kd8 l) (q:∀ G',Q (.bl true) G'):gWT (ZaW Q) [w0,w1,some k.enc,some l.enc,w4,none,none,none,none] G:=by
 unfold gWT
 simp only [Zay,Zel,ZcV,Zcn,L3.Zbb,L3.Zab,L3.Zam,Zad,List.getElem?_cons_zero,List.getElem?_cons_succ]
 refine ⟨(show 2≤sizeLine by decide),(show 2≤sizeLine by decide),(show 2≤sizeLine by decide),fun p hp=>?_⟩
 rw [Zah]
 refine ⟨Zah,Zu2 hk hl fun _ _=>⟨Zah,Zu2 hl hk fun _ _=>⟨Zah,?_⟩⟩⟩
 simp only [ZaF,Zak,Zaq,Zad,gC,L3.Zab,L3.Zam,Zan,List.getElem?_cons_zero,List.getElem?_cons_succ]
 refine ⟨(k,k),⟨rfl,hk,hk⟩,?_⟩
 dsimp only
 rw [Zhc]
 simp only [pW,isF,Zi8,Zaf]
 exact q _
theorem Zxc (T:Tx K mg base a) {f:Addr} {fd:FuncData} (F:Fun K "law" "law" ZkA f fd):FnOk P w K mg base (CXe P w) 28 f fd ["script"] (ZtV K Zrk):=by
 refine ok0 F ZhT (fun ws G Q E ⟨ns,e,_⟩=>by rw [e];rfl) (ZwU (k:=27) T (Zdr T) (by omega) (ZaV T 3) (by omega) (ZbO T 3) (by omega) (ZbV T) (by omega) (Za1 T 8) (by omega) (Zc7 T) (by omega) (Zbp T 8 (by omega)) (by omega) (ZfG T) (by omega)) fun ws G Q E hC q=>?_
 obtain ⟨ns,rfl,hns,q⟩:=q
 unfold Zug
 show Zay (Zbn 1 _) _ (ZaW Q) [some (.rol (ns.map W.int)),none,none,none,none,none,none,none,none] G
 refine ZdG ?_
 refine ⟨ns,0,rfl,by decide,by decide,fun s x y hs=>?_⟩
 simp only [List.set_cons_zero,List.set_cons_succ]
 refine ZdG ?_
 refine ⟨s,x,y,rfl,Zah,fun k0 x1 y1 g0=>?_⟩
 simp only [List.set_cons_zero,List.set_cons_succ]
 refine ZdG ?_
 refine ⟨s,x1,y1,k0,rfl,Zah,g0,fun k3 x4 y4 g3=>?_⟩
 simp only [List.set_cons_zero,List.set_cons_succ]
 refine ZdG ?_
 refine ⟨s,x4,y4,rfl,Zah,fun p n1 n2 n3 x5 y5 G' hg hp hsub=>?_⟩
 simp only [List.set_cons_zero,List.set_cons_succ]
 obtain ⟨u1,d1⟩:=Zgx g0
 obtain ⟨u2,d2⟩:=Zgx g3
 have c1:=g0.2.2.1
 have c2:=g3.2.2.1
 have e40:Nn 3=40:=rfl
 refine ZdG ?_
 refine ⟨k0,p,n1,n2,n3,rfl,hp,u1.2,by omega,by omega,?_⟩
 simp only [List.set_cons_zero,List.set_cons_succ]
 refine ZdG ?_
 refine ⟨k3,p,n1,n2,n3,rfl,hp,u2.2,by omega,by omega,?_⟩
 simp only [List.set_cons_zero,List.set_cons_succ]
 exact Zxe (ZrR hg g0) (ZrR hg g3) q
set_option Elab.async false
set_option linter.all false
set_option maxRecDepth 100000
set_option maxHeartbeats 4000000
theorem ZmQ {base:Heap} {e:DictEntry} {x:Str} {i:Int} {t u:Tok} {es:List DictEntry} {D:List (Str×KTD.Dat)} (h1:e.key=.str x t) (h2:e.val=.int i u) (r:KTD.Rows (KTD.Dat.At base) es D):KTD.Rows (KTD.Dat.At base) (e::es) ((x,KTD.Dat.flat (.int i))::D) :=
 .cons h1 (by rw [h2];exact PyProof.V.Flat.int i u) r
theorem Zxo {K:PySem.W.Frag} {h:Heap} {mg:Str→Option Value} (X:K.In h) (G:h.Ns mainGlobals mg) (ZbT:Fn K mg ZaO "is_small_letter" ["sign"]) (Zdv:Fn K mg ZbQ "names_rise" ["names"]) (ZfN:Fn K mg Zde "is_name" ["thing"]) (ZeJ:Fn K mg ZcL "is_field" ["thing"]) (Zdt:Fn K mg ZbC "are_fields" ["thing"]) (ZeK:Fn K mg ZcK "has_form" ["thing"]) (ZcQ:Fn K mg Zbh "kinds_within" ["kind"]) (ZcP:Fn K mg Zbf "layer_within" ["layer","things_within"]) (Zdy:Fn K mg Zbo "is_made_of" ["thing","is_formed","things_within","most","deepest"]) (Zfz:Fn K mg Zdd "is_kind" ["thing"]) (Zdw:Fn K mg ZbE "check_kind" ["thing"]) (ZeH:Fn K mg ZcE "entry_of" ["row","name"]) (ZeO:Fn K mg ZcN "names_of" ["row"]) (ZcC:Fn K mg Za6 "names_of_both" ["one","other"]) (Zc4:Fn K mg Zbt "check_kinds" ["one","other"]) (Zg2:Fn K mg Zed "behind" ["step","path"]) (ZbB:Fn K mg ZaJ "clash_of_entries" ["one","other"]) (Zcp:Fn K mg Za7 "clash_of_rows" ["one","other"]) (ZdU:Fn K mg ZcM "clash_of" ["one","other"]) (Zds:Fn K mg ZbF "_law_state" ["script","k"]) (Zd4:Fn K mg Zcc "_law_take" ["state","many"]) (ZbN:Fn K mg Zcb "_law_kind" ["state","deep"]) (ZcH:Fn K mg ZbL "_law_near" ["state","kind","deep"]) (Zb5:Fn K mg Za3 "_law_renamed" ["kind","names"]) (ZbW:Fn K mg ZaN "_law_some_names" ["state"]) (ZcT:Fn K mg Za2 "_law_entries" ["kind","names"]) (ZdD:Fn K mg ZbR "_law_names" ["one","other"]) (ZcW:Fn K mg Zbq "_law_clash" ["one","other"]) (Ztl:Fn K mg ZkA "law" ["script"]) (Zcz:Fn K mg Za4 "clash_at_name" ["one","other","path"]) (ZdT:Fn K mg ZcG "clash_at" ["one","other","path"]) (Zc2:Fn K mg Zbs "first_clash" ["one","other"]) (ZfL:Fn K mg Zdg "clashes" ["one","other","path"]) {c_CastError c_NoKind:Addr} {z_MARKS:Addr} {w0_MARKS w1_MARKS:Tok} {dd_MARKS:Option Addr} {nn_MARKS:Nat} {sl_MARKS:Array (Option Value)} {w_MOST_DEPTH:Tok} {w_MOST_KINDS:Tok} {w_MOST_LETTERS:Tok} {z_LENGTHS:Addr} {ep_LENGTHS:Nat} {e0_LENGTHS e1_LENGTHS e2_LENGTHS e3_LENGTHS e4_LENGTHS e5_LENGTHS:DictEntry} {a0_LENGTHS b0_LENGTHS:Tok} {a1_LENGTHS b1_LENGTHS:Tok} {a2_LENGTHS b2_LENGTHS:Tok} {a3_LENGTHS b3_LENGTHS:Tok} {a4_LENGTHS b4_LENGTHS:Tok} {a5_LENGTHS b5_LENGTHS:Tok} {z_STEPS:Addr} {ep_STEPS:Nat} {s0:DictEntry} {st0:Tok} {sa0:Addr} {sd0:Option Addr} {sn0:Nat} {sl0:Array (Option Value)} {s1:DictEntry} {st1:Tok} {sa1:Addr} {sd1:Option Addr} {sn1:Nat} {sl1:Array (Option Value)} {s2:DictEntry} {st2:Tok} {sa2:Addr} {sd2:Option Addr} {sn2:Nat} {sl2:Array (Option Value)} {s3:DictEntry} {st3:Tok} {sa3:Addr} {sd3:Option Addr} {sn3:Nat} {sl3:Array (Option Value)} {sw3_0:Tok} {sw3_1:Tok} {s4:DictEntry} {st4:Tok} {sa4:Addr} {sd4:Option Addr} {sn4:Nat} {sl4:Array (Option Value)} {sw4_0:Tok}
  (e_CastError:PySem.W.nsIn K mainGlobals "CastError"=some (some (.ref c_CastError)))
  (e_NoKind:PySem.W.nsIn K mainGlobals "NoKind"=some (some (.ref c_NoKind)))
  (Zju:PySem.W.nsIn K mainGlobals "all"=some none)
  (ZiT:PySem.W.nsIn K mainGlobals "bool"=some none)
  (Zit:PySem.W.nsIn K mainGlobals "dict"=some none)
  (Zj1:PySem.W.nsIn K mainGlobals "int"=some none)
  (ZaM:PySem.W.nsIn K mainGlobals "isinstance"=some none)
  (ZgM:PySem.W.nsIn K mainGlobals "len"=some none)
  (Zg3:PySem.W.nsIn K mainGlobals "list"=some none)
  (Zld:PySem.W.nsIn K mainGlobals "set"=some none)
  (Zd5:PySem.W.nsIn K mainGlobals "sorted"=some none)
  (ZlG:PySem.W.nsIn K mainGlobals "str"=some none)
  (Zcr:PySem.W.nsIn K mainGlobals "tuple"=some none)
  (ZhX:PySem.W.nsIn K mainGlobals "zip"=some none)
  (Zf6:PySem.W.nsIn K mainGlobals "MARKS"=some (some (.ref z_MARKS)))
  (l_MARKS:K.lookup z_MARKS=some ⟨.type "tuple",dd_MARKS,.seq #[.str "must" w0_MARKS,.str "may" w1_MARKS] nn_MARKS,sl_MARKS⟩)
  (Zci:PySem.W.nsIn K mainGlobals "MOST_DEPTH"=some (some (.int 8 w_MOST_DEPTH)))
  (Zcj:PySem.W.nsIn K mainGlobals "MOST_KINDS"=some (some (.int 40 w_MOST_KINDS)))
  (Zbw:PySem.W.nsIn K mainGlobals "MOST_LETTERS"=some (some (.int 8 w_MOST_LETTERS)))
  (v_LENGTHS:PySem.W.nsIn K mainGlobals "LENGTHS"=some (some (.ref z_LENGTHS)))
  (l_LENGTHS:K.lookup z_LENGTHS=some ⟨.type "dict",none,.dict #[e0_LENGTHS,e1_LENGTHS,e2_LENGTHS,e3_LENGTHS,e4_LENGTHS,e5_LENGTHS] ep_LENGTHS,#[]⟩)
  (u_LENGTHS:(z_LENGTHS==sysModules)=false)
  (a0_LENGTHS_:e0_LENGTHS.key=.str "any" a0_LENGTHS)
  (b0_LENGTHS_:e0_LENGTHS.val=.int 1 b0_LENGTHS)
  (a1_LENGTHS_:e1_LENGTHS.key=.str "num" a1_LENGTHS)
  (b1_LENGTHS_:e1_LENGTHS.val=.int 1 b1_LENGTHS)
  (a2_LENGTHS_:e2_LENGTHS.key=.str "truth" a2_LENGTHS)
  (b2_LENGTHS_:e2_LENGTHS.val=.int 1 b2_LENGTHS)
  (a3_LENGTHS_:e3_LENGTHS.key=.str "to" a3_LENGTHS)
  (b3_LENGTHS_:e3_LENGTHS.val=.int 3 b3_LENGTHS)
  (a4_LENGTHS_:e4_LENGTHS.key=.str "box" a4_LENGTHS)
  (b4_LENGTHS_:e4_LENGTHS.val=.int 2 b4_LENGTHS)
  (a5_LENGTHS_:e5_LENGTHS.key=.str "row" a5_LENGTHS)
  (b5_LENGTHS_:e5_LENGTHS.val=.int 3 b5_LENGTHS)
  (v_STEPS:PySem.W.nsIn K mainGlobals "STEPS"=some (some (.ref z_STEPS)))
  (l_STEPS:K.lookup z_STEPS=some ⟨.type "dict",none,.dict #[s0,s1,s2,s3,s4] ep_STEPS,#[]⟩)
  (u_STEPS:(z_STEPS==sysModules)=false)
  (ka0:s0.key=.str "any" st0)
  (kb0:s0.val=.ref sa0)
  (kc0:K.lookup sa0=some ⟨.type "tuple",sd0,.seq #[] sn0,sl0⟩)
  (ka1:s1.key=.str "num" st1)
  (kb1:s1.val=.ref sa1)
  (kc1:K.lookup sa1=some ⟨.type "tuple",sd1,.seq #[] sn1,sl1⟩)
  (ka2:s2.key=.str "truth" st2)
  (kb2:s2.val=.ref sa2)
  (kc2:K.lookup sa2=some ⟨.type "tuple",sd2,.seq #[] sn2,sl2⟩)
  (ka3:s3.key=.str "to" st3)
  (kb3:s3.val=.ref sa3)
  (kc3:K.lookup sa3=some ⟨.type "tuple",sd3,.seq #[.str "in" sw3_0,.str "out" sw3_1] sn3,sl3⟩)
  (ka4:s4.key=.str "box" st4)
  (kb4:s4.val=.ref sa4)
  (kc4:K.lookup sa4=some ⟨.type "tuple",sd4,.seq #[.str "inside" sw4_0] sn4,sl4⟩)
 :
  ∃ a:Adr,∀ base:Heap,K.In base→Tx K mg base a:=by
 refine ⟨⟨c_CastError,c_NoKind⟩,fun base B=>?_⟩
 exact {
  Zju:=PySem.W.mg_none_of X G Zju
  ZiT:=PySem.W.mg_none_of X G ZiT
  Zit:=PySem.W.mg_none_of X G Zit
  Zj1:=PySem.W.mg_none_of X G Zj1
  ZaM:=PySem.W.mg_none_of X G ZaM
  ZgM:=PySem.W.mg_none_of X G ZgM
  Zg3:=PySem.W.mg_none_of X G Zg3
  Zld:=PySem.W.mg_none_of X G Zld
  Zd5:=PySem.W.mg_none_of X G Zd5
  ZlG:=PySem.W.mg_none_of X G ZlG
  Zcr:=PySem.W.mg_none_of X G Zcr
  ZhX:=PySem.W.mg_none_of X G ZhX
  Zlj:=PySem.W.mg_of X G e_CastError
  ZqG:=PySem.W.mg_of X G e_NoKind
  Zf6:=ZsB X G (ts:=[("must",w0_MARKS),("may",w1_MARKS)]) Zf6 l_MARKS (by simp)
  Zci:=Zlc X G Zci
  Zcj:=Zlc X G Zcj
  Zbw:=Zlc X G Zbw
  ZjO:=ZvQ X G B v_LENGTHS l_LENGTHS u_LENGTHS ⟨rfl,rfl,rfl⟩ rfl (ZmQ a0_LENGTHS_ b0_LENGTHS_ (ZmQ a1_LENGTHS_ b1_LENGTHS_ (ZmQ a2_LENGTHS_ b2_LENGTHS_ (ZmQ a3_LENGTHS_ b3_LENGTHS_ (ZmQ a4_LENGTHS_ b4_LENGTHS_ (ZmQ a5_LENGTHS_ b5_LENGTHS_ .nil))))))
  Zlk:=Zta X G B v_STEPS l_STEPS u_STEPS ⟨rfl,rfl,rfl⟩ rfl (Zo5 (ts:=[]) ka0 kb0 kc0 (by simp) (Zo5 (ts:=[]) ka1 kb1 kc1 (by simp) (Zo5 (ts:=[]) ka2 kb2 kc2 (by simp) (Zo5 (ts:=[("in",sw3_0),("out",sw3_1)]) ka3 kb3 kc3 (by simp) (Zo5 (ts:=[("inside",sw4_0)]) ka4 kb4 kc4 (by simp) .nil)))))
  ZbT:=ZbT
  Zdv:=Zdv
  ZfN:=ZfN
  ZeJ:=ZeJ
  Zdt:=Zdt
  ZeK:=ZeK
  ZcQ:=ZcQ
  ZcP:=ZcP
  Zdy:=Zdy
  Zfz:=Zfz
  Zdw:=Zdw
  ZeH:=ZeH
  ZeO:=ZeO
  ZcC:=ZcC
  Zc4:=Zc4
  Zg2:=Zg2
  ZbB:=ZbB
  Zcp:=Zcp
  ZdU:=ZdU
  Zds:=Zds
  Zd4:=Zd4
  ZbN:=ZbN
  ZcH:=ZcH
  Zb5:=Zb5
  ZbW:=ZbW
  ZcT:=ZcT
  ZdD:=ZdD
  ZcW:=ZcW
  Ztl:=Ztl
  Zcz:=Zcz
  ZdT:=ZdT
  Zc2:=Zc2
  ZfL:=ZfL }
end K6
open PySem PySem.W PyProof.Rows
set_option maxRecDepth 100000 in
set_option maxHeartbeats 0 in
theorem PySem.Challenge.cw_castwright_k17_first_clashes_holds : PySem.Challenge.rw_castwright_k17_first_clashes.Holds := by
 show K6.rwS.Holds
 w_on;o_law
 refine holds_open (r:=K6.rwS.row) (q:=K6.vwS) (loose:=["LENGTHS","STEPS"]) (N:=3452)
  (Yf:=(kHook K6.KF K6.KL K6.kfe).obs) (Ya:=(kHook K6.KF K6.KL K6.kfe).val) (YP:=(kHook K6.KF K6.KL K6.kfe).says)
  (Xt:=fun s=>xlAt K6.vwS [] s&&recOk (RowW.records K6.rwS.row.toRowW) s)
  (XP:=XL K6.vwS []) ?hl (kHook K6.KF K6.KL K6.kfe).of (kHook K6.KF K6.KL K6.kfe).keeps ?g1 XL.keeps rfl rfl rfl ?g2 rfl
  ?g3 (by decide +kernel) ?g4 ?hw ?hc
 case g1=>exact fun s e=>xl_of s (Bool.and_eq_true_iff.mp e).1
 case g2=>exact fun s e=>recFacts_of (Bool.and_eq_true_iff.mp e).2
 case g3=>first | assumption | decide +kernel
 case g4=>exact ⟨rfl,rfl,rfl,rfl,rfl,by decide +kernel⟩
 case hw=>w_witness2
 case hl=>exact byRow2 "special-get-raises" K6.lbf K6.lbt
 k_fill
 refine L3.Zxp (l:=K6.rwS) (k:=28) ⟨rfl,by decide,by decide⟩ rfl rfl (fun w h Y=>PySem.W.kIn_of Y) ?F
 case F =>
  intro w mg fa h KX G hmg
  have F_is_small_letter:L3.Fn (L2.KOf KX) mg K6.ZaO "is_small_letter" ["sign"]:=by
   dsimp only [L2.KOf]
   refine' L3.ZbZ KX G ?e ?l ?c ?k ?b
   (case e=>k_is);(case l=>k_is);(case c=>k_is);(case k=>k_is)
   (case b=>exact fun _ _ _ _ _ _ us hl=>by obtain ⟨_,_,rfl,g0⟩:=L3.ln1 hl;obtain rfl:=L3.ln0 g0;rfl)
  have F_names_rise:L3.Fn (L2.KOf KX) mg K6.ZbQ "names_rise" ["names"]:=by
   dsimp only [L2.KOf]
   refine' L3.ZbZ KX G ?e ?l ?c ?k ?b
   (case e=>k_is);(case l=>k_is);(case c=>k_is);(case k=>k_is)
   (case b=>exact fun _ _ _ _ _ _ us hl=>by obtain ⟨_,_,rfl,g0⟩:=L3.ln1 hl;obtain rfl:=L3.ln0 g0;rfl)
  have F_is_name:L3.Fn (L2.KOf KX) mg K6.Zde "is_name" ["thing"]:=by
   dsimp only [L2.KOf]
   refine' L3.ZbZ KX G ?e ?l ?c ?k ?b
   (case e=>k_is);(case l=>k_is);(case c=>k_is);(case k=>k_is)
   (case b=>exact fun _ _ _ _ _ _ us hl=>by obtain ⟨_,_,rfl,g0⟩:=L3.ln1 hl;obtain rfl:=L3.ln0 g0;rfl)
  have F_is_field:L3.Fn (L2.KOf KX) mg K6.ZcL "is_field" ["thing"]:=by
   dsimp only [L2.KOf]
   refine' L3.ZbZ KX G ?e ?l ?c ?k ?b
   (case e=>k_is);(case l=>k_is);(case c=>k_is);(case k=>k_is)
   (case b=>exact fun _ _ _ _ _ _ us hl=>by obtain ⟨_,_,rfl,g0⟩:=L3.ln1 hl;obtain rfl:=L3.ln0 g0;rfl)
  have F_are_fields:L3.Fn (L2.KOf KX) mg K6.ZbC "are_fields" ["thing"]:=by
   dsimp only [L2.KOf]
   refine' L3.ZbZ KX G ?e ?l ?c ?k ?b
   (case e=>k_is);(case l=>k_is);(case c=>k_is);(case k=>k_is)
   (case b=>exact fun _ _ _ _ _ _ us hl=>by obtain ⟨_,_,rfl,g0⟩:=L3.ln1 hl;obtain rfl:=L3.ln0 g0;rfl)
  have F_has_form:L3.Fn (L2.KOf KX) mg K6.ZcK "has_form" ["thing"]:=by
   dsimp only [L2.KOf]
   refine' L3.ZbZ KX G ?e ?l ?c ?k ?b
   (case e=>k_is);(case l=>k_is);(case c=>k_is);(case k=>k_is)
   (case b=>exact fun _ _ _ _ _ _ us hl=>by obtain ⟨_,_,rfl,g0⟩:=L3.ln1 hl;obtain rfl:=L3.ln0 g0;rfl)
  have F_kinds_within:L3.Fn (L2.KOf KX) mg K6.Zbh "kinds_within" ["kind"]:=by
   dsimp only [L2.KOf]
   refine' L3.ZbZ KX G ?e ?l ?c ?k ?b
   (case e=>k_is);(case l=>k_is);(case c=>k_is);(case k=>k_is)
   (case b=>exact fun _ _ _ _ _ _ us hl=>by obtain ⟨_,_,rfl,g0⟩:=L3.ln1 hl;obtain rfl:=L3.ln0 g0;rfl)
  have F_layer_within:L3.Fn (L2.KOf KX) mg K6.Zbf "layer_within" ["layer","things_within"]:=by
   dsimp only [L2.KOf]
   refine' L3.ZbZ KX G ?e ?l ?c ?k ?b
   (case e=>k_is);(case l=>k_is);(case c=>k_is);(case k=>k_is)
   (case b=>exact fun _ _ _ _ _ _ us hl=>by obtain ⟨_,_,rfl,g0⟩:=L3.ln1 hl;obtain ⟨_,_,rfl,g1⟩:=L3.ln1 g0;obtain rfl:=L3.ln0 g1;rfl)
  have F_is_made_of:L3.Fn (L2.KOf KX) mg K6.Zbo "is_made_of" ["thing","is_formed","things_within","most","deepest"]:=by
   dsimp only [L2.KOf]
   refine' L3.ZbZ KX G ?e ?l ?c ?k ?b
   (case e=>k_is);(case l=>k_is);(case c=>k_is);(case k=>k_is)
   (case b=>exact fun _ _ _ _ _ _ us hl=>by obtain ⟨_,_,rfl,g0⟩:=L3.ln1 hl;obtain ⟨_,_,rfl,g1⟩:=L3.ln1 g0;obtain ⟨_,_,rfl,g2⟩:=L3.ln1 g1;obtain ⟨_,_,rfl,g3⟩:=L3.ln1 g2;obtain ⟨_,_,rfl,g4⟩:=L3.ln1 g3;obtain rfl:=L3.ln0 g4;rfl)
  have F_is_kind:L3.Fn (L2.KOf KX) mg K6.Zdd "is_kind" ["thing"]:=by
   dsimp only [L2.KOf]
   refine' L3.ZbZ KX G ?e ?l ?c ?k ?b
   (case e=>k_is);(case l=>k_is);(case c=>k_is);(case k=>k_is)
   (case b=>exact fun _ _ _ _ _ _ us hl=>by obtain ⟨_,_,rfl,g0⟩:=L3.ln1 hl;obtain rfl:=L3.ln0 g0;rfl)
  have F_check_kind:L3.Fn (L2.KOf KX) mg K6.ZbE "check_kind" ["thing"]:=by
   dsimp only [L2.KOf]
   refine' L3.ZbZ KX G ?e ?l ?c ?k ?b
   (case e=>k_is);(case l=>k_is);(case c=>k_is);(case k=>k_is)
   (case b=>exact fun _ _ _ _ _ _ us hl=>by obtain ⟨_,_,rfl,g0⟩:=L3.ln1 hl;obtain rfl:=L3.ln0 g0;rfl)
  have F_entry_of:L3.Fn (L2.KOf KX) mg K6.ZcE "entry_of" ["row","name"]:=by
   dsimp only [L2.KOf]
   refine' L3.ZbZ KX G ?e ?l ?c ?k ?b
   (case e=>k_is);(case l=>k_is);(case c=>k_is);(case k=>k_is)
   (case b=>exact fun _ _ _ _ _ _ us hl=>by obtain ⟨_,_,rfl,g0⟩:=L3.ln1 hl;obtain ⟨_,_,rfl,g1⟩:=L3.ln1 g0;obtain rfl:=L3.ln0 g1;rfl)
  have F_names_of:L3.Fn (L2.KOf KX) mg K6.ZcN "names_of" ["row"]:=by
   dsimp only [L2.KOf]
   refine' L3.ZbZ KX G ?e ?l ?c ?k ?b
   (case e=>k_is);(case l=>k_is);(case c=>k_is);(case k=>k_is)
   (case b=>exact fun _ _ _ _ _ _ us hl=>by obtain ⟨_,_,rfl,g0⟩:=L3.ln1 hl;obtain rfl:=L3.ln0 g0;rfl)
  have F_names_of_both:L3.Fn (L2.KOf KX) mg K6.Za6 "names_of_both" ["one","other"]:=by
   dsimp only [L2.KOf]
   refine' L3.ZbZ KX G ?e ?l ?c ?k ?b
   (case e=>k_is);(case l=>k_is);(case c=>k_is);(case k=>k_is)
   (case b=>exact fun _ _ _ _ _ _ us hl=>by obtain ⟨_,_,rfl,g0⟩:=L3.ln1 hl;obtain ⟨_,_,rfl,g1⟩:=L3.ln1 g0;obtain rfl:=L3.ln0 g1;rfl)
  have F_check_kinds:L3.Fn (L2.KOf KX) mg K6.Zbt "check_kinds" ["one","other"]:=by
   dsimp only [L2.KOf]
   refine' L3.ZbZ KX G ?e ?l ?c ?k ?b
   (case e=>k_is);(case l=>k_is);(case c=>k_is);(case k=>k_is)
   (case b=>exact fun _ _ _ _ _ _ us hl=>by obtain ⟨_,_,rfl,g0⟩:=L3.ln1 hl;obtain ⟨_,_,rfl,g1⟩:=L3.ln1 g0;obtain rfl:=L3.ln0 g1;rfl)
  have F_behind:L3.Fn (L2.KOf KX) mg K6.Zed "behind" ["step","path"]:=by
   dsimp only [L2.KOf]
   refine' L3.ZbZ KX G ?e ?l ?c ?k ?b
   (case e=>k_is);(case l=>k_is);(case c=>k_is);(case k=>k_is)
   (case b=>exact fun _ _ _ _ _ _ us hl=>by obtain ⟨_,_,rfl,g0⟩:=L3.ln1 hl;obtain ⟨_,_,rfl,g1⟩:=L3.ln1 g0;obtain rfl:=L3.ln0 g1;rfl)
  have F_clash_of_entries:L3.Fn (L2.KOf KX) mg K6.ZaJ "clash_of_entries" ["one","other"]:=by
   dsimp only [L2.KOf]
   refine' L3.ZbZ KX G ?e ?l ?c ?k ?b
   (case e=>k_is);(case l=>k_is);(case c=>k_is);(case k=>k_is)
   (case b=>exact fun _ _ _ _ _ _ us hl=>by obtain ⟨_,_,rfl,g0⟩:=L3.ln1 hl;obtain ⟨_,_,rfl,g1⟩:=L3.ln1 g0;obtain rfl:=L3.ln0 g1;rfl)
  have F_clash_of_rows:L3.Fn (L2.KOf KX) mg K6.Za7 "clash_of_rows" ["one","other"]:=by
   dsimp only [L2.KOf]
   refine' L3.ZbZ KX G ?e ?l ?c ?k ?b
   (case e=>k_is);(case l=>k_is);(case c=>k_is);(case k=>k_is)
   (case b=>exact fun _ _ _ _ _ _ us hl=>by obtain ⟨_,_,rfl,g0⟩:=L3.ln1 hl;obtain ⟨_,_,rfl,g1⟩:=L3.ln1 g0;obtain rfl:=L3.ln0 g1;rfl)
  have F_clash_of:L3.Fn (L2.KOf KX) mg K6.ZcM "clash_of" ["one","other"]:=by
   dsimp only [L2.KOf]
   refine' L3.ZbZ KX G ?e ?l ?c ?k ?b
   (case e=>k_is);(case l=>k_is);(case c=>k_is);(case k=>k_is)
   (case b=>exact fun _ _ _ _ _ _ us hl=>by obtain ⟨_,_,rfl,g0⟩:=L3.ln1 hl;obtain ⟨_,_,rfl,g1⟩:=L3.ln1 g0;obtain rfl:=L3.ln0 g1;rfl)
  have F__law_state:L3.Fn (L2.KOf KX) mg K6.ZbF "_law_state" ["script","k"]:=by
   dsimp only [L2.KOf]
   refine' L3.ZbZ KX G ?e ?l ?c ?k ?b
   (case e=>k_is);(case l=>k_is);(case c=>k_is);(case k=>k_is)
   (case b=>exact fun _ _ _ _ _ _ us hl=>by obtain ⟨_,_,rfl,g0⟩:=L3.ln1 hl;obtain ⟨_,_,rfl,g1⟩:=L3.ln1 g0;obtain rfl:=L3.ln0 g1;rfl)
  have F__law_take:L3.Fn (L2.KOf KX) mg K6.Zcc "_law_take" ["state","many"]:=by
   dsimp only [L2.KOf]
   refine' L3.ZbZ KX G ?e ?l ?c ?k ?b
   (case e=>k_is);(case l=>k_is);(case c=>k_is);(case k=>k_is)
   (case b=>exact fun _ _ _ _ _ _ us hl=>by obtain ⟨_,_,rfl,g0⟩:=L3.ln1 hl;obtain ⟨_,_,rfl,g1⟩:=L3.ln1 g0;obtain rfl:=L3.ln0 g1;rfl)
  have F__law_kind:L3.Fn (L2.KOf KX) mg K6.Zcb "_law_kind" ["state","deep"]:=by
   dsimp only [L2.KOf]
   refine' L3.ZbZ KX G ?e ?l ?c ?k ?b
   (case e=>k_is);(case l=>k_is);(case c=>k_is);(case k=>k_is)
   (case b=>exact fun _ _ _ _ _ _ us hl=>by obtain ⟨_,_,rfl,g0⟩:=L3.ln1 hl;obtain ⟨_,_,rfl,g1⟩:=L3.ln1 g0;obtain rfl:=L3.ln0 g1;rfl)
  have F__law_near:L3.Fn (L2.KOf KX) mg K6.ZbL "_law_near" ["state","kind","deep"]:=by
   dsimp only [L2.KOf]
   refine' L3.ZbZ KX G ?e ?l ?c ?k ?b
   (case e=>k_is);(case l=>k_is);(case c=>k_is);(case k=>k_is)
   (case b=>exact fun _ _ _ _ _ _ us hl=>by obtain ⟨_,_,rfl,g0⟩:=L3.ln1 hl;obtain ⟨_,_,rfl,g1⟩:=L3.ln1 g0;obtain ⟨_,_,rfl,g2⟩:=L3.ln1 g1;obtain rfl:=L3.ln0 g2;rfl)
  have F__law_renamed:L3.Fn (L2.KOf KX) mg K6.Za3 "_law_renamed" ["kind","names"]:=by
   dsimp only [L2.KOf]
   refine' L3.ZbZ KX G ?e ?l ?c ?k ?b
   (case e=>k_is);(case l=>k_is);(case c=>k_is);(case k=>k_is)
   (case b=>exact fun _ _ _ _ _ _ us hl=>by obtain ⟨_,_,rfl,g0⟩:=L3.ln1 hl;obtain ⟨_,_,rfl,g1⟩:=L3.ln1 g0;obtain rfl:=L3.ln0 g1;rfl)
  have F__law_some_names:L3.Fn (L2.KOf KX) mg K6.ZaN "_law_some_names" ["state"]:=by
   dsimp only [L2.KOf]
   refine' L3.ZbZ KX G ?e ?l ?c ?k ?b
   (case e=>k_is);(case l=>k_is);(case c=>k_is);(case k=>k_is)
   (case b=>exact fun _ _ _ _ _ _ us hl=>by obtain ⟨_,_,rfl,g0⟩:=L3.ln1 hl;obtain rfl:=L3.ln0 g0;rfl)
  have F__law_entries:L3.Fn (L2.KOf KX) mg K6.Za2 "_law_entries" ["kind","names"]:=by
   dsimp only [L2.KOf]
   refine' L3.ZbZ KX G ?e ?l ?c ?k ?b
   (case e=>k_is);(case l=>k_is);(case c=>k_is);(case k=>k_is)
   (case b=>exact fun _ _ _ _ _ _ us hl=>by obtain ⟨_,_,rfl,g0⟩:=L3.ln1 hl;obtain ⟨_,_,rfl,g1⟩:=L3.ln1 g0;obtain rfl:=L3.ln0 g1;rfl)
  have F__law_names:L3.Fn (L2.KOf KX) mg K6.ZbR "_law_names" ["one","other"]:=by
   dsimp only [L2.KOf]
   refine' L3.ZbZ KX G ?e ?l ?c ?k ?b
   (case e=>k_is);(case l=>k_is);(case c=>k_is);(case k=>k_is)
   (case b=>exact fun _ _ _ _ _ _ us hl=>by obtain ⟨_,_,rfl,g0⟩:=L3.ln1 hl;obtain ⟨_,_,rfl,g1⟩:=L3.ln1 g0;obtain rfl:=L3.ln0 g1;rfl)
  have F__law_clash:L3.Fn (L2.KOf KX) mg K6.Zbq "_law_clash" ["one","other"]:=by
   dsimp only [L2.KOf]
   refine' L3.ZbZ KX G ?e ?l ?c ?k ?b
   (case e=>k_is);(case l=>k_is);(case c=>k_is);(case k=>k_is)
   (case b=>exact fun _ _ _ _ _ _ us hl=>by obtain ⟨_,_,rfl,g0⟩:=L3.ln1 hl;obtain ⟨_,_,rfl,g1⟩:=L3.ln1 g0;obtain rfl:=L3.ln0 g1;rfl)
  have F_law:L3.Fn (L2.KOf KX) mg K6.ZkA "law" ["script"]:=by
   dsimp only [L2.KOf]
   refine' L3.ZbZ KX G ?e ?l ?c ?k ?b
   (case e=>k_is);(case l=>k_is);(case c=>k_is);(case k=>k_is)
   (case b=>exact fun _ _ _ _ _ _ us hl=>by obtain ⟨_,_,rfl,g0⟩:=L3.ln1 hl;obtain rfl:=L3.ln0 g0;rfl)
  have F_clash_at_name:L3.Fn (L2.KOf KX) mg K6.Za4 "clash_at_name" ["one","other","path"]:=by
   dsimp only [L2.KOf]
   refine' L3.ZbZ KX G ?e ?l ?c ?k ?b
   (case e=>k_is);(case l=>k_is);(case c=>k_is);(case k=>k_is)
   (case b=>exact fun _ _ _ _ _ _ us hl=>by obtain ⟨_,_,rfl,g0⟩:=L3.ln1 hl;obtain ⟨_,_,rfl,g1⟩:=L3.ln1 g0;obtain ⟨_,_,rfl,g2⟩:=L3.ln1 g1;obtain rfl:=L3.ln0 g2;rfl)
  have F_clash_at:L3.Fn (L2.KOf KX) mg K6.ZcG "clash_at" ["one","other","path"]:=by
   dsimp only [L2.KOf]
   refine' L3.ZbZ KX G ?e ?l ?c ?k ?b
   (case e=>k_is);(case l=>k_is);(case c=>k_is);(case k=>k_is)
   (case b=>exact fun _ _ _ _ _ _ us hl=>by obtain ⟨_,_,rfl,g0⟩:=L3.ln1 hl;obtain ⟨_,_,rfl,g1⟩:=L3.ln1 g0;obtain ⟨_,_,rfl,g2⟩:=L3.ln1 g1;obtain rfl:=L3.ln0 g2;rfl)
  have F_first_clash:L3.Fn (L2.KOf KX) mg K6.Zbs "first_clash" ["one","other"]:=by
   dsimp only [L2.KOf]
   refine' L3.ZbZ KX G ?e ?l ?c ?k ?b
   (case e=>k_is);(case l=>k_is);(case c=>k_is);(case k=>k_is)
   (case b=>exact fun _ _ _ _ _ _ us hl=>by obtain ⟨_,_,rfl,g0⟩:=L3.ln1 hl;obtain ⟨_,_,rfl,g1⟩:=L3.ln1 g0;obtain rfl:=L3.ln0 g1;rfl)
  have F_clashes:L3.Fn (L2.KOf KX) mg K6.Zdg "clashes" ["one","other","path"]:=by
   dsimp only [L2.KOf]
   refine' L3.ZbZ KX G ?e ?l ?c ?k ?b
   (case e=>k_is);(case l=>k_is);(case c=>k_is);(case k=>k_is)
   (case b=>exact fun _ _ _ _ _ _ us hl=>by obtain ⟨_,_,rfl,g0⟩:=L3.ln1 hl;obtain ⟨_,_,rfl,g1⟩:=L3.ln1 g0;obtain ⟨_,_,rfl,g2⟩:=L3.ln1 g1;obtain rfl:=L3.ln0 g2;rfl)
  have T:∃ a:K6.Adr,∀ base:Heap,(L2.KOf KX).In base→K6.Tx (L2.KOf KX) mg base a:=by
   dsimp only [L2.KOf] at *
   refine' K6.Zxo KX G F_is_small_letter F_names_rise F_is_name F_is_field F_are_fields F_has_form F_kinds_within F_layer_within F_is_made_of F_is_kind F_check_kind F_entry_of F_names_of F_names_of_both F_check_kinds F_behind F_clash_of_entries F_clash_of_rows F_clash_of F__law_state F__law_take F__law_kind F__law_near F__law_renamed F__law_some_names F__law_entries F__law_names F__law_clash F_law F_clash_at_name F_clash_at F_first_clash F_clashes ?e_CastError ?e_NoKind ?Zju ?ZiT ?Zit ?Zj1 ?ZaM ?ZgM ?Zg3 ?Zld ?Zd5 ?ZlG ?Zcr ?ZhX ?Zf6 ?l_MARKS ?Zci ?Zcj ?Zbw ?v_LENGTHS ?l_LENGTHS ?u_LENGTHS ?a0_LENGTHS_ ?b0_LENGTHS_ ?a1_LENGTHS_ ?b1_LENGTHS_ ?a2_LENGTHS_ ?b2_LENGTHS_ ?a3_LENGTHS_ ?b3_LENGTHS_ ?a4_LENGTHS_ ?b4_LENGTHS_ ?a5_LENGTHS_ ?b5_LENGTHS_ ?v_STEPS ?l_STEPS ?u_STEPS ?ka0 ?kb0 ?kc0 ?ka1 ?kb1 ?kc1 ?ka2 ?kb2 ?kc2 ?ka3 ?kb3 ?kc3 ?ka4 ?kb4 ?kc4
   (case e_CastError=>k_is)
   (case e_NoKind=>k_is)
   (case Zju=>k_is)
   (case ZiT=>k_is)
   (case Zit=>k_is)
   (case Zj1=>k_is)
   (case ZaM=>k_is)
   (case ZgM=>k_is)
   (case Zg3=>k_is)
   (case Zld=>k_is)
   (case Zd5=>k_is)
   (case ZlG=>k_is)
   (case Zcr=>k_is)
   (case ZhX=>k_is)
   (case Zf6=>k_is)
   (case l_MARKS=>k_is)
   (case Zci=>k_is)
   (case Zcj=>k_is)
   (case Zbw=>k_is)
   (case v_LENGTHS=>k_is)
   (case l_LENGTHS=>k_is)
   (case u_LENGTHS=>decide)
   (case a0_LENGTHS_=>exact rfl)
   (case b0_LENGTHS_=>exact rfl)
   (case a1_LENGTHS_=>exact rfl)
   (case b1_LENGTHS_=>exact rfl)
   (case a2_LENGTHS_=>exact rfl)
   (case b2_LENGTHS_=>exact rfl)
   (case a3_LENGTHS_=>exact rfl)
   (case b3_LENGTHS_=>exact rfl)
   (case a4_LENGTHS_=>exact rfl)
   (case b4_LENGTHS_=>exact rfl)
   (case a5_LENGTHS_=>exact rfl)
   (case b5_LENGTHS_=>exact rfl)
   (case v_STEPS=>k_is)
   (case l_STEPS=>k_is)
   (case u_STEPS=>decide)
   (case ka0=>exact rfl)
   (case kb0=>exact rfl)
   (case kc0=>k_is)
   (case ka1=>exact rfl)
   (case kb1=>exact rfl)
   (case kc1=>k_is)
   (case ka2=>exact rfl)
   (case kb2=>exact rfl)
   (case kc2=>k_is)
   (case ka3=>exact rfl)
   (case kb3=>exact rfl)
   (case kc3=>k_is)
   (case ka4=>exact rfl)
   (case kb4=>exact rfl)
   (case kc4=>k_is)
  obtain ⟨a,T⟩:=T
  obtain ⟨f,fd,hm,F,_⟩:=F_law
  have e0:=hmg.symm.trans hm
  cases e0
  obtain ⟨oc,od,kV,doc,pm,an,cdv,ct,osl,rfl,lk,hcd⟩:=F.ex
  exact ⟨_,fun s u=>.of_eq rfl,fun base kb nb=>K6.Zxc (T base kb) F⟩
