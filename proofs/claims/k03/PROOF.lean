import PyProof.Rows.All
import Wide.All
import OpenK.AllK
import Wide.FinOn
import Lean
import PyProof.EqAt
import PyProof.EqKinds
import PyProof.TupleCall
import PySem.Challenge.RW_castwright_k03_kinds_written
set_option Elab.async false
set_option linter.all false
set_option maxRecDepth 100000
set_option maxHeartbeats 4000000
namespace L2
open PySem PySem.Spec PyProof.Rows
def inClass (s : Stmt) (j : Nat) : Stmt := match s with
  | .ClassDef _ _ _ body _ _ _ _ _ _ _ => body.getD j (.Pass ⟨0, 0, 0, 0⟩)
  | _ => .Pass ⟨0, 0, 0, 0⟩
def defArgs (s : Stmt) : Arguments := match s with
  | .FunctionDef _ a _ _ _ _ _ _ _ _ => a
  | _ => { posonlyargs := [], args := [], vararg := none, kwonlyargs := [], kw_defaults := [], kwarg := none, defaults := [] }
def defBody (s : Stmt) : List Stmt := match s with
  | .FunctionDef _ _ b _ _ _ _ _ _ _ => b
  | _ => []
def defScope (s : Stmt) : Scope := match s with
  | .FunctionDef _ _ _ _ _ _ sc _ _ _ => sc
  | _ => { kind := .function, names := [], isGenerator := false, isCoroutine := false }
end L2
namespace K3
open PySem PySem.Spec PyProof.Rows L2
 def top (i : Nat) : Stmt := PySem.Challenge.pw_castwright_k03_kinds_written.main.body.getD i (.Pass ⟨0, 0, 0, 0⟩)
 def t0 : Stmt := top 0
 def t1 : Stmt := top 1
 def t2 : Stmt := top 2
 def t3 : Stmt := top 3
 def t4 : Stmt := top 4
 def t5 : Stmt := top 5
 def t6 : Stmt := top 6
 def t7 : Stmt := top 7
 def t8 : Stmt := top 8
 def t9 : Stmt := top 9
 def t10 : Stmt := top 10
 def t11 : Stmt := top 11
 def t12 : Stmt := top 12
 def t13 : Stmt := top 13
 def t14 : Stmt := top 14
 def t15 : Stmt := top 15
 def t16 : Stmt := top 16
 def t17 : Stmt := top 17
 def t18 : Stmt := top 18
 def t19 : Stmt := top 19
 def t20 : Stmt := top 20
 def t21 : Stmt := top 21
 def t22 : Stmt := top 22
 def t23 : Stmt := top 23
 def t24 : Stmt := top 24
 def t25 : Stmt := top 25
 def t26 : Stmt := top 26
 def t27 : Stmt := top 27
 def t28 : Stmt := top 28
 def t29 : Stmt := top 29
 def t30 : Stmt := top 30
 def t31 : Stmt := top 31
 def t32 : Stmt := top 32
 def t33 : Stmt := top 33
 def t34 : Stmt := top 34
 def t35 : Stmt := top 35
 def t36 : Stmt := top 36
 def t37 : Stmt := top 37
 def t38 : Stmt := top 38
 def t39 : Stmt := top 39
 def t40 : Stmt := top 40
 def t41 : Stmt := top 41
 def t42 : Stmt := top 42
 def t43 : Stmt := top 43
 def pwS : Program := { PySem.Challenge.pw_castwright_k03_kinds_written with main := { PySem.Challenge.pw_castwright_k03_kinds_written.main with body := [t0, t1, t2, t3, t4, t5, t6, t7, t8, t9, t10, t11, t12, t13, t14, t15, t16, t17, t18, t19, t20, t21, t22, t23, t24, t25, t26, t27, t28, t29, t30, t31, t32, t33, t34, t35, t36, t37, t38, t39, t40, t41, t42, t43] } }
 def rwS : PySem.W.OpenLaw := { PySem.Challenge.rw_castwright_k03_kinds_written with prog := pwS }
 def vwS : Program := { pwS with main := { pwS.main with body := [t0, t2, t3, t4, t6, t7, t8, t9, t10, t11, t12, t13, t14, t15, t16, t17, t18, t19, t20, t21, t23, t25, t26, t27, t28, t29, t30, t31, t32, t33, t34, t36, t37, t38, t39, t40, t41, t42, t43] } }
noncomputable abbrev en (P : Params) (k : Str) (t : Tok) (v : Value) : DictEntry := ⟨PyData.keyHash P k, .str k t, v⟩
noncomputable def KF : Params → PySem.W.Frag := fun P =>
  (nat_lit 2, .mk .none Option.none (.dict #[]) #[]) ::
  (nat_lit 3, .mk (.type "dict") Option.none (.dict #[en P "__name__" 165 (.str "law_castwright_k03_kinds_written" 515), en P "__doc__" 166 .none, en P "__package__" 167 .none, en P "__loader__" 168 (.builtin "__main__.__loader__#opaque"), en P "__spec__" 169 .none, en P "__annotations__" 170 (.ref 6), en P "__builtins__" 171 (.ref 4), en P "__file__" 173 (.str "/claim/cut.py" 172), en P "__cached__" 174 .none, en P "_wall" 193 (.ref 21), en P "CastError" 213 (.ref 31), en P "NoKind" 229 (.ref 44), en P "BadNote" 245 (.ref 56), en P "MOST_KINDS" 249 (.int 40 248), en P "MOST_DEPTH" 251 (.int 8 250), en P "MOST_LETTERS" 253 (.int 8 252), en P "MARKS" 256 (.ref 59), en P "LENGTHS" 275 (.ref 60), en P "check_kind" 282 (.ref 67), en P "is_kind" 289 (.ref 74), en P "is_made_of" 295 (.ref 79), en P "layer_within" 305 (.ref 86), en P "kinds_within" 311 (.ref 91), en P "has_form" 318 (.ref 98), en P "are_fields" 324 (.ref 103), en P "is_field" 331 (.ref 110), en P "is_name" 337 (.ref 115), en P "is_small_letter" 344 (.ref 122), en P "names_rise" 350 (.ref 127), en P "Reader" 428 (.ref 186), en P "kind_shown" 437 (.ref 197), en P "kind_read" 446 (.ref 204), en P "written" 453 (.ref 211), en P "row_written" 459 (.ref 216), en P "field_written" 467 (.ref 223), en P "kind_from" 476 (.ref 230), en P "function_from" 486 (.ref 237), en P "box_from" 495 (.ref 244), en P "row_from" 504 (.ref 251), en P "field_from" 514 (.ref 258), en P "_law_state" 525 (.ref 265), en P "_law_take" 535 (.ref 272), en P "_law_kind" 547 (.ref 279), en P "_law_renamed" 553 (.ref 284), en P "_law_some_names" 561 (.ref 291), en P "_law_text" 567 (.ref 296), en P "_law_is_kind" 573 (.ref 301), en P "law" 585 (.ref 308)] 48) #[]) ::
  (nat_lit 20, .mk (.type "code") Option.none (.fields #[.str "_wall" 187, .str "_wall" 188, .str "/claim/cut.py" 189, .int 1 0, .int 1 0, .int 0 0, .int 0 0, .int 3 0, .ref 15, .bool Bool.true, .int 181 0, .ref 16, .none, .ref 17, .ref 18, .ref 19, .int 191 0, .int 1 0, .str "/claim/cut.py" 192]) #[]) ::
  (nat_lit 21, .mk (.type "function") Option.none (.func (PySem.W.fnOf "_wall" "_wall" (defArgs (top 0)) (defBody (top 0)) (defScope (top 0)) .none .none .none (.str "__main__" 164) Option.none (.ref 20) .none)) #[]) ::
  (nat_lit 22, .mk (.type "tuple") Option.none (.seq #[.type "ValueError"]) #[]) ::
  (nat_lit 30, .mk (.type "dict") Option.none (.dict #[en P "__module__" 203 (.str "castwright.errors" 194), en P "__firstlineno__" 207 (.int 5 206), en P "__static_attributes__" 208 (.ref 29), en P "__weakref__" 210 (.ref 32), en P "__doc__" 211 .none] 3) #[]) ::
  (nat_lit 31, .mk (.type "type") Option.none (.cls (.mk "CastError" [.type "ValueError"] [.ref 31, .type "ValueError", .type "Exception", .type "BaseException", .type "object"] 30 "CastError" Bool.true [] [.ref 44, .ref 56] Bool.false Option.none Bool.false)) #[Option.some (.ref 22), Option.none, Option.some (.str "CastError" 196), Option.some (.str "CastError" 204), Option.some (.builtin "ValueError.__new__"), Option.some (.bool Bool.true)]) ::
  (nat_lit 32, .mk (.type "getset_descriptor") Option.none (.fields #[.str "__weakref__" 209, .ref 31, .builtin "ExceptionGroup.__weakref__", .none]) #[]) ::
  (nat_lit 35, .mk (.type "tuple") Option.none (.seq #[.ref 31]) #[]) ::
  (nat_lit 43, .mk (.type "dict") Option.none (.dict #[en P "__module__" 221 (.str "castwright.errors" 194), en P "__firstlineno__" 225 (.int 7 224), en P "__static_attributes__" 226 (.ref 42), en P "__doc__" 227 .none] 2) #[]) ::
  (nat_lit 44, .mk (.type "type") Option.none (.cls (.mk "NoKind" [.ref 31] [.ref 44, .ref 31, .type "ValueError", .type "Exception", .type "BaseException", .type "object"] 43 "NoKind" Bool.true [] [] Bool.false Option.none Bool.false)) #[Option.some (.ref 35), Option.none, Option.some (.str "NoKind" 214), Option.some (.str "NoKind" 222), Option.some (.builtin "ValueError.__new__"), Option.some (.bool Bool.true)]) ::
  (nat_lit 47, .mk (.type "tuple") Option.none (.seq #[.ref 31]) #[]) ::
  (nat_lit 55, .mk (.type "dict") Option.none (.dict #[en P "__module__" 237 (.str "castwright.errors" 194), en P "__firstlineno__" 241 (.int 9 240), en P "__static_attributes__" 242 (.ref 54), en P "__doc__" 243 .none] 2) #[]) ::
  (nat_lit 56, .mk (.type "type") Option.none (.cls (.mk "BadNote" [.ref 31] [.ref 56, .ref 31, .type "ValueError", .type "Exception", .type "BaseException", .type "object"] 55 "BadNote" Bool.true [] [] Bool.false Option.none Bool.false)) #[Option.some (.ref 47), Option.none, Option.some (.str "BadNote" 230), Option.some (.str "BadNote" 238), Option.some (.builtin "ValueError.__new__"), Option.some (.bool Bool.true)]) ::
  (nat_lit 59, .mk (.type "tuple") Option.none (.seq #[.str "must" 254, .str "may" 255]) #[]) ::
  (nat_lit 60, .mk (.type "dict") Option.none (.dict #[en P "any" 257 (.int 1 258), en P "num" 259 (.int 1 260), en P "truth" 261 (.int 1 262), en P "to" 263 (.int 3 264), en P "box" 265 (.int 2 266), en P "row" 267 (.int 3 268)] 6) #[]) ::
  (nat_lit 66, .mk (.type "code") Option.none (.fields #[.str "check_kind" 276, .str "check_kind" 277, .str "/claim/cut.py" 278, .int 17 0, .int 1 0, .int 0 0, .int 0 0, .int 3 0, .ref 61, .bool Bool.true, .int 181 0, .ref 62, .none, .ref 63, .ref 64, .ref 65, .int 280 0, .int 17 0, .str "/claim/cut.py" 281]) #[]) ::
  (nat_lit 67, .mk (.type "function") Option.none (.func (PySem.W.fnOf "check_kind" "check_kind" (defArgs (top 11)) (defBody (top 11)) (defScope (top 11)) .none .none .none (.str "castwright.kinds" 246) Option.none (.ref 66) .none)) #[]) ::
  (nat_lit 73, .mk (.type "code") Option.none (.fields #[.str "is_kind" 283, .str "is_kind" 284, .str "/claim/cut.py" 285, .int 20 0, .int 1 0, .int 0 0, .int 0 0, .int 3 0, .ref 68, .bool Bool.true, .int 181 0, .ref 69, .none, .ref 70, .ref 71, .ref 72, .int 287 0, .int 20 0, .str "/claim/cut.py" 288]) #[]) ::
  (nat_lit 74, .mk (.type "function") Option.none (.func (PySem.W.fnOf "is_kind" "is_kind" (defArgs (top 12)) (defBody (top 12)) (defScope (top 12)) .none .none .none (.str "castwright.kinds" 246) Option.none (.ref 73) .none)) #[]) ::
  (nat_lit 78, .mk (.type "code") Option.none (.fields #[.str "is_made_of" 290, .str "is_made_of" 291, .str "/claim/cut.py" 292, .int 22 0, .int 5 0, .int 0 0, .int 0 0, .int 3 0, .ref 75, .bool Bool.true, .int 181 0, .ref 76, .none, .none, .none, .ref 77, .int 293 0, .int 22 0, .str "/claim/cut.py" 294]) #[]) ::
  (nat_lit 79, .mk (.type "function") Option.none (.func (PySem.W.fnOf "is_made_of" "is_made_of" (defArgs (top 13)) (defBody (top 13)) (defScope (top 13)) .none .none .none (.str "castwright.kinds" 246) Option.none (.ref 78) .none)) #[]) ::
  (nat_lit 85, .mk (.type "code") Option.none (.fields #[.str "layer_within" 296, .str "layer_within" 297, .str "/claim/cut.py" 298, .int 35 0, .int 2 0, .int 0 0, .int 0 0, .int 3 0, .ref 80, .bool Bool.true, .int 181 0, .ref 81, .none, .ref 82, .ref 83, .ref 84, .int 303 0, .int 35 0, .str "/claim/cut.py" 304]) #[]) ::
  (nat_lit 86, .mk (.type "function") Option.none (.func (PySem.W.fnOf "layer_within" "layer_within" (defArgs (top 14)) (defBody (top 14)) (defScope (top 14)) .none .none .none (.str "castwright.kinds" 246) Option.none (.ref 85) .none)) #[]) ::
  (nat_lit 90, .mk (.type "code") Option.none (.fields #[.str "kinds_within" 306, .str "kinds_within" 307, .str "/claim/cut.py" 308, .int 40 0, .int 1 0, .int 0 0, .int 0 0, .int 3 0, .ref 87, .bool Bool.true, .int 181 0, .ref 88, .none, .none, .none, .ref 89, .int 309 0, .int 40 0, .str "/claim/cut.py" 310]) #[]) ::
  (nat_lit 91, .mk (.type "function") Option.none (.func (PySem.W.fnOf "kinds_within" "kinds_within" (defArgs (top 15)) (defBody (top 15)) (defScope (top 15)) .none .none .none (.str "castwright.kinds" 246) Option.none (.ref 90) .none)) #[]) ::
  (nat_lit 97, .mk (.type "code") Option.none (.fields #[.str "has_form" 312, .str "has_form" 313, .str "/claim/cut.py" 314, .int 44 0, .int 1 0, .int 0 0, .int 0 0, .int 3 0, .ref 92, .bool Bool.true, .int 181 0, .ref 93, .none, .ref 94, .ref 95, .ref 96, .int 316 0, .int 44 0, .str "/claim/cut.py" 317]) #[]) ::
  (nat_lit 98, .mk (.type "function") Option.none (.func (PySem.W.fnOf "has_form" "has_form" (defArgs (top 16)) (defBody (top 16)) (defScope (top 16)) .none .none .none (.str "castwright.kinds" 246) Option.none (.ref 97) .none)) #[]) ::
  (nat_lit 102, .mk (.type "code") Option.none (.fields #[.str "are_fields" 319, .str "are_fields" 320, .str "/claim/cut.py" 321, .int 50 0, .int 1 0, .int 0 0, .int 0 0, .int 3 0, .ref 99, .bool Bool.true, .int 181 0, .ref 100, .none, .none, .none, .ref 101, .int 322 0, .int 50 0, .str "/claim/cut.py" 323]) #[]) ::
  (nat_lit 103, .mk (.type "function") Option.none (.func (PySem.W.fnOf "are_fields" "are_fields" (defArgs (top 17)) (defBody (top 17)) (defScope (top 17)) .none .none .none (.str "castwright.kinds" 246) Option.none (.ref 102) .none)) #[]) ::
  (nat_lit 109, .mk (.type "code") Option.none (.fields #[.str "is_field" 325, .str "is_field" 326, .str "/claim/cut.py" 327, .int 54 0, .int 1 0, .int 0 0, .int 0 0, .int 3 0, .ref 104, .bool Bool.true, .int 181 0, .ref 105, .none, .ref 106, .ref 107, .ref 108, .int 329 0, .int 54 0, .str "/claim/cut.py" 330]) #[]) ::
  (nat_lit 110, .mk (.type "function") Option.none (.func (PySem.W.fnOf "is_field" "is_field" (defArgs (top 18)) (defBody (top 18)) (defScope (top 18)) .none .none .none (.str "castwright.kinds" 246) Option.none (.ref 109) .none)) #[]) ::
  (nat_lit 114, .mk (.type "code") Option.none (.fields #[.str "is_name" 332, .str "is_name" 333, .str "/claim/cut.py" 334, .int 58 0, .int 1 0, .int 0 0, .int 0 0, .int 3 0, .ref 111, .bool Bool.true, .int 181 0, .ref 112, .none, .none, .none, .ref 113, .int 335 0, .int 58 0, .str "/claim/cut.py" 336]) #[]) ::
  (nat_lit 115, .mk (.type "function") Option.none (.func (PySem.W.fnOf "is_name" "is_name" (defArgs (top 19)) (defBody (top 19)) (defScope (top 19)) .none .none .none (.str "castwright.kinds" 246) Option.none (.ref 114) .none)) #[]) ::
  (nat_lit 121, .mk (.type "code") Option.none (.fields #[.str "is_small_letter" 338, .str "is_small_letter" 339, .str "/claim/cut.py" 340, .int 62 0, .int 1 0, .int 0 0, .int 0 0, .int 3 0, .ref 116, .bool Bool.true, .int 181 0, .ref 117, .none, .ref 118, .ref 119, .ref 120, .int 342 0, .int 62 0, .str "/claim/cut.py" 343]) #[]) ::
  (nat_lit 122, .mk (.type "function") Option.none (.func (PySem.W.fnOf "is_small_letter" "is_small_letter" (defArgs (top 20)) (defBody (top 20)) (defScope (top 20)) .none .none .none (.str "castwright.kinds" 246) Option.none (.ref 121) .none)) #[]) ::
  (nat_lit 126, .mk (.type "code") Option.none (.fields #[.str "names_rise" 345, .str "names_rise" 346, .str "/claim/cut.py" 347, .int 64 0, .int 1 0, .int 0 0, .int 0 0, .int 3 0, .ref 123, .bool Bool.true, .int 181 0, .ref 124, .none, .none, .none, .ref 125, .int 348 0, .int 64 0, .str "/claim/cut.py" 349]) #[]) ::
  (nat_lit 127, .mk (.type "function") Option.none (.func (PySem.W.fnOf "names_rise" "names_rise" (defArgs (top 21)) (defBody (top 21)) (defScope (top 21)) .none .none .none (.str "castwright.kinds" 246) Option.none (.ref 126) .none)) #[]) ::
  (nat_lit 140, .mk (.type "code") Option.none (.fields #[.str "__init__" 365, .str "Reader.__init__" 366, .str "/claim/cut.py" 367, .int 69 0, .int 2 0, .int 0 0, .int 0 0, .int 3 0, .ref 135, .bool Bool.true, .int 181 0, .ref 136, .none, .ref 137, .ref 138, .ref 139, .int 370 0, .int 69 0, .str "/claim/cut.py" 371]) #[]) ::
  (nat_lit 141, .mk (.type "function") Option.none (.func (PySem.W.fnOf "__init__" "Reader.__init__" (defArgs (inClass (top 23) 0)) (defBody (inClass (top 23) 0)) (defScope (inClass (top 23) 0)) .none .none .none (.str "castwright.reader" 351) Option.none (.ref 140) .none)) #[]) ::
  (nat_lit 147, .mk (.type "code") Option.none (.fields #[.str "sees" 373, .str "Reader.sees" 374, .str "/claim/cut.py" 375, .int 73 0, .int 2 0, .int 0 0, .int 0 0, .int 3 0, .ref 142, .bool Bool.true, .int 181 0, .ref 143, .none, .ref 144, .ref 145, .ref 146, .int 378 0, .int 73 0, .str "/claim/cut.py" 379]) #[]) ::
  (nat_lit 148, .mk (.type "function") Option.none (.func (PySem.W.fnOf "sees" "Reader.sees" (defArgs (inClass (top 23) 1)) (defBody (inClass (top 23) 1)) (defScope (inClass (top 23) 1)) .none .none .none (.str "castwright.reader" 351) Option.none (.ref 147) .none)) #[]) ::
  (nat_lit 154, .mk (.type "code") Option.none (.fields #[.str "takes" 381, .str "Reader.takes" 382, .str "/claim/cut.py" 383, .int 76 0, .int 2 0, .int 0 0, .int 0 0, .int 3 0, .ref 149, .bool Bool.true, .int 181 0, .ref 150, .none, .ref 151, .ref 152, .ref 153, .int 386 0, .int 76 0, .str "/claim/cut.py" 387]) #[]) ::
  (nat_lit 155, .mk (.type "function") Option.none (.func (PySem.W.fnOf "takes" "Reader.takes" (defArgs (inClass (top 23) 2)) (defBody (inClass (top 23) 2)) (defScope (inClass (top 23) 2)) .none .none .none (.str "castwright.reader" 351) Option.none (.ref 154) .none)) #[]) ::
  (nat_lit 161, .mk (.type "code") Option.none (.fields #[.str "wants" 389, .str "Reader.wants" 390, .str "/claim/cut.py" 391, .int 82 0, .int 2 0, .int 0 0, .int 0 0, .int 3 0, .ref 156, .bool Bool.true, .int 181 0, .ref 157, .none, .ref 158, .ref 159, .ref 160, .int 394 0, .int 82 0, .str "/claim/cut.py" 395]) #[]) ::
  (nat_lit 162, .mk (.type "function") Option.none (.func (PySem.W.fnOf "wants" "Reader.wants" (defArgs (inClass (top 23) 3)) (defBody (inClass (top 23) 3)) (defScope (inClass (top 23) 3)) .none .none .none (.str "castwright.reader" 351) Option.none (.ref 161) .none)) #[]) ::
  (nat_lit 168, .mk (.type "code") Option.none (.fields #[.str "wants_end" 397, .str "Reader.wants_end" 398, .str "/claim/cut.py" 399, .int 86 0, .int 1 0, .int 0 0, .int 0 0, .int 3 0, .ref 163, .bool Bool.true, .int 181 0, .ref 164, .none, .ref 165, .ref 166, .ref 167, .int 401 0, .int 86 0, .str "/claim/cut.py" 402]) #[]) ::
  (nat_lit 169, .mk (.type "function") Option.none (.func (PySem.W.fnOf "wants_end" "Reader.wants_end" (defArgs (inClass (top 23) 4)) (defBody (inClass (top 23) 4)) (defScope (inClass (top 23) 4)) .none .none .none (.str "castwright.reader" 351) Option.none (.ref 168) .none)) #[]) ::
  (nat_lit 175, .mk (.type "code") Option.none (.fields #[.str "word" 404, .str "Reader.word" 405, .str "/claim/cut.py" 406, .int 90 0, .int 1 0, .int 0 0, .int 0 0, .int 3 0, .ref 170, .bool Bool.true, .int 181 0, .ref 171, .none, .ref 172, .ref 173, .ref 174, .int 409 0, .int 90 0, .str "/claim/cut.py" 410]) #[]) ::
  (nat_lit 176, .mk (.type "function") Option.none (.func (PySem.W.fnOf "word" "Reader.word" (defArgs (inClass (top 23) 5)) (defBody (inClass (top 23) 5)) (defScope (inClass (top 23) 5)) .none .none .none (.str "castwright.reader" 351) Option.none (.ref 175) .none)) #[]) ::
  (nat_lit 182, .mk (.type "code") Option.none (.fields #[.str "figures" 412, .str "Reader.figures" 413, .str "/claim/cut.py" 414, .int 96 0, .int 1 0, .int 0 0, .int 0 0, .int 3 0, .ref 177, .bool Bool.true, .int 181 0, .ref 178, .none, .ref 179, .ref 180, .ref 181, .int 416 0, .int 96 0, .str "/claim/cut.py" 417]) #[]) ::
  (nat_lit 183, .mk (.type "function") Option.none (.func (PySem.W.fnOf "figures" "Reader.figures" (defArgs (inClass (top 23) 6)) (defBody (inClass (top 23) 6)) (defScope (inClass (top 23) 6)) .none .none .none (.str "castwright.reader" 351) Option.none (.ref 182) .none)) #[]) ::
  (nat_lit 185, .mk (.type "dict") Option.none (.dict #[en P "__module__" 360 (.str "castwright.reader" 351), en P "__firstlineno__" 364 (.int 67 363), en P "__init__" 372 (.ref 141), en P "sees" 380 (.ref 148), en P "takes" 388 (.ref 155), en P "wants" 396 (.ref 162), en P "wants_end" 403 (.ref 169), en P "word" 411 (.ref 176), en P "figures" 418 (.ref 183), en P "__static_attributes__" 421 (.ref 184), en P "__dict__" 423 (.ref 187), en P "__weakref__" 425 (.ref 188), en P "__doc__" 426 .none] 4) #[]) ::
  (nat_lit 186, .mk (.type "type") Option.none (.cls (.mk "Reader" [.type "object"] [.ref 186, .type "object"] 185 "Reader" Bool.true [] [] Bool.false Option.none Bool.false)) #[Option.none, Option.none, Option.some (.str "Reader" 353), Option.some (.str "Reader" 361), Option.some (.builtin "object.__new__"), Option.some (.bool Bool.true)]) ::
  (nat_lit 187, .mk (.type "getset_descriptor") Option.none (.fields #[.str "__dict__" 422, .ref 186, .builtin "function.__dict__", .builtin "function.__dict__#set"]) #[]) ::
  (nat_lit 188, .mk (.type "getset_descriptor") Option.none (.fields #[.str "__weakref__" 424, .ref 186, .builtin "ExceptionGroup.__weakref__", .none]) #[]) ::
  (nat_lit 196, .mk (.type "code") Option.none (.fields #[.str "kind_shown" 431, .str "kind_shown" 432, .str "/claim/cut.py" 433, .int 99 0, .int 1 0, .int 0 0, .int 0 0, .int 3 0, .ref 191, .bool Bool.true, .int 181 0, .ref 192, .none, .ref 193, .ref 194, .ref 195, .int 435 0, .int 99 0, .str "/claim/cut.py" 436]) #[]) ::
  (nat_lit 197, .mk (.type "function") Option.none (.func (PySem.W.fnOf "kind_shown" "kind_shown" (defArgs (top 25)) (defBody (top 25)) (defScope (top 25)) .none .none .none (.str "castwright.kindnotes" 429) Option.none (.ref 196) .none)) #[]) ::
  (nat_lit 203, .mk (.type "code") Option.none (.fields #[.str "kind_read" 438, .str "kind_read" 439, .str "/claim/cut.py" 440, .int 102 0, .int 1 0, .int 0 0, .int 0 0, .int 3 0, .ref 198, .bool Bool.true, .int 181 0, .ref 199, .none, .ref 200, .ref 201, .ref 202, .int 444 0, .int 102 0, .str "/claim/cut.py" 445]) #[]) ::
  (nat_lit 204, .mk (.type "function") Option.none (.func (PySem.W.fnOf "kind_read" "kind_read" (defArgs (top 26)) (defBody (top 26)) (defScope (top 26)) .none .none .none (.str "castwright.kindnotes" 429) Option.none (.ref 203) .none)) #[]) ::
  (nat_lit 210, .mk (.type "code") Option.none (.fields #[.str "written" 447, .str "written" 448, .str "/claim/cut.py" 449, .int 109 0, .int 1 0, .int 0 0, .int 0 0, .int 3 0, .ref 205, .bool Bool.true, .int 181 0, .ref 206, .none, .ref 207, .ref 208, .ref 209, .int 451 0, .int 109 0, .str "/claim/cut.py" 452]) #[]) ::
  (nat_lit 211, .mk (.type "function") Option.none (.func (PySem.W.fnOf "written" "written" (defArgs (top 27)) (defBody (top 27)) (defScope (top 27)) .none .none .none (.str "castwright.kindnotes" 429) Option.none (.ref 210) .none)) #[]) ::
  (nat_lit 215, .mk (.type "code") Option.none (.fields #[.str "row_written" 454, .str "row_written" 455, .str "/claim/cut.py" 456, .int 117 0, .int 1 0, .int 0 0, .int 0 0, .int 3 0, .ref 212, .bool Bool.true, .int 181 0, .ref 213, .none, .none, .none, .ref 214, .int 457 0, .int 117 0, .str "/claim/cut.py" 458]) #[]) ::
  (nat_lit 216, .mk (.type "function") Option.none (.func (PySem.W.fnOf "row_written" "row_written" (defArgs (top 28)) (defBody (top 28)) (defScope (top 28)) .none .none .none (.str "castwright.kindnotes" 429) Option.none (.ref 215) .none)) #[]) ::
  (nat_lit 222, .mk (.type "code") Option.none (.fields #[.str "field_written" 460, .str "field_written" 461, .str "/claim/cut.py" 462, .int 122 0, .int 1 0, .int 0 0, .int 0 0, .int 3 0, .ref 217, .bool Bool.true, .int 181 0, .ref 218, .none, .ref 219, .ref 220, .ref 221, .int 465 0, .int 122 0, .str "/claim/cut.py" 466]) #[]) ::
  (nat_lit 223, .mk (.type "function") Option.none (.func (PySem.W.fnOf "field_written" "field_written" (defArgs (top 29)) (defBody (top 29)) (defScope (top 29)) .none .none .none (.str "castwright.kindnotes" 429) Option.none (.ref 222) .none)) #[]) ::
  (nat_lit 229, .mk (.type "code") Option.none (.fields #[.str "kind_from" 468, .str "kind_from" 469, .str "/claim/cut.py" 470, .int 125 0, .int 2 0, .int 0 0, .int 0 0, .int 3 0, .ref 224, .bool Bool.true, .int 181 0, .ref 225, .none, .ref 226, .ref 227, .ref 228, .int 474 0, .int 125 0, .str "/claim/cut.py" 475]) #[]) ::
  (nat_lit 230, .mk (.type "function") Option.none (.func (PySem.W.fnOf "kind_from" "kind_from" (defArgs (top 30)) (defBody (top 30)) (defScope (top 30)) .none .none .none (.str "castwright.kindnotes" 429) Option.none (.ref 229) .none)) #[]) ::
  (nat_lit 236, .mk (.type "code") Option.none (.fields #[.str "function_from" 477, .str "function_from" 478, .str "/claim/cut.py" 479, .int 138 0, .int 2 0, .int 0 0, .int 0 0, .int 3 0, .ref 231, .bool Bool.true, .int 181 0, .ref 232, .none, .ref 233, .ref 234, .ref 235, .int 484 0, .int 138 0, .str "/claim/cut.py" 485]) #[]) ::
  (nat_lit 237, .mk (.type "function") Option.none (.func (PySem.W.fnOf "function_from" "function_from" (defArgs (top 31)) (defBody (top 31)) (defScope (top 31)) .none .none .none (.str "castwright.kindnotes" 429) Option.none (.ref 236) .none)) #[]) ::
  (nat_lit 243, .mk (.type "code") Option.none (.fields #[.str "box_from" 487, .str "box_from" 488, .str "/claim/cut.py" 489, .int 144 0, .int 2 0, .int 0 0, .int 0 0, .int 3 0, .ref 238, .bool Bool.true, .int 181 0, .ref 239, .none, .ref 240, .ref 241, .ref 242, .int 493 0, .int 144 0, .str "/claim/cut.py" 494]) #[]) ::
  (nat_lit 244, .mk (.type "function") Option.none (.func (PySem.W.fnOf "box_from" "box_from" (defArgs (top 32)) (defBody (top 32)) (defScope (top 32)) .none .none .none (.str "castwright.kindnotes" 429) Option.none (.ref 243) .none)) #[]) ::
  (nat_lit 250, .mk (.type "code") Option.none (.fields #[.str "row_from" 496, .str "row_from" 497, .str "/claim/cut.py" 498, .int 148 0, .int 2 0, .int 0 0, .int 0 0, .int 3 0, .ref 245, .bool Bool.true, .int 181 0, .ref 246, .none, .ref 247, .ref 248, .ref 249, .int 502 0, .int 148 0, .str "/claim/cut.py" 503]) #[]) ::
  (nat_lit 251, .mk (.type "function") Option.none (.func (PySem.W.fnOf "row_from" "row_from" (defArgs (top 33)) (defBody (top 33)) (defScope (top 33)) .none .none .none (.str "castwright.kindnotes" 429) Option.none (.ref 250) .none)) #[]) ::
  (nat_lit 257, .mk (.type "code") Option.none (.fields #[.str "field_from" 505, .str "field_from" 506, .str "/claim/cut.py" 507, .int 159 0, .int 2 0, .int 0 0, .int 0 0, .int 3 0, .ref 252, .bool Bool.true, .int 181 0, .ref 253, .none, .ref 254, .ref 255, .ref 256, .int 512 0, .int 159 0, .str "/claim/cut.py" 513]) #[]) ::
  (nat_lit 258, .mk (.type "function") Option.none (.func (PySem.W.fnOf "field_from" "field_from" (defArgs (top 34)) (defBody (top 34)) (defScope (top 34)) .none .none .none (.str "castwright.kindnotes" 429) Option.none (.ref 257) .none)) #[]) ::
  (nat_lit 264, .mk (.type "code") Option.none (.fields #[.str "_law_state" 517, .str "_law_state" 518, .str "/claim/cut.py" 519, .int 165 0, .int 2 0, .int 0 0, .int 0 0, .int 3 0, .ref 259, .bool Bool.true, .int 181 0, .ref 260, .none, .ref 261, .ref 262, .ref 263, .int 523 0, .int 165 0, .str "/claim/cut.py" 524]) #[]) ::
  (nat_lit 265, .mk (.type "function") Option.none (.func (PySem.W.fnOf "_law_state" "_law_state" (defArgs (top 36)) (defBody (top 36)) (defScope (top 36)) .none .none .none (.str "law_castwright_k03_kinds_written" 515) Option.none (.ref 264) .none)) #[]) ::
  (nat_lit 271, .mk (.type "code") Option.none (.fields #[.str "_law_take" 526, .str "_law_take" 527, .str "/claim/cut.py" 528, .int 172 0, .int 2 0, .int 0 0, .int 0 0, .int 3 0, .ref 266, .bool Bool.true, .int 181 0, .ref 267, .none, .ref 268, .ref 269, .ref 270, .int 533 0, .int 172 0, .str "/claim/cut.py" 534]) #[]) ::
  (nat_lit 272, .mk (.type "function") Option.none (.func (PySem.W.fnOf "_law_take" "_law_take" (defArgs (top 37)) (defBody (top 37)) (defScope (top 37)) .none .none .none (.str "law_castwright_k03_kinds_written" 515) Option.none (.ref 271) .none)) #[]) ::
  (nat_lit 278, .mk (.type "code") Option.none (.fields #[.str "_law_kind" 536, .str "_law_kind" 537, .str "/claim/cut.py" 538, .int 182 0, .int 2 0, .int 0 0, .int 0 0, .int 3 0, .ref 273, .bool Bool.true, .int 181 0, .ref 274, .none, .ref 275, .ref 276, .ref 277, .int 545 0, .int 182 0, .str "/claim/cut.py" 546]) #[]) ::
  (nat_lit 279, .mk (.type "function") Option.none (.func (PySem.W.fnOf "_law_kind" "_law_kind" (defArgs (top 38)) (defBody (top 38)) (defScope (top 38)) .none .none .none (.str "law_castwright_k03_kinds_written" 515) Option.none (.ref 278) .none)) #[]) ::
  (nat_lit 283, .mk (.type "code") Option.none (.fields #[.str "_law_renamed" 548, .str "_law_renamed" 549, .str "/claim/cut.py" 550, .int 196 0, .int 2 0, .int 0 0, .int 0 0, .int 3 0, .ref 280, .bool Bool.true, .int 181 0, .ref 281, .none, .none, .none, .ref 282, .int 551 0, .int 196 0, .str "/claim/cut.py" 552]) #[]) ::
  (nat_lit 284, .mk (.type "function") Option.none (.func (PySem.W.fnOf "_law_renamed" "_law_renamed" (defArgs (top 39)) (defBody (top 39)) (defScope (top 39)) .none .none .none (.str "law_castwright_k03_kinds_written" 515) Option.none (.ref 283) .none)) #[]) ::
  (nat_lit 290, .mk (.type "code") Option.none (.fields #[.str "_law_some_names" 554, .str "_law_some_names" 555, .str "/claim/cut.py" 556, .int 203 0, .int 1 0, .int 0 0, .int 0 0, .int 3 0, .ref 285, .bool Bool.true, .int 181 0, .ref 286, .none, .ref 287, .ref 288, .ref 289, .int 559 0, .int 203 0, .str "/claim/cut.py" 560]) #[]) ::
  (nat_lit 291, .mk (.type "function") Option.none (.func (PySem.W.fnOf "_law_some_names" "_law_some_names" (defArgs (top 40)) (defBody (top 40)) (defScope (top 40)) .none .none .none (.str "law_castwright_k03_kinds_written" 515) Option.none (.ref 290) .none)) #[]) ::
  (nat_lit 295, .mk (.type "code") Option.none (.fields #[.str "_law_text" 562, .str "_law_text" 563, .str "/claim/cut.py" 564, .int 206 0, .int 1 0, .int 0 0, .int 0 0, .int 3 0, .ref 292, .bool Bool.true, .int 181 0, .ref 293, .none, .none, .none, .ref 294, .int 565 0, .int 206 0, .str "/claim/cut.py" 566]) #[]) ::
  (nat_lit 296, .mk (.type "function") Option.none (.func (PySem.W.fnOf "_law_text" "_law_text" (defArgs (top 41)) (defBody (top 41)) (defScope (top 41)) .none .none .none (.str "law_castwright_k03_kinds_written" 515) Option.none (.ref 295) .none)) #[]) ::
  (nat_lit 300, .mk (.type "code") Option.none (.fields #[.str "_law_is_kind" 568, .str "_law_is_kind" 569, .str "/claim/cut.py" 570, .int 215 0, .int 1 0, .int 0 0, .int 0 0, .int 3 0, .ref 297, .bool Bool.true, .int 181 0, .ref 298, .none, .none, .none, .ref 299, .int 571 0, .int 215 0, .str "/claim/cut.py" 572]) #[]) ::
  (nat_lit 301, .mk (.type "function") Option.none (.func (PySem.W.fnOf "_law_is_kind" "_law_is_kind" (defArgs (top 42)) (defBody (top 42)) (defScope (top 42)) .none .none .none (.str "law_castwright_k03_kinds_written" 515) Option.none (.ref 300) .none)) #[]) ::
  (nat_lit 307, .mk (.type "code") Option.none (.fields #[.str "law" 574, .str "law" 575, .str "/claim/cut.py" 576, .int 219 0, .int 1 0, .int 0 0, .int 0 0, .int 3 0, .ref 302, .bool Bool.true, .int 181 0, .ref 303, .none, .ref 304, .ref 305, .ref 306, .int 583 0, .int 219 0, .str "/claim/cut.py" 584]) #[]) ::
  (nat_lit 308, .mk (.type "function") Option.none (.func (PySem.W.fnOf "law" "law" (defArgs (top 43)) (defBody (top 43)) (defScope (top 43)) .none .none .none (.str "law_castwright_k03_kinds_written" 515) Option.none (.ref 307) .none)) #[]) ::
  []
noncomputable def KL : List Addr := 2 :: 3 :: 20 :: 21 :: 22 :: 30 :: 31 :: 32 :: 35 :: 43 :: 44 :: 47 :: 55 :: 56 :: 59 :: 60 :: 66 :: 67 :: 73 :: 74 :: 78 :: 79 :: 85 :: 86 :: 90 :: 91 :: 97 :: 98 :: 102 :: 103 :: 109 :: 110 :: 114 :: 115 :: 121 :: 122 :: 126 :: 127 :: 140 :: 141 :: 147 :: 148 :: 154 :: 155 :: 161 :: 162 :: 168 :: 169 :: 175 :: 176 :: 182 :: 183 :: 185 :: 186 :: 187 :: 188 :: 196 :: 197 :: 203 :: 204 :: 210 :: 211 :: 215 :: 216 :: 222 :: 223 :: 229 :: 230 :: 236 :: 237 :: 243 :: 244 :: 250 :: 251 :: 257 :: 258 :: 264 :: 265 :: 271 :: 272 :: 278 :: 279 :: 283 :: 284 :: 290 :: 291 :: 295 :: 296 :: 300 :: 301 :: 307 :: 308 :: []
theorem kfe (P : Params) : KL = (KF P).map (·.1) := by kernel_rfl
section
open PySem.W
noncomputable abbrev LB (w : World) : Prop := (openEnds treeTable pwS w 4298).map (fun s => (openSeen vwS ["LENGTHS"] (importedModules pwS.main.body) (fun s => xlAt vwS [] s && recOk (RowW.records rwS.row.toRowW) s) true s, (kHook KF KL kfe).obs s)) = some (openGood vwS ["LENGTHS"], (kHook KF KL kfe).val w)
theorem lbf (w : World) : LB (w.withFollow "special-get-raises" false) := by kernel_rfl
theorem lbt (w : World) : LB (w.withFollow "special-get-raises" true) := by kernel_rfl
end
end K3
-- CHANGE: your row's module here, as the last of these rows
set_option Elab.async false
set_option linter.all false
set_option maxRecDepth 100000
namespace L2
open PySem PySem.Spec PyProof.Rows
/-- a key: an int or a str -/
noncomputable abbrev Key := Sum Int Str
noncomputable def keyIs : Key → Value → Bool
  | .inl k, v => Value.isInt k v
  | .inr x, v => Value.isStrOf x v
noncomputable def keyH (w : World) : Key → Int
  | .inl k => hashInt k
  | .inr x => hashStr w x
theorem keyIs_shape : ∀ {k : Key} {v : Value}, keyIs k v = true → (∃ i t, k = Sum.inl i ∧ v = Value.int i t) ∨ (∃ x t, k = Sum.inr x ∧ v = Value.str x t)
  | .inl i, v, h => by
    obtain ⟨t, e⟩ := Value.isInt_shape (k := i) (v := v) h
    exact .inl ⟨i, t, rfl, e⟩
  | .inr x, v, h => by
    obtain ⟨t, e⟩ := Value.isStrOf_shape (x := x) (v := v) h
    exact .inr ⟨x, t, rfl, e⟩
theorem key_ll (a b : Int) : decide ((Sum.inl a : Key) = Sum.inl b) = (a == b) := by
  by_cases e : a = b
  · subst e; simp
  · have h : ¬ (Sum.inl a : Key) = Sum.inl b := fun q => e (Sum.inl.inj q)
    rw [decide_eq_false h]
    exact (beq_eq_false_iff_ne.mpr e).symm
theorem key_rr (a b : Str) : decide ((Sum.inr a : Key) = Sum.inr b) = decide (a = b) := by
  by_cases e : a = b
  · subst e; simp
  · have h : ¬ (Sum.inr a : Key) = Sum.inr b := fun q => e (Sum.inr.inj q)
    rw [decide_eq_false h, decide_eq_false e]
theorem key_lr (a : Int) (b : Str) : decide ((Sum.inl a : Key) = Sum.inr b) = false := decide_eq_false (fun q => nomatch q)
theorem key_rl (a : Str) (b : Int) : decide ((Sum.inr a : Key) = Sum.inl b) = false := decide_eq_false (fun q => nomatch q)
noncomputable def mixKind (prog : Program) (w : World) : PySem.KeyKind prog w Key where
  is := keyIs
  hash := keyH w
  inj := fun v a b ha hb => by
    rcases keyIs_shape ha with ⟨i, t, rfl, rfl⟩ | ⟨x, t, rfl, rfl⟩
    · rcases keyIs_shape hb with ⟨j, u, rfl, e⟩ | ⟨y, u, rfl, e⟩
      · injection e with e1 _; rw [e1]
      · exact nomatch e
    · rcases keyIs_shape hb with ⟨j, u, rfl, e⟩ | ⟨y, u, rfl, e⟩
      · exact nomatch e
      · injection e with e1 _; rw [e1]
  byValue := fun k v h => by
    rcases keyIs_shape h with ⟨i, t, rfl, rfl⟩ | ⟨x, t, rfl, rfl⟩ <;> rfl
  pyHash := fun hv h => by
    rcases keyIs_shape hv with ⟨i, t, rfl, rfl⟩ | ⟨x, t, rfl, rfl⟩
    · exact wpAny_pyHash_int h
    · exact wpAny_pyHash_str h
  eqBool := fun hu hv h => by
    rcases keyIs_shape hu with ⟨i, t, rfl, rfl⟩ | ⟨x, t, rfl, rfl⟩
    · rcases keyIs_shape hv with ⟨j, u, rfl, rfl⟩ | ⟨y, u, rfl, rfl⟩
      · rw [key_ll] at h; exact wpAny_eqBool_int h
      · rw [key_lr] at h; exact SeqAt.EqAt.int_str i t y u _ _ _ _ h
    · rcases keyIs_shape hv with ⟨j, u, rfl, rfl⟩ | ⟨y, u, rfl, rfl⟩
      · rw [key_rl] at h; exact SeqAt.EqAt.str_int x t j u _ _ _ _ h
      · rw [key_rr] at h; exact wpAny_eqBool_str h
  «strs» := fun k x t v h => by
    rcases keyIs_shape h with ⟨i, u, rfl, e⟩ | ⟨y, u, rfl, e⟩
    · exact nomatch e
    · injection e with e1 _
      subst e1
      cases v <;> rfl
end L2
namespace L2
open PySem PySem.Spec PyProof.Rows
/-- a value, without the heap -/
inductive V where
  | non | bl (b : Bool) | int (i : Int) | str (x : Str) | byt (b : Array UInt8) | flt (b : UInt64) | ref (a : Addr) | ty (n : String)
  deriving DecidableEq
noncomputable def RelV : V → Value → Prop
  | .non, u => u = Value.none
  | .bl b, u => u = Value.bool b
  | .int i, u => ∃ t, u = Value.int i t
  | .str x, u => ∃ t, u = Value.str x t
  | .byt b, u => ∃ t, u = Value.bytes b t
  | .flt b, u => ∃ t, u = Value.float b t
  | .ref a, u => u = Value.ref a
  | .ty n, u => u = Value.type n
noncomputable abbrev Vals : List V → List Value → Prop := Paired RelV
theorem Vals.length {xs : List V} {us : List Value} (r : Vals xs us) : xs.length = us.length := Paired.length r
theorem Vals.get : ∀ {xs : List V} {us : List Value} {i : Nat} {x : V}, Vals xs us → xs[i]? = some x → ∃ u, us[i]? = some u ∧ RelV x u
  | _, _, _, _, .nil, e => by simp at e
  | _, _, 0, _, .cons r _, e => by simp at e; subst e; exact ⟨_, rfl, r⟩
  | _, _, i + 1, x, .cons _ t, e => by
    obtain ⟨u, h1, h2⟩ := Vals.get (i := i) (x := x) t (by simpa using e)
    exact ⟨u, by simpa using h1, h2⟩
theorem Vals.set {x : V} {u : Value} (r : RelV x u) : ∀ {xs : List V} {us : List Value} (i : Nat), Vals xs us → Vals (xs.set i x) (us.set i u)
  | _, _, _, .nil => .nil
  | _, _, 0, .cons _ t => .cons r t
  | _, _, i + 1, .cons q t => .cons q (Vals.set r i t)
theorem Vals.append : ∀ {xs ys : List V} {us ws : List Value}, Vals xs us → Vals ys ws → Vals (xs ++ ys) (us ++ ws)
  | _, _, _, _, .nil, s => s
  | _, _, _, _, .cons r t, s => .cons r (Vals.append t s)
theorem Vals.take : ∀ {xs : List V} {us : List Value} (n : Nat), Vals xs us → Vals (xs.take n) (us.take n)
  | _, _, 0, _ => .nil
  | _, _, _ + 1, .nil => .nil
  | _, _, n + 1, .cons r t => .cons r (Vals.take n t)
theorem Vals.drop : ∀ {xs : List V} {us : List Value} (n : Nat), Vals xs us → Vals (xs.drop n) (us.drop n)
  | _, _, 0, r => r
  | _, _, _ + 1, .nil => .nil
  | _, _, n + 1, .cons _ t => Vals.drop n t
theorem Vals.none_of : ∀ {xs : List V} {us : List Value} {i : Nat}, Vals xs us → xs[i]? = none → us[i]? = none := fun {xs us i} r e => by
  have h1 := r.length
  have h2 : xs.length ≤ i := List.getElem?_eq_none_iff.mp e
  exact List.getElem?_eq_none_iff.mpr (by omega)
noncomputable def RelO : Option V → Option Value → Prop
  | some v, some u => RelV v u
  | none, none => True
  | _, _ => False
noncomputable def KV {κ : Type} : List (κ × V) → List (κ × Value) → Prop := Paired fun (p : κ × V) (q : κ × Value) => p.1 = q.1 ∧ RelV p.2 q.2
/-- a key of a dict (00_mix): an int or a text -/
noncomputable def kV : Key → V
  | .inl i => .int i
  | .inr x => .str x
/-- what stands at a tracked address -/
inductive HO where
  /-- a list -/
  | lst (xs : List V)
  /-- a tuple (never changes) -/
  | tup (xs : List V)
  /-- a dict whose keys are ints and texts; one whose keys are tuples of ints and texts (the empty one is both) -/
  | dK (kvs : List (Key × V)) | dT (kvs : List (List Key × V))
  /-- a set of ints: its members, its size -/
  | set (S : Int → Bool) (n : Nat)
  /-- an instance of the class at C, its dict at dx, its attributes -/
  | ins (C dx : Addr) (fs : List (Str × V))
  /-- the dict of the instance at x -/
  | own (x : Addr)
  /-- the dict of an exception -/
  | xd (fs : List (Str × V))
  /-- a bound method, f of x -/
  | met (f x : Addr)
  /-- a range object lo, lo + 1, .. below hi -/
  | rng (lo hi : Int)
  /-- a thing that is known to the object (the script; a dict while a loop walks it): read, never written while it is so -/
  | frz (o : Obj) (u : HO)
  /-- a code object's table -/
  | tbl (ps : Array Value)
  /-- any other thing, by what is true of its one object (a def of one's own: SetO a S n := HO.ext fun h => ..) -/
  | ext (φ : Heap → Prop)
noncomputable abbrev Hp := Addr → Option HO
noncomputable def upd (H : Hp) (a : Addr) (o : HO) : Hp := fun b => if b = a then some o else H b
theorem upd_same {H : Hp} {a : Addr} {o : HO} : upd H a o a = some o := by unfold upd; rw [if_pos rfl]
theorem upd_ne {H : Hp} {a b : Addr} {o : HO} (h : b ≠ a) : upd H a o b = H b := by unfold upd; rw [if_neg h]
theorem ne_of_none {H : Hp} {a b : Addr} {o : HO} (h : H a = some o) (h' : H b = none) : a ≠ b := by
  intro e; subst e; rw [h] at h'; cases h'
section
variable (P : Program) (w : World)
noncomputable def ObjOk (H : Hp) (h : Heap) (a : Addr) : HO → Prop
  | .lst xs => xs.length ≤ sizeLine ∧ ∃ (its : List Value) (n : Nat), Vals xs its ∧ h.get? a = some { cls := .type "list", data := .seq its.toArray n }
  | .tup xs => xs.length ≤ sizeLine ∧ ∃ its : List Value, Vals xs its ∧ IsTup h a its.toArray
  | .dK kvs => kvs.length ≤ sizeLine ∧ (a == sysModules) = false ∧ ∃ vs, KV kvs vs ∧ h.DictOf (mixKind P w) a vs
  | .dT kvs => kvs.length ≤ sizeLine ∧ (a == sysModules) = false ∧ ∃ xs : List (List Key × Addr × Value),
      Paired (fun (p : List Key × V) (q : List Key × Addr × Value) => p.1 = q.1 ∧ H q.2.1 = some (.tup (p.1.map kV)) ∧ RelV p.2 q.2.2) kvs xs ∧
      ∃ o es ep, h.get? a = some o ∧ o.ExactDict ∧ o.data = .dict es ep ∧ es.toList = xs.map (entryOfKey (tupleKind (mixKind P w))) ∧ (xs.map (·.1)).Nodup
  | .set S n => h.SetOf (intKind P w) a S n
  | .ins C dx fs => H dx = some (.own a) ∧ fs.length ≤ 1000 ∧ dx ≠ a ∧ h.get? a = some (PySem.W.instObj C dx) ∧
      ∃ mA, h.Ns1 dx mA ∧ (∀ f, RelO (fs.lookup f) (mA f)) ∧ PySem.Within mA (fs.map (·.1))
  | .own _ => ∃ o, h.get? a = some o
  | .xd fs => ∃ mA, h.Ns1 a mA ∧ ∀ f, RelO (fs.lookup f) (mA f)
  | .rng lo hi => ∃ t u v, h.get? a = some { cls := .type "range", data := .fields #[.int lo t, .int hi u, .int 1 v] }
  | .frz o u => h.get? a = some o ∧ ObjOk H h a u
  | .tbl ps => h.get? a = some { cls := .none, data := .fields ps }
  | .met f x => h.get? a = some (PySem.W.methodObj (.ref f) (.ref x))
  | .ext φ => φ h ∧ (∃ o, h.get? a = some o) ∧ ∀ h1 h2 : Heap, φ h1 → (∀ o, h1.get? a = some o → h2.get? a = some o) → φ h2
/-- the abstract heap is held -/
noncomputable def HOk (H : Hp) (h : Heap) : Prop := ∀ a o, H a = some o → ObjOk P w H h a o
end
section
variable {P : Program} {w : World} {H H' : Hp} {h h' : Heap} {a : Addr} {o : HO}
theorem ObjOk.lt (x : ObjOk P w H h a o) : a < h.objs.size := by
  cases o with
  | lst xs => obtain ⟨_, _, _, _, e⟩ := x; exact Heap.lt_size e
  | tup xs => obtain ⟨_, _, _, p⟩ := x; exact p.lt
  | dK kvs => obtain ⟨_, _, _, _, o, _, _, e, _⟩ := x; exact Heap.lt_size e
  | dT kvs => obtain ⟨_, _, _, _, o, _, _, e, _⟩ := x; exact Heap.lt_size e
  | set S n => obtain ⟨o, _, _, _, e, _⟩ := x; exact Heap.lt_size e
  | ins C dx fs => obtain ⟨_, _, _, e, _⟩ := x; exact Heap.lt_size e
  | own y => obtain ⟨_, e⟩ := x; exact Heap.lt_size e
  | xd fs => obtain ⟨_, ⟨_, _, _, e, _⟩, _⟩ := x; exact Heap.lt_size e
  | rng lo hi => obtain ⟨_, _, _, e⟩ := x; exact Heap.lt_size e
  | frz ob u => obtain ⟨e, _⟩ := x; exact Heap.lt_size e
  | tbl ps => exact Heap.lt_size (show h.get? a = some _ from x)
  | met f y => exact Heap.lt_size (show h.get? a = some _ from x)
  | ext φ => obtain ⟨_, ⟨_, e⟩, _⟩ := x; exact Heap.lt_size e
theorem Paired.mapP {α β : Type} {F G : α → β → Prop} : ∀ {l₁ : List α} {l₂ : List β}, Paired F l₁ l₂ → (∀ a b, F a b → G a b) → Paired G l₁ l₂
  | _, _, .nil, _ => .nil
  | _, _, .cons r t, f => .cons (f _ _ r) (Paired.mapP t f)
/-- what an object's description leans on: its own object, its own dict, the tuples -/
theorem ObjOk.stay (x : ObjOk P w H h a o) (k : ∀ b u, (b = a ∨ H b = some (.own a)) → h.get? b = some u → h'.get? b = some u)
    (ho : ∀ b, H b = some (.own a) → H' b = some (.own a)) (ht : ∀ b xs, H b = some (.tup xs) → H' b = some (.tup xs)) : ObjOk P w H' h' a o := by
  induction o with
  | lst xs => obtain ⟨z, its, n, r, e⟩ := x; exact ⟨z, its, n, r, k _ _ (.inl rfl) e⟩
  | tup xs => obtain ⟨z, its, r, ob, e, c⟩ := x; exact ⟨z, its, r, ob, k _ _ (.inl rfl) e, c⟩
  | dK kvs => obtain ⟨z, y, vs, r, ob, es, ep, e, c⟩ := x; exact ⟨z, y, vs, r, ob, es, ep, k _ _ (.inl rfl) e, c⟩
  | dT kvs =>
    obtain ⟨z, y, xs, r, ob, es, ep, e, c⟩ := x
    exact ⟨z, y, xs, Paired.mapP r fun p q z => ⟨z.1, ht _ _ z.2.1, z.2.2⟩, ob, es, ep, k _ _ (.inl rfl) e, c⟩
  | set S n => obtain ⟨ob, es, ep, t, e, c⟩ := x; exact ⟨ob, es, ep, t, k _ _ (.inl rfl) e, c⟩
  | ins C dx fs =>
    obtain ⟨d, z, ne, e, mA, ⟨od, es, ep, e2, c⟩, r⟩ := x
    exact ⟨ho _ d, z, ne, k _ _ (.inl rfl) e, mA, ⟨od, es, ep, k _ _ (.inr d) e2, c⟩, r⟩
  | own y => obtain ⟨ob, e⟩ := x; exact ⟨ob, k _ _ (.inl rfl) e⟩
  | xd fs => obtain ⟨mA, ⟨od, es, ep, e, c⟩, r⟩ := x; exact ⟨mA, ⟨od, es, ep, k _ _ (.inl rfl) e, c⟩, r⟩
  | rng lo hi => obtain ⟨t, u, v, e⟩ := x; exact ⟨t, u, v, k _ _ (.inl rfl) e⟩
  | frz ob u ih => obtain ⟨e, q⟩ := x; exact ⟨k _ _ (.inl rfl) e, ih q⟩
  | tbl ps =>
    have e : h.get? a = some { cls := .none, data := .fields ps } := x
    show h'.get? a = some { cls := .none, data := .fields ps }
    exact k a _ (.inl rfl) e
  | met f y =>
    have e : h.get? a = some (PySem.W.methodObj (.ref f) (.ref y)) := x
    show h'.get? a = some (PySem.W.methodObj (.ref f) (.ref y))
    exact k a _ (.inl rfl) e
  | ext φ => obtain ⟨p, ⟨o, e⟩, st⟩ := x; exact ⟨st _ _ p fun o q => k _ _ (.inl rfl) q, ⟨o, k _ _ (.inl rfl) e⟩, st⟩
theorem HOk.lt (x : HOk P w H h) (e : H a = some o) : a < h.objs.size := (x a o e).lt
theorem HOk.fresh (x : HOk P w H h) (e : h.objs.size ≤ a) : H a = none := by
  cases q : H a with
  | none => rfl
  | some u => exact absurd (Nat.lt_of_lt_of_le (x.lt q) e) (Nat.lt_irrefl _)
/-- every object of the heap is kept -/
theorem HOk.kept (x : HOk P w H h) (k : ∀ b u, h.get? b = some u → h'.get? b = some u) : HOk P w H h' := fun a o e =>
  (x a o e).stay (fun b u _ q => k b u q) (fun _ q => q) fun _ _ q => q
/-- a new object is laid and tracked -/
theorem HOk.laid (x : HOk P w H h) (k : ∀ b u, h.get? b = some u → h'.get? b = some u) (hp : h.objs.size ≤ a) (new : ObjOk P w (upd H a o) h' a o) : HOk P w (upd H a o) h' := fun b u e => by
  have hn := x.fresh hp
  by_cases hb : b = a
  · subst hb; rw [upd_same] at e; cases e; exact new
  · rw [upd_ne hb] at e
    exact (x b u e).stay (fun c v _ q => k c v q) (fun c q => by rw [upd_ne (ne_of_none q hn)]; exact q) fun c xs q => by rw [upd_ne (ne_of_none q hn)]; exact q
end
/-- what may be read as u: it is u, or a known u -/
noncomputable def Rd (H : Hp) (a : Addr) (u : HO) : Prop := H a = some u ∨ ∃ o, H a = some (.frz o u)
theorem Rd.of {H : Hp} {a : Addr} {u : HO} (h : H a = some u) : Rd H a u := .inl h
theorem Rd.ok {P : Program} {w : World} {H : Hp} {h : Heap} {a : Addr} {u : HO} (r : Rd H a u) (x : HOk P w H h) : ObjOk P w H h a u := by
  rcases r with r | ⟨o, r⟩
  · exact x a u r
  · obtain ⟨_, q⟩ := x a _ r
    exact q
/-- what may be written -/
noncomputable def Mut : Option HO → Prop
  | some (.lst _) => True
  | some (.dK _) => True
  | some (.dT _) => True
  | some (.set _ _) => True
  | some (.ins _ _ _) => True
  | some (.ext _) => True
  | _ => False
section
variable {P : Program} {w : World} {H : Hp} {h h' : Heap} {x e : Addr} {o' : HO}
/-- the object at e is changed: x itself, or the dict of the instance x -/
theorem HOk.write (ok : HOk P w H h) (mu : Mut (H x)) (he : e = x ∨ H e = some (.own x)) (k : ∀ b u, b ≠ e → h.get? b = some u → h'.get? b = some u) (heo : ∃ u, h'.get? e = some u)
    (new : ObjOk P w (upd H x o') h' x o') : HOk P w (upd H x o') h' := fun b u q => by
  have nown : ∀ c y, H c = some (.own y) → c ≠ x := fun c y r z => by subst z; rw [r] at mu; exact mu
  have ntup : ∀ c xs, H c = some (.tup xs) → c ≠ x := fun c xs r z => by subst z; rw [r] at mu; exact mu
  by_cases hb : b = x
  · subst hb; rw [upd_same] at q; cases q; exact new
  · rw [upd_ne hb] at q
    by_cases hbe : b = e
    · have q' : H b = some (.own x) := by
        rcases he with z | z
        · exact absurd (hbe.trans z) hb
        · rw [hbe]; exact z
      rw [q] at q'; cases q'
      obtain ⟨v, hv⟩ := heo
      exact ⟨v, by rw [hbe]; exact hv⟩
    · refine (ok b u q).stay (fun c v hc r => k c v ?_ r) (fun c r => by rw [upd_ne (nown c b r)]; exact r) fun c xs r => by rw [upd_ne (ntup c xs r)]; exact r
      rcases hc with rfl | hc
      · exact hbe
      · rintro rfl
        rcases he with z | z
        · exact nown c b hc z
        · rw [hc] at z; cases z; exact hb rfl
end
structure Un (fs ex : List Addr) (H H' : Hp) (h h' : Heap) : Prop where
  keep : ∀ b o, h.get? b = some o → H b = none → b ∉ fs → b ∉ ex → h'.get? b = some o
  slot : ∀ b o, h.get? b = some o → H b = none → b ∈ fs → b ∉ ex → ∃ sl, h'.get? b = some { o with slots := sl }
  free : ∀ b o, h.get? b = some o → H b = none → b ∉ ex → H' b = none
  there : ∀ b o, h.get? b = some o → b ∉ ex → ∃ o', h'.get? b = some o'
  tups : ∀ b xs, H b = some (.tup xs) → H' b = some (.tup xs)
  frzs : ∀ b o u, H b = some (.frz o u) → H' b = some (.frz o u)
  tbls : ∀ b ps, H b = some (.tbl ps) → ∃ more, H' b = some (.tbl (ps ++ more))
section
variable {fs fs' ex ex' : List Addr} {H H1 H2 : Hp} {h h1 h2 h' : Heap} {a x e : Addr} {o : HO}
theorem Un.any (u : Un fs ex H H1 h h1) {b : Addr} {ob : Obj} (q : h.get? b = some ob) (n : H b = none) (hx : b ∉ ex) : ∃ sl, h1.get? b = some { ob with slots := sl } := by
  by_cases hb : b ∈ fs
  · exact u.slot b ob q n hb hx
  · exact ⟨ob.slots, u.keep b ob q n hb hx⟩
theorem Un.trans (a : Un fs ex H H1 h h1) (b : Un fs ex H1 H2 h1 h2) : Un fs ex H H2 h h2 where
  keep := fun c ob q n hc hx => b.keep c ob (a.keep c ob q n hc hx) (a.free c ob q n hx) hc hx
  slot := fun c ob q n hc hx => by
    obtain ⟨sl, e1⟩ := a.slot c ob q n hc hx
    obtain ⟨sl', e2⟩ := b.slot c _ e1 (a.free c ob q n hx) hc hx
    exact ⟨sl', e2⟩
  free := fun c ob q n hx => by
    obtain ⟨o', e1⟩ := a.there c ob q hx
    exact b.free c o' e1 (a.free c ob q n hx) hx
  there := fun c ob q hx => by
    obtain ⟨o', e1⟩ := a.there c ob q hx
    exact b.there c o' e1 hx
  tups := fun c xs q => b.tups c xs (a.tups c xs q)
  frzs := fun c ob xs q => b.frzs c ob xs (a.frzs c ob xs q)
  tbls := fun c ps q => by
    obtain ⟨m1, e1⟩ := a.tbls c ps q
    obtain ⟨m2, e2⟩ := b.tbls c _ e1
    exact ⟨m1 ++ m2, by rw [e2, Array.append_assoc]⟩
theorem Un.kept (k : ∀ b u, h.get? b = some u → h'.get? b = some u) : Un fs ex H H h h' :=
  ⟨fun b ob q _ _ _ => k b ob q, fun b ob q _ _ _ => ⟨ob.slots, k b ob q⟩, fun _ _ _ n _ => n, fun b ob q _ => ⟨ob, k b ob q⟩, fun _ _ q => q, fun _ _ _ q => q, fun _ ps q => ⟨#[], by rw [q]; simp⟩⟩
theorem Un.refl : Un fs ex H H h h := Un.kept fun _ _ q => q
theorem Un.laid (k : ∀ b u, h.get? b = some u → h'.get? b = some u) (hp : h.objs.size ≤ a) (hn : H a = none) : Un fs ex H (upd H a o) h h' where
  keep := fun b u q _ _ _ => k b u q
  slot := fun b u q _ _ _ => ⟨u.slots, k b u q⟩
  free := fun b u q n _ => by rw [upd_ne (Nat.ne_of_lt (Nat.lt_of_lt_of_le (Heap.lt_size q) hp))]; exact n
  there := fun b u q _ => ⟨u, k b u q⟩
  tups := fun b xs q => by rw [upd_ne (ne_of_none q hn)]; exact q
  frzs := fun b u xs q => by rw [upd_ne (ne_of_none q hn)]; exact q
  tbls := fun b ps q => ⟨#[], by rw [upd_ne (ne_of_none q hn), q]; simp⟩
theorem Un.write (mu : Mut (H x)) (he : e = x ∨ H e = some (.own x)) (k : ∀ b u, b ≠ e → h.get? b = some u → h'.get? b = some u) (heo : ∃ u, h'.get? e = some u) : Un fs ex H (upd H x o) h h' := by
  have hx : ∀ b, H b = none → b ≠ x := fun b n z => by subst z; rw [n] at mu; exact mu
  have hb : ∀ b, H b = none → b ≠ e := fun b n z => by
    subst z
    rcases he with r | r
    · exact hx b n r
    · rw [n] at r; cases r
  have hm : ∀ b u, H b = some u → ¬ Mut (some u) → b ≠ x := fun b u q nm z => by subst z; rw [q] at mu; exact nm mu
  refine ⟨fun b u q n _ _ => k b u (hb b n) q, fun b u q n _ _ => ⟨u.slots, k b u (hb b n) q⟩, fun b u q n _ => by rw [upd_ne (hx b n)]; exact n, fun b u q _ => ?_,
    fun b xs q => by rw [upd_ne (hm b _ q fun z => z)]; exact q, fun b u xs q => by rw [upd_ne (hm b _ q fun z => z)]; exact q, fun b ps q => ⟨#[], by rw [upd_ne (hm b _ q fun z => z), q]; simp⟩⟩
  by_cases hbe : b = e
  · subst hbe; exact heo
  · exact ⟨u, k b u hbe q⟩
theorem Un.mono (u : Un fs ex H H1 h h1) (hs : ∀ b ∈ fs, b ∈ fs') (hx : ∀ b ∈ ex, b ∈ ex') : Un fs' ex' H H1 h h1 :=
  ⟨fun b ob q n hb he => u.keep b ob q n (fun z => hb (hs b z)) fun z => he (hx b z), fun _ _ q n _ he => u.any q n fun z => he (hx _ z), fun b ob q n he => u.free b ob q n fun z => he (hx b z), fun b ob q he => u.there b ob q fun z => he (hx b z), u.tups, u.frzs, u.tbls⟩
end
noncomputable def trk (h : Heap) (H : Hp) : List Addr := (List.range h.objs.size).filter fun a => (H a).isSome
noncomputable def hidT (h : Heap) (H : Hp) : Heap := PySem.W.hideAll h (trk h H)
theorem hidT_size (h : Heap) (H : Hp) : (hidT h H).objs.size = h.objs.size := PySem.W.hideAll_size _ _
theorem hidT_get {h : Heap} {H : Hp} {b : Addr} {o : Obj} (e : h.get? b = some o) (n : H b = none) : (hidT h H).get? b = some o :=
  PySem.W.hideAll_get _ e fun hm => by
    have q : (H b).isSome = true := (List.mem_filter.mp hm).2
    rw [n] at q; simp at q
theorem of_hidT {h : Heap} {H : Hp} {b : Addr} {o : Obj} (e : (hidT h H).get? b = some o) : h.get? b = some o ∧ H b = none := by
  have e' : h.get? b = some o := PySem.W.of_hideAll (trk h H) e
  refine ⟨e', ?_⟩
  cases q : H b with
  | none => rfl
  | some x =>
    have hm : b ∈ trk h H := List.mem_filter.mpr ⟨List.mem_range.mpr (Heap.lt_size e'), by simp [q]⟩
    have z : (hidT h H).get? b = none := PySem.W.hideAll_none (trk h H) hm
    rw [z] at e; cases e
noncomputable def allNews (g h : Heap) (L : Addr) : List (Addr × Obj) := (List.range h.objs.size).filterMap fun a => if a = L ∨ (g.get? a).isSome = true then none else (h.get? a).map fun o => (a, o)
noncomputable def rest (g h : Heap) (L d : Addr) : List (Addr × Obj) := (allNews g h L).filter fun p => decide (p.1 ≠ d)
end L2
namespace L2
open PySem PySem.Spec PyProof.Rows
/-- the module's facts, over the base: the heap at the law's entry without what is tracked there -/
structure Mod (K : PySem.W.Frag) (mg : Str → Option Value) (base : Heap) : Prop where
  kin : K.In base
  glob : base.Ns mainGlobals mg
  blt : ∃ mb, base.Ns builtinsNs mb ∧ ∀ x : Str, x ≠ "__name__" → mb x = bootBuiltins x
  nolimit : base.NoLimit
/-- the context: a def's body (or a comprehension's block) running. base: fixed through the whole law; s₀, H₀: the entry; outer: the frames whose slots others may change (a def's callers); stack: all frames that run;
   ex: iterators that were made ahead of the entry and are walked here (a comprehension's); fn: the names whose cells were made at the entry (a def: all; a comprehension's block: its own); calm: not within an except suite; pn: pins that every state bears; xe: what is wanted of an exception that leaves the code -/
structure Cx where
  prog : Program
  w : World
  K : PySem.W.Frag
  mg : Str → Option Value
  base : Heap
  A : Around
  N : List Str
  s₀ : Shared
  H₀ : Hp
  env : Env
  outer : List Env
  stack : List Env
  ex : List Addr
  fn : Str → Bool
  calm : Bool
  pn : List (Addr × Obj)
  xe : Value → Shared → Prop
/-- the callers' frames -/
noncomputable def frs (l : List Env) : List Addr := l.filterMap (·.frame)
noncomputable abbrev Cx.fs (X : Cx) : List Addr := frs X.outer
noncomputable def Vis (sc : Scope) (x : Str) : Prop := sc.names.lookup x = some .local ∨ sc.names.lookup x = some .cell ∨ sc.names.lookup x = some .free
noncomputable def Loc (sc : Scope) (x : Str) : Prop := sc.names.lookup x = some .local ∨ sc.names.lookup x = some .cell
noncomputable def Look (env : Env) (h : Heap) (m : Str → Option Value) (x : Str) (u : Value) : Prop :=
  (env.kindOf x = some .local ∧ m x = some u) ∨ ((env.kindOf x = some .cell ∨ env.kindOf x = some .free) ∧ ∃ c, env.cells.lookup x = some c ∧ h.IsCell c (some u))
structure Cx.Ok (X : Cx) : Prop where
  mod : Mod X.K X.mg X.base
  kind : X.env.scope.kind = .function
  glob : X.env.globals = mainGlobals
  blt : X.env.builtins = builtinsNs
  above : X.s₀.heap.objs.size ≤ X.env.locals
  inj : ∀ x y c, X.env.cells.lookup x = some c → X.env.cells.lookup y = some c → x = y
  has : ∀ x, (X.env.kindOf x = some .cell ∨ X.env.kindOf x = some .free) → ∃ c, X.env.cells.lookup x = some c
  cab : ∀ x c, X.fn x = true → X.env.cells.lookup x = some c → X.s₀.heap.objs.size ≤ c
  hd : X.calm = true → X.A.handled = none
  frames : X.A.frames = some X.stack
  stk : X.stack = X.outer ∨ (X.stack = X.env :: X.outer ∧ X.env.frame = some X.env.locals)
  exf : ∀ b ∈ X.ex, b ≠ X.env.locals ∧ ∀ x c, X.env.cells.lookup x = some c → c ≠ b
  bs : ∀ b o, X.base.get? b = some o → X.s₀.heap.get? b = some o ∧ X.H₀ b = none
  bsz : X.base.objs.size ≤ X.s₀.heap.objs.size
  noex : ∀ b o, X.base.get? b = some o → b ∉ X.ex
  exfs : ∀ b ∈ X.ex, b ∉ X.fs
  funs : X.s₀.heap.FunFrames X.base X.outer
  frf : ∀ b ∈ X.fs, X.H₀ b = none
structure Inv (X : Cx) (pins : List (Addr × Obj)) (σ : List (Option V)) (H : Hp) (s : Shared) : Prop where
  ok : X.Ok
  os : s.os = X.s₀.os
  bare : AllBare s.gens
  base : Un X.fs X.ex X.H₀ H X.s₀.heap s.heap
  loc : ∃ m, s.heap.Ns X.env.locals m ∧ ∀ (i : Nat) (x : Str) (v : V), X.N[i]? = some x → σ[i]? = some (some v) → Vis X.env.scope x → ∃ u, RelV v u ∧ Look X.env s.heap m x u
  cell : ∀ x c, X.env.cells.lookup x = some c → ∃ v, s.heap.IsCell c v
  free : H X.env.locals = none
  freeC : ∀ x c, X.env.cells.lookup x = some c → H c = none
  pin : ∀ p ∈ X.pn ++ pins, s.heap.get? p.1 = some p.2 ∧ H p.1 = none ∧ p.1 ≠ X.env.locals ∧ p.1 ∉ X.fs ∧ ∀ v, p.2.data ≠ .cell v
  hok : HOk X.prog X.w H s.heap
  len : σ.length = X.N.length
section
variable {X : Cx} {pins : List (Addr × Obj)} {σ : List (Option V)} {H H' : Hp} {s : Shared} {h' : Heap}
theorem Cx.Ok.nofr (ok : X.Ok) {b : Addr} {o : Obj} (e : X.base.get? b = some o) : b ∉ X.fs := fun hb => by
  have := (ok.funs.mem hb).1
  rw [e] at this; cases this
theorem Inv.bs (I : Inv X pins σ H s) : ∀ b o, X.base.get? b = some o → s.heap.get? b = some o ∧ H b = none := fun b o e =>
  ⟨I.base.keep b o (I.ok.bs b o e).1 (I.ok.bs b o e).2 (I.ok.nofr e) (I.ok.noex b o e), I.base.free b o (I.ok.bs b o e).1 (I.ok.bs b o e).2 (I.ok.noex b o e)⟩
theorem Inv.bk (I : Inv X pins σ H s) : ∀ b o, X.base.get? b = some o → s.heap.get? b = some o := fun b o e => (I.bs b o e).1
theorem Inv.mod (I : Inv X pins σ H s) : Mod X.K X.mg X.base := I.ok.mod
theorem Inv.kIn (I : Inv X pins σ H s) : X.K.In s.heap := I.ok.mod.kin.keeps I.bk
theorem Inv.nolimit (I : Inv X pins σ H s) : s.heap.NoLimit := I.ok.mod.nolimit.keeps I.bk
/-- the frame over the base: for OpenK's rules (K.In X.base is I.mod.kin) -/
theorem Inv.fr (I : Inv X pins σ H s) : ∃ m, Fr X.base X.env.locals s.heap m :=
  let ⟨m, hn, _⟩ := I.loc
  ⟨m, hn, I.bk, Nat.le_trans I.ok.bsz I.ok.above⟩
theorem Inv.lt (I : Inv X pins σ H s) : X.env.locals < s.heap.objs.size := let ⟨_, hn, _⟩ := I.loc; hn.lt
theorem Inv.sz (I : Inv X pins σ H s) : X.s₀.heap.objs.size ≤ s.heap.objs.size := Nat.le_trans I.ok.above (Nat.le_of_lt I.lt)
theorem Inv.nofs (I : Inv X pins σ H s) {a : Addr} (h : s.heap.objs.size ≤ a) : a ∉ X.fs := fun hb => by
  obtain ⟨_, o, ho, _⟩ := I.ok.funs.mem hb
  exact absurd (Nat.lt_of_lt_of_le (Heap.lt_size ho) (Nat.le_trans I.sz h)) (Nat.lt_irrefl _)
theorem Inv.cne (I : Inv X pins σ H s) : ∀ x c, X.env.cells.lookup x = some c → c ≠ X.env.locals := fun x c e z => by
  obtain ⟨v, o, ho, hd⟩ := I.cell x c e
  obtain ⟨m, ⟨o', es, ep, ho', hd', _⟩, _⟩ := I.loc
  rw [z, ho'] at ho; cases ho; rw [hd'] at hd; cases hd
theorem Inv.funs (I : Inv X pins σ H s) : s.heap.FunFrames X.base X.outer := by
  have all : ∀ (l : List Env), (∀ b ∈ frs l, b ∈ X.fs) → X.s₀.heap.FunFrames X.base l → s.heap.FunFrames X.base l := by
    intro l
    induction l with
    | nil => intro _ _; trivial
    | cons env r ih =>
      intro hs hl
      obtain ⟨hk, ⟨L, o, hf, hn, ho, hd⟩, hr⟩ := hl
      have hL : L ∈ X.fs := hs L (by unfold frs; rw [List.filterMap_cons, hf]; exact List.mem_cons_self)
      obtain ⟨sl, e⟩ := I.base.slot L o ho (I.ok.frf L hL) hL fun z => I.ok.exfs L z hL
      exact ⟨hk, ⟨L, _, hf, hn, e, hd⟩, ih (fun b hb => hs b (by unfold frs; rw [List.filterMap_cons, hf]; exact List.mem_cons_of_mem _ hb)) hr⟩
  exact all X.outer (fun _ hb => hb) I.ok.funs
/-- the frames that run, for a call -/
theorem Inv.stack (I : Inv X pins σ H s) : s.heap.FunFrames X.base X.stack := by
  rcases I.ok.stk with e | ⟨e, hf⟩
  · rw [e]; exact I.funs
  · rw [e]
    obtain ⟨m, hn, _⟩ := I.loc
    refine .cons (by rw [I.ok.kind]; decide) hf hn ?_ I.funs
    exact Heap.get?_none_of_le (Nat.le_trans I.ok.bsz I.ok.above)
theorem Inv.stkSub (I : Inv X pins σ H s) : ∀ b ∈ frs X.stack, b ∈ X.env.locals :: X.fs := fun b hb => by
  rcases I.ok.stk with e | ⟨e, hf⟩
  · rw [e] at hb; exact List.mem_cons_of_mem _ hb
  · rw [e] at hb
    unfold frs at hb
    rw [List.filterMap_cons, hf] at hb
    exact hb
theorem Inv.stkFree (I : Inv X pins σ H s) : ∀ b ∈ frs X.stack, H b = none := fun b hb => by
  rcases List.mem_cons.mp (I.stkSub b hb) with e | hb
  · rw [e]; exact I.free
  · obtain ⟨_, o, ho, _⟩ := I.ok.funs.mem hb
    exact I.base.free b o ho (I.ok.frf b hb) fun z => I.ok.exfs b z hb
/-- THE STEP: the untracked objects but the frame and the records at ch are kept (the callers' frames up to slots), the frame's map is kept, the new abstract heap is held -/
theorem Inv.step {g' : Array GenState} {t' : Nat} {d' : Drawn} {ch : List Addr} (I : Inv X pins σ H s)
    (hch : ∀ b ∈ ch, (b ∈ X.ex ∨ X.s₀.heap.objs.size ≤ b) ∧ b ≠ X.env.locals ∧ (∀ x c, X.env.cells.lookup x = some c → c ≠ b) ∧ ∀ p ∈ X.pn ++ pins, p.1 ≠ b)
    (keep : ∀ b o, b ≠ X.env.locals → b ∉ X.fs → b ∉ ch → s.heap.get? b = some o → H b = none → h'.get? b = some o)
    (slot : ∀ b o, b ≠ X.env.locals → b ∈ X.fs → b ∉ ch → s.heap.get? b = some o → H b = none → ∃ sl, h'.get? b = some { o with slots := sl }) (free : ∀ b o, b ∉ ch → s.heap.get? b = some o → H b = none → H' b = none)
    (there : ∀ b o, b ∉ ch → s.heap.get? b = some o → ∃ o', h'.get? b = some o')
    (tups : ∀ b xs, H b = some (.tup xs) → H' b = some (.tup xs)) (frzs : ∀ b o u, H b = some (.frz o u) → H' b = some (.frz o u)) (tbls : ∀ b ps, H b = some (.tbl ps) → ∃ more, H' b = some (.tbl (ps ++ more)))
    (ns : ∀ m, s.heap.Ns X.env.locals m → h'.Ns X.env.locals m) (hok : HOk X.prog X.w H' h') (hg : AllBare g') :
    Inv X pins σ H' { s with heap := h', gens := g', drawn := d', toks := t' } := by
  have neL : ∀ b o, X.s₀.heap.get? b = some o → b ≠ X.env.locals := fun b o e => Nat.ne_of_lt (Nat.lt_of_lt_of_le (Heap.lt_size e) I.ok.above)
  have neC : ∀ b o, X.s₀.heap.get? b = some o → b ∉ X.ex → b ∉ ch := fun b o e hx hb => by
    rcases (hch b hb).1 with z | z
    · exact hx z
    · exact absurd (Nat.lt_of_lt_of_le (Heap.lt_size e) z) (Nat.lt_irrefl _)
  have cellK : ∀ x c, X.env.cells.lookup x = some c → ∀ v, s.heap.IsCell c v → h'.IsCell c v := by
    rintro x c e v ⟨o, ho, hd⟩
    have nch : c ∉ ch := fun z => (hch c z).2.2.1 x c e rfl
    by_cases hc : c ∈ X.fs
    · obtain ⟨sl, q⟩ := slot c o (I.cne x c e) hc nch ho (I.freeC x c e)
      exact ⟨_, q, hd⟩
    · exact ⟨o, keep c o (I.cne x c e) hc nch ho (I.freeC x c e), hd⟩
  refine ⟨I.ok, I.os, hg, ⟨fun b o e n hb hx => ?_, fun b o e n hb hx => ?_, fun b o e n hx => ?_, fun b o e hx => ?_, fun b xs e => tups b xs (I.base.tups b xs e), fun b o xs e => frzs b o xs (I.base.frzs b o xs e), fun b ps e => ?_⟩, ?_, fun x c e => ?_, ?_, fun x c e => ?_, fun p hp => ?_, hok, I.len⟩
  · exact keep b o (neL b o e) hb (neC b o e hx) (I.base.keep b o e n hb hx) (I.base.free b o e n hx)
  · obtain ⟨sl, e1⟩ := I.base.slot b o e n hb hx
    obtain ⟨sl', e2⟩ := slot b _ (neL b o e) hb (neC b o e hx) e1 (I.base.free b o e n hx)
    exact ⟨sl', e2⟩
  · obtain ⟨o', e1⟩ := I.base.there b o e hx
    exact free b o' (neC b o e hx) e1 (I.base.free b o e n hx)
  · obtain ⟨o', e1⟩ := I.base.there b o e hx
    exact there b o' (neC b o e hx) e1
  · obtain ⟨m1, e1⟩ := I.base.tbls b ps e
    obtain ⟨m2, e2⟩ := tbls b _ e1
    exact ⟨m1 ++ m2, by rw [e2, Array.append_assoc]⟩
  · obtain ⟨m, hn, hl⟩ := I.loc
    refine ⟨m, ns m hn, fun i x v e1 e2 e3 => ?_⟩
    obtain ⟨u, r, l⟩ := hl i x v e1 e2 e3
    refine ⟨u, r, ?_⟩
    rcases l with l | ⟨k, c, e, z⟩
    · exact .inl l
    · exact .inr ⟨k, c, e, cellK x c e _ z⟩
  · obtain ⟨v, z⟩ := I.cell x c e
    exact ⟨v, cellK x c e v z⟩
  · obtain ⟨m, ⟨o, _, _, ho, _⟩, _⟩ := I.loc
    exact free _ o (fun z => (hch _ z).2.1 rfl) ho I.free
  · obtain ⟨v, o, ho, hd⟩ := I.cell x c e
    exact free c o (fun z => (hch c z).2.2.1 x c e rfl) ho (I.freeC x c e)
  · obtain ⟨e, n, ne, nf, d⟩ := I.pin p hp
    have nch : p.1 ∉ ch := fun z => (hch p.1 z).2.2.2 p hp rfl
    exact ⟨keep p.1 p.2 ne nf nch e n, free p.1 p.2 nch e n, ne, nf, d⟩
/-- .. where the frame's own object is kept too -/
theorem Inv.un {t' : Nat} (I : Inv X pins σ H s) (u : Un X.fs [] H H' s.heap h') (hok : HOk X.prog X.w H' h') : Inv X pins σ H' { s with heap := h', toks := t' } := by
  obtain ⟨m, ⟨o, es, ep, ho, r⟩, _⟩ := id I.loc
  obtain ⟨sl, hL⟩ := u.any ho I.free (by simp)
  exact I.step (g' := s.gens) (d' := s.drawn) (ch := []) (fun _ z => nomatch z) (fun b o _ hb _ e n => u.keep b o e n hb (by simp)) (fun b o _ hb _ e n => u.slot b o e n hb (by simp)) (fun b o _ e n => u.free b o e n (by simp)) (fun b o _ e => u.there b o e (by simp)) u.tups u.frzs u.tbls (fun m' hm => by
    obtain ⟨o', es', ep', ho', r'⟩ := hm
    rw [ho] at ho'; cases ho'
    exact ⟨_, es', ep', hL, r'⟩) hok I.bare
/-- behind a call (or a comprehension's block): the slots of this frame may have changed too, the records at ch may have turned -/
theorem Inv.call {g' : Array GenState} {t' : Nat} {d' : Drawn} {ch : List Addr} (I : Inv X pins σ H s) (u : Un (frs X.stack) ch H H' s.heap h') (hok : HOk X.prog X.w H' h') (hg : AllBare g')
    (hch : ∀ b ∈ ch, (b ∈ X.ex ∨ X.s₀.heap.objs.size ≤ b) ∧ b ≠ X.env.locals ∧ (∀ x c, X.env.cells.lookup x = some c → c ≠ b) ∧ ∀ p ∈ X.pn ++ pins, p.1 ≠ b) :
    Inv X pins σ H' { s with heap := h', gens := g', drawn := d', toks := t' } := by
  obtain ⟨m, ⟨o, es, ep, ho, r⟩, _⟩ := id I.loc
  obtain ⟨sl, hL⟩ := u.any ho I.free fun z => (hch _ z).2.1 rfl
  exact I.step (ch := ch) hch (fun b o hL hb hc e n => u.keep b o e n (fun z => (List.mem_cons.mp (I.stkSub b z)).elim hL hb) hc) (fun b o _ _ hc e n => u.any e n hc) (fun b o hc e n => u.free b o e n hc) (fun b o hc e => u.there b o e hc) u.tups u.frzs u.tbls (fun m' hm => by
    obtain ⟨o', es', ep', ho', r'⟩ := hm
    rw [ho] at ho'; cases ho'
    exact ⟨_, es', ep', hL, r'⟩) hok hg
/-- an untracked record of ours (an iterator) has turned -/
theorem Inv.turned {t' : Nat} {it : Addr} (I : Inv X pins σ H s) (k : ∀ b o, b ≠ it → s.heap.get? b = some o → h'.get? b = some o) (hn : H it = none) (hL : it ≠ X.env.locals)
    (h1 : it ∈ X.ex ∨ X.s₀.heap.objs.size ≤ it) (h2 : ∀ x c, X.env.cells.lookup x = some c → c ≠ it) (h3 : ∀ p ∈ X.pn ++ pins, p.1 ≠ it) : Inv X pins σ H { s with heap := h', toks := t' } := by
  have nit : ∀ b u, H b = some u → b ≠ it := fun b u e z => by rw [z, hn] at e; cases e
  refine I.step (g' := s.gens) (d' := s.drawn) (ch := [it]) (fun b hb => ?_) (fun b o _ _ hc e _ => k b o (fun z => hc (by simp [z])) e) (fun b o _ _ hc e _ => ⟨o.slots, k b o (fun z => hc (by simp [z])) e⟩) (fun _ _ _ _ n => n)
    (fun b o hc e => ⟨o, k b o (fun z => hc (by simp [z])) e⟩) (fun _ _ e => e) (fun _ _ _ e => e) (fun b ps e => ⟨#[], by rw [e]; simp⟩) (fun m hm => ?_) (fun b u e => ?_) I.bare
  · have e : b = it := by simpa using hb
    subst e
    exact ⟨h1, hL, h2, h3⟩
  · obtain ⟨o, es, ep, ho, r⟩ := hm
    exact ⟨o, es, ep, k _ o (Ne.symm hL) ho, r⟩
  · refine (I.hok b u e).stay (fun c v hc q => k c v ?_ q) (fun _ q => q) fun _ _ q => q
    rcases hc with z | z
    · rw [z]; exact nit b u e
    · exact nit c _ z
theorem Inv.tok (I : Inv X pins σ H s) (t : Nat) : Inv X pins σ H { s with toks := t } := I.un (h' := s.heap) (t' := t) Un.refl I.hok
/-- all objects kept -/
theorem Inv.kept {t' : Nat} (I : Inv X pins σ H s) (k : ∀ b u, s.heap.get? b = some u → h'.get? b = some u) : Inv X pins σ H { s with heap := h', toks := t' } := I.un (Un.kept k) (I.hok.kept k)
/-- a new object laid and tracked -/
theorem Inv.laid {a : Addr} {o : HO} {t' : Nat} (I : Inv X pins σ H s) (k : ∀ b u, s.heap.get? b = some u → h'.get? b = some u) (hp : s.heap.objs.size ≤ a) (new : ObjOk X.prog X.w (upd H a o) h' a o) :
    Inv X pins σ (upd H a o) { s with heap := h', toks := t' } := I.un (Un.laid k hp (I.hok.fresh hp)) (I.hok.laid k hp new)
/-- an object written -/
theorem Inv.write {x e : Addr} {o : HO} {t' : Nat} (I : Inv X pins σ H s) (mu : Mut (H x)) (he : e = x ∨ H e = some (.own x)) (k : ∀ b u, b ≠ e → s.heap.get? b = some u → h'.get? b = some u) (heo : ∃ u, h'.get? e = some u)
    (new : ObjOk X.prog X.w (upd H x o) h' x o) : Inv X pins σ (upd H x o) { s with heap := h', toks := t' } := I.un (Un.write mu he k heo) (I.hok.write mu he k heo new)
theorem Inv.pins_of {pins' : List (Addr × Obj)} (I : Inv X pins σ H s) (h : ∀ p ∈ pins', s.heap.get? p.1 = some p.2 ∧ H p.1 = none ∧ p.1 ≠ X.env.locals ∧ p.1 ∉ X.fs ∧ ∀ v, p.2.data ≠ .cell v) : Inv X pins' σ H s :=
  ⟨I.ok, I.os, I.bare, I.base, I.loc, I.cell, I.free, I.freeC, fun p hp => (List.mem_append.mp hp).elim (fun z => I.pin p (List.mem_append_left _ z)) (h p), I.hok, I.len⟩
theorem nodup_ix {N : List Str} (hN : N.Nodup) {i j : Nat} {x : Str} (a : N[i]? = some x) (b : N[j]? = some x) : i = j := by
  obtain ⟨h1, e1⟩ := List.getElem?_eq_some_iff.mp a
  obtain ⟨h2, e2⟩ := List.getElem?_eq_some_iff.mp b
  exact (List.getElem_inj hN).mp (e1.trans e2.symm)
/-- a name is stored; what changed -/
theorem store_ok2 {M : Model} {A : Around} {E : Value → Shared → Prop} {i : Nat} {x : Str} {v : V} {u : Value} {Q : Unit → Shared → Prop} (I : Inv X pins σ H s) (hN : X.N.Nodup) (hi : X.N[i]? = some x) (hx : Loc X.env.scope x) (r : RelV v u)
    (h : ∀ s', Inv X pins (σ.set i (some v)) H s' → (∃ a, Heap.SameBut a s.heap s'.heap ∧ (a = X.env.locals ∨ X.env.cells.lookup x = some a)) → Q () s') (hf : X.fn x = true ∨ X.env.scope.names.lookup x = some .local := by first | exact .inl rfl | exact .inr rfl | assumption) : wpAny M A (storeName X.env x u) Q E s := by
  obtain ⟨m, hn, hl⟩ := id I.loc
  have hcls : (X.env.scope.kind == .class || (X.env.scope.kind == .module && X.env.locals != X.env.globals)) = false := by rw [I.ok.kind]; rfl
  have hiσ : i < σ.length := by rw [I.len]; exact (List.getElem?_eq_some_iff.mp hi).1
  have cne := I.cne
  have tracked : ∀ {a : Addr} {h' : Heap}, (∃ o, s.heap.get? a = some o ∧ H a = none) → Heap.SameBut a s.heap h' → HOk X.prog X.w H h' := fun {a h'} ha hs b ob e => by
    obtain ⟨_, _, hfree⟩ := ha
    refine (I.hok b ob e).stay (fun c w' hc q => (hs.2 c ?_).trans q) (fun _ q => q) fun _ _ q => q
    rintro rfl
    rcases hc with rfl | hc
    · rw [hfree] at e; cases e
    · rw [hfree] at hc; cases hc
  rcases hx with hk | hk
  · refine wpAny_storeName_local hk hn (fun h' hn' hs => ?_) hcls
    obtain ⟨oL, _, _, hoL, _⟩ := id hn
    refine h _ ⟨I.ok, I.os, I.bare, ⟨fun b o e n hb hx => ?_, fun b o e n hb hx => ?_, I.base.free, fun b o e hx => ?_, I.base.tups, I.base.frzs, I.base.tbls⟩, ⟨_, hn', fun j y v' e1 e2 e3 => ?_⟩, fun y c e => ?_, I.free, I.freeC, fun p hp => ?_, tracked ⟨oL, hoL, I.free⟩ hs, by simpa using I.len⟩ ⟨_, hs, .inl rfl⟩
    · exact (hs.2 b (Nat.ne_of_lt (Nat.lt_of_lt_of_le (Heap.lt_size e) I.ok.above))).trans (I.base.keep b o e n hb hx)
    · obtain ⟨sl, e1⟩ := I.base.slot b o e n hb hx
      exact ⟨sl, (hs.2 b (Nat.ne_of_lt (Nat.lt_of_lt_of_le (Heap.lt_size e) I.ok.above))).trans e1⟩
    · obtain ⟨o', e1⟩ := I.base.there b o e hx
      exact ⟨o', (hs.2 b (Nat.ne_of_lt (Nat.lt_of_lt_of_le (Heap.lt_size e) I.ok.above))).trans e1⟩
    · by_cases hj : j = i
      · subst hj
        rw [hi] at e1; cases e1
        rw [List.getElem?_set_self hiσ] at e2
        cases e2
        exact ⟨u, r, .inl ⟨hk, by simp⟩⟩
      · rw [List.getElem?_set_ne (Ne.symm hj)] at e2
        obtain ⟨u', r', q⟩ := hl j y v' e1 e2 e3
        refine ⟨u', r', ?_⟩
        rcases q with ⟨k, e⟩ | ⟨k, c, e, z⟩
        · refine .inl ⟨k, ?_⟩
          have : y ≠ x := fun e => hj (nodup_ix hN e1 (e ▸ hi))
          simp [this, e]
        · exact .inr ⟨k, c, e, z.sameBut hs (cne y c e)⟩
    · obtain ⟨w', z⟩ := I.cell y c e
      exact ⟨w', z.sameBut hs (cne y c e)⟩
    · obtain ⟨e, n, ne, nf, d⟩ := I.pin p hp
      exact ⟨(hs.2 p.1 ne).trans e, n, ne, nf, d⟩
  · have hfn : X.fn x = true := by
      rcases hf with z | z
      · exact z
      · rw [z] at hk; cases hk
    obtain ⟨c, hc⟩ := I.ok.has x (.inl hk)
    obtain ⟨w', z⟩ := I.cell x c hc
    refine wpAny_storeName_cell I.ok.kind hk hc z (fun h' hc' hs => ?_)
    obtain ⟨oc, hoc, hocd⟩ := id z
    refine h { s with heap := h' } ⟨I.ok, I.os, I.bare, ⟨fun b o e n hb hx => ?_, fun b o e n hb hx => ?_, I.base.free, fun b o e hx => ?_, I.base.tups, I.base.frzs, I.base.tbls⟩, ⟨m, hn.sameBut hs (Ne.symm (cne x c hc)), fun j y v' e1 e2 e3 => ?_⟩, fun y c' e => ?_, I.free, I.freeC, fun p hp => ?_, tracked ⟨oc, hoc, I.freeC x c hc⟩ hs, by simpa using I.len⟩ ⟨c, hs, .inr hc⟩
    · exact (hs.2 b (Nat.ne_of_lt (Nat.lt_of_lt_of_le (Heap.lt_size e) (I.ok.cab x c hfn hc)))).trans (I.base.keep b o e n hb hx)
    · obtain ⟨sl, e1⟩ := I.base.slot b o e n hb hx
      exact ⟨sl, (hs.2 b (Nat.ne_of_lt (Nat.lt_of_lt_of_le (Heap.lt_size e) (I.ok.cab x c hfn hc)))).trans e1⟩
    · obtain ⟨o', e1⟩ := I.base.there b o e hx
      exact ⟨o', (hs.2 b (Nat.ne_of_lt (Nat.lt_of_lt_of_le (Heap.lt_size e) (I.ok.cab x c hfn hc)))).trans e1⟩
    · by_cases hj : j = i
      · subst hj
        rw [hi] at e1; cases e1
        rw [List.getElem?_set_self hiσ] at e2
        cases e2
        exact ⟨u, r, .inr ⟨.inl hk, c, hc, hc'⟩⟩
      · rw [List.getElem?_set_ne (Ne.symm hj)] at e2
        obtain ⟨u', r', q⟩ := hl j y v' e1 e2 e3
        refine ⟨u', r', ?_⟩
        rcases q with q | ⟨k, c', e, z'⟩
        · exact .inl q
        · refine .inr ⟨k, c', e, z'.sameBut hs ?_⟩
          rintro rfl
          exact hj (nodup_ix hN e1 (I.ok.inj _ _ _ e hc ▸ hi))
    · by_cases hcc : c' = c
      · subst hcc; exact ⟨_, hc'⟩
      · obtain ⟨w2, z2⟩ := I.cell y c' e
        exact ⟨w2, z2.sameBut hs hcc⟩
    · obtain ⟨e, n, ne, nf, d⟩ := I.pin p hp
      refine ⟨(hs.2 p.1 ?_).trans e, n, ne, nf, d⟩
      intro q
      rw [q, hoc] at e
      have q' : oc = p.2 := Option.some.inj e
      exact d w' (by rw [← q']; exact hocd)
theorem store_ok {M : Model} {A : Around} {E : Value → Shared → Prop} {i : Nat} {x : Str} {v : V} {u : Value} {Q : Unit → Shared → Prop} (I : Inv X pins σ H s) (hN : X.N.Nodup) (hi : X.N[i]? = some x) (hx : Loc X.env.scope x) (r : RelV v u)
    (h : ∀ s', Inv X pins (σ.set i (some v)) H s' → Q () s') (hf : X.fn x = true ∨ X.env.scope.names.lookup x = some .local := by first | exact .inl rfl | exact .inr rfl | assumption) : wpAny M A (storeName X.env x u) Q E s :=
  store_ok2 I hN hi hx r (fun s' I' _ => h s' I') hf
/-- behind a call or a block, the state as it is -/
theorem Inv.call' {s' : Shared} {ch : List Addr} (I : Inv X pins σ H s) (ho : s'.os = s.os) (u : Un (frs X.stack) ch H H' s.heap s'.heap) (hok : HOk X.prog X.w H' s'.heap) (hg : AllBare s'.gens)
    (hch : ∀ b ∈ ch, (b ∈ X.ex ∨ X.s₀.heap.objs.size ≤ b) ∧ b ≠ X.env.locals ∧ (∀ x c, X.env.cells.lookup x = some c → c ≠ b) ∧ ∀ p ∈ X.pn ++ pins, p.1 ≠ b) : Inv X pins σ H' s' := by
  obtain ⟨h', g', d', t', o'⟩ := s'
  have e : o' = s.os := ho
  subst e
  exact I.call (g' := g') (t' := t') (d' := d') u hok hg hch
end
/-- an exception: its class, its own dict's address (where it has one), the abstract heap behind it -/
noncomputable abbrev XK := Value → Option Addr → Hp → Prop
noncomputable abbrev St := List (Option V)
noncomputable abbrev VK := V → Hp → Prop
/-- an expression's reading; a test's; an argument list's -/
noncomputable abbrev TE := St → Hp → VK → Prop
noncomputable abbrev TT := St → Hp → (Bool → Hp → Prop) → Prop
noncomputable abbrev TA := St → Hp → (List V → Hp → Prop) → Prop
/-- what is wanted behind a statement -/
structure Ends where
  nx : St → Hp → Prop
  rt : VK
  bk : St → Hp → Prop := fun _ _ => False
  ct : St → Hp → Prop := fun _ _ => False
noncomputable abbrev TS := Ends → St → Hp → Prop
noncomputable def EP (X : Cx) (pins : List (Addr × Obj)) (σ : St) (Q : VK) (u : Value) (s' : Shared) : Prop := ∃ v H', Inv X pins σ H' s' ∧ RelV v u ∧ Q v H'
noncomputable def TP (X : Cx) (pins : List (Addr × Obj)) (σ : St) (Q : Bool → Hp → Prop) (b : Bool) (s' : Shared) : Prop := ∃ H', Inv X pins σ H' s' ∧ Q b H'
noncomputable def AP (X : Cx) (pins : List (Addr × Obj)) (σ : St) (Q : List V → Hp → Prop) (us : List Value) (s' : Shared) : Prop := ∃ vs H', Inv X pins σ H' s' ∧ Vals vs us ∧ Q vs H'
noncomputable def SP (X : Cx) (pins : List (Addr × Obj)) (D : Ends) (f : Flow) (s' : Shared) : Prop :=
  match f with
  | .next => ∃ σ' H', Inv X pins σ' H' s' ∧ D.nx σ' H'
  | .brk => ∃ σ' H', Inv X pins σ' H' s' ∧ D.bk σ' H'
  | .cont => ∃ σ' H', Inv X pins σ' H' s' ∧ D.ct σ' H'
  | .ret u => ∃ v σ' H', Inv X pins σ' H' s' ∧ RelV v u ∧ D.rt v H'
noncomputable def PE (X : Cx) (e : Expr) (t : TE) : Prop :=
  ∀ (pins : List (Addr × Obj)) (s : Shared) (σ : St) (H : Hp) (Q : VK), Inv X pins σ H s → t σ H Q → wpAny (model X.prog X.w) X.A (eval e X.env) (EP X pins σ Q) X.xe s
noncomputable def PT (X : Cx) (e : Expr) (t : TT) : Prop :=
  ∀ (pins : List (Addr × Obj)) (s : Shared) (σ : St) (H : Hp) (Q : Bool → Hp → Prop), Inv X pins σ H s → t σ H Q → wpAny (model X.prog X.w) X.A (isTrue e X.env (eval e X.env)) (TP X pins σ Q) X.xe s
/-- a test whatever its 'whole' is (and, or) -/
noncomputable def PW (X : Cx) (e : Expr) (t : TT) : Prop :=
  ∀ (whole : Sem Value) (pins : List (Addr × Obj)) (s : Shared) (σ : St) (H : Hp) (Q : Bool → Hp → Prop), Inv X pins σ H s → t σ H Q → wpAny (model X.prog X.w) X.A (isTrue e X.env whole) (TP X pins σ Q) X.xe s
theorem PW.pt {X : Cx} {e : Expr} {t : TT} (h : PW X e t) : PT X e t := h _
/-- an argument list (no star), from the left -/
noncomputable def PA (X : Cx) (es : List Expr) (t : TA) : Prop :=
  ∀ (pos : Pos) (pins : List (Addr × Obj)) (s : Shared) (σ : St) (H : Hp) (Q : List V → Hp → Prop), Inv X pins σ H s → t σ H Q → wpAny (model X.prog X.w) X.A (spliced (backTo pos (starEach es X.env))) (AP X pins σ Q) X.xe s
noncomputable def PS (X : Cx) (st : Stmt) (t : TS) : Prop :=
  ∀ (pins : List (Addr × Obj)) (s : Shared) (σ : St) (H : Hp) (D : Ends), Inv X pins σ H s → t D σ H → wpAny (model X.prog X.w) X.A (exec st X.env) (SP X pins D) X.xe s
noncomputable def PSs (X : Cx) (st : List Stmt) (t : TS) : Prop :=
  ∀ (pins : List (Addr × Obj)) (s : Shared) (σ : St) (H : Hp) (D : Ends), Inv X pins σ H s → t D σ H → wpAny (model X.prog X.w) X.A (execs st X.env) (SP X pins D) X.xe s
/-- weaken the end -/
theorem thn {α : Type} {t : Sem α} {Q Q' : α → Shared → Prop} {M : Model} {A : Around} {E : Value → Shared → Prop} {s : Shared} (h : wpAny M A t Q E s) (hQ : ∀ a s, Q a s → Q' a s) : wpAny M A t Q' E s := wpAny_mono h hQ fun _ _ x => x
end L2
namespace L2
open PySem PySem.Spec PyProof.Rows
section
variable {X : Cx}
/-- two expressions in a row -/
theorem bin {a b : Expr} {ta tb : TE} (ha : PE X a ta) (hb : PE X b tb) {pins : List (Addr × Obj)} {s : Shared} {σ : St} {H : Hp} {R : V → V → Hp → Prop} (I : Inv X pins σ H s) (h : ta σ H fun x H1 => tb σ H1 fun y H2 => R x y H2)
    {α : Type} {Q : α → Shared → Prop} {f : Value → Value → Sem α}
    (hf : ∀ v u s2 x y H2, Inv X pins σ H2 s2 → RelV x v → RelV y u → R x y H2 → wpAny (model X.prog X.w) X.A (f v u) Q X.xe s2) :
    wpAny (model X.prog X.w) X.A (eval a X.env) (fun v s₁ => wpAny (model X.prog X.w) X.A (eval b X.env) (fun u s₂ => wpAny (model X.prog X.w) X.A (f v u) Q X.xe s₂) X.xe s₁) X.xe s := by
  refine thn (ha pins s σ H _ I h) fun v s1 zz1 => ?_
  obtain ⟨x, H1, I1, r1, q1⟩ := zz1
  refine thn (hb pins s1 σ H1 _ I1 q1) fun u s2 zz2 => ?_
  obtain ⟨y, H2, I2, r2, q2⟩ := zz2
  exact hf v u s2 x y H2 I2 r1 r2 q2
noncomputable def tVar (i : Nat) : TE := fun σ H Q => ∃ v, σ[i]? = some (some v) ∧ Q v H
noncomputable def tC (v : V) : TE := fun _ H Q => Q v H
theorem pe_var {i : Nat} {x : Str} {pos : Pos} (hN : X.N[i]? = some x) (hv : Vis X.env.scope x) (hd : (x == ("__debug__" : Str)) = false := by decide) (hcd : (x == ("__classdict__" : Str)) = false := by decide) : PE X (.Name x pos) (tVar i) := by
  intro pins s σ H Q I h
  obtain ⟨v, e, h⟩ := h
  obtain ⟨m, hn, hl⟩ := I.loc
  obtain ⟨u, r, l⟩ := hl i x v hN e hv
  have fin : EP X pins σ Q u s := ⟨v, H, I, r, h⟩
  rcases l with ⟨hk, hm⟩ | ⟨hk, c, hc, hcell⟩
  · exact wpAny_Name (wpAny_loadName_local I.ok.kind hk hn hm fin) hd
  · rcases hk with hk | hk
    · exact wpAny_Name (wpAny_loadName_cell I.ok.kind hk hc hcell fin) hd
    · exact wpAny_Name (wpAny_loadName_free I.ok.kind hk hc hcell fin hcd) hd
theorem pe_int {i j pos} : PE X (.Constant (.int i) j pos) (tC (.int i)) := fun _ _ _ H _ I h => wpAny_Constant_int ⟨.int i, H, I.tok _, ⟨_, rfl⟩, h⟩
theorem pe_bl {b j pos} : PE X (.Constant (.bool b) j pos) (tC (.bl b)) := fun _ _ _ H _ I h => Constant_bool ⟨.bl b, H, I, rfl, h⟩
theorem pe_str {x j pos} : PE X (.Constant (.str x) j pos) (tC (.str x)) := fun _ _ _ H _ I h => Calls.Constant_str ⟨.str x, H, I.tok _, ⟨_, rfl⟩, h⟩
/-- a global name of the def -/
noncomputable def Gl (X : Cx) (x : Str) : Prop := X.env.kindOf x = some .globalImplicit
theorem ld_glob {E : Value → Shared → Prop} {pins : List (Addr × Obj)} {s : Shared} {σ : St} {H : Hp} {x : Str} {u : Value} {pos : Pos} {Q : Value → Shared → Prop} (I : Inv X pins σ H s) (hg : Gl X x) (hm : X.mg x = some u) (h : Q u s)
    (hd : (x == ("__debug__" : Str)) = false := by decide) : wpAny (model X.prog X.w) X.A (eval (.Name x pos) X.env) Q E s :=
  Calls.Name_function_global I.ok.kind hg (Calls.loadGlobal_global (by rw [I.ok.glob]; exact I.mod.glob.keeps I.bk) hm h) hd
theorem ld_blt {E : Value → Shared → Prop} {pins : List (Addr × Obj)} {s : Shared} {σ : St} {H : Hp} {x : Str} {u : Value} {pos : Pos} {Q : Value → Shared → Prop} (I : Inv X pins σ H s) (hg : Gl X x) (hm : X.mg x = none) (hv : bootBuiltins x = some u) (h : Q u s)
    (hn : x ≠ "__name__" := by decide) (hd : (x == ("__debug__" : Str)) = false := by decide) : wpAny (model X.prog X.w) X.A (eval (.Name x pos) X.env) Q E s := by
  obtain ⟨mb, h1, h2⟩ := I.mod.blt
  exact Calls.Name_function_global I.ok.kind hg (Calls.loadGlobal_builtin (by rw [I.ok.glob]; exact I.mod.glob.keeps I.bk) hm (by rw [I.ok.blt]; exact h1.keeps I.bk) ((h2 x hn).trans hv) h) hd
/-- a module's constant, a class, a function, as a value -/
theorem pe_glob {x : Str} {v : V} {u : Value} {pos : Pos} (hg : Gl X x) (hm : X.mg x = some u) (r : RelV v u) (hd : (x == ("__debug__" : Str)) = false := by decide) : PE X (.Name x pos) (tC v) :=
  fun _ _ _ H _ I h => ld_glob I hg hm ⟨v, H, I, r, h⟩ hd
theorem pe_bltn {x : Str} {v : V} {u : Value} {pos : Pos} (hg : Gl X x) (hm : X.mg x = none) (hv : bootBuiltins x = some u) (r : RelV v u) (hn : x ≠ "__name__" := by decide) (hd : (x == ("__debug__" : Str)) = false := by decide) : PE X (.Name x pos) (tC v) :=
  fun _ _ _ H _ I h => ld_blt I hg hm hv ⟨v, H, I, r, h⟩ hn hd
/-- two ints -/
noncomputable def t2I (ta tb : TE) (k : Int → Int → Hp → Prop) : St → Hp → Prop := fun σ H => ta σ H fun x H1 => tb σ H1 fun y H2 => ∃ i j, x = .int i ∧ y = .int j ∧ k i j H2
noncomputable def tSub (ta tb : TE) : TE := fun σ H Q => t2I ta tb (fun i j H2 => Q (.int (i - j)) H2) σ H
variable {a b : Expr} {ta tb : TE} {pos : Pos}
theorem pe_sub (ha : PE X a ta) (hb : PE X b tb) : PE X (.BinOp a .Sub b pos) (tSub ta tb) := by
  intro pins s σ H Q I h
  refine wpAny_BinOp (bin ha hb I h fun v u s2 x y H2 I2 rx ry q => ?_)
  obtain ⟨i, j, rfl, rfl, q⟩ := q
  obtain ⟨t, rfl⟩ := rx
  obtain ⟨t', rfl⟩ := ry
  exact sub_int ⟨.int _, H2, I2.tok _, ⟨_, rfl⟩, q⟩
variable {tA tB' : TT} {rest : List Expr}
noncomputable def tAnd (t u : TT) : TT := fun σ H Q => t σ H fun c H1 => if c = true then u σ H1 Q else Q false H1
noncomputable def tOr (t u : TT) : TT := fun σ H Q => t σ H fun c H1 => if c = true then Q true H1 else u σ H1 Q
noncomputable def tNot (t : TT) : TT := fun σ H Q => t σ H fun c H1 => Q (!c) H1
theorem pw_and1 (ha : PT X a tA) : PW X (.BoolOp .And [a] pos) tA := by
  intro wh pins s σ H Q I h
  refine isTrue_and (thn (ha pins s σ H Q I h) fun c s1 e => ?_)
  cases c with
  | true => exact isTrue_and_nil e
  | false => exact e
theorem pw_or1 (ha : PT X a tA) : PW X (.BoolOp .Or [a] pos) tA := by
  intro wh pins s σ H Q I h
  refine isTrue_or (thn (ha pins s σ H Q I h) fun c s1 e => ?_)
  cases c with
  | false => exact isTrue_or_nil e
  | true => exact e
theorem pw_and (ha : PT X a tA) (hb : PW X (.BoolOp .And (b :: rest) pos) tB') : PW X (.BoolOp .And (a :: b :: rest) pos) (tAnd tA tB') := by
  intro wh pins s σ H Q I h
  refine isTrue_and (thn (ha pins s σ H _ I h) fun c s1 zz7 => ?_)
  obtain ⟨H1, I1, q1⟩ := zz7
  cases c with
  | true => exact hb wh pins s1 σ H1 Q I1 q1
  | false => exact ⟨H1, I1, q1⟩
theorem pw_or (ha : PT X a tA) (hb : PW X (.BoolOp .Or (b :: rest) pos) tB') : PW X (.BoolOp .Or (a :: b :: rest) pos) (tOr tA tB') := by
  intro wh pins s σ H Q I h
  refine isTrue_or (thn (ha pins s σ H _ I h) fun c s1 zz8 => ?_)
  obtain ⟨H1, I1, q1⟩ := zz8
  cases c with
  | true => exact ⟨H1, I1, q1⟩
  | false => exact hb wh pins s1 σ H1 Q I1 q1
theorem pt_not (ha : PT X a tA) : PT X (.UnaryOp .Not a pos) (tNot tA) := by
  intro pins s σ H Q I h
  exact isTrue_not (ha pins s σ H (fun c H1 => Q (!c) H1) I h)
/-- .. as values (bools) -/
noncomputable def tAndV (ta tb : TE) : TE := fun σ H Q => ta σ H fun x H1 => ∃ c, x = .bl c ∧ if c = true then tb σ H1 Q else Q (.bl false) H1
noncomputable def tOrV (ta tb : TE) : TE := fun σ H Q => ta σ H fun x H1 => ∃ c, x = .bl c ∧ if c = true then Q (.bl true) H1 else tb σ H1 Q
theorem pe_one {op} {t : TE} (h : PE X a t) : PE X (.BoolOp op [a] pos) t := fun pins s σ H Q I hw => BoolOp_one (h pins s σ H Q I hw)
theorem pe_and (ha : PE X a ta) (hb : PE X (.BoolOp .And (b :: rest) pos) tb) : PE X (.BoolOp .And (a :: b :: rest) pos) (tAndV ta tb) := by
  intro pins s σ H Q I h
  refine BoolOp_and (thn (ha pins s σ H _ I h) fun v s1 zz9 => ?_)
  obtain ⟨x, H1, I1, r1, q1⟩ := zz9
  obtain ⟨c, rfl, q1⟩ := q1
  cases r1
  refine wpAny_truthy_bool ?_
  cases c with
  | true => exact hb pins s1 σ H1 Q I1 q1
  | false => exact ⟨.bl false, H1, I1, rfl, q1⟩
theorem pe_or (ha : PE X a ta) (hb : PE X (.BoolOp .Or (b :: rest) pos) tb) : PE X (.BoolOp .Or (a :: b :: rest) pos) (tOrV ta tb) := by
  intro pins s σ H Q I h
  refine BoolOp_or (thn (ha pins s σ H _ I h) fun v s1 zz10 => ?_)
  obtain ⟨x, H1, I1, r1, q1⟩ := zz10
  obtain ⟨c, rfl, q1⟩ := q1
  cases r1
  refine wpAny_truthy_bool ?_
  cases c with
  | false => exact hb pins s1 σ H1 Q I1 q1
  | true => exact ⟨.bl true, H1, I1, rfl, q1⟩
/-- a if t else b -/
noncomputable def tIf (t : TT) (ta tb : TE) : TE := fun σ H Q => t σ H fun c H1 => if c = true then ta σ H1 Q else tb σ H1 Q
theorem pe_ifExp {c : Expr} (hc : PT X c tA) (ha : PE X a ta) (hb : PE X b tb) : PE X (.IfExp c a b pos) (tIf tA ta tb) := by
  intro pins s σ H Q I h
  refine wpAny_IfExp (thn (hc pins s σ H _ I h) fun d s1 zz12 => ?_)
  obtain ⟨H1, I1, q1⟩ := zz12
  cases d with
  | true => exact ha pins s1 σ H1 Q I1 q1
  | false => exact hb pins s1 σ H1 Q I1 q1
end
end L2
namespace L2
open PySem PySem.Spec PyProof.Rows
noncomputable def SqL (K : PySem.W.Frag) (H : Hp) (a : Addr) (xs : List V) : Prop :=
  Rd H a (.lst xs) ∨
    ∃ (o : Obj) (its : Array Value) (n : Nat), K.lookup a = some o ∧ o.cls = .type "list" ∧ o.dict = none ∧ o.data = .seq its n ∧ its.size ≤ sizeLine ∧ Vals xs its.toList
noncomputable def SqT (K : PySem.W.Frag) (H : Hp) (a : Addr) (xs : List V) : Prop :=
  Rd H a (.tup xs) ∨
    ∃ (o : Obj) (its : Array Value) (n : Nat), K.lookup a = some o ∧ o.cls = .type "tuple" ∧ o.data = .seq its n ∧ its.size ≤ sizeLine ∧ Vals xs its.toList
noncomputable def absV : Value → Option V
  | .none => some .non
  | .bool b => some (.bl b)
  | .int i _ => some (.int i)
  | .str x _ => some (.str x)
  | .bytes b _ => some (.byt b)
  | .float b _ => some (.flt b)
  | .ref a => some (.ref a)
  | .type n => some (.ty n)
  | _ => none
theorem RelV.abs {x : V} {u : Value} (r : RelV x u) : absV u = some x := by
  cases x with
  | non => cases r; rfl
  | bl _ => cases r; rfl
  | int _ => obtain ⟨t, rfl⟩ := r; rfl
  | str _ => obtain ⟨t, rfl⟩ := r; rfl
  | byt _ => obtain ⟨t, rfl⟩ := r; rfl
  | flt _ => obtain ⟨t, rfl⟩ := r; rfl
  | ref _ => cases r; rfl
  | ty _ => cases r; rfl
theorem RelV.inj {x y : V} {u : Value} (r : RelV x u) (q : RelV y u) : x = y := Option.some.inj (r.abs.symm.trans q.abs)
theorem Vals.inj : ∀ {xs ys : List V} {us : List Value}, Vals xs us → Vals ys us → xs = ys
  | _, _, _, .nil, .nil => rfl
  | _, _, _, .cons r t, .cons r' t' => by rw [r.inj r', Vals.inj t t']
section
variable {X : Cx} {pins : List (Addr × Obj)} {σ : St} {H : Hp} {s : Shared} {a : Addr} {xs ys : List V}
theorem SqL.of {K : PySem.W.Frag} (h : H a = some (.lst xs)) : SqL K H a xs := .inl (.inl h)
theorem SqT.of {K : PySem.W.Frag} (h : H a = some (.tup xs)) : SqT K H a xs := .inl (.inl h)
theorem Inv.list (I : Inv X pins σ H s) (h : SqL X.K H a xs) : ∃ its : List Value, Vals xs its ∧ PlainL s.heap a its.toArray ∧ xs.length ≤ sizeLine := by
  rcases h with h | ⟨o, its, n, hk, hc, hd, hs, hz, r⟩
  · obtain ⟨z, its, n, r, e⟩ := h.ok I.hok
    exact ⟨its, r, ⟨_, n, e, rfl, rfl, rfl⟩, z⟩
  · refine ⟨its.toList, r, ⟨o, n, I.kIn a o hk, hc, hd, by simpa using hs⟩, ?_⟩
    have e := r.length
    simp only [Array.length_toList] at e
    omega
theorem Inv.tuple (I : Inv X pins σ H s) (h : SqT X.K H a xs) : ∃ its : List Value, Vals xs its ∧ IsTup s.heap a its.toArray ∧ xs.length ≤ sizeLine := by
  rcases h with h | ⟨o, its, n, hk, hc, hs, hz, r⟩
  · obtain ⟨z, its, r, p⟩ := h.ok I.hok
    exact ⟨its, r, p, z⟩
  · refine ⟨its.toList, r, ⟨o, I.kIn a o hk, hc, n, by simpa using hs⟩, ?_⟩
    have e := r.length
    simp only [Array.length_toList] at e
    omega
theorem Inv.list_inj (I : Inv X pins σ H s) (h : SqL X.K H a xs) (h' : SqL X.K H a ys) : xs = ys := by
  obtain ⟨its, r, ⟨o, n, e, _, _, d⟩, _⟩ := I.list h
  obtain ⟨its', r', ⟨o', n', e', _, _, d'⟩, _⟩ := I.list h'
  rw [e] at e'; cases e'
  rw [d] at d'
  injection d' with d1 _
  have : its = its' := by simpa using congrArg Array.toList d1
  subst this
  exact r.inj r'
theorem Inv.tuple_inj (I : Inv X pins σ H s) (h : SqT X.K H a xs) (h' : SqT X.K H a ys) : xs = ys := by
  obtain ⟨its, r, ⟨o, e, _, n, d⟩, _⟩ := I.tuple h
  obtain ⟨its', r', ⟨o', e', _, n', d'⟩, _⟩ := I.tuple h'
  rw [e] at e'; cases e'
  rw [d] at d'
  injection d' with d1 _
  have : its = its' := by simpa using congrArg Array.toList d1
  subst this
  exact r.inj r'
end
noncomputable abbrev Cx.wish (X : Cx) (E : Value → Shared → Prop) : Cx := { X with xe := E }
/-- no exception leaves -/
noncomputable abbrev Cx.nox (X : Cx) : Cx := X.wish fun _ _ => False
theorem Cx.Ok.wish {X : Cx} (ok : X.Ok) (E : Value → Shared → Prop) : (X.wish E).Ok :=
  ⟨ok.mod, ok.kind, ok.glob, ok.blt, ok.above, ok.inj, ok.has, ok.cab, ok.hd, ok.frames, ok.stk, ok.exf, ok.bs, ok.bsz, ok.noex, ok.exfs, ok.funs, ok.frf⟩
theorem Cx.Ok.unwish {X : Cx} {E : Value → Shared → Prop} (ok : (X.wish E).Ok) : X.Ok :=
  ⟨ok.mod, ok.kind, ok.glob, ok.blt, ok.above, ok.inj, ok.has, ok.cab, ok.hd, ok.frames, ok.stk, ok.exf, ok.bs, ok.bsz, ok.noex, ok.exfs, ok.funs, ok.frf⟩
section
variable {X : Cx} {pins : List (Addr × Obj)} {σ : St} {H : Hp} {s : Shared} {E : Value → Shared → Prop}
theorem Inv.wish (I : Inv X pins σ H s) (E : Value → Shared → Prop) : Inv (X.wish E) pins σ H s := ⟨I.ok.wish E, I.os, I.bare, I.base, I.loc, I.cell, I.free, I.freeC, I.pin, I.hok, I.len⟩
theorem Inv.unwish (I : Inv (X.wish E) pins σ H s) : Inv X pins σ H s := ⟨I.ok.unwish, I.os, I.bare, I.base, I.loc, I.cell, I.free, I.freeC, I.pin, I.hok, I.len⟩
theorem SP.unwish {D : Ends} {f : Flow} {s' : Shared} (h : SP (X.wish E) pins D f s') : SP X pins D f s' := by
  cases f with
  | next => obtain ⟨σ', H', I, q⟩ := h; exact ⟨σ', H', I.unwish, q⟩
  | brk => obtain ⟨σ', H', I, q⟩ := h; exact ⟨σ', H', I.unwish, q⟩
  | cont => obtain ⟨σ', H', I, q⟩ := h; exact ⟨σ', H', I.unwish, q⟩
  | ret u => obtain ⟨v, σ', H', I, r, q⟩ := h; exact ⟨v, σ', H', I.unwish, r, q⟩
theorem PE.nox {e : Expr} {t : TE} (h : PE X.nox e t) : PE X e t := fun pins s σ H Q I hw =>
  wpAny_mono (h pins s σ H Q (I.wish _) hw) ((by rintro _ _ ⟨v, H', I', r, q⟩; exact ⟨v, H', I'.unwish, r, q⟩)) fun _ _ z => False.elim z
theorem PT.nox {e : Expr} {t : TT} (h : PT X.nox e t) : PT X e t := fun pins s σ H Q I hw =>
  wpAny_mono (h pins s σ H Q (I.wish _) hw) ((by rintro _ _ ⟨H', I', q⟩; exact ⟨H', I'.unwish, q⟩)) fun _ _ z => False.elim z
theorem PSs.nox {st : List Stmt} {t : TS} (h : PSs X.nox st t) : PSs X st t := fun pins s σ H D I hw =>
  wpAny_mono (h pins s σ H D (I.wish _) hw) (fun _ _ q => q.unwish) fun _ _ z => False.elim z
end
section
variable {X : Cx} {st : Stmt} {rest : List Stmt} {t u : TS} {e : Expr} {te : TE} {pos : Pos}
noncomputable def tNext : TS := fun D σ H => D.nx σ H
noncomputable def tSeq (t u : TS) : TS := fun D σ H => t { D with nx := u D } σ H
theorem pss_nil : PSs X [] tNext := fun _ _ σ H _ I h => wpAny_execs_nil ⟨σ, H, I, h⟩
theorem pss_cons (h1 : PS X st t) (h2 : PSs X rest u) : PSs X (st :: rest) (tSeq t u) := by
  intro pins s σ H D I h
  refine wpAny_execs_cons (thn (h1 pins s σ H { D with nx := u D } I h) fun f s1 q => ?_)
  cases f with
  | next =>
    obtain ⟨σ', H', I', q⟩ := q
    exact h2 pins s1 σ' H' D I' q
  | ret v => exact q
  | brk => exact q
  | cont => exact q
theorem pss_one (h1 : PS X st t) : PSs X [st] t := by
  intro pins s σ H D I h
  refine wpAny_execs_cons (thn (h1 pins s σ H D I h) fun f s1 q => ?_)
  cases f with
  | next => exact wpAny_execs_nil q
  | ret v => exact q
  | brk => exact q
  | cont => exact q
/-- in a def's body nothing is shown -/
theorem Inv.quiet {pins : List (Addr × Obj)} {σ : St} {H : Hp} {s : Shared} (I : Inv X pins σ H s) : interactive X.env = false := by simp [interactive, I.ok.kind]
/-- an expression whose value is dropped -/
noncomputable def tDrop (te : TE) : TS := fun D σ H => te σ H fun _ H1 => D.nx σ H1
theorem ps_expr (he : PE X e te) (hs : swapsWith e none pos.line X.env = pure false := by rfl) : PS X (.Expr e pos) (tDrop te) := by
  intro pins s σ H D I h
  exact wpAny_Expr_any (thn (he pins s σ H _ I h) (by rintro v s1 ⟨x, H1, I1, r1, q1⟩; exact ⟨σ, H1, I1, q1⟩)) I.quiet hs
noncomputable def tRet (te : TE) : TS := fun D σ H => te σ H D.rt
theorem ps_ret (he : PE X e te) : PS X (.Return (some e) pos) (tRet te) := by
  intro pins s σ H D I h
  exact wpAny_Return_some (thn (he pins s σ H _ I h) (by rintro v s1 ⟨x, H1, I1, r1, q1⟩; exact ⟨x, σ, H1, I1, r1, q1⟩))
noncomputable def tIfS (c : TT) (t u : TS) : TS := fun D σ H => c σ H fun b H1 => if b = true then t D σ H1 else u D σ H1
theorem ps_if {c : Expr} {a b : List Stmt} {tc : TT} (hc : PT X c tc) (ha : PSs X a t) (hb : PSs X b u) : PS X (.If c a b pos) (tIfS tc t u) := by
  intro pins s σ H D I h
  refine wpAny_If (thn (hc pins s σ H _ I h) fun d s1 zz13 => ?_)
  obtain ⟨H1, I1, q1⟩ := zz13
  cases d with
  | true => exact ha pins s1 σ H1 D I1 q1
  | false => exact hb pins s1 σ H1 D I1 q1
end
noncomputable abbrev TG := V → St → Hp → (St → Hp → Prop) → Prop
noncomputable abbrev TGs := List V → St → Hp → (St → Hp → Prop) → Prop
noncomputable def PG (X : Cx) (target : Expr) (t : TG) : Prop :=
  ∀ (pins : List (Addr × Obj)) (s : Shared) (σ : St) (H : Hp) (v : V) (u : Value) (Q : St → Hp → Prop), Inv X pins σ H s → RelV v u → t v σ H Q →
    wpAny (model X.prog X.w) X.A (assign target X.env u) (fun _ s' => ∃ σ' H', Inv X pins σ' H' s' ∧ Q σ' H') X.xe s
/-- several targets, one after another -/
noncomputable def PGs (X : Cx) (ts : List Expr) (t : TGs) : Prop :=
  ∀ (pins : List (Addr × Obj)) (s : Shared) (σ : St) (H : Hp) (vs : List V) (us : List Value) (Q : St → Hp → Prop), Inv X pins σ H s → Vals vs us → t vs σ H Q →
    wpAny (model X.prog X.w) X.A (assignInOrder ((assignEach ts X.env).map (·.2)) us) (fun _ s' => ∃ σ' H', Inv X pins σ' H' s' ∧ Q σ' H') X.xe s
/-- o[i] = v, by values -/
noncomputable abbrev TSet := V → V → V → Hp → (Hp → Prop) → Prop
noncomputable def PSet (X : Cx) (t : TSet) : Prop :=
  ∀ (pins : List (Addr × Obj)) (s : Shared) (σ : St) (H : Hp) (o i v : V) (ov iv u : Value) (Q : Hp → Prop), Inv X pins σ H s → RelV o ov → RelV i iv → RelV v u → t o i v H Q →
    wpAny (model X.prog X.w) X.A (setItem ov iv u) (fun _ s' => ∃ H', Inv X pins σ H' s' ∧ Q H') X.xe s
/-- a op= b, by values -/
noncomputable abbrev TIp := V → V → Hp → VK → Prop
noncomputable def PIp (X : Cx) (op : Operator) (t : TIp) : Prop :=
  ∀ (pins : List (Addr × Obj)) (s : Shared) (σ : St) (H : Hp) (x y : V) (v u : Value) (Q : VK), Inv X pins σ H s → RelV x v → RelV y u → t x y H Q →
    wpAny (model X.prog X.w) X.A (inplaceOp op v u) (EP X pins σ Q) X.xe s
section
variable {X : Cx} {pos : Pos}
noncomputable def gName (i : Nat) : TG := fun v σ H Q => Q (σ.set i (some v)) H
theorem pg_name {i : Nat} {x : Str} (hN : X.N.Nodup) (hi : X.N[i]? = some x) (hx : Loc X.env.scope x) (hf : X.fn x = true ∨ X.env.scope.names.lookup x = some .local := by first | exact .inl rfl | exact .inr rfl | assumption) : PG X (.Name x pos) (gName i) := by
  intro pins s σ H v u Q I r h
  exact wpAny_assign_Name (store_ok I hN hi hx r (fun s' I' => ⟨_, H, I', h⟩) hf)
noncomputable def gNil : TGs := fun vs σ H Q => vs = [] ∧ Q σ H
noncomputable def gCons (t : TG) (u : TGs) : TGs := fun vs σ H Q => ∃ v r, vs = v :: r ∧ t v σ H fun σ' H' => u r σ' H' Q
theorem pgs_nil : PGs X [] gNil := by
  intro pins s σ H vs us Q I r h
  obtain ⟨e, h⟩ := h
  subst e
  cases r
  exact assignInOrder_nil ⟨σ, H, I, h⟩
theorem pgs_cons {e : Expr} {es : List Expr} {t : TG} {u : TGs} (h1 : PG X e t) (h2 : PGs X es u)
    (hs : (assignEach (e :: es) X.env).map (·.2) = assign e X.env :: (assignEach es X.env).map (·.2) := by rfl) : PGs X (e :: es) (gCons t u) := by
  intro pins s σ H vs us Q I r h
  obtain ⟨v, vr, e1, h⟩ := h
  subst e1
  cases r with
  | cons r rr =>
    rw [hs]
    refine assignInOrder_cons (thn (h1 pins s σ H _ _ _ I r h) fun _ s1 zz14 => ?_)
    obtain ⟨σ1, H1, I1, q1⟩ := zz14
    exact h2 pins s1 σ1 H1 _ _ Q I1 rr q1
/-- (a, b, ..) = a tuple of that length -/
noncomputable def gTup (K : PySem.W.Frag) (n : Nat) (t : TGs) : TG := fun v σ H Q => ∃ a xs, v = .ref a ∧ SqT K H a xs ∧ xs.length = n ∧ t xs σ H Q
theorem pg_tup {es : List Expr} {k : Nat} {t : TGs} {n : Nat} (hc : X.calm = true) (h : PGs X es t)
    (hn : (assignEach es X.env).length = n := by rfl) (hst : (assignEach es X.env).findIdx? (·.1) = none := by rfl) : PG X (.Tuple es k pos) (gTup X.K n t) := by
  intro pins s σ H v u Q I r hw
  obtain ⟨a, xs, e1, hq, hl, hw⟩ := hw
  subst e1
  cases r
  obtain ⟨its, rv, ht, hz⟩ := I.tuple hq
  refine assign_Tuple_tuple (I.ok.hd hc) ht (by simp [hn, ← hl, rv.length]) hst fun h' hx => ?_
  have I1 : Inv X pins σ H { s with heap := h' } := I.kept (t' := s.toks) fun b o e => hx b o (Nat.ne_of_lt (Heap.lt_size e)) e
  exact h pins _ σ H xs _ Q I1 (by simpa using rv) hw
/-- o[i] = .. -/
noncomputable def gSub (to ti : TE) (t : TSet) : TG := fun v σ H Q => to σ H fun o H1 => ti σ H1 fun i H2 => t o i v H2 fun H3 => Q σ H3
theorem pg_sub {o i : Expr} {to ti : TE} {t : TSet} (ho : PE X o to) (hi : PE X i ti) (hs : PSet X t)
    (ha : ∀ v, assign (.Subscript o i pos) X.env v = (do
      let ov ← holding [v] (eval o X.env)
      let iv ← holding [v, ov] (eval i X.env)
      standAt pos
      holding [v, ov, iv] (setItem ov iv v)
      release [v, ov, iv] []) := by intro _; rfl) : PG X (.Subscript o i pos) (gSub to ti t) := by
  intro pins s σ H v u Q I r h
  rw [ha]
  refine wpAny_bind (wpAny_holding (thn (ho pins s σ H _ I h) fun ov s1 zz15 => ?_))
  obtain ⟨x, H1, I1, r1, q1⟩ := zz15
  refine wpAny_bind (wpAny_holding (thn (hi pins s1 σ H1 _ I1 q1) fun iv s2 zz16 => ?_))
  obtain ⟨y, H2, I2, r2, q2⟩ := zz16
  refine wpAny_bind (wpAny_standAt (wpAny_bind (wpAny_holding (thn (hs pins s2 σ H2 x y v ov iv u _ I2 r1 r2 r q2) fun _ s3 zz17 => ?_))))
  obtain ⟨H3, I3, q3⟩ := zz17
  exact wpAny_release ⟨σ, H3, I3, q3⟩
/-- target = value -/
noncomputable def tAsg (te : TE) (g : TG) : TS := fun D σ H => te σ H fun x H1 => g x σ H1 D.nx
theorem ps_asg {tg e : Expr} {te : TE} {g : TG} (he : PE X e te) (hg : PG X tg g) (hs : swapsWithSole [tg] e pos.line X.env = pure false := by rfl) (hw : swappedStores [tg] e X.env = pure none := by rfl)
    (h1 : (assignEach [tg] X.env).map (·.2) = [assign tg X.env] := by rfl) : PS X (.Assign [tg] e pos) (tAsg te g) := by
  intro pins s σ H D I h
  refine wpAny_Assign_stores (thn (he pins s σ H _ I h) fun v s1 zz18 => ?_) hs hw
  obtain ⟨x, H1, I1, r1, q1⟩ := zz18
  rw [h1]
  exact thn (hg pins s1 σ H1 x v _ I1 r1 q1) fun _ s2 q => q
/-- name = value -/
theorem ps_set {i : Nat} {x : Str} {e : Expr} {te : TE} {pos' : Pos} (hN : X.N.Nodup) (hi : X.N[i]? = some x) (hx : Loc X.env.scope x) (he : PE X e te) (hs : swapsWith e (some (.Name x pos')) pos.line X.env = pure false := by rfl) (hf : X.fn x = true ∨ X.env.scope.names.lookup x = some .local := by first | exact .inl rfl | exact .inr rfl | assumption) :
    PS X (.Assign [.Name x pos'] e pos) (tAsg te (gName i)) := by
  intro pins s σ H D I h
  refine wpAny_Assign_Name (thn (he pins s σ H _ I h) fun v s1 zz19 => ?_) hs
  obtain ⟨y, H1, I1, r1, q1⟩ := zz19
  exact store_ok I1 hN hi hx r1 (fun s2 I2 => ⟨_, H1, I2, q1⟩) hf
/-- name op= e -/
noncomputable def tAug (i : Nat) (te : TE) (ti : TIp) : TS := fun D σ H => ∃ x, σ[i]? = some (some x) ∧ te σ H fun y H1 => ti x y H1 fun z H2 => D.nx (σ.set i (some z)) H2
theorem ps_aug {i : Nat} {x : Str} {e : Expr} {te : TE} {op : Operator} {ti : TIp} {pos' : Pos} (hN : X.N.Nodup) (hi : X.N[i]? = some x) (hx : Loc X.env.scope x) (he : PE X e te) (ho : PIp X op ti) (hf : X.fn x = true ∨ X.env.scope.names.lookup x = some .local := by first | exact .inl rfl | exact .inr rfl | assumption) :
    PS X (.AugAssign (.Name x pos') op e pos) (tAug i te ti) := by
  intro pins s σ H D I h
  obtain ⟨v, e1, h⟩ := h
  obtain ⟨m, hn, hl⟩ := I.loc
  have vis : Vis X.env.scope x := by rcases hx with k | k; exact .inl k; exact .inr (.inl k)
  obtain ⟨u, r, l⟩ := hl i x v hi e1 vis
  refine wpAny_AugAssign_Name ?_
  have go : wpAny (model X.prog X.w) X.A (eval e X.env) (fun w s₂ => wpAny (model X.prog X.w) X.A (inplaceOp op u w) (fun r s₃ => wpAny (model X.prog X.w) X.A (storeName X.env x r) (fun _ => SP X pins D .next) X.xe s₃) X.xe s₂) X.xe s := by
    refine thn (he pins s σ H _ I h) fun w s1 zz21 => ?_
    obtain ⟨y, H1, I1, r1, q1⟩ := zz21
    refine thn (ho pins s1 σ H1 v y u w _ I1 r r1 q1) fun z s2 zz22 => ?_
    obtain ⟨zv, H2, I2, r2, q2⟩ := zz22
    exact store_ok I2 hN hi hx r2 (fun s3 I3 => ⟨_, H2, I3, q2⟩) hf
  rcases l with ⟨hk, hm⟩ | ⟨hk, c, hc, hcell⟩
  · exact wpAny_loadName_local I.ok.kind hk hn hm go
  · rcases hk with hk | hk
    · exact wpAny_loadName_cell I.ok.kind hk hc hcell go
    · rcases hx with k | k
      · have : X.env.scope.names.lookup x = some .free := hk
        rw [k] at this; cases this
      · have : X.env.scope.names.lookup x = some .free := hk
        rw [k] at this; cases this
end
section
variable {X : Cx} {pos : Pos}
/-- the invariant W with its measure -/
noncomputable def tWhile (c : TT) (tb : TS) : TS := fun D σ H => ∃ W : Nat → St → Hp → Prop, (∃ m, W m σ H) ∧ ∀ m σ H, W m σ H →
  c σ H fun b H1 => if b = true then ∃ N : St → Hp → Prop, (∀ σ' H', N σ' H' → ∃ m', m' < m ∧ W m' σ' H') ∧ tb { D with nx := N, ct := N, bk := D.nx } σ H1 else D.nx σ H1
theorem ps_while {c : Expr} {body : List Stmt} {tc : TT} {tb : TS} (hp : PassesOwn (model X.prog X.w) X.A X.env X.xe) (hc : PT X c tc) (hb : PSs X body tb) : PS X (.While c body [] pos) (tWhile tc tb) := by
  intro pins s σ H D I h
  obtain ⟨W, ⟨m0, w0⟩, turn⟩ := h
  refine wpAny_While (codeAny_whileLoop (fun n s' => ∃ σ' H', Inv X pins σ' H' s' ∧ W n σ' H') ?_ m0 ⟨σ, H, I, w0⟩)
  rintro n s1 ⟨σ1, H1, I1, w1⟩
  refine wpAny_passesOwn hp (thn (hc pins s1 σ1 H1 _ I1 (turn n σ1 H1 w1)) fun b s2 zz28 => ?_)
  obtain ⟨H2, I2, q2⟩ := zz28
  cases b with
  | true =>
    obtain ⟨N, hN, q2⟩ := q2
    rw [if_pos rfl]
    refine wpAny_passesOwn hp (thn (hb pins s2 σ1 H2 _ I2 q2) fun f s3 q3 => ?_)
    cases f with
    | next =>
      obtain ⟨σ3, H3, I3, n3⟩ := q3
      obtain ⟨m', hm, w3⟩ := hN σ3 H3 n3
      exact ⟨m', hm, σ3, H3, I3, w3⟩
    | cont =>
      obtain ⟨σ3, H3, I3, n3⟩ := q3
      obtain ⟨m', hm, w3⟩ := hN σ3 H3 n3
      exact ⟨m', hm, σ3, H3, I3, w3⟩
    | brk => exact q3
    | ret v => exact q3
  | false =>
    rw [if_neg Bool.false_ne_true]
    exact wpAny_execs_nil ⟨σ1, H2, I2, q2⟩
end
/-- at turn i: it yields x (the heap may grow), or it stops -/
structure It where
  go : Nat → Hp → Prop
  yld : Nat → Hp → V → Hp → Prop
  stop : Nat → Hp → Prop
/-- the iterator's own objects may turn: they are not the frame's, not pinned, younger than the entry (or a comprehension's own) -/
noncomputable def FpOk (X : Cx) (pins : List (Addr × Obj)) (H : Hp) (b : Addr) : Prop :=
  H b = none ∧ b ≠ X.env.locals ∧ b ∉ X.fs ∧ (b ∈ X.ex ∨ X.s₀.heap.objs.size ≤ b) ∧ (∀ x c, X.env.cells.lookup x = some c → c ≠ b) ∧ ∀ p ∈ X.pn ++ pins, p.1 ≠ b
theorem Inv.fpOk {X : Cx} {pins : List (Addr × Obj)} {σ : St} {H H' : Hp} {s : Shared} {b : Addr} (I : Inv X pins σ H s) (hb : s.heap.objs.size ≤ b) (hn : H' b = none) : FpOk X pins H' b := by
  refine ⟨hn, Nat.ne_of_gt (Nat.lt_of_lt_of_le I.lt hb), I.nofs hb, .inr (Nat.le_trans I.sz hb), fun x c e z => ?_, fun p hp z => ?_⟩
  · obtain ⟨v, q⟩ := I.cell x c e
    exact absurd (Nat.lt_of_lt_of_le q.lt (by rw [z]; exact hb)) (Nat.lt_irrefl _)
  · exact absurd (Nat.lt_of_lt_of_le (Heap.lt_size (I.pin p hp).1) (by rw [z]; exact hb)) (Nat.lt_irrefl _)
structure Turn (P : Program) (w : World) (K : PySem.W.Frag) (tg : Expr) (J : It) (fp : List Addr) (it : Addr) (tn : Nat → Heap → Prop) : Prop where
  mem : it ∈ fp
  obj : ∀ i h, tn i h → ∀ b ∈ fp, ∃ o, h.get? b = some o ∧ ∀ v, o.data ≠ .cell v
  keep : ∀ i h h', tn i h → (∀ b ∈ fp, ∀ o, h.get? b = some o → h'.get? b = some o) → tn i h'
  item : ∀ (X : Cx), X.prog = P → X.w = w → X.K = K → X.calm = true → ∀ (i : Nat) (pins : List (Addr × Obj)) (s : Shared) (σ : St) (H : Hp) (E : Value → Shared → Prop), Inv X pins σ H s → (∀ b ∈ fp, FpOk X pins H b) → tn i s.heap → J.go i H →
    wpAny (model P w) X.A (pyNext (.ref it)) (fun r s1 => ∃ u, r = some u ∧
      wpAny (model P w) X.A (letOwnedTupleGo tg (.ref it) u) (fun _ s2 => ∃ x H', Inv X pins σ H' s2 ∧ RelV x u ∧ J.yld i H x H' ∧ tn (i + 1) s2.heap ∧ ∀ b ∈ fp, H' b = none) E s1) E s
  done : ∀ (X : Cx), X.prog = P → X.w = w → X.K = K → X.calm = true → ∀ (i : Nat) (pins : List (Addr × Obj)) (s : Shared) (σ : St) (H : Hp) (E : Value → Shared → Prop), Inv X pins σ H s → (∀ b ∈ fp, FpOk X pins H b) → tn i s.heap → J.stop i H →
    wpAny (model P w) X.A (pyNext (.ref it)) (fun r s1 => r = none ∧ Inv X pins σ H s1) E s
  self : ∀ (A : Around) (i : Nat) (s : Shared) (Q : Value → Shared → Prop) (E : Value → Shared → Prop), tn i s.heap → Q (.ref it) s → wpAny (model P w) A (pyIter (.ref it)) Q E s
noncomputable abbrev TI := St → Hp → (It → Hp → Prop) → Prop
/-- an iterator has come -/
noncomputable def PIE (X : Cx) (pins : List (Addr × Obj)) (σ : St) (tg : Expr) (R : It → Hp → Prop) (itv : Value) (s2 : Shared) : Prop :=
  ∃ (it : Addr) (fp : List Addr) (tn : Nat → Heap → Prop) (J : It) (H' : Hp), itv = .ref it ∧ Inv X pins σ H' s2 ∧ Turn X.prog X.w X.K tg J fp it tn ∧ tn 0 s2.heap ∧ (∀ b ∈ fp, FpOk X pins H' b) ∧ R J H'
noncomputable def PI (X : Cx) (tg iter : Expr) (wi : TI) : Prop :=
  ∀ (pins : List (Addr × Obj)) (s : Shared) (σ : St) (H : Hp) (R : It → Hp → Prop), Inv X pins σ H s → wi σ H R →
    wpAny (model X.prog X.w) X.A (eval iter X.env) (fun v s1 => wpAny (model X.prog X.w) X.A (pyIter v) (PIE X pins σ tg R) X.xe s1) X.xe s
/-- the step ahead of the store is nothing for an iterator that keeps no tuple -/
theorem go_of {M : Model} {A : Around} {E : Value → Shared → Prop} {s : Shared} {tg : Expr} {it : Addr} {u : Value} {o : Obj} {n : String} {vs : Array Value} {Q : Unit → Shared → Prop} (ho : s.heap.get? it = some o) (hc : o.cls = .type n) (hd : o.data = .fields vs)
    (hn : ["enumerate", "zip", "dict_itemiterator", "dict_reverseitemiterator", "odict_iterator", "itertools.zip_longest", "itertools.pairwise"].contains n = false) (hQ : Q () s) : wpAny M A (letOwnedTupleGo tg (.ref it) u) Q E s := by
  unfold letOwnedTupleGo
  cases tg <;> first
    | exact wpAny_pure hQ
    | (cases u <;> first
        | exact wpAny_pure hQ
        | (refine wpAny_bind (wpAny_load ho ?_)
           rw [hc, hd]
           show wpAny M A (if (["enumerate", "zip", "dict_itemiterator", "dict_reverseitemiterator", "odict_iterator", "itertools.zip_longest", "itertools.pairwise"].contains n && vs[0]? == some (rawInt _)) = true then _ else _) Q E s
           rw [if_neg (by intro h; rw [hn, Bool.false_and] at h; cases h)]
           exact wpAny_pure hQ))
/-- the list at a, as it stands at each turn (a loop may append to it) -/
noncomputable def Itl (K : PySem.W.Frag) (a : Addr) : It :=
  ⟨fun i H => ∃ xs x, SqL K H a xs ∧ xs[i]? = some x, fun i H x H' => H' = H ∧ ∀ xs, SqL K H a xs → xs[i]? = some x, fun i H => ∃ xs, SqL K H a xs ∧ xs.length ≤ i⟩
noncomputable def Itt (K : PySem.W.Frag) (a : Addr) : It :=
  ⟨fun i H => ∃ xs x, SqT K H a xs ∧ xs[i]? = some x, fun i H x H' => H' = H ∧ ∀ xs, SqT K H a xs → xs[i]? = some x, fun i H => ∃ xs, SqT K H a xs ∧ xs.length ≤ i⟩
/-- lo, lo + 1, .. (n of them) -/
noncomputable def Itr (lo : Int) (n : Nat) : It := ⟨fun i _ => i < n, fun i H x H' => H' = H ∧ x = .int (lo + i), fun i _ => n ≤ i⟩
theorem turn_list {P : Program} {w : World} {K : PySem.W.Frag} {tg : Expr} (a it : Addr) : Turn P w K tg (Itl K a) [it] it (fun i h => h.IsListIter it a i) where
  mem := by simp
  obj := fun i h st b hb => by
    have e : b = it := by simpa using hb
    subst e
    obtain ⟨o, e, c, d⟩ := st
    exact ⟨o, e, fun v z => by rw [d] at z; cases z⟩
  keep := fun i h h' st k => st.at fun o e => k it (by simp) o e
  item := by
    intro X hP hw hK hc i pins s σ H E I hf st hg
    subst hP hw hK
    obtain ⟨xs, x, hq, hx⟩ := hg
    obtain ⟨its, rv, p, hz⟩ := I.list hq
    obtain ⟨u, hu, ru⟩ := rv.get hx
    obtain ⟨f0, f1, f2, f3, f4, f5⟩ := hf it (by simp)
    refine wpAny_pyNext_list_item st p.isList (x := u) (by simpa using hu) fun h' st' sb => ?_
    have I1 : Inv X pins σ H { s with heap := h' } := I.turned (t' := s.toks) (fun b o hb e => (sb.2 b hb).trans e) f0 f1 f3 f4 f5
    obtain ⟨o, e, c, d⟩ := id st'
    exact ⟨u, rfl, go_of (s := { s with heap := h' }) e c d (by decide) ⟨x, H, I1, ru, ⟨rfl, fun ys hy => by rw [I.list_inj hy hq]; exact hx⟩, st', fun b hb => (hf b hb).1⟩⟩
  done := by
    intro X hP hw hK hc i pins s σ H E I hf st hg
    subst hP hw hK
    obtain ⟨xs, hq, hx⟩ := hg
    obtain ⟨its, rv, p, hz⟩ := I.list hq
    obtain ⟨f0, f1, f2, f3, f4, f5⟩ := hf it (by simp)
    have hl := rv.length
    exact wpAny_pyNext_list_end (I.ok.hd hc) st p.isList (by simp; omega) fun h' eb => ⟨rfl, I.turned (t' := s.toks) (fun b o hb e => eb b o hb e) f0 f1 f3 f4 f5⟩
  self := fun _ _ _ _ _ st h => wpAny_pyIter_listiter st h
theorem turn_tuple {P : Program} {w : World} {K : PySem.W.Frag} {tg : Expr} (a it : Addr) : Turn P w K tg (Itt K a) [it] it (fun i h => h.IsTupleIter it a i) where
  mem := by simp
  obj := fun i h st b hb => by
    have e : b = it := by simpa using hb
    subst e
    obtain ⟨o, e, c, d⟩ := st
    exact ⟨o, e, fun v z => by rw [d] at z; cases z⟩
  keep := fun i h h' st k => st.at fun o e => k it (by simp) o e
  item := by
    intro X hP hw hK hc i pins s σ H E I hf st hg
    subst hP hw hK
    obtain ⟨xs, x, hq, hx⟩ := hg
    obtain ⟨its, rv, p, hz⟩ := I.tuple hq
    obtain ⟨u, hu, ru⟩ := rv.get hx
    obtain ⟨f0, f1, f2, f3, f4, f5⟩ := hf it (by simp)
    refine wpAny_pyNext_tuple_item st (show s.heap.IsTuple a its.toArray from p) (x := u) (by simpa using hu) fun h' st' sb => ?_
    have I1 : Inv X pins σ H { s with heap := h' } := I.turned (t' := s.toks) (fun b o hb e => (sb.2 b hb).trans e) f0 f1 f3 f4 f5
    obtain ⟨o, e, c, d⟩ := id st'
    exact ⟨u, rfl, go_of (s := { s with heap := h' }) e c d (by decide) ⟨x, H, I1, ru, ⟨rfl, fun ys hy => by rw [I.tuple_inj hy hq]; exact hx⟩, st', fun b hb => (hf b hb).1⟩⟩
  done := by
    intro X hP hw hK hc i pins s σ H E I hf st hg
    subst hP hw hK
    obtain ⟨xs, hq, hx⟩ := hg
    obtain ⟨its, rv, p, hz⟩ := I.tuple hq
    obtain ⟨f0, f1, f2, f3, f4, f5⟩ := hf it (by simp)
    have hl := rv.length
    exact wpAny_pyNext_tuple_end (I.ok.hd hc) st (show s.heap.IsTuple a its.toArray from p) (by simp; omega) fun h' eb => ⟨rfl, I.turned (t' := s.toks) (fun b o hb e => eb b o hb e) f0 f1 f3 f4 f5⟩
  self := fun _ _ _ _ _ st h => wpAny_pyIter_tupleiter st h
theorem turn_range {P : Program} {w : World} {K : PySem.W.Frag} {tg : Expr} (it : Addr) (lo : Int) (n : Nat) : Turn P w K tg (Itr lo n) [it] it (fun i h => IsRangeIter h it (lo + (i : Nat) * 1) ((n : Int) - (i : Nat)) 1) where
  mem := by simp
  obj := fun i h st b hb => by
    have e : b = it := by simpa using hb
    subst e
    exact ⟨_, st, fun v z => by
      have z' : Data.fields _ = Data.cell v := z
      cases z'⟩
  keep := fun i h h' st k => k it (by simp) _ st
  item := by
    intro X hP hw hK hc i pins s σ H E I hf st hg
    subst hP hw hK
    obtain ⟨f0, f1, f2, f3, f4, f5⟩ := hf it (by simp)
    have W := Walks.range (prog := X.prog) (w := X.w) (I.ok.hd hc) it lo 1 n
    refine W.item i s _ _ hg st fun v h' tk hv st' kk => ?_
    obtain ⟨t, rfl⟩ := hv
    have I1 : Inv X pins σ H { s with heap := h', toks := tk } := I.turned (fun b o hb e => kk b o (by simpa using hb) e) f0 f1 f3 f4 f5
    refine ⟨_, rfl, go_of (s := { s with heap := h', toks := tk }) (n := "range_iterator") st' rfl rfl (by decide) ⟨.int (lo + i), H, I1, ⟨t, ?_⟩, ⟨rfl, rfl⟩, st', fun b hb => (hf b hb).1⟩⟩
    rw [Int.mul_one]
  done := by
    intro X hP hw hK hc i pins s σ H E I hf st hg
    subst hP hw hK
    obtain ⟨f0, f1, f2, f3, f4, f5⟩ := hf it (by simp)
    exact wpAny_pyNext_range_end (I.ok.hd hc) st (by have : n ≤ i := hg; omega) fun h' eb => ⟨rfl, I.turned (t' := s.toks) (fun b o hb e => eb b o hb e) f0 f1 f3 f4 f5⟩
  self := fun _ _ _ _ _ st h => wpAny_pyIter_rangeiter st h
end L2
namespace L2
open PySem PySem.Spec PyProof.Rows
section
variable {X : Cx} {tg : Expr}
/-- a range object just made, walked -/
theorem range_it {pins : List (Addr × Obj)} {σ : St} {H : Hp} {s : Shared} {R : It → Hp → Prop} {E : Value → Shared → Prop} {lo hi : Int} {t u v : Tok} {tk : Nat} (I : Inv X pins σ H s) (h1 : -(2 ^ 62) ≤ lo) (h2 : lo < 2 ^ 62) (h3 : -(2 ^ 62) ≤ hi) (h4 : hi < 2 ^ 62)
    (q : R (Itr lo (hi - lo).toNat) H) : wpAny (model X.prog X.w) X.A (pyIter (.ref s.heap.objs.size)) (PIE X pins σ tg R) E { s with heap := s.heap.push { cls := .type "range", data := .fields #[.int lo t, .int hi u, .int 1 v] }, toks := tk } := by
  refine wpAny_pyIter_range (IsRange.new ..) (small_one h1 h2 h3 h4) ?_
  have I1 : Inv X pins σ H { s with heap := s.heap.push { cls := .type "range", data := .fields #[.int lo t, .int hi u, .int 1 v] }, toks := tk } := I.kept fun b o e => Heap.get?_push_of_some _ e
  refine ⟨(s.heap.push { cls := .type "range", data := .fields #[.int lo t, .int hi u, .int 1 v] }).objs.size, [(s.heap.push { cls := .type "range", data := .fields #[.int lo t, .int hi u, .int 1 v] }).objs.size], _, _, H, rfl,
    I1.kept (t' := tk) fun b o e => Heap.get?_push_of_some _ e, turn_range _ lo (hi - lo).toNat, ?_, fun b hb => ?_, q⟩
  · have e1 : lo + ((0 : Nat) : Int) * 1 = lo := by simp
    have e2 : (((hi - lo).toNat : Nat) : Int) - ((0 : Nat) : Int) = Builtin.Range.rangeSize lo hi 1 := by rw [rangeSize_one]; split <;> omega
    show IsRangeIter _ _ (lo + ((0 : Nat) : Int) * 1) ((((hi - lo).toNat : Nat) : Int) - ((0 : Nat) : Int)) 1
    rw [e1, e2]
    exact Heap.get?_push_size _ rfl
  · have e : b = (s.heap.push { cls := .type "range", data := .fields #[.int lo t, .int hi u, .int 1 v] }).objs.size := by simpa using hb
    subst e
    exact I1.fpOk (Nat.le_refl _) (I1.hok.fresh (Nat.le_refl _))
noncomputable def iRng1 (ta : TA) : TI := fun σ H R => ta σ H fun vs H1 => ∃ j : Int, vs = [.int j] ∧ -(2 ^ 62) ≤ j ∧ j < 2 ^ 62 ∧ R (Itr 0 j.toNat) H1
theorem pi_range1 {a : Expr} {ta : TA} {p pos : Pos} (hg : Gl X "range") (hm : X.mg "range" = none) (ha : PA X [a] ta) (hs : starEach [a] X.env = [(false, eval a X.env)] := by rfl) : PI X tg (.Call (.Name "range" p) [a] [] pos) (iRng1 ta) := by
  intro pins s σ H R I h
  refine Call_ (ld_blt I hg hm boot_range (PyProof.Rows.callWith_type1 (thn (ha pos pins s σ H _ I h) fun us s1 zz31 => ?_) hs rfl))
  obtain ⟨vs, H1, I1, r1, q1⟩ := zz31
  obtain ⟨j, e, q1, q2, q⟩ := q1
  subst e
  cases r1 with
  | cons r rr =>
    cases rr
    obtain ⟨t, rfl⟩ := r
    exact call_range_1 (range_it I1 (by omega) (by omega) q1 q2 (by simpa using q))
/-- W: the invariant by the turn and a measure; N: what the body is to reach -/
noncomputable def tFor (wi : TI) (g : TG) (tb : TS) : TS := fun D σ H => wi σ H fun J H1 => ∃ W : Nat → Nat → St → Hp → Prop, (∃ m, W 0 m σ H1) ∧ ∀ i m σ H, W i m σ H →
  (J.stop i H ∧ D.nx σ H) ∨ (J.go i H ∧ ∃ N : St → Hp → Prop, (∀ σ' H', N σ' H' → ∃ m', m' < m ∧ W (i + 1) m' σ' H') ∧ ∀ x H', J.yld i H x H' → g x σ H' fun σ2 H2 => tb { D with nx := N, ct := N, bk := D.nx } σ2 H2)
/-- the records at fp as they stand -/
noncomputable def pinsAt (fp : List Addr) (h : Heap) : List (Addr × Obj) := fp.filterMap fun b => (h.get? b).map fun o => (b, o)
theorem mem_pinsAt {fp : List Addr} {h : Heap} {b : Addr} {o : Obj} (hb : b ∈ fp) (e : h.get? b = some o) : (b, o) ∈ pinsAt fp h := List.mem_filterMap.mpr ⟨b, hb, by rw [e]; rfl⟩
theorem of_pinsAt {fp : List Addr} {h : Heap} {p : Addr × Obj} (hp : p ∈ pinsAt fp h) : p.1 ∈ fp ∧ h.get? p.1 = some p.2 := by
  obtain ⟨b, hb, e⟩ := List.mem_filterMap.mp hp
  cases q : h.get? b with
  | none => rw [q] at e; cases e
  | some o =>
    rw [q] at e
    have e' : (b, o) = p := Option.some.inj e
    subst e'
    exact ⟨hb, q⟩
theorem Inv.pinned {pins : List (Addr × Obj)} {σ : St} {H : Hp} {s : Shared} {fp : List Addr} (I : Inv X pins σ H s) (hf : ∀ b ∈ fp, FpOk X pins H b) (ho : ∀ b ∈ fp, ∃ o, s.heap.get? b = some o ∧ ∀ v, o.data ≠ .cell v) : Inv X (pins ++ pinsAt fp s.heap) σ H s :=
  I.pins_of fun p hp => (List.mem_append.mp hp).elim (fun z => I.pin p (List.mem_append_right _ z)) fun z => by
    obtain ⟨hb, e⟩ := of_pinsAt z
    obtain ⟨f0, f1, f2, _⟩ := hf p.1 hb
    obtain ⟨o, e', d⟩ := ho p.1 hb
    rw [e] at e'; cases e'
    exact ⟨e, f0, f1, f2, d⟩
theorem Inv.unpinned {pins pl : List (Addr × Obj)} {σ : St} {H : Hp} {s : Shared} (I : Inv X (pins ++ pl) σ H s) : Inv X pins σ H s := I.pins_of fun p hp => I.pin p (List.mem_append_right _ (List.mem_append_left _ hp))
theorem ps_for {iter : Expr} {body : List Stmt} {wi : TI} {g : TG} {tb : TS} {pos : Pos} (hp : PassesOwn (model X.prog X.w) X.A X.env X.xe) (hc : X.calm = true) (hi : PI X tg iter wi) (hg : PG X tg g) (hb : PSs X body tb)
    (hs : ∀ x, foldedSetIterable iter X.env x = pure x := by intro _; rfl) : PS X (.For tg iter body [] pos) (tFor wi g tb) := by
  intro pins s σ H D I h
  refine wpAny_For (thn (hi pins s σ H _ I h) fun v s1 h1 => thn h1 fun itv s2 h2 => ?_) hs
  obtain ⟨it, fp, tn, J, H2, e, I2, T, st2, f2, W, ⟨m0, w0⟩, turn⟩ := h2
  subst e
  -- what stays true of the iterator's objects through the loop
  have stat : ∀ {H' : Hp}, (∀ b ∈ fp, H' b = none) → ∀ b ∈ fp, FpOk X pins H' b := fun hn b hb => ⟨hn b hb, (f2 b hb).2⟩
  refine codeAny_forLoop_any (fun n s' => ∃ i σ' H', Inv X pins σ' H' s' ∧ tn i s'.heap ∧ (∀ b ∈ fp, H' b = none) ∧ W i n σ' H') ?_ m0 ⟨0, σ, H2, I2, st2, fun b hb => (f2 b hb).1, w0⟩
  rintro n s3 ⟨i, σ3, H3, I3, st3, fr3, w3⟩
  rcases turn i n σ3 H3 w3 with ⟨stop, qn⟩ | ⟨go, N, hN, step⟩
  · refine wpAny_passesOwn hp (thn (T.done X rfl rfl rfl hc i pins s3 σ3 H3 X.xe I3 (stat fr3) st3 stop) fun r s4 zz33 => ?_)
    obtain ⟨hr, I4⟩ := zz33
    subst hr
    exact wpAny_execs_nil ⟨σ3, H3, I4, qn⟩
  · refine wpAny_passesOwn hp (thn (T.item X rfl rfl rfl hc i pins s3 σ3 H3 X.xe I3 (stat fr3) st3 go) fun r s4 zz34 => ?_)
    obtain ⟨u, hr, h4⟩ := zz34
    subst hr
    refine wpAny_passesOwn hp (thn h4 fun _ s5 zz35 => ?_)
    obtain ⟨x, H5, I5, r5, y5, st5, fr5⟩ := zz35
    have I5' := I5.pinned (stat fr5) (T.obj _ _ st5)
    refine wpAny_passesOwn hp (thn (hg _ s5 σ3 H5 x u _ I5' r5 (step x H5 y5)) fun _ s6 zz36 => ?_)
    obtain ⟨σ6, H6, I6, q6⟩ := zz36
    refine wpAny_passesOwn hp (thn (hb _ s6 σ6 H6 _ I6 q6) fun f s7 q7 => ?_)
    have again : ∀ {σ7 : St} {H7 : Hp}, Inv X (pins ++ pinsAt fp s5.heap) σ7 H7 s7 → N σ7 H7 → ∃ m, m < n ∧ ∃ i σ' H', Inv X pins σ' H' s7 ∧ tn i s7.heap ∧ (∀ b ∈ fp, H' b = none) ∧ W i m σ' H' := fun {σ7 H7} I7 n7 => by
      obtain ⟨m', hm, w7⟩ := hN σ7 H7 n7
      refine ⟨m', hm, i + 1, σ7, H7, I7.unpinned, T.keep _ _ _ st5 fun b hb o e => (I7.pin (b, o) (List.mem_append_right _ (List.mem_append_right _ (mem_pinsAt hb e)))).1, fun b hb => ?_, w7⟩
      obtain ⟨o, e, d⟩ := T.obj _ _ st5 b hb
      exact (I7.pin (b, o) (List.mem_append_right _ (List.mem_append_right _ (mem_pinsAt hb e)))).2.1
    cases f with
    | next => obtain ⟨σ7, H7, I7, n7⟩ := q7; exact again I7 n7
    | cont => obtain ⟨σ7, H7, I7, n7⟩ := q7; exact again I7 n7
    | brk => obtain ⟨σ7, H7, I7, q7⟩ := q7; exact ⟨σ7, H7, I7.unpinned, q7⟩
    | ret v => obtain ⟨x7, σ7, H7, I7, r7, q7⟩ := q7; exact ⟨x7, σ7, H7, I7.unpinned, r7, q7⟩
end
end L2
namespace L2
open PySem PySem.Spec PyProof.Rows
noncomputable abbrev R2 := V → V → Hp → VK → Prop
/-- a two-place operation on values: f is binaryOp op, inplaceOp op or compareOp op -/
noncomputable def OpR (X : Cx) (f : Value → Value → Sem Value) (r : R2) : Prop :=
  ∀ (pins : List (Addr × Obj)) (s : Shared) (σ : St) (H : Hp) (x y : V) (v u : Value) (Q : VK), Inv X pins σ H s → RelV x v → RelV y u → r x y H Q →
    wpAny (model X.prog X.w) X.A (f v u) (EP X pins σ Q) X.xe s
/-- a call of a value that is known (a builtin, a type) with values -/
noncomputable def CallR (X : Cx) (f : Value) (r : List V → Hp → VK → Prop) : Prop :=
  ∀ (pins : List (Addr × Obj)) (s : Shared) (σ : St) (H : Hp) (xs : List V) (us : List Value) (Q : VK), Inv X pins σ H s → Vals xs us → r xs H Q →
    wpAny (model X.prog X.w) X.A (call f us) (EP X pins σ Q) X.xe s
/-- a value's truth -/
noncomputable def TruR (X : Cx) (r : V → Hp → (Bool → Hp → Prop) → Prop) : Prop :=
  ∀ (pins : List (Addr × Obj)) (s : Shared) (σ : St) (H : Hp) (x : V) (v : Value) (Q : Bool → Hp → Prop), Inv X pins σ H s → RelV x v → r x H Q →
    wpAny (model X.prog X.w) X.A (truthy v) (TP X pins σ Q) X.xe s
noncomputable def tOp (r : R2) (ta tb : TE) : TE := fun σ H Q => ta σ H fun x H1 => tb σ H1 fun y H2 => r x y H2 Q
/-- ints in, under C, and a value out -/
noncomputable def rI (C : Int → Int → Prop) (g : Int → Int → V) : R2 := fun x y H Q => ∃ i j, x = .int i ∧ y = .int j ∧ C i j ∧ Q (g i j) H
noncomputable def rI0 (g : Int → Int → V) : R2 := fun x y H Q => ∃ i j, x = .int i ∧ y = .int j ∧ Q (g i j) H
section
variable {X : Cx} {a b c : Expr} {ta tb tc : TE} {pos : Pos}
theorem binT (ha : PE X a ta) (hb : PE X b tb) {pins : List (Addr × Obj)} {s : Shared} {σ : St} {H : Hp} {R : V → V → Hp → Prop} (I : Inv X pins σ H s)
    (h : ta σ H fun x H1 => tb σ H1 fun y H2 => R x y H2) {Q : Value → Shared → Prop} {f : Value → Value → Sem Value}
    (hf : ∀ v u s2 x y H2, Inv X pins σ H2 s2 → RelV x v → RelV y u → R x y H2 → wpAny (model X.prog X.w) X.A (f v u) Q X.xe s2) :
    wpAny (model X.prog X.w) X.A (eval a X.env) (fun v s₁ => wpAny (model X.prog X.w) X.A (eval b X.env) (fun u s₂ => wpAny (model X.prog X.w) X.A (f v u) Q X.xe s₂) X.xe s₁) X.xe s := by
  refine thn (ha pins s σ H _ I h) fun v s1 zz37 => ?_
  obtain ⟨x, H1, I1, r1, q1⟩ := zz37
  refine thn (hb pins s1 σ H1 _ I1 q1) fun u s2 zz38 => ?_
  obtain ⟨y, H2, I2, r2, q2⟩ := zz38
  exact hf v u s2 x y H2 I2 r1 r2 q2
theorem pe_op {op : Operator} {r : R2} (ho : OpR X (binaryOp op) r) (ha : PE X a ta) (hb : PE X b tb) : PE X (.BinOp a op b pos) (tOp r ta tb) := by
  intro pins s σ H Q I h
  exact wpAny_BinOp (binT ha hb I h fun v u s2 x y H2 I2 rx ry q => ho pins s2 σ H2 x y v u Q I2 rx ry q)
theorem opI {f : Value → Value → Sem Value} {C : Int → Int → Prop} {g : Int → Int → Int}
    (rule : ∀ (i j : Int) (t u : Tok) (s : Shared) (Q : Value → Shared → Prop) (E : Value → Shared → Prop), C i j → Q (.int (g i j) s.toks) { s with toks := s.toks + 1 } → wpAny (model X.prog X.w) X.A (f (.int i t) (.int j u)) Q E s) :
    OpR X f (rI C fun i j => .int (g i j)) := by
  intro pins s σ H x y v u Q I rx ry h
  obtain ⟨i, j, rfl, rfl, hc, q⟩ := h
  obtain ⟨t, rfl⟩ := rx
  obtain ⟨t', rfl⟩ := ry
  exact rule i j t t' s _ _ hc ⟨.int (g i j), H, I.tok _, ⟨_, rfl⟩, q⟩
theorem opI0 {f : Value → Value → Sem Value} {g : Int → Int → Int}
    (rule : ∀ (i j : Int) (t u : Tok) (s : Shared) (Q : Value → Shared → Prop) (E : Value → Shared → Prop), Q (.int (g i j) s.toks) { s with toks := s.toks + 1 } → wpAny (model X.prog X.w) X.A (f (.int i t) (.int j u)) Q E s) :
    OpR X f (rI0 fun i j => .int (g i j)) := by
  intro pins s σ H x y v u Q I rx ry h
  obtain ⟨i, j, rfl, rfl, q⟩ := h
  obtain ⟨t, rfl⟩ := rx
  obtain ⟨t', rfl⟩ := ry
  exact rule i j t t' s _ _ ⟨.int (g i j), H, I.tok _, ⟨_, rfl⟩, q⟩
theorem opB0 {f : Value → Value → Sem Value} {g : Int → Int → Bool}
    (rule : ∀ (i j : Int) (t u : Tok) (s : Shared) (Q : Value → Shared → Prop) (E : Value → Shared → Prop), Q (.bool (g i j)) s → wpAny (model X.prog X.w) X.A (f (.int i t) (.int j u)) Q E s) :
    OpR X f (rI0 fun i j => .bl (g i j)) := by
  intro pins s σ H x y v u Q I rx ry h
  obtain ⟨i, j, rfl, rfl, q⟩ := h
  obtain ⟨t, rfl⟩ := rx
  obtain ⟨t', rfl⟩ := ry
  exact rule i j t t' s _ _ ⟨.bl (g i j), H, I, rfl, q⟩
noncomputable def CDiv (i j : Int) : Prop := 0 < j ∧ j < 1073741824
noncomputable def CPow (i j : Int) : Prop := 0 ≤ j ∧ j ≤ 1000000 ∧ i.natAbs < 2 ^ 64
noncomputable def CMul (i j : Int) : Prop := (-(2 ^ 64) < i ∧ i < 2 ^ 64) ∨ (-(2 ^ 64) < j ∧ j < 2 ^ 64)
theorem CMul.ok {i j : Int} (h : CMul i j) : IntMulOk i j := by
  rcases h with ⟨h1, h2⟩ | ⟨h1, h2⟩
  · exact .of_left (intBits_le_64 h1 h2)
  · exact .of_right (intBits_le_64 h1 h2)
theorem op_add : OpR X (binaryOp .Add) (rI0 fun i j => .int (i + j)) := opI0 fun _ _ _ _ _ _ _ q => add_int q
theorem op_mul : OpR X (binaryOp .Mult) (rI CMul fun i j => .int (i * j)) := opI fun _ _ _ _ _ _ _ hc q => mul_int q hc.ok
/-- // by a positive divisor -/
theorem op_fdiv : OpR X (binaryOp .FloorDiv) (rI CDiv fun i j => .int (i / j)) := opI fun i j _ _ _ _ _ hc q => by
  have h1 : (0 : Int) < j := hc.1
  have h2 : j < 1073741824 := hc.2
  exact floordiv_int (by omega) (by rw [Int.fdiv_eq_ediv_of_nonneg i (by omega)]; exact q) (.inl (PyProof.noPylong_small (by omega)))
/-- % by a positive divisor of any size -/
theorem op_mod : OpR X (binaryOp .Mod) (rI (fun _ j => 0 < j) fun i j => .int (i % j)) := opI fun i j _ _ _ _ _ hc q => by
  have h1 : (0 : Int) < j := hc
  exact mod_int' (by omega) (by rw [Int.fmod_eq_emod_of_nonneg i (by omega)]; exact q)
theorem op_pow : OpR X (binaryOp .Pow) (rI CPow fun i j => .int (i ^ j.toNat)) := opI fun _ _ _ _ _ _ _ hc q => pow_int_small hc.1 hc.2.1 hc.2.2 q
theorem iop_add : OpR X (inplaceOp .Add) (rI0 fun i j => .int (i + j)) := opI0 fun _ _ _ _ _ _ _ q => iadd_int q
end
/-- the scalars that == tells apart as data does -/
noncomputable def scal : V → V → Bool
  | .non, .non => true | .non, .int _ => true | .int _, .non => true | .non, .bl _ => true | .bl _, .non => true | .non, .str _ => true | .str _, .non => true
  | .int _, .int _ => true | .bl _, .bl _ => true | .str _, .str _ => true | .byt _, .byt _ => true
  | .int _, .str _ => true | .str _, .int _ => true | .bl _, .str _ => true | .str _, .bl _ => true
  | _, _ => false
noncomputable def rEq : R2 := fun x y H Q => scal x y = true ∧ Q (.bl (decide (x = y))) H
noncomputable def rNe : R2 := fun x y H Q => scal x y = true ∧ Q (.bl (!decide (x = y))) H
theorem dec_int {i j : Int} : decide (V.int i = V.int j) = (i == j) := by
  rw [Bool.eq_iff_iff]
  simp
theorem dec_bl {i j : Bool} : decide (V.bl i = V.bl j) = (i == j) := by
  rw [Bool.eq_iff_iff]
  simp
theorem dec_str {i j : Str} : decide (V.str i = V.str j) = (i == j) := by
  rw [Bool.eq_iff_iff]
  simp
theorem dec_byt {i j : Array UInt8} : decide (V.byt i = V.byt j) = (i.toList == j.toList) := by
  rw [Bool.eq_iff_iff]
  cases i
  cases j
  simp
section
variable {X : Cx} {a b c : Expr} {ta tb tc : TE} {pos : Pos}
theorem fin_bl {pins : List (Addr × Obj)} {σ : St} {H : Hp} {s : Shared} {Q : VK} {k k' : Bool} (I : Inv X pins σ H s) (q : Q (.bl k) H) (e : k = k') : EP X pins σ Q (.bool k') s := by
  subst e
  exact ⟨.bl k, H, I, rfl, q⟩
theorem op_eq : OpR X (compareOp .Eq) rEq := by
  intro pins s σ H x y v u Q I rx ry h
  obtain ⟨hs, q⟩ := h
  cases x with
  | non =>
    cases rx
    cases y with
    | non => cases ry; exact PySem.EqNone.eq_none_none (fin_bl I q (by simp))
    | bl j => cases ry; exact PySem.EqNone.eq_none_bool (fin_bl I q (by simp))
    | int j => obtain ⟨t', rfl⟩ := ry; exact PySem.EqNone.eq_none_int (fin_bl I q (by simp))
    | str j => obtain ⟨t', rfl⟩ := ry; exact PySem.EqNone.eq_none_str (fin_bl I q (by simp))
    | _ => exact absurd (show false = true from hs) Bool.false_ne_true
  | bl i =>
    cases rx
    cases y with
    | non => cases ry; exact PySem.EqNone.eq_bool_none (fin_bl I q (by simp))
    | bl j => cases ry; exact eq_bool (fin_bl I q dec_bl)
    | str j => obtain ⟨t', rfl⟩ := ry; exact PySem.EqMixed.eq_bool_str (fin_bl I q (by simp))
    | _ => exact absurd (show false = true from hs) Bool.false_ne_true
  | int i =>
    obtain ⟨t, rfl⟩ := rx
    cases y with
    | non => cases ry; exact PySem.EqNone.eq_int_none (fin_bl I q (by simp))
    | int j => obtain ⟨t', rfl⟩ := ry; exact eq_int (fin_bl I q dec_int)
    | str j => obtain ⟨t', rfl⟩ := ry; exact PySem.EqMixed.eq_int_str (fin_bl I q (by simp))
    | _ => exact absurd (show false = true from hs) Bool.false_ne_true
  | str i =>
    obtain ⟨t, rfl⟩ := rx
    cases y with
    | non => cases ry; exact PySem.EqNone.eq_str_none (fin_bl I q (by simp))
    | bl j => cases ry; exact PySem.EqMixed.eq_str_bool (fin_bl I q (by simp))
    | int j => obtain ⟨t', rfl⟩ := ry; exact PySem.EqMixed.eq_str_int (fin_bl I q (by simp))
    | str j => obtain ⟨t', rfl⟩ := ry; exact eq_str (fin_bl I q dec_str)
    | _ => exact absurd (show false = true from hs) Bool.false_ne_true
  | byt i =>
    obtain ⟨t, rfl⟩ := rx
    cases y with
    | byt j => obtain ⟨t', rfl⟩ := ry; exact PySem.W.eq_bytes (fin_bl I q dec_byt)
    | _ => exact absurd (show false = true from hs) Bool.false_ne_true
  | _ => cases y <;> exact absurd (show false = true from hs) Bool.false_ne_true
theorem op_ne : OpR X (compareOp .NotEq) rNe := by
  intro pins s σ H x y v u Q I rx ry h
  obtain ⟨hs, q⟩ := h
  cases x with
  | non =>
    cases rx
    cases y with
    | non => cases ry; exact PySem.EqNone.ne_none_none (fin_bl I q (by simp))
    | bl j => cases ry; exact PySem.EqNone.ne_none_bool (fin_bl I q (by simp))
    | int j => obtain ⟨t', rfl⟩ := ry; exact PySem.EqNone.ne_none_int (fin_bl I q (by simp))
    | str j => obtain ⟨t', rfl⟩ := ry; exact PySem.EqNone.ne_none_str (fin_bl I q (by simp))
    | _ => exact absurd (show false = true from hs) Bool.false_ne_true
  | bl i =>
    cases rx
    cases y with
    | non => cases ry; exact PySem.EqNone.ne_bool_none (fin_bl I q (by simp))
    | bl j => cases ry; exact ne_bool (fin_bl I q (congrArg not dec_bl))
    | str j => obtain ⟨t', rfl⟩ := ry; exact PySem.EqMixed.ne_bool_str (fin_bl I q (by simp))
    | _ => exact absurd (show false = true from hs) Bool.false_ne_true
  | int i =>
    obtain ⟨t, rfl⟩ := rx
    cases y with
    | non => cases ry; exact PySem.EqNone.ne_int_none (fin_bl I q (by simp))
    | int j => obtain ⟨t', rfl⟩ := ry; exact ne_int (fin_bl I q (congrArg not dec_int))
    | str j => obtain ⟨t', rfl⟩ := ry; exact PySem.EqMixed.ne_int_str (fin_bl I q (by simp))
    | _ => exact absurd (show false = true from hs) Bool.false_ne_true
  | str i =>
    obtain ⟨t, rfl⟩ := rx
    cases y with
    | non => cases ry; exact PySem.EqNone.ne_str_none (fin_bl I q (by simp))
    | bl j => cases ry; exact PySem.EqMixed.ne_str_bool (fin_bl I q (by simp))
    | int j => obtain ⟨t', rfl⟩ := ry; exact PySem.EqMixed.ne_str_int (fin_bl I q (by simp))
    | str j => obtain ⟨t', rfl⟩ := ry; exact ne_str (fin_bl I q (congrArg not dec_str))
    | _ => exact absurd (show false = true from hs) Bool.false_ne_true
  | byt i =>
    obtain ⟨t, rfl⟩ := rx
    cases y with
    | byt j => obtain ⟨t', rfl⟩ := ry; exact PySem.W.ne_bytes (fin_bl I q (congrArg not dec_byt))
    | _ => exact absurd (show false = true from hs) Bool.false_ne_true
  | _ => cases y <;> exact absurd (show false = true from hs) Bool.false_ne_true
theorem op_lt : OpR X (compareOp .Lt) (rI0 fun i j => .bl (decide (i < j))) := opB0 fun _ _ _ _ _ _ _ q => lt_int q
theorem op_le : OpR X (compareOp .LtE) (rI0 fun i j => .bl (decide (i ≤ j))) := opB0 fun _ _ _ _ _ _ _ q => le_int q
theorem op_gt : OpR X (compareOp .Gt) (rI0 fun i j => .bl (decide (j < i))) := opB0 fun _ _ _ _ _ _ _ q => gt_int q
theorem op_ge : OpR X (compareOp .GtE) (rI0 fun i j => .bl (decide (j ≤ i))) := opB0 fun _ _ _ _ _ _ _ q => ge_int q
theorem op_lt_str : OpR X (compareOp .Lt) (fun x y H Q => ∃ i j, x = .str i ∧ y = .str j ∧ Q (.bl (decide (i.cps.toList < j.cps.toList))) H) := by
  intro pins s σ H x y v u Q I rx ry h
  obtain ⟨i, j, rfl, rfl, q⟩ := h
  obtain ⟨t, rfl⟩ := rx
  obtain ⟨t', rfl⟩ := ry
  exact lt_str (fin_bl I q rfl)
/-- two rules for one operation: by cases -/
theorem OpR.or {f : Value → Value → Sem Value} {r r' : R2} (h : OpR X f r) (h' : OpR X f r') : OpR X f (fun x y H Q => r x y H Q ∨ r' x y H Q) := by
  intro pins s σ H x y v u Q I rx ry q
  rcases q with q | q
  · exact h pins s σ H x y v u Q I rx ry q
  · exact h' pins s σ H x y v u Q I rx ry q
theorem nomark (b : Expr) {op : CmpOp} (h : op ≠ .In := by decide) (h2 : op ≠ .NotIn := by decide) : behindInMarks op b = false := by
  have e1 : (op == CmpOp.In) = false := by cases op <;> first | rfl | exact absurd rfl h
  have e2 : (op == CmpOp.NotIn) = false := by cases op <;> first | rfl | exact absurd rfl h2
  cases b <;> simp [behindInMarks, e1, e2]
/-- a comparison as a value; hm: nomark b, or (for in, not in) by with_unfolding_all rfl -/
theorem pe_cmpR {op : CmpOp} {r : R2} (ho : OpR X (compareOp op) r) (ha : PE X a ta) (hb : PE X b tb) (hm : behindInMarks op b = false) : PE X (.Compare a [op] [b] pos) (tOp r ta tb) := by
  intro pins s σ H Q I h
  exact wpAny_Compare1 (binT ha hb I h fun v u s2 x y H2 I2 rx ry q => ho pins s2 σ H2 x y v u Q I2 rx ry q) hm
/-- a reading of a value as a test -/
noncomputable def tTest (t : TE) : TT := fun σ H Q => t σ H fun x H' => ∃ k, x = .bl k ∧ Q k H'
theorem pt_cmpR {op : CmpOp} {r : R2} (ho : OpR X (compareOp op) r) (ha : PE X a ta) (hb : PE X b tb) (hm : behindInMarks op b = false) : PT X (.Compare a [op] [b] pos) (tTest (tOp r ta tb)) := by
  intro pins s σ H Q I h
  refine wpAny_isTrue_Compare1 (thn (ha pins s σ H _ I h) fun v s1 ⟨x, H1, I1, r1, q1⟩ => thn (hb pins s1 σ H1 _ I1 q1) fun u s2 ⟨y, H2, I2, r2, q2⟩ =>
    thn (ho pins s2 σ H2 x y v u _ I2 r1 r2 q2) fun c s3 ⟨z, H3, I3, r3, k, e, q3⟩ => ?_) hm
  subst e
  cases r3
  exact wpAny_truthy_bool ⟨H3, I3, q3⟩
/-- a op1 b op2 c -/
noncomputable def tChain (r r' : R2) (ta tb tc : TE) : TE := fun σ H Q => ta σ H fun x H1 => tb σ H1 fun y H2 => r x y H2 fun z H3 => ∃ k, z = .bl k ∧
  (if k = true then tc σ H3 fun w' H4 => r' y w' H4 Q else Q (.bl false) H3)
theorem pe_chain {op op' : CmpOp} {r r' : R2} (ho : OpR X (compareOp op) r) (ho' : OpR X (compareOp op') r') (ha : PE X a ta) (hb : PE X b tb) (hc : PE X c tc)
    (hm : lastMarks [op, op'] [b, c] = false := by with_unfolding_all rfl) : PE X (.Compare a [op, op'] [b, c] pos) (tChain r r' ta tb tc) := by
  intro pins s σ H Q I h
  refine Compare_chain (thn (ha pins s σ H _ I h) fun v s1 ⟨x, H1, I1, r1, q1⟩ => chain_link (thn (hb pins s1 σ H1 _ I1 q1) fun u s2 ⟨y, H2, I2, r2, q2⟩ =>
    thn (ho pins s2 σ H2 x y v u _ I2 r1 r2 q2) fun d s3 ⟨z, H3, I3, r3, k, e, q3⟩ => ?_)) hm
  subst e
  cases r3
  refine wpAny_truthy_bool ?_
  cases k with
  | false => exact ite_ff ⟨.bl false, H3, I3, rfl, q3⟩
  | true => exact ite_tt (chain_last (thn (hc pins s3 σ H3 _ I3 q3) (by rintro w' s4 ⟨z', H4, I4, r4, q4⟩; exact ho' pins s4 σ H4 y z' u w' Q I4 r2 r4 q4)))
theorem pt_chain {op op' : CmpOp} {r r' : R2} (ho : OpR X (compareOp op) r) (ho' : OpR X (compareOp op') r') (ha : PE X a ta) (hb : PE X b tb) (hc : PE X c tc)
    (hm : lastMarks [op, op'] [b, c] = false := by with_unfolding_all rfl) : PT X (.Compare a [op, op'] [b, c] pos) (tTest (tChain r r' ta tb tc)) := by
  intro pins s σ H Q I h
  refine isTrue_chain (thn (ha pins s σ H _ I h) fun v s1 ⟨x, H1, I1, r1, q1⟩ => test_link (thn (hb pins s1 σ H1 _ I1 q1) fun u s2 ⟨y, H2, I2, r2, q2⟩ =>
    thn (ho pins s2 σ H2 x y v u _ I2 r1 r2 q2) fun d s3 ⟨z, H3, I3, r3, k, e, q3⟩ => ?_)) hm
  subst e
  cases r3
  refine wpAny_truthy_bool ?_
  cases k with
  | false =>
    obtain ⟨k', e', q'⟩ := q3
    cases e'
    exact ite_ff ⟨H3, I3, q'⟩
  | true =>
    refine ite_tt (test_last (thn (hc pins s3 σ H3 _ I3 q3) fun w' s4 ⟨z', H4, I4, r4, q4⟩ => thn (ho' pins s4 σ H4 y z' u w' _ I4 r2 r4 q4) fun d' s5 ⟨z2, H5, I5, r5, k2, e2, q5⟩ => ?_))
    subst e2
    cases r5
    exact wpAny_truthy_bool ⟨H5, I5, q5⟩
/-- a value's truth by the abstract heap -/
noncomputable def TruV (K : PySem.W.Frag) (x : V) (H : Hp) (k : Bool) : Prop :=
  match x with
  | .non => k = false
  | .bl b => k = b
  | .int i => k = (i != 0)
  | .str y => y.length ≤ sizeLine ∧ k = ((y.length : Int) != 0)
  | .byt y => y.size ≤ sizeLine ∧ k = ((y.size : Int) != 0)
  | .ref p => (∃ xs, SqL K H p xs ∧ k = !xs.isEmpty) ∨ (∃ xs, SqT K H p xs ∧ k = !xs.isEmpty) ∨ ∃ kvs, H p = some (.dK kvs) ∧ k = !kvs.isEmpty
  | _ => False
theorem isEmpty_kv {κ : Type} {kvs : List (κ × V)} {vs : List (κ × Value)} (r : KV kvs vs) : (!vs.isEmpty) = !kvs.isEmpty := by
  cases r <;> rfl
theorem isEmpty_of {xs : List V} {its : List Value} (r : Vals xs its) : (!its.toArray.isEmpty) = !xs.isEmpty := by
  cases r <;> simp
theorem line63 : (sizeLine : Nat) < 2 ^ 63 := by rw [sizeLine_eq]; decide
theorem tru_ok : TruR X (fun x H Q => ∃ k, TruV X.K x H k ∧ Q k H) := by
  intro pins s σ H x v Q I rx h
  obtain ⟨k, e, q⟩ := h
  have hl := line63
  have hs : sizeLine = 16777216 := sizeLine_eq
  cases x with
  | non =>
    cases rx
    have e' : k = false := e
    subst e'
    exact truthy_none ⟨H, I, q⟩
  | bl b =>
    cases rx
    have e' : k = b := e
    subst e'
    exact wpAny_truthy_bool ⟨H, I, q⟩
  | int i =>
    obtain ⟨t, rfl⟩ := rx
    have e' : k = (i != 0) := e
    subst e'
    exact PySem.P.truthy_int ⟨H, I, q⟩
  | str y =>
    obtain ⟨t, rfl⟩ := rx
    obtain ⟨hy, e'⟩ : y.length ≤ sizeLine ∧ k = ((y.length : Int) != 0) := e
    subst e'
    exact PySem.P.truthy_str (by omega) ⟨H, I.tok _, q⟩
  | byt y =>
    obtain ⟨t, rfl⟩ := rx
    obtain ⟨hy, e'⟩ : y.size ≤ sizeLine ∧ k = ((y.size : Int) != 0) := e
    subst e'
    exact PySem.W.truthy_bytes (by omega) ⟨H, I.tok _, q⟩
  | ref p =>
    cases rx
    have e' : (∃ xs, SqL X.K H p xs ∧ k = !xs.isEmpty) ∨ (∃ xs, SqT X.K H p xs ∧ k = !xs.isEmpty) ∨ ∃ kvs, H p = some (.dK kvs) ∧ k = !kvs.isEmpty := e
    rcases e' with ⟨xs, hx, e'⟩ | ⟨xs, hx, e'⟩ | ⟨kvs, hx, e'⟩
    · subst e'
      obtain ⟨its, r, pl, hz⟩ := I.list hx
      have hlen := r.length
      exact wpAny_truthy_list pl.isList (by simp only [List.size_toArray]; omega) ⟨H, I.tok _, by rw [isEmpty_of r]; exact q⟩
    · subst e'
      obtain ⟨its, r, pl, hz⟩ := I.tuple hx
      have hlen := r.length
      exact truthy_tuple pl (by simp only [List.size_toArray]; omega) ⟨H, I.tok _, by rw [isEmpty_of r]; exact q⟩
    · subst e'
      obtain ⟨hz, hS, vs, r, m⟩ : kvs.length ≤ sizeLine ∧ (p == sysModules) = false ∧ ∃ vs, KV kvs vs ∧ s.heap.DictOf (mixKind X.prog X.w) p vs := I.hok p _ hx
      have hlen : kvs.length = vs.length := Paired.length r
      exact wpAny_truthy_dict hS m (by omega) ⟨H, I.tok _, by rw [isEmpty_kv r]; exact q⟩
  | _ => exact (show False from e).elim
/-- any expression whose test is its value's truth (a name, a call, a subscript, a field ..: he by fun _ => rfl) -/
theorem pt_truth (ha : PE X a ta) (he : ∀ whole, isTrue a X.env whole = (do let v ← whole; standAt a.pos; holding [v] (truthy v))) :
    PT X a (fun σ H Q => ta σ H fun x H' => ∃ k, TruV X.K x H' k ∧ Q k H') := by
  intro pins s σ H Q I h
  exact isTrue_plain (thn (ha pins s σ H _ I h) (by rintro v s1 ⟨x, H1, I1, r1, q1⟩; exact tru_ok pins s1 σ H1 x v Q I1 r1 q1)) (he _)
theorem op_add_str : OpR X (binaryOp .Add) (fun x y H Q => ∃ i j, x = .str i ∧ y = .str j ∧ i.length + j.length ≤ sizeLine ∧ Q (.str (i ++ j)) H) := by
  intro pins s σ H x y v u Q I rx ry h
  obtain ⟨i, j, rfl, rfl, hz, q⟩ := h
  obtain ⟨t, rfl⟩ := rx
  obtain ⟨t', rfl⟩ := ry
  exact add_str (fun t' tk => ⟨.str (i ++ j), H, I.tok _, ⟨_, rfl⟩, q⟩) hz
theorem iop_add_str : OpR X (inplaceOp .Add) (fun x y H Q => ∃ i j, x = .str i ∧ y = .str j ∧ i.length + j.length ≤ sizeLine ∧ Q (.str (i ++ j)) H) := by
  intro pins s σ H x y v u Q I rx ry h
  obtain ⟨i, j, rfl, rfl, hz, q⟩ := h
  obtain ⟨t, rfl⟩ := rx
  obtain ⟨t', rfl⟩ := ry
  exact iadd_str (fun t' tk => ⟨.str (i ++ j), H, I.tok _, ⟨_, rfl⟩, q⟩) hz
theorem vals1 {x : V} {us : List Value} (r : Vals [x] us) : ∃ u, us = [u] ∧ RelV x u := by
  cases r with
  | cons r1 r2 => cases r2; exact ⟨_, rfl, r1⟩
theorem vals2 {x y : V} {us : List Value} (r : Vals [x, y] us) : ∃ u w', us = [u, w'] ∧ RelV x u ∧ RelV y w' := by
  cases r with
  | cons r1 r2 =>
    cases r2 with
    | cons r3 r4 => cases r4; exact ⟨_, _, rfl, r1, r3⟩
theorem call_int1 : CallR X (.type "int") (fun xs H Q => (∃ i, xs = [.int i] ∧ Q (.int i) H) ∨ ∃ k, xs = [.bl k] ∧ Q (.int (if k then 1 else 0)) H) := by
  intro pins s σ H xs us Q I r h
  rcases h with ⟨i, rfl, q⟩ | ⟨k, rfl, q⟩
  · obtain ⟨u, rfl, t, rfl⟩ := vals1 r
    exact call_int_int ⟨.int i, H, I, ⟨_, rfl⟩, q⟩
  · obtain ⟨u, rfl, r1⟩ := vals1 r
    cases r1
    exact call_int_bool ⟨.int (if k then 1 else 0), H, I.tok _, ⟨_, rfl⟩, q⟩
/-- len of a str, a bytes, a list, a tuple -/
noncomputable def LenV (K : PySem.W.Frag) (x : V) (H : Hp) (n : Nat) : Prop :=
  match x with
  | .str y => y.length ≤ sizeLine ∧ n = y.length
  | .byt y => y.size ≤ sizeLine ∧ n = y.size
  | .ref p => (∃ xs, SqL K H p xs ∧ n = xs.length) ∨ ∃ xs, SqT K H p xs ∧ n = xs.length
  | _ => False
theorem call_len : CallR X (.builtin "len") (fun xs H Q => ∃ x n, xs = [x] ∧ LenV X.K x H n ∧ Q (.int n) H) := by
  intro pins s σ H xs us Q I r h
  obtain ⟨x, n, rfl, e, q⟩ := h
  obtain ⟨u, rfl, rx⟩ := vals1 r
  have hl := line63
  have hs : sizeLine = 16777216 := sizeLine_eq
  cases x with
  | str y =>
    obtain ⟨t, rfl⟩ := rx
    obtain ⟨hy, e'⟩ : y.length ≤ sizeLine ∧ n = y.length := e
    subst e'
    exact len_str (by omega) ⟨.int _, H, I.tok _, ⟨_, rfl⟩, q⟩
  | byt y =>
    obtain ⟨t, rfl⟩ := rx
    obtain ⟨hy, e'⟩ : y.size ≤ sizeLine ∧ n = y.size := e
    subst e'
    exact PySem.W.len_bytes (by omega) ⟨.int _, H, I.tok _, ⟨_, rfl⟩, q⟩
  | ref p =>
    cases rx
    have e' : (∃ xs, SqL X.K H p xs ∧ n = xs.length) ∨ ∃ xs, SqT X.K H p xs ∧ n = xs.length := e
    rcases e' with ⟨xs, hx, e'⟩ | ⟨xs, hx, e'⟩
    · subst e'
      obtain ⟨its, r', pl, hz⟩ := I.list hx
      have hlen := r'.length
      exact Calls.call_len_list pl.isList (by simp only [List.size_toArray]; omega) ⟨.int xs.length, H, I.tok _, ⟨_, by simp only [List.size_toArray]; rw [hlen]⟩, q⟩
    · subst e'
      obtain ⟨its, r', pl, hz⟩ := I.tuple hx
      have hlen := r'.length
      exact len_tuple pl (by simp only [List.size_toArray]; omega) ⟨.int xs.length, H, I.tok _, ⟨_, by simp only [List.size_toArray]; rw [hlen]⟩, q⟩
  | _ => exact (show False from e).elim
end
end L2
namespace L2
open PySem PySem.Spec PyProof.Rows
structure ObjM (h : Heap) (x dx C : Addr) (mA : Str → Option Value) : Prop where
  obj : h.get? x = some (PySem.W.instObj C dx)
  ns : h.Ns1 dx mA
  ne : dx ≠ x
theorem lookIn_ns {h : Heap} {dx : Addr} {mA : Str → Option Value} (n : h.Ns1 dx mA) : ∃ od, h.get? dx = some od ∧ ∀ name, PySem.W.lookIn name od = some (mA name) := by
  obtain ⟨o, es, ep, ho, hd, hk, _, hm⟩ := n
  refine ⟨o, ho, fun name => ?_⟩
  have e := hm name
  unfold nsFind findBy at e
  rw [← Array.find?_toList] at e
  unfold PySem.W.lookIn
  rw [hd]
  dsimp only
  split
  · rename_i y q
    rw [q] at e
    exact congrArg some e
  · rename_i q
    rw [q] at e
    have a : es.toList.any (·.refKey) = false := by
      rw [List.any_eq_false]
      intro y hy
      obtain ⟨z, t, hkey⟩ := hk y (Array.mem_toList_iff.mp hy)
      simp [DictEntry.refKey, hkey]
    have a' : ¬ es.toList.any (·.refKey) = true := by rw [a]; exact Bool.false_ne_true
    rw [if_neg a']
    exact congrArg some e
theorem ObjM.look {h : Heap} {x dx C : Addr} {mA : Str → Option Value} (I : ObjM h x dx C mA) : ∃ od, PySem.W.InstAt h x (PySem.W.instObj C dx) C (some od) ∧ ∀ name, PySem.W.lookIn name od = some (mA name) :=
  let ⟨od, ho, hl⟩ := lookIn_ns I.ns
  ⟨od, ⟨I.obj, rfl, rfl, ho⟩, hl⟩
section
variable {prog : Program} {w : World} {A : Around} {E : Value → Shared → Prop} {s : Shared} {K : PySem.W.Frag} {x dx C f : Addr} {mA : Str → Option Value} {name : Str} {v : Value}
theorem get_map {expr : Bool} {Q : Value → Shared → Prop} (X : K.In s.heap) (I : ObjM s.heap x dx C mA) (hg : PySem.W.plainGet K C name = true) (hh : PySem.W.hasDictIn K C = true)
    (ha : PySem.W.findIn K (.ref C) name = some none) (hv : mA name = some v) (hv' : PySem.W.handedIn v = true) (h : Q v { s with toks := s.toks + 1 }) :
    wpAny (model prog w) A (getAttr (.ref x) name expr) Q E s := by
  obtain ⟨od, J, hl⟩ := I.look
  exact PySem.W.get_value X J (PySem.W.plainGet_of hg).1 (PySem.W.findObj_own hh ha rfl (by rw [hl, hv])) hv' h
theorem get_meth {pl : Sem Bool} {Q : Value × List Value → Shared → Prop} (X : K.In s.heap) (I : ObjM s.heap x dx C mA) (hg : PySem.W.plainGet K C name = true)
    (hf : PySem.W.findIn K (.ref C) name = some (some (.ref f))) (ht : PySem.W.isFn K (.ref f) = true) (hv : mA name = none) (h : Q (.ref f, [.ref x]) s) :
    wpAny (model prog w) A (getMethod (.ref x) name pl) Q E s := by
  obtain ⟨od, J, hl⟩ := I.look
  exact PySem.W.method_fn X J (PySem.W.plainGet_of hg).1 (PySem.W.plainGet_of hg).2 hf (beq_iff_eq.mp ht) (by show (PySem.W.lookIn name od).map (·.isSome) = some false; rw [hl, hv]; rfl) h
theorem set_map {ns : List Str} {Q : Unit → Shared → Prop} (X : K.In s.heap) (I : ObjM s.heap x dx C mA)
    (hs : PySem.W.findIn K (.ref C) "__setattr__" = some (some (.builtin "object.__setattr__"))) (hp : PySem.W.plainOver K C = true) (ht : PySem.W.takerIn K C name = some none) (hh : PySem.W.hasDictIn K C = true)
    (hw : PySem.Within mA ns) (hsz : ns.length ≤ sizeLine)
    (h : ∀ h', ObjM h' x dx C (fun y => if y = name then some v else mA y) → Heap.SameBut dx s.heap h' → Q () { s with heap := h', toks := s.toks + 2 }) :
    wpAny (model prog w) A (setAttr (.ref x) name v) Q E s := by
  obtain ⟨od, J, hl⟩ := I.look
  refine PySem.W.set_plain X J hs (PySem.W.osa_open (s := { s with toks := s.toks + 1 }) (r := none) X J hp ht fun b => ?_)
  obtain ⟨cd, hc, hd'⟩ := PySem.W.any_some hh
  have hx : s.heap.get? x = some ⟨.ref C, some dx, .plain, #[]⟩ := I.obj
  refine wpAny_bind (wpAny_pure (wpAny_bind (wpAny_bind (wpAny_loadPart hx (wpAny_bind (PySem.W.Looks.here (s := { s with toks := s.toks + 1 }) (PySem.W.looks_clsIn X hc) ?_))))))
  rw [hd']
  refine wpAny_pure (a := some dx) (wpAny_bind (wpAny_pure (wpAny_bind ?_)))
  refine wpAny_nsSet1 (s := { s with toks := s.toks + 1 }) I.ns fun h' hn2 hs2 => ?_
  obtain ⟨oD, esD, epD, hoD, hdD, hcD⟩ := hn2.count (PySem.Within.cons name v hw)
  refine wpAny_bind (wpAny_lookBehind hoD (by rw [hdD]; exact pastItsLine_dict (Nat.le_trans hcD (by rw [List.length_cons]; omega))) ?_)
  exact wpAny_pure (h _ ⟨(hs2.2 _ (Ne.symm I.ne)).trans I.obj, hn2, I.ne⟩ hs2)
/-- C(..): the dict at the heap's end, the instance behind it; then its __init__ -/
theorem make_map {R : Result → Shared → Prop} {vs : List Value} {kw : List (Str × Value)} (X : K.In s.heap) (hm : PySem.W.makesIn K C = true)
    (hi : PySem.W.findIn K (.ref C) "__init__" = some (some (.ref f))) (hf : PySem.W.typeIn K (.ref f) = some (.type "function"))
    (h : codeAny (model prog w) (A.under (.builtin "type.__call__" ⟨.ref C :: vs, kw⟩)) (.call (.ref f) ⟨.ref (s.heap.objs.size + 1) :: vs, kw⟩) (PySem.W.InitBack (s.heap.objs.size + 1) R)
      { s with heap := (s.heap.push PySem.W.emptyDict).push (PySem.W.instObj C s.heap.objs.size) }) :
    codeAny (model prog w) A (.call (.ref C) ⟨vs, kw⟩) R s := by
  obtain ⟨hh, g, d, t, os⟩ := s
  exact PySem.W.make_core (PySem.W.makes_of X hm) (PySem.W.looks_findIn X hi) (fun self => PySem.W.bind_fn X self hf) (.inl rfl) h
end
noncomputable def putF (f : Str) (v : V) : List (Str × V) → List (Str × V)
  | [] => [(f, v)]
  | (g, x) :: r => if g = f then (g, v) :: r else (g, x) :: putF f v r
theorem lookup_putF (f g : Str) (v : V) : ∀ fs : List (Str × V), (putF f v fs).lookup g = if g = f then some v else fs.lookup g
  | [] => by
    show List.lookup g [(f, v)] = _
    by_cases h : g = f
    · have hb : (g == f) = true := beq_iff_eq.mpr h
      simp only [List.lookup, hb, if_pos h]
    · have hb : (g == f) = false := beq_eq_false_iff_ne.mpr h
      simp only [List.lookup, hb, if_neg h]
  | (k, x) :: r => by
    have ih := lookup_putF f g v r
    rw [show putF f v ((k, x) :: r) = (if k = f then (k, v) :: r else (k, x) :: putF f v r) from rfl]
    by_cases hk : k = f
    · rw [if_pos hk]
      by_cases h : g = k
      · have hb : (g == k) = true := beq_iff_eq.mpr h
        simp only [List.lookup, hb, if_pos (h.trans hk)]
      · have hb : (g == k) = false := beq_eq_false_iff_ne.mpr h
        simp only [List.lookup, hb, if_neg (fun e : g = f => h (e.trans hk.symm))]
    · rw [if_neg hk]
      by_cases h : g = k
      · have hb : (g == k) = true := beq_iff_eq.mpr h
        simp only [List.lookup, hb, if_neg (fun e : g = f => hk (h.symm.trans e))]
      · have hb : (g == k) = false := beq_eq_false_iff_ne.mpr h
        simp only [List.lookup, hb]
        exact ih
theorem keys_putF (f : Str) (v : V) : ∀ fs : List (Str × V), f ∈ (putF f v fs).map (·.1) ∧ ∀ g, g ∈ fs.map (·.1) → g ∈ (putF f v fs).map (·.1)
  | [] => ⟨by simp [putF], fun g h => by simp at h⟩
  | (k, x) :: r => by
    obtain ⟨i1, i2⟩ := keys_putF f v r
    rw [show putF f v ((k, x) :: r) = (if k = f then (k, v) :: r else (k, x) :: putF f v r) from rfl]
    by_cases hk : k = f
    · rw [if_pos hk]
      subst hk
      exact ⟨by simp, fun g h => by simpa using h⟩
    · rw [if_neg hk]
      refine ⟨?_, fun g h => ?_⟩
      · rw [List.map_cons]
        exact List.mem_cons_of_mem _ i1
      · rw [List.map_cons] at h ⊢
        rcases List.mem_cons.mp h with e | e
        · exact List.mem_cons.mpr (.inl e)
        · exact List.mem_cons_of_mem _ (i2 g e)
theorem length_putF (f : Str) (v : V) : ∀ fs : List (Str × V), (putF f v fs).length ≤ fs.length + 1
  | [] => by simp [putF]
  | (k, x) :: r => by
    have ih := length_putF f v r
    rw [show putF f v ((k, x) :: r) = (if k = f then (k, v) :: r else (k, x) :: putF f v r) from rfl]
    by_cases hk : k = f
    · rw [if_pos hk, List.length_cons, List.length_cons]; omega
    · rw [if_neg hk, List.length_cons, List.length_cons]; omega
theorem RelO.some_of {v : V} {o : Option Value} (r : RelO (some v) o) : ∃ u, o = some u ∧ RelV v u := by
  cases o with
  | none => exact (show False from r).elim
  | some u => exact ⟨u, rfl, r⟩
theorem RelO.none_of {o : Option Value} (r : RelO none o) : o = none := by
  cases o with
  | none => rfl
  | some u => exact (show False from r).elim
theorem handed_of {v : V} {u : Value} (r : RelV v u) : PySem.W.handedIn u = true := by
  cases v with
  | non => cases (show u = Value.none from r); rfl
  | bl b => cases (show u = Value.bool b from r); rfl
  | int i => obtain ⟨t, e⟩ := (show ∃ t, u = Value.int i t from r); cases e; rfl
  | str x => obtain ⟨t, e⟩ := (show ∃ t, u = Value.str x t from r); cases e; rfl
  | byt b => obtain ⟨t, e⟩ := (show ∃ t, u = Value.bytes b t from r); cases e; rfl
  | flt b => obtain ⟨t, e⟩ := (show ∃ t, u = Value.float b t from r); cases e; rfl
  | ref a => cases (show u = Value.ref a from r); rfl
  | ty n => cases (show u = Value.type n from r); rfl
section
variable {P : Program} {w : World} {H H' : Hp} {h h' : Heap} {a C dx : Addr} {fs fs' : List (Str × V)}
theorem ins_get (hok : HOk P w H h) (e : H a = some (.ins C dx fs)) : ∃ mA, ObjM h a dx C mA ∧ (∀ f, RelO (fs.lookup f) (mA f)) ∧ PySem.Within mA (fs.map (·.1)) ∧ fs.length ≤ 1000 ∧ H dx = some (.own a) := by
  obtain ⟨d, z, ne, ob, mA, n, r, q⟩ := (show ObjOk P w H h a (.ins C dx fs) from hok a _ e)
  exact ⟨mA, ⟨ob, n, ne⟩, r, q, z, d⟩
end
structure Cls (K : PySem.W.Frag) (C : Addr) : Prop where
  pg : PySem.W.plainGet K C Str.empty = true
  hd : PySem.W.hasDictIn K C = true
  po : PySem.W.plainOver K C = true
  sa : PySem.W.findIn K (.ref C) "__setattr__" = some (some (.builtin "object.__setattr__"))
theorem Cls.get {K : PySem.W.Frag} {C : Addr} (c : Cls K C) (f : Str) : PySem.W.plainGet K C f = true := c.pg
/-- no class of it has the name -/
noncomputable def NoAttr (K : PySem.W.Frag) (C : Addr) (f : Str) : Prop := PySem.W.findIn K (.ref C) f = some none
theorem NoAttr.taker {K : PySem.W.Frag} {C : Addr} {f : Str} (n : NoAttr K C f) : PySem.W.takerIn K C f = some none := by
  unfold PySem.W.takerIn
  rw [show PySem.W.findIn K (.ref C) f = some none from n]
  rfl
/-- a method: a plain def of the class or of one above it -/
structure Meth (K : PySem.W.Frag) (C : Addr) (m : Str) (f : Addr) : Prop where
  at_ : PySem.W.findIn K (.ref C) m = some (some (.ref f))
  fn : PySem.W.isFn K (.ref f) = true
  kp : PySem.W.keepIn K (.ref f) = true
section
variable {X : Cx} {pins : List (Addr × Obj)} {σ : St} {H : Hp} {s : Shared} {a C dx : Addr} {fs : List (Str × V)} {f : Str} {v : V} {A : Around} {E : Value → Shared → Prop}
theorem getattr_ok {b : Bool} {Q : Value → Shared → Prop} (I : Inv X pins σ H s) (e : H a = some (.ins C dx fs)) (c : Cls X.K C) (n : NoAttr X.K C f) (l : fs.lookup f = some v)
    (h : ∀ u s', Inv X pins σ H s' → RelV v u → Q u s') : wpAny (model X.prog X.w) A (getAttr (.ref a) f b) Q E s := by
  obtain ⟨mA, O, r, _, _, _⟩ := ins_get I.hok e
  obtain ⟨u, hu, ru⟩ := RelO.some_of (v := v) (o := mA f) (by rw [← l]; exact r f)
  exact get_map I.kIn O (c.get f) c.hd n hu (handed_of ru) (h u _ (I.tok _) ru)
theorem getmeth_ok {m : Str} {g : Addr} {pl : Sem Bool} {Q : Value × List Value → Shared → Prop} (I : Inv X pins σ H s) (e : H a = some (.ins C dx fs)) (c : Cls X.K C) (k : Meth X.K C m g) (l : fs.lookup m = none)
    (h : Q (.ref g, [.ref a]) s) : wpAny (model X.prog X.w) A (getMethod (.ref a) m pl) Q E s := by
  obtain ⟨mA, O, r, _, _, _⟩ := ins_get I.hok e
  have hn : mA m = none := RelO.none_of (by rw [← l]; exact r m)
  exact get_meth I.kIn O (c.get m) k.at_ k.fn hn h
theorem setattr_ok {y : V} {u : Value} {Q : Unit → Shared → Prop} (I : Inv X pins σ H s) (e : H a = some (.ins C dx fs)) (c : Cls X.K C) (n : NoAttr X.K C f) (hl : fs.length < 1000) (ry : RelV y u)
    (h : ∀ s', Inv X pins σ (upd H a (.ins C dx (putF f y fs))) s' → Q () s') : wpAny (model X.prog X.w) A (setAttr (.ref a) f u) Q E s := by
  obtain ⟨mA, O, r, wi, _, ho⟩ := ins_get I.hok e
  have hz : (fs.map (·.1)).length ≤ sizeLine := by rw [List.length_map, sizeLine_eq]; omega
  refine set_map I.kIn O c.sa c.po n.taker c.hd wi hz fun h' O' sb => h _ ?_
  have hd : ∃ o, h'.get? dx = some o := let ⟨o, _, _, e', _⟩ := O'.ns; ⟨o, e'⟩
  refine I.write (x := a) (e := dx) (by rw [e]; exact True.intro) (.inr ho) (fun b q hb z => (sb.2 b hb).trans z) hd ?_
  refine ⟨by rw [upd_ne O.ne]; exact ho, ?_, O.ne, O'.obj, _, O'.ns, fun g => ?_, fun g hg => ?_⟩
  · have := length_putF f y fs; omega
  · show RelO ((putF f y fs).lookup g) (if g = f then some u else mA g)
    rw [lookup_putF]
    by_cases q : g = f
    · rw [if_pos q, if_pos q]; exact ry
    · rw [if_neg q, if_neg q]; exact r g
  · by_cases q : g = f
    · rw [q]; exact (keys_putF f y fs).1
    · refine (keys_putF f y fs).2 g (wi g fun z => hg ?_)
      show (if g = f then some u else mA g) = none
      rw [if_neg q]; exact z
/-- a new instance, tracked, without attributes -/
theorem Inv.made (I : Inv X pins σ H s) : Inv X pins σ (upd (upd H s.heap.objs.size (.own (s.heap.objs.size + 1))) (s.heap.objs.size + 1) (.ins C s.heap.objs.size []))
    { s with heap := (s.heap.push PySem.W.emptyDict).push (PySem.W.instObj C s.heap.objs.size) } := by
  have e1 : (s.heap.push PySem.W.emptyDict).get? s.heap.objs.size = some PySem.W.emptyDict := Heap.get?_push_size s.heap rfl
  have e2 : ((s.heap.push PySem.W.emptyDict).push (PySem.W.instObj C s.heap.objs.size)).get? (s.heap.objs.size + 1) = some (PySem.W.instObj C s.heap.objs.size) := by
    have := Heap.get?_push_size (s.heap.push PySem.W.emptyDict) (o := PySem.W.instObj C s.heap.objs.size) rfl
    rwa [Heap.size_push] at this
  have e3 : (s.heap.push PySem.W.emptyDict).Ns s.heap.objs.size (fun _ => none) := ⟨PySem.W.emptyDict, #[], _, e1, rfl, (fun e he => absurd he (by simp)), fun _ => rfl⟩
  have I1 := I.laid (a := s.heap.objs.size) (o := .own (s.heap.objs.size + 1)) (h' := s.heap.push PySem.W.emptyDict) (t' := s.toks) (fun b u q => Heap.get?_push_of_some _ q) (Nat.le_refl _) ⟨_, e1⟩
  refine I1.laid (a := s.heap.objs.size + 1) (o := .ins C s.heap.objs.size []) (t' := s.toks) (fun b u q => Heap.get?_push_of_some _ q) (Nat.le_of_eq (Heap.size_push _ _)) ?_
  have ne : s.heap.objs.size ≠ s.heap.objs.size + 1 := Nat.ne_of_lt (Nat.lt_succ_self _)
  refine ⟨by rw [upd_ne ne, upd_same], Nat.zero_le _, ne, e2, fun _ => none, (Heap.Ns1.of_empty e3).at fun o q => Heap.get?_push_of_some _ q, fun _ => True.intro, fun y hy => absurd rfl hy⟩
/-- e.f where nothing but the object is asked: through attributeBase (super) and the last hold -/
theorem attr_of {prog : Program} {w : World} {env : Env} {e : Expr} {f : Str} {pos : Pos} {s : Shared} {Q : Value → Shared → Prop} (hb : attributeBase e f env (eval e env) = eval e env)
    (h : wpAny (model prog w) A (eval e env) (fun o s₁ => wpAny (model prog w) A (getAttr o f true) Q E s₁) E s) : wpAny (model prog w) A (eval (.Attribute e f pos) env) Q E s :=
  Attribute_any_ h (by rw [arm_eval_Attribute, hb])
end
/-- e.f, an attribute of the instance -/
noncomputable def tFld (K : PySem.W.Frag) (ta : TE) (f : Str) : TE := fun σ H Q => ta σ H fun x H1 => ∃ a C dx fs v, x = .ref a ∧ H1 a = some (.ins C dx fs) ∧ Cls K C ∧ NoAttr K C f ∧ fs.lookup f = some v ∧ Q v H1
/-- e.f = value -/
noncomputable def sFld (K : PySem.W.Frag) (ta tv : TE) (f : Str) : TS := fun D σ H => tv σ H fun y H1 => ta σ H1 fun x H2 => ∃ a C dx fs, x = .ref a ∧ H2 a = some (.ins C dx fs) ∧ Cls K C ∧ NoAttr K C f ∧ fs.length < 1000 ∧
  D.nx σ (upd H2 a (.ins C dx (putF f y fs)))
/-- an augmented operator on two values -/
noncomputable def InOp (X : Cx) (op : Operator) (rd : V → V → Hp → VK → Prop) : Prop :=
  ∀ (pins : List (Addr × Obj)) (s : Shared) (σ : St) (H : Hp) (x y : V) (u v : Value) (Q : VK), Inv X pins σ H s → RelV x u → RelV y v → rd x y H Q → wpAny (model X.prog X.w) X.A (inplaceOp op u v) (EP X pins σ Q) X.xe s
/-- e.f op= value -/
noncomputable def sFldAug (K : PySem.W.Frag) (ta tv : TE) (rd : V → V → Hp → VK → Prop) (f : Str) : TS := fun D σ H => ta σ H fun x H1 => ∃ a C dx fs v, x = .ref a ∧ H1 a = some (.ins C dx fs) ∧ Cls K C ∧ NoAttr K C f ∧ fs.lookup f = some v ∧
  tv σ H1 fun y H2 => rd v y H2 fun z H3 => ∃ dx' fs', H3 a = some (.ins C dx' fs') ∧ fs'.length < 1000 ∧ D.nx σ (upd H3 a (.ins C dx' (putF f z fs')))
section
variable {X : Cx} {o e value : Expr} {f : Str} {pos pos' tpos : Pos} {ta tv : TE}
theorem pe_fld (he : PE X e ta) (hb : attributeBase e f X.env (eval e X.env) = eval e X.env) : PE X (.Attribute e f pos) (tFld X.K ta f) := by
  intro pins s σ H Q I h
  refine attr_of hb (thn (he pins s σ H _ I h) fun u s1 zz39 => ?_)
  obtain ⟨x, H1, I1, rx, a, C, dx, fs, v, ex, ea, c, n, l, q⟩ := zz39
  subst ex
  obtain rfl : u = Value.ref a := rx
  exact getattr_ok I1 ea c n l fun u' s2 I2 ru => ⟨v, H1, I2, ru, q⟩
theorem ps_fld (ha : PE X o ta) (hv : PE X value tv) (hs : swapsWith value (some (.Attribute o f pos')) pos.line X.env = pure false) : PS X (.Assign [.Attribute o f pos'] value pos) (sFld X.K ta tv f) := by
  intro pins s σ H D I h
  refine plainObj_wpAny_Assign_Attribute (thn (hv pins s σ H _ I h) fun u s1 ⟨y, H1, I1, ry, q⟩ => thn (ha pins s1 σ H1 _ I1 q) fun ov s2 ⟨x, H2, I2, rx, a, C, dx, fs, ex, ea, c, n, l, q2⟩ => ?_) hs
  subst ex
  obtain rfl : ov = Value.ref a := rx
  exact setattr_ok I2 ea c n l ry fun s3 I3 => ⟨σ, _, I3, q2⟩
theorem ps_fldaug {op : Operator} {rd : V → V → Hp → VK → Prop} (ha : PE X o ta) (hv : PE X value tv) (hop : InOp X op rd) : PS X (.AugAssign (.Attribute o f tpos) op value pos) (sFldAug X.K ta tv rd f) := by
  intro pins s σ H D I h
  refine wpAny_AugAssign_AttributeAny (thn (ha pins s σ H _ I h) fun ov s1 zz41 => ?_)
  obtain ⟨x, H1, I1, rx, a, C, dx, fs, v, ex, ea, c, n, l, q⟩ := zz41
  subst ex
  obtain rfl : ov = Value.ref a := rx
  refine getattr_ok I1 ea c n l fun u s2 I2 ru => thn (hv pins s2 σ H1 _ I2 q) fun w3 s3 ⟨y, H2, I3, ry, q3⟩ => thn (hop pins s3 σ H2 v y u w3 _ I3 ru ry q3) ?_
  rintro w4 s4 ⟨z, H3, I4, rz, dx', fs', ea', l', q4⟩
  exact setattr_ok I4 ea' c n l' rz fun s5 I5 => ⟨σ, _, I5, q4⟩
noncomputable def rAdd : V → V → Hp → VK → Prop := fun x y H Q => ∃ i j, x = .int i ∧ y = .int j ∧ Q (.int (i + j)) H
theorem in_add : InOp X .Add rAdd := by
  rintro pins s σ H x y u v Q I rx ry ⟨i, j, rfl, rfl, q⟩
  obtain ⟨t, rfl⟩ := (show ∃ t, u = Value.int i t from rx)
  obtain ⟨t', rfl⟩ := (show ∃ t', v = Value.int j t' from ry)
  exact PyProof.Rows.iadd_int ⟨.int (i + j), H, I.tok _, ⟨_, rfl⟩, q⟩
end
section
variable {X : Cx} {pins : List (Addr × Obj)} {σ : St} {H : Hp} {s : Shared} {A : Around} {E : Value → Shared → Prop} {Q : Value → Shared → Prop} {c : Value} {b : Bool}
end
end L2
namespace L2
open PySem PySem.Spec PyProof.Rows
structure Room (k : Nat) (A : Around) : Prop where
  hd : A.handled = none
  dp : A.depth + 3 * k + 5 < recursionLimit
  un : A.units + 16 * k + 200 < cLine
theorem Room.mono {j k : Nat} {A : Around} (r : Room k A) (h : j ≤ k) : Room j A := ⟨r.hd, by have := r.dp; omega, by have := r.un; omega⟩
theorem Room.deeper {k : Nat} {A : Around} (r : Room (k + 1) A) (env : Env) : Room k (A.deeper env) :=
  ⟨r.hd, by have := r.dp; show A.depth + 1 + 3 * k + 5 < _; omega, by have := r.un; show A.units + 3 + 16 * k + 200 < _; omega⟩
theorem Room.in1 {k : Nat} {A : Around} (r : Room (k + 1) A) : Room k A.in1 :=
  ⟨r.hd, by have := r.dp; show A.depth + 3 * k + 5 < _; omega, by have := r.un; show A.units + 1 + 16 * k + 200 < _; omega⟩
theorem make_depth {A : Around} {C : Addr} {us : List Value} {kw : List (Str × Value)} : (A.under (.builtin "type.__call__" ⟨.ref C :: us, kw⟩)).depth = A.depth + 1 := by
  first | rfl | simp [Around.under, Code.weight, Code.isCreation, Code.isGuard, Code.isCaller, Code.frames, Code.isFrame, guardIds]
theorem make_units {A : Around} {C : Addr} {us : List Value} {kw : List (Str × Value)} : (A.under (.builtin "type.__call__" ⟨.ref C :: us, kw⟩)).units = A.units + 1 := by
  first | rfl | simp [Around.under, Code.cUnits, Code.frames, Code.isFrame]
theorem Room.make {k : Nat} {A : Around} (r : Room (k + 1) A) (C : Addr) (us : List Value) (kw : List (Str × Value)) : Room k (A.under (.builtin "type.__call__" ⟨.ref C :: us, kw⟩)) :=
  ⟨r.hd, by have := r.dp; rw [make_depth]; omega, by have := r.un; rw [make_units]; omega⟩
theorem Room.depth {k : Nat} {A : Around} (r : Room k A) : A.depth < recursionLimit := by have := r.dp; omega
theorem Room.units {k : Nat} {A : Around} (r : Room k A) : A.units + 64 < cLine := by have := r.un; omega
noncomputable def tNil : TA := fun _ H Q => Q [] H
noncomputable def tCons (ta : TE) (tr : TA) : TA := fun σ H Q => ta σ H fun x H1 => tr σ H1 fun xs H2 => Q (x :: xs) H2
section
variable {X : Cx} {e : Expr} {es : List Expr} {te : TE} {t : TA} {pos : Pos}
theorem pa_nil : PA X [] tNil := fun _ _ _ _ H Q I h => Calls.spliced_nil ⟨[], H, I, .nil, h⟩
theorem pa_cons (ha : PE X e te) (hr : PA X es t) (hs : starEach (e :: es) X.env = (false, eval e X.env) :: starEach es X.env := by rfl) : PA X (e :: es) (tCons te t) := by
  intro pos pins s σ H Q I h
  rw [hs]
  show wpAny _ _ (spliced ((false, eval e X.env) :: backTo pos (starEach es X.env))) _ _ s
  refine Calls.spliced_cons (thn (ha pins s σ H _ I h) fun u s1 zz43 => ?_)
  obtain ⟨x, H1, I1, r1, q1⟩ := zz43
  exact thn (hr pos pins s1 σ H1 _ I1 q1) (by rintro us s2 ⟨xs, H2, I2, r2, q2⟩; exact ⟨x :: xs, H2, I2, .cons r1 r2, q2⟩)
/-- a tuple, a list of written items -/
noncomputable def tTup (t : TA) : TE := fun σ H Q => t σ H fun xs H1 => xs.length ≤ sizeLine ∧ ∀ p, H1 p = none → Q (.ref p) (upd H1 p (.tup xs))
noncomputable def tLst (t : TA) : TE := fun σ H Q => t σ H fun xs H1 => xs.length ≤ sizeLine ∧ ∀ p, H1 p = none → Q (.ref p) (upd H1 p (.lst xs))
theorem pe_tup {x1} (h : PA X es t) : PE X (.Tuple es x1 pos) (tTup t) := by
  intro pins s σ H Q I hq
  refine wpAny_Tuple_spliced (thn (h pos pins s σ H _ I hq) fun us s1 ⟨xs, H1, I1, r, z, q⟩ => ⟨by rw [← r.length]; exact z, ?_⟩)
  have hf : H1 s1.heap.objs.size = none := I1.hok.fresh (Nat.le_refl _)
  refine ⟨.ref s1.heap.objs.size, upd H1 s1.heap.objs.size (.tup xs), I1.laid (t' := s1.toks) (fun b u e => Heap.get?_push_of_some _ e) (Nat.le_refl _) ?_, rfl, q _ hf⟩
  exact ⟨z, us, r, ⟨_, Heap.get?_push_size _ rfl, rfl, _, rfl⟩⟩
theorem pe_lst (h : PA X es t) : PE X (.List es pos) (tLst t) := by
  intro pins s σ H Q I hq
  refine wpAny_List_spliced (thn (h pos pins s σ H _ I hq) fun us s1 ⟨xs, H1, I1, r, z, q⟩ => ⟨by rw [← r.length]; exact z, ?_⟩)
  have hf : H1 s1.heap.objs.size = none := I1.hok.fresh (Nat.le_refl _)
  refine ⟨.ref s1.heap.objs.size, upd H1 s1.heap.objs.size (.lst xs), I1.laid (t' := s1.toks) (fun b u e => Heap.get?_push_of_some _ e) (Nat.le_refl _) ?_, rfl, q _ hf⟩
  exact ⟨z, us, 0, r, Heap.get?_push_size _ rfl⟩
end
/-- a def's promise: the bound arguments in the parameters' order, the heap, the wanted end, the wanted exception -/
noncomputable abbrev Sp := List V → Hp → VK → XK → Prop
/-- how an exception lies behind a call (file 08 gives it): the callers' frames, abstract heap and state ahead of the call, the wish, the exception, the state -/
noncomputable abbrev CXT := List Env → Hp → Shared → XK → Value → Shared → Prop
/-- the state at a call -/
structure Env0 (P : Program) (w : World) (K : PySem.W.Frag) (mg : Str → Option Value) (base : Heap) (A : Around) (outer : List Env) (s : Shared) (H : Hp) : Prop where
  frames : A.frames = some outer
  mod : Mod K mg base
  bs : ∀ b o, base.get? b = some o → s.heap.get? b = some o ∧ H b = none
  bsz : base.objs.size ≤ s.heap.objs.size
  funs : s.heap.FunFrames base outer
  frf : ∀ b ∈ frs outer, H b = none
  hok : HOk P w H s.heap
  bare : AllBare s.gens
/-- a call's end -/
noncomputable def CE (outer : List Env) (P : Program) (w : World) (H : Hp) (s : Shared) (Q : VK) (u : Value) (s' : Shared) : Prop :=
  ∃ v H', s'.os = s.os ∧ AllBare s'.gens ∧ Un (frs outer) [] H H' s.heap s'.heap ∧ HOk P w H' s'.heap ∧ RelV v u ∧ Q v H'
noncomputable def CR (CX : CXT) (outer : List Env) (P : Program) (w : World) (H : Hp) (s : Shared) (Q : VK) (E : XK) (r : Result) (s' : Shared) : Prop :=
  match r with
  | .ok (.ret u) => CE outer P w H s Q u s'
  | .ok _ => False
  | .error e => CX outer H s E e s'
structure FnOk (P : Program) (w : World) (K : PySem.W.Frag) (mg : Str → Option Value) (base : Heap) (CX : CXT) (k : Nat) (f : Addr) (fd : FuncData) (ps : List Str) (sp : Sp) : Prop where
  len : ∀ vs H Q E, sp vs H Q E → vs.length = ps.length
  run : ∀ (A : Around) (outer : List Env) (s : Shared) (H : Hp) (args : Args) (us : List Value) (vs : List V) (Q : VK) (E : XK), Room k A → Env0 P w K mg base A outer s H → BindsTo s fd args (ps.zip us) → Vals vs us → sp vs H Q E →
    codeAny (model P w) A (.call (.ref f) args) (CR CX outer P w H s Q E) s
theorem FnOk.mono {P : Program} {w : World} {K : PySem.W.Frag} {mg : Str → Option Value} {base : Heap} {CX : CXT} {j k : Nat} {f : Addr} {fd : FuncData} {ps : List Str} {sp : Sp} (F : FnOk P w K mg base CX j f fd ps sp) (h : j ≤ k) :
    FnOk P w K mg base CX k f fd ps sp := ⟨F.len, fun A outer s H args us vs Q E hr => F.run A outer s H args us vs Q E (hr.mono h)⟩
theorem Env0.make {P : Program} {w : World} {K : PySem.W.Frag} {mg : Str → Option Value} {base : Heap} {A : Around} {outer : List Env} {s : Shared} {H : Hp} (e : Env0 P w K mg base A outer s H) (C : Addr) (us : List Value) (kw : List (Str × Value)) :
    Env0 P w K mg base (A.under (.builtin "type.__call__" ⟨.ref C :: us, kw⟩)) outer s H := ⟨by first | exact e.frames | (simpa [Around.under, Code.envs, Code.isFrame, pushEnvs] using e.frames), e.mod, e.bs, e.bsz, e.funs, e.frf, e.hok, e.bare⟩
theorem Env0.in1 {P : Program} {w : World} {K : PySem.W.Frag} {mg : Str → Option Value} {base : Heap} {A : Around} {outer : List Env} {s : Shared} {H : Hp} (e : Env0 P w K mg base A outer s H) :
    Env0 P w K mg base A.in1 outer s H := ⟨e.frames, e.mod, e.bs, e.bsz, e.funs, e.frf, e.hok, e.bare⟩
section
variable {X : Cx} {pins : List (Addr × Obj)} {σ : St} {H : Hp} {s s' : Shared}
/-- from a body: what a callee wants -/
theorem Inv.env0 (I : Inv X pins σ H s) : Env0 X.prog X.w X.K X.mg X.base X.A X.stack s H :=
  ⟨I.ok.frames, I.ok.mod, I.bs, Nat.le_trans I.ok.bsz I.sz, I.stack, I.stkFree, I.hok, I.bare⟩
/-- behind a call -/
theorem Inv.after {Q : VK} {u : Value} (I : Inv X pins σ H s) (h : CE X.stack X.prog X.w H s Q u s') : EP X pins σ Q u s' := by
  obtain ⟨v, H', os, bare, un, hok, r, q⟩ := h
  obtain ⟨hh, g, d, t, os'⟩ := s'
  obtain rfl : os' = s.os := os
  exact ⟨v, H', I.call (h' := hh) (g' := g) (d' := d) (t' := t) (ch := []) un hok bare (fun b z => absurd z (by simp)), r, q⟩
end
/-- how the parameters are bound: us the positional arguments, kw the keywords' values by name, ds the defaults that fill up -/
noncomputable def Binds (K : PySem.W.Frag) (fd : FuncData) (ps : List Str) (ds : List Value) : Prop :=
  ∀ (s : Shared) (us : List Value), K.In s.heap → (us ++ ds).length = ps.length → BindsTo s fd ⟨us, []⟩ (ps.zip (us ++ ds))
/-- every parameter is given -/
theorem Binds.all {K : PySem.W.Frag} {fd : FuncData} {ps : List Str} (h : ∀ us : List Value, us.length = ps.length → bindArgs fd ⟨us, []⟩ = pure (ps.zip us)) : Binds K fd ps [] := fun s us _ hl => by
  rw [List.append_nil] at hl ⊢
  exact .of_eq (h us hl)
section
variable {X : Cx} {CX : CXT} {k : Nat} {f C : Addr} {fd : FuncData} {ps : List Str} {sp : Sp} {dvs : List V} {ds : List Value} {E : XK} {x m : Str} {p pos apos : Pos} {e o : Expr} {es : List Expr} {ta : TE} {t : TA}
/-- what a class must have to be made -/
structure Mk (K : PySem.W.Frag) (C f : Addr) : Prop where
  makes : PySem.W.makesIn K C = true
  init : PySem.W.findIn K (.ref C) "__init__" = some (some (.ref f))
  fn : PySem.W.isFn K (.ref f) = true
  kp : PySem.W.keepIn K (.ref C) = true
end
section
variable {X : Cx} {CX : CXT} {k : Nat} {f C : Addr} {fd : FuncData} {ps ks : List Str} {sp : Sp} {E : XK} {x m : Str} {p pos apos kpos : Pos} {e o : Expr} {es : List Expr} {kws : List Keyword} {te ta : TE} {t tk : TA} {nm : Option Str}
variable {g : List Value → List Value → List Value} {gV : List V → List V → List V}
end
/-- names: the parameters first -/
structure FnScope (N P : List Str) (sc : Scope) : Prop where
  kind : sc.kind = .function
  co : sc.isCoroutine = false
  gen : sc.isGenerator = false
  nd : N.Nodup
  pre : N.take P.length = P
  par : ∀ x ∈ P, sc.names.lookup x = some .local ∨ sc.names.lookup x = some .cell
  nofree : ∀ y ∈ sc.names, y.2 ≠ .free
theorem bindL_out {kindOf : Str → Option NameKind} {x : Str} : ∀ {binds : List (Str × Value)} {m : Str → Option Value}, (∀ v, (x, v) ∉ binds) → bindL kindOf binds m x = m x
  | [], _, _ => rfl
  | (n, v) :: r, m, h => by
    unfold bindL
    rw [bindL_out fun w hw => h w (List.mem_cons_of_mem _ hw)]
    split
    · have : x ≠ n := by rintro rfl; exact h v List.mem_cons_self
      simp [this]
    · rfl
theorem bindC_out {kindOf : Str → Option NameKind} {x : Str} : ∀ {binds : List (Str × Value)} {m : Str → Option Value}, (∀ v, (x, v) ∉ binds) → bindC kindOf binds m x = m x
  | [], _, _ => rfl
  | (n, v) :: r, m, h => by
    unfold bindC
    rw [bindC_out fun w hw => h w (List.mem_cons_of_mem _ hw)]
    split
    · rfl
    · have : x ≠ n := by rintro rfl; exact h v List.mem_cons_self
      simp [this]
theorem bindL_get {kindOf : Str → Option NameKind} {x : Str} {v : Value} : ∀ {P : List Str} {vs : List Value} {i : Nat} {m : Str → Option Value}, P.Nodup → P[i]? = some x → vs[i]? = some v → kindOf x = some .local →
    bindL kindOf (P.zip vs) m x = some v
  | [], _, _, _, _, h, _, _ => by simp at h
  | _ :: _, [], _, _, _, _, h, _ => by simp at h
  | p :: P, w :: vs, 0, m, nd, h1, h2, hk => by
    simp at h1 h2; subst h1; subst h2
    show bindL kindOf ((p, w) :: P.zip vs) m p = _
    unfold bindL
    rw [bindL_out fun v hv => (List.nodup_cons.mp nd).1 (List.of_mem_zip hv).1, if_pos hk]
    simp
  | p :: P, w :: vs, i + 1, m, nd, h1, h2, hk => by
    show bindL kindOf ((p, w) :: P.zip vs) m x = _
    unfold bindL
    exact bindL_get (i := i) (List.nodup_cons.mp nd).2 (by simpa using h1) (by simpa using h2) hk
theorem bindC_get {kindOf : Str → Option NameKind} {x : Str} {v : Value} : ∀ {P : List Str} {vs : List Value} {i : Nat} {m : Str → Option Value}, P.Nodup → P[i]? = some x → vs[i]? = some v → kindOf x ≠ some .local →
    bindC kindOf (P.zip vs) m x = some v
  | [], _, _, _, _, h, _, _ => by simp at h
  | _ :: _, [], _, _, _, _, h, _ => by simp at h
  | p :: P, w :: vs, 0, m, nd, h1, h2, hk => by
    simp at h1 h2; subst h1; subst h2
    show bindC kindOf ((p, w) :: P.zip vs) m p = _
    unfold bindC
    rw [bindC_out fun v hv => (List.nodup_cons.mp nd).1 (List.of_mem_zip hv).1, if_neg hk]
    simp
  | p :: P, w :: vs, i + 1, m, nd, h1, h2, hk => by
    show bindC kindOf ((p, w) :: P.zip vs) m x = _
    unfold bindC
    exact bindC_get (i := i) (List.nodup_cons.mp nd).2 (by simpa using h1) (by simpa using h2) hk
/-- the names' values at the entry -/
noncomputable def start (N : List Str) (vs : List V) : St := vs.map some ++ List.replicate (N.length - vs.length) none
/-- the context of a def's body, at its entry; an exception leaves the frame, then lies as CX says -/
noncomputable def cxOf (CX : CXT) (P : Program) (w : World) (K : PySem.W.Frag) (mg : Str → Option Value) (base : Heap) (N : List Str) (qual : Str) (scope : Scope) (f : Addr) (cd : Value) (A : Around) (outer : List Env) (s : Shared) (H : Hp) (E : XK) : Cx where
  prog := P
  w := w
  K := K
  mg := mg
  base := base
  A := A.deeper (envOfC qual scope s.heap.objs.size f cd)
  N := N
  s₀ := s
  H₀ := H
  env := envOfC qual scope s.heap.objs.size f cd
  outer := outer
  stack := envOfC qual scope s.heap.objs.size f cd :: outer
  ex := []
  calm := true
  fn := fun _ => true
  pn := []
  xe := fun e s' => wpAny (model P w) (A.deeper (envOfC qual scope s.heap.objs.size f cd)) (leaving (envOfC qual scope s.heap.objs.size f cd) e) (fun _ s'' => CX outer H s E e s'') (fun e' s'' => CX outer H s E e' s'') s'
theorem cell_has {sc : Scope} {n : Nat} {x : Str} (h : sc.names.lookup x = some .cell) : ∃ c, (cellsFrom n sc.names []).lookup x = some c := by
  have q := PySem.W.cellsFrom_some sc.names n [] (.inl h)
  exact Option.isSome_iff_exists.mp q
theorem inv_start {CX : CXT} {P : Program} {w : World} {K : PySem.W.Frag} {mg : Str → Option Value} {base : Heap} {N ps : List Str} {qual : Str} {scope : Scope} {f : Addr} {cd : Value} {A : Around} {outer : List Env} {s s1 : Shared} {H : Hp} {E : XK} {us : List Value} {vs : List V}
    (S : FnScope N ps scope) (hd : A.handled = none) (e0 : Env0 P w K mg base A outer s H) (hl : vs.length = ps.length) (r : Vals vs us)
    (x : InCallC s s.heap.objs.size (bindL (envOfC qual scope s.heap.objs.size f cd).kindOf (ps.zip us) fun _ => none) (cellsFrom (s.heap.objs.size + 1) scope.names []) (bindC (envOfC qual scope s.heap.objs.size f cd).kindOf (ps.zip us) fun _ => none) s1) :
    Inv (cxOf CX P w K mg base N qual scope f cd A outer s H E) [] (start N vs) H s1 := by
  have hpl : ps.length ≤ N.length := by have := congrArg List.length S.pre; rw [List.length_take] at this; omega
  obtain ⟨h1, tk, rfl, hk⟩ := x.done
  have noA : ∀ b : Addr, b ∉ (cxOf CX P w K mg base N qual scope f cd A outer s H E).ex := fun b z => absurd (show b ∈ ([] : List Addr) from z) (by simp)
  refine ⟨⟨e0.mod, S.kind, rfl, rfl, Nat.le_refl _, fun y z c h1 h2 => ?_, fun y hy => ?_, fun y c _ h => ?_, fun _ => hd, Around.frames_deeper e0.frames, .inr ⟨rfl, rfl⟩, fun b z => absurd z (noA b), e0.bs, e0.bsz, fun b _ _ => noA b, fun b z => absurd z (noA b), e0.funs, e0.frf⟩,
    rfl, e0.bare, Un.kept hk, ⟨_, x.toInCall.ns, fun i y v h1 h2 h3 => ?_⟩, fun y c h => ⟨_, x.cell y c h⟩, e0.hok.fresh (Nat.le_refl _), fun y c h => ?_, fun p hp => absurd (show p ∈ ([] : List (Addr × Obj)) from hp) (by simp), e0.hok.kept hk, ?_⟩
  · exact name_of_addr x.apart (PySem.mem_of_lookup h1) (PySem.mem_of_lookup h2)
  · have hy : scope.names.lookup y = some .cell ∨ scope.names.lookup y = some .free := hy
    rcases hy with hy | hy
    · exact cell_has hy
    · exact absurd rfl (S.nofree _ (PySem.mem_of_lookup hy))
  · exact Nat.le_of_lt (x.above y c (PySem.mem_of_lookup h))
  · have hi : i < vs.length := by
      unfold start at h2
      by_cases hi : i < vs.length
      · exact hi
      · rw [List.getElem?_append_right (by simpa using hi)] at h2
        rw [List.getElem?_replicate] at h2
        split at h2 <;> cases h2
    have ha : vs[i]? = some v := by
      unfold start at h2
      rw [List.getElem?_append_left (by simpa using hi), List.getElem?_map] at h2
      cases e : vs[i]? with
      | none => rw [e] at h2; cases h2
      | some a => rw [e] at h2; cases h2; rfl
    obtain ⟨u, hu, rv⟩ := r.get ha
    have hp : ps[i]? = some y := by
      rw [← S.pre, List.getElem?_take_of_lt (by omega)]; exact h1
    have ndP : ps.Nodup := by rw [← S.pre]; exact S.nd.sublist (List.take_sublist _ _)
    refine ⟨u, rv, ?_⟩
    rcases S.par y (List.mem_of_getElem? hp) with k | k
    · exact .inl ⟨k, bindL_get ndP hp hu k⟩
    · obtain ⟨c, e⟩ := cell_has (n := s.heap.objs.size + 1) k
      refine .inr ⟨.inl k, c, e, ?_⟩
      have q := x.cell y c e
      rw [bindC_get ndP hp hu (by show scope.names.lookup y ≠ _; rw [k]; decide)] at q
      exact q
  · exact e0.hok.fresh (Nat.le_of_lt (x.above y c (PySem.mem_of_lookup h)))
  · unfold start
    show _ = N.length
    rw [List.length_append, List.length_map, List.length_replicate]
    omega
/-- THE RULE: a def (or a method) of the text, by its body. The body's reading t is chosen for each entry; it is run at the parameters' values -/
theorem fn_of {CX : CXT} {P : Program} {w : World} {K : PySem.W.Frag} {mg : Str → Option Value} {base : Heap} {k : Nat} {f : Addr} {name qual : Str} {params : Arguments} {body : List Stmt} {scope : Scope} {dV kV doc pm cdv ct oc : Value} {an od : Option Addr}
    {osl : Array (Option Value)} {N ps : List Str} {sp : Sp} (lk : K.lookup f = some ⟨oc, od, .func (PySem.W.fnOf name qual params body scope dV kV doc pm an cdv ct), osl⟩) (hcd : PySem.W.codeIn K cdv qual = true) (S : FnScope N ps scope)
    (len : ∀ vs H Q E, sp vs H Q E → vs.length = ps.length)
    (hbody : ∀ (A : Around) (outer : List Env) (s : Shared) (H : Hp) (vs : List V) (Q : VK) (E : XK), Room k (A.deeper (envOfC qual scope s.heap.objs.size f cdv)) → sp vs H Q E →
      ∃ t, PSs (cxOf CX P w K mg base N qual scope f cdv A outer s H E) body t ∧ t { nx := fun _ H' => Q .non H', rt := Q } (start N vs) H) :
    FnOk P w K mg base CX (k + 1) f (PySem.W.fnOf name qual params body scope dV kV doc pm an cdv ct) ps sp := by
  refine ⟨len, fun A outer s H args us vs Q E hr e0 hb r hsp => ?_⟩
  have hl := len _ _ _ _ hsp
  have KX : K.In s.heap := e0.mod.kin.keeps fun b o e => (e0.bs b o e).1
  have lim : s.heap.NoLimit := e0.mod.nolimit.keeps fun b o e => (e0.bs b o e).1
  have hkind : ∀ y ∈ ps.zip us, scope.names.lookup y.1 = some .local ∨ (scope.names.lookup y.1 = some .cell ∧ ((cellsFrom (s.heap.objs.size + 1) scope.names []).lookup y.1).isSome = true) := by
    rintro ⟨n, v⟩ hy
    rcases S.par n (List.of_mem_zip hy).1 with q | q
    · exact .inl q
    · exact .inr ⟨q, PySem.W.cellsFrom_some _ _ _ (.inl q)⟩
  refine codeAny_call_function hr.depth (KX _ _ lk) rfl S.co S.gen rfl (PySem.W.codeRec_of KX hcd) (hb _ _ _ _ ?_)
  refine wpAny_newFunctionEnv_cells S.kind hkind fun env he s1 x => ?_
  subst he
  refine ⟨lim.keeps x.toInCall.keep, codeAny_func ?_⟩
  obtain ⟨t, ht, hq⟩ := hbody A outer s H vs Q E (hr.deeper _) hsp
  have I : Inv (cxOf CX P w K mg base N qual scope f cdv A outer s H E) [] (start N vs) H s1 := inv_start S hr.hd e0 hl r x
  refine wpAny_mono (ht [] s1 (start N vs) H _ I hq) (fun fl s' hs => ?_) fun e s' hs => hs
  have fin : ∀ {σ' : St} {H' : Hp} {v : V} {u : Value}, Inv (cxOf CX P w K mg base N qual scope f cdv A outer s H E) [] σ' H' s' → RelV v u → Q v H' → CE outer P w H s Q u s' :=
    fun {σ' H' v u} J rv q => ⟨v, H', J.os, J.bare, J.base, J.hok, rv, q⟩
  cases fl with
  | ret u =>
    obtain ⟨v, σ', H', J, rv, q⟩ := hs
    exact fin J rv q
  | next =>
    obtain ⟨σ', H', J, q⟩ := hs
    exact fin (v := V.non) (u := Value.none) J rfl q
  | brk =>
    obtain ⟨_, _, _, q⟩ := hs
    exact False.elim q
  | cont =>
    obtain ⟨_, _, _, q⟩ := hs
    exact False.elim q
end L2
namespace L2
open PySem PySem.Spec PyProof.Rows
section
variable {X : Cx} {x : Str} {p pos : Pos} {e : Expr} {es : List Expr} {t : TA} {id T : String} {r : List V → Hp → VK → Prop}
noncomputable def tCB (r : List V → Hp → VK → Prop) (t : TA) : TE := fun σ H Q => t σ H fun vs H1 => r vs H1 Q
/-- f(e, ..), f a built-in function -/
theorem pe_callB (hc : CallR X (.builtin id) r) (hg : Gl X x) (hm : X.mg x = none) (hv : bootBuiltins x = some (.builtin id)) (ha : PA X (e :: es) t) (hn : x ≠ "__name__" := by decide) (hdb : (x == ("__debug__" : Str)) = false := by decide)
    (he : starEach (e :: es) X.env = (false, eval e X.env) :: starEach es X.env := by rfl) (hpl : (backTo pos (starEach es X.env)).any (·.1) = false := by rfl) : PE X (.Call (.Name x p) (e :: es) [] pos) (tCB r t) := by
  intro pins s σ H Q I h
  refine wpAny_Call_Name_kw (ld_blt I hg hm hv ?_ hn hdb)
  exact PyProof.Rows.callWith_builtin1 (thn (ha pos pins s σ H _ I h) (by rintro us s1 ⟨vs, H1, I1, r1, q1⟩; exact hc pins s1 σ H1 vs us Q I1 r1 q1)) he hpl
/-- T(e, ..), T a built-in type -/
theorem pe_callTy (hc : CallR X (.type T) r) (hg : Gl X x) (hm : X.mg x = none) (hv : bootBuiltins x = some (.type T)) (ha : PA X (e :: es) t) (hn : x ≠ "__name__" := by decide) (hdb : (x == ("__debug__" : Str)) = false := by decide)
    (he : starEach (e :: es) X.env = (false, eval e X.env) :: starEach es X.env := by rfl) (hpl : (backTo pos (starEach es X.env)).any (·.1) = false := by rfl) : PE X (.Call (.Name x p) (e :: es) [] pos) (tCB r t) := by
  intro pins s σ H Q I h
  refine wpAny_Call_Name_kw (ld_blt I hg hm hv ?_ hn hdb)
  exact PyProof.Rows.callWith_type1 (thn (ha pos pins s σ H _ I h) (by rintro us s1 ⟨vs, H1, I1, r1, q1⟩; exact hc pins s1 σ H1 vs us Q I1 r1 q1)) he hpl
end
end L2
namespace HT
open PySem PyProof.Rows
section
open PySem.SeqAt
open PySem.AutoSeq1 (wpAny_loadPart')
open PySem.MeetsSeq PySem.MeetsSeq2 PySem.MeetsSeq3
end
section
variable {prog : Program} {w : World} {A : Around} {E : Value → Shared → Prop} {s : Shared}
/-- t + u, t not empty -/
theorem cat_tup {t b : Addr} {vs ws : List Value} {Q : Value → Shared → Prop} (ht : IsTup s.heap t vs.toArray) (hb : IsTup s.heap b ws.toArray) (hv : vs ≠ [])
    (h1 : ws = [] → Q (.ref t) s) (h2 : ws ≠ [] → Q (.ref s.heap.objs.size) { s with heap := s.heap.push { cls := .type "tuple", data := .seq (vs ++ ws).toArray } })
    (hsz : vs.length + ws.length ≤ sizeLine) : wpAny (model prog w) A (binaryOp .Add (.ref t) (.ref b)) Q E s := by
  obtain ⟨⟨cls, dd, data, sl⟩, ho, hc, n, hd⟩ := id ht
  obtain ⟨⟨cls2, dd2, data2, sl2⟩, ho2, hc2, n2, hd2⟩ := id hb
  simp only at hc hd hc2 hd2
  subst hc hd hc2 hd2
  have e : vs.toArray ++ ws.toArray = (vs ++ ws).toArray := by simp
  by_cases hw : ws = []
  · exact concat_meets ⟨_, ho, rfl⟩ ⟨_, ho2, rfl⟩ noFill_tuple_add seq_tuple_add PySem.F.slot_tuple_add PySem.F.entry_tuple_add (PySem.F.args_tuple_add_2 _ _)
      (tuple_addW1 t b vs.toArray ws.toArray n n2 dd dd2 sl sl2 (by simpa using hv) (by simp [hw])) ⟨ho, ho2, h1 hw⟩
  · refine concat_meets ⟨_, ho, rfl⟩ ⟨_, ho2, rfl⟩ noFill_tuple_add seq_tuple_add PySem.F.slot_tuple_add PySem.F.entry_tuple_add (PySem.F.args_tuple_add_2 _ _)
      (tuple_addW2 t b vs.toArray ws.toArray n n2 dd dd2 sl sl2 (by simpa using hv) (by simpa using hw) (by rw [List.size_toArray, List.size_toArray]; exact hsz)) ⟨ho, ho2, ?_⟩
    rw [e]
    exact h2 hw
/-- a slice's bound as a place among n (d where it is left out) -/
noncomputable def sIx (n d : Nat) : Option Int → Nat
  | none => d
  | some v => if v < 0 then (v + (n : Int)).toNat else min v.toNat n
theorem sIx_none (n d : Nat) : sIx n d none = d := rfl
theorem sIx_nat (n d k : Nat) : sIx n d (some (k : Int)) = min k n := by
  show (if (k : Int) < 0 then ((k : Int) + (n : Int)).toNat else min (k : Int).toNat n) = min k n
  rw [if_neg (by omega), Int.toNat_natCast]
theorem sIx_le (n d : Nat) (hd : d ≤ n) (o : Option Int) : sIx n d o ≤ n := by
  cases o with
  | none => exact hd
  | some v =>
    show (if v < 0 then (v + (n : Int)).toNat else min v.toNat n) ≤ n
    by_cases hv : v < 0
    · rw [if_pos hv]; omega
    · rw [if_neg hv]; exact Nat.min_le_right _ _
theorem clip_eq (v : Int) (n d : Nat) : (if v < 0 then max (v + (n : Int)) 0 else min v (n : Int)) = ((sIx n d (some v) : Nat) : Int) := by
  show (if v < 0 then max (v + (n : Int)) 0 else min v (n : Int)) = (((if v < 0 then (v + (n : Int)).toNat else min v.toNat n) : Nat) : Int)
  by_cases hv : v < 0
  · simp only [if_pos hv]; omega
  · simp only [if_neg hv]; omega
theorem adjust_gen (lo hi : Option Int) (n : Nat) : Builtin.Slice.sliceAdjust lo hi 1 (n : Int) = (((sIx n 0 lo : Nat) : Int), ((sIx n n hi : Nat) : Int)) := by
  have h1 : ¬ ((1 : Int) < 0) := by omega
  unfold Builtin.Slice.sliceAdjust
  simp only [h1, if_false]
  refine Prod.ext ?_ ?_
  · cases lo with
    | none => rfl
    | some v => exact clip_eq v n 0
  · cases hi with
    | none => rfl
    | some v => exact clip_eq v n n
theorem places_gen (i j : Nat) : Builtin.Slice.slicePlaces (i : Int) (j : Int) 1 = j - i := by
  unfold Builtin.Slice.slicePlaces
  have h1 : (1 : Int) > 0 := by omega
  simp only [h1, if_true, Int.ediv_one]
  split <;> omega
theorem slicePart_ {v : Value} {o : Option Int} {Q : Option Int → Shared → Prop} (p : IsPart v o) (h : Q o s) : wpAny (model prog w) A (Builtin.Slice.slicePartIndex v) Q E s := by
  cases p with
  | none => exact slicePart_none h
  | int i t => exact slicePart_int h
theorem sliceApplied_gen {sl : Addr} {vl vu : Value} {lo hi : Option Int} {n : Nat} {Q : Int × Int × Nat → Shared → Prop} (hs : s.heap.IsSliceOf sl vl vu .none) (pl : IsPart vl lo) (pu : IsPart vu hi)
    (h : Q (((sIx n 0 lo : Nat) : Int), 1, sIx n n hi - sIx n 0 lo) s) : wpAny (model prog w) A (Builtin.Slice.sliceApplied (.ref sl) (pure (n : Int))) Q E s := by
  obtain ⟨os, hos, hcs, hds⟩ := id hs
  unfold Builtin.Slice.sliceApplied Builtin.Slice.sliceFields
  refine wpAny_bind (wpAny_bind (wpAny_field hos hds (x := vl) rfl (wpAny_bind (wpAny_field hos hds (x := vu) rfl (wpAny_bind (wpAny_field hos hds (x := .none) rfl (wpAny_pure ?_)))))))
  refine wpAny_bind (slicePart_none ?_)
  show wpAny _ _ (if ((1 : Int) == 0) = true then _ else _) _ _ s
  rw [if_neg (by decide)]
  refine wpAny_bind (slicePart_ pl (wpAny_bind (slicePart_ pu (wpAny_bind (wpAny_pure ?_)))))
  show wpAny _ _ (match Builtin.Slice.sliceAdjust lo hi 1 (n : Int) with | (lo, hi) => pure (lo, (1 : Int), Builtin.Slice.slicePlaces lo hi 1)) _ _ s
  rw [adjust_gen lo hi n]
  show wpAny _ _ (pure (((sIx n 0 lo : Nat) : Int), (1 : Int), Builtin.Slice.slicePlaces ((sIx n 0 lo : Nat) : Int) ((sIx n n hi : Nat) : Int) 1)) _ _ s
  rw [places_gen]
  exact wpAny_pure h
theorem pick_gen (xs : Array Value) (i k : Nat) : ((List.range k).filterMap fun (m : Nat) => xs[((i : Int) + (m : Int) * 1).toNat]?).toArray = ((xs.toList.drop i).take k).toArray := by
  have e : (fun (m : Nat) => xs[((i : Int) + (m : Int) * 1).toNat]?) = fun m => xs[i + m]? := by
    funext m
    have : ((i : Int) + (m : Int) * 1).toNat = i + m := by omega
    rw [this]
  rw [e]
  have := pick_run xs i k
  rw [List.filterMap_map] at this
  have e2 : ((fun x => xs[x]?) ∘ fun x => i + x) = fun m => xs[i + m]? := rfl
  rw [e2] at this
  rw [this]
theorem getItem_tuple_cut {t sl : Addr} {items : Array Value} {vl vu : Value} {lo hi : Option Int} {Q : Value → Shared → Prop} (ht : IsTup s.heap t items) (hs : s.heap.IsSliceOf sl vl vu .none) (pl : IsPart vl lo) (pu : IsPart vu hi)
    (hw : ¬ (sIx items.size 0 lo = 0 ∧ sIx items.size items.size hi = items.size))
    (h : Q (.ref s.heap.objs.size) { s with heap := s.heap.push { cls := .type "tuple", data := .seq ((items.toList.drop (sIx items.size 0 lo)).take (sIx items.size items.size hi - sIx items.size 0 lo)).toArray } })
    (hsz : items.size ≤ sizeLine) : wpAny (model prog w) A (getItem (.ref t) (.ref sl)) Q E s := by
  have htake : sizeOk (.seq ((items.toList.drop (sIx items.size 0 lo)).take (sIx items.size items.size hi - sIx items.size 0 lo)).toArray) := by
    show ((items.toList.drop (sIx items.size 0 lo)).take (sIx items.size items.size hi - sIx items.size 0 lo)).toArray.size ≤ sizeLine
    rw [List.size_toArray, List.length_take, List.length_drop, Array.length_toList]
    omega
  have hj : sIx items.size items.size hi ≤ items.size := sIx_le _ _ (Nat.le_refl _) hi
  obtain ⟨os, hos, hcs, hds⟩ := id hs
  have hTs : s.TypeIs (.ref sl) "slice" := ⟨os, hos, hcs⟩
  unfold getItem
  try with_reducible refine wpAny_holding ?_
  first | refine wpAny_bind (wpAny_pure ?_) | skip
  refine wpAny_bind (wpAny_sequenceKey ht.typeIs (by decide) ?_)
  refine wpAny_bind (wpAny_callSpecial?_slot (name := Str.ofString "__getitem__") ht.typeIs PyProof.Rows.slot_tuple_getitem
    (wpAny_call_entry PyProof.Rows.slot_tuple_getitem ht.typeIs entry_tuple_getitem ?_ (args_tuple_getitem _ _)))
  show wpAny _ _ (Builtin.Tuple.tupleItemsOf (.ref t) >>= _) _ _ s
  refine wpAny_bind (tupleItemsOf_ ht ?_)
  refine wpAny_bind (wpAny_typeOf hTs ?_)
  rw [if_pos (by decide)]
  refine wpAny_bind (sliceApplied_gen hs pl pu ?_)
  have hno : ¬ ((((sIx items.size 0 lo : Nat) : Int) == 0 && (1 : Int) == 1 && (sIx items.size items.size hi - sIx items.size 0 lo) == items.size) = true) := by
    intro q
    rw [Bool.and_eq_true, Bool.and_eq_true] at q
    have q1 : ((sIx items.size 0 lo : Nat) : Int) = 0 := eq_of_beq q.1.1
    have q2 : sIx items.size items.size hi - sIx items.size 0 lo = items.size := eq_of_beq q.2
    exact hw ⟨by omega, by omega⟩
  show wpAny _ _ (if (((sIx items.size 0 lo : Nat) : Int) == 0 && (1 : Int) == 1 && (sIx items.size items.size hi - sIx items.size 0 lo) == items.size) = true then _ else _) _ _ s
  rw [if_neg hno, pick_gen]
  first
    | exact wpAny_bind (m := Builtin.Tuple.tupleExact _) (wpAny_newObj_type (wpAny_pure ⟨_, rfl, wpAny_pure h⟩) htake)
    | exact wpAny_bind (m := Builtin.Tuple.tupleExact _) (wpAny_newObj_type (wpAny_bind (wpAny_pure (wpAny_pure ⟨_, rfl, wpAny_pure h⟩))) htake)
    | exact wpAny_bind (wpAny_bind (m := Builtin.Tuple.tupleExact _) (wpAny_newObj_type (wpAny_pure (wpAny_pure ⟨_, rfl, wpAny_pure h⟩)) htake))
    | exact wpAny_bind (wpAny_bind (m := Builtin.Tuple.tupleExact _) (wpAny_newObj_type (wpAny_pure ⟨_, rfl, wpAny_pure h⟩) htake))
end
end HT
namespace L2
open PySem PySem.Spec PyProof.Rows
noncomputable abbrev TO := St → Hp → (Option Int → Hp → Prop) → Prop
/-- a slice's part (left out, or an int) -/
noncomputable def PO (X : Cx) (e : Option Expr) (t : TO) : Prop :=
  ∀ (pins : List (Addr × Obj)) (s : Shared) (σ : St) (H : Hp) (Q : Option Int → Hp → Prop), Inv X pins σ H s → t σ H Q →
    wpAny (model X.prog X.w) X.A (evalPart e X.env) (fun u s' => ∃ o H', Inv X pins σ H' s' ∧ IsPart u o ∧ Q o H') X.xe s
noncomputable def tNoPart : TO := fun _ H Q => Q none H
noncomputable def tPart (t : TE) : TO := fun σ H Q => t σ H fun x H1 => ∃ i, x = .int i ∧ Q (some i) H1
section
variable {X : Cx} {e : Expr} {te : TE} {lo hi : Option Expr} {tl th : TO} {pos p2 : Pos}
theorem po_none : PO X none tNoPart := by
  intro pins s σ H Q I h
  rw [evalPart_none]
  exact wpAny_pure ⟨none, H, I, .none, h⟩
theorem po_some (h : PE X e te) : PO X (some e) (tPart te) := by
  intro pins s σ H Q I hw
  rw [evalPart_some]
  refine thn (h pins s σ H _ I hw) fun u s1 zz48 => ?_
  obtain ⟨x, H1, I1, r1, q1⟩ := zz48
  obtain ⟨i, rfl, q⟩ := q1
  obtain ⟨t, rfl⟩ := r1
  exact ⟨some i, H1, I1, .int i t, q⟩
/-- what a slice of a value is, by values: the slice object stands at sl -/
noncomputable def SlR (X : Cx) (r : V → Option Int → Option Int → Hp → VK → Prop) : Prop :=
  ∀ (pins : List (Addr × Obj)) (s : Shared) (σ : St) (H : Hp) (x : V) (v vl vu : Value) (lo hi : Option Int) (sl : Addr) (Q : VK), Inv X pins σ H s → RelV x v → s.heap.IsSliceOf sl vl vu .none → IsPart vl lo → IsPart vu hi → r x lo hi H Q →
    ∃ T id, typeLookup (.type T) "__getitem__" = pure (some (.builtin id)) ∧ s.TypeIs v T ∧ wpAny (model X.prog X.w) X.A (getItem v (.ref sl)) (EP X pins σ Q) X.xe s
theorem SlR.or {r r' : V → Option Int → Option Int → Hp → VK → Prop} (h : SlR X r) (h' : SlR X r') : SlR X (fun x lo hi H Q => r x lo hi H Q ∨ r' x lo hi H Q) := by
  intro pins s σ H x v vl vu lo hi sl Q I rx hs pl pu q
  rcases q with q | q
  · exact h pins s σ H x v vl vu lo hi sl Q I rx hs pl pu q
  · exact h' pins s σ H x v vl vu lo hi sl Q I rx hs pl pu q
noncomputable def tSl (r : V → Option Int → Option Int → Hp → VK → Prop) (te : TE) (tl th : TO) : TE := fun σ H Q => te σ H fun x H1 => tl σ H1 fun l H2 => th σ H2 fun u H3 => r x l u H3 Q
/-- a[lo:hi], any a -/
theorem pe_slice {r : V → Option Int → Option Int → Hp → VK → Prop} (hr : SlR X r) (he : PE X e te) (hl : PO X lo tl) (hu : PO X hi th) : PE X (.Subscript e (.Slice lo hi none p2) pos) (tSl r te tl th) := by
  intro pins s σ H Q I h
  refine Subscript_ (thn (he pins s σ H _ I h) fun v s1 zz49 => ?_)
  obtain ⟨x, H1, I1, r1, q1⟩ := zz49
  refine wpAny_Slice (thn (hl pins s1 σ H1 _ I1 q1) fun vl s2 ⟨l, H2, I2, pl, q2⟩ => thn (hu pins s2 σ H2 _ I2 q2) fun vu s3 ⟨u, H3, I3, pu, q3⟩ => ?_)
  rw [evalPart_none]
  refine wpAny_pure ?_
  have I4 : Inv X pins σ H3 { s3 with heap := s3.heap.push { cls := .type "slice", data := .fields #[vl, vu, .none] } } := I3.kept (t' := s3.toks) fun b ob q => Heap.get?_push_of_some _ q
  obtain ⟨T, id, hT, ht, hg⟩ := hr pins { s3 with heap := s3.heap.push { cls := .type "slice", data := .fields #[vl, vu, .none] } } σ H3 x v vl vu l u s3.heap.objs.size Q I4 r1 (Heap.IsSliceOf.new ..) pl pu q3
  show wpAny (model X.prog X.w) X.A (subscriptTail e (.Slice lo hi none p2) v (.ref s3.heap.objs.size)) (EP X pins σ Q) X.xe { s3 with heap := s3.heap.push { cls := .type "slice", data := .fields #[vl, vu, .none] } }
  exact tail_any (ops := [.ref s3.heap.objs.size, v]) ht hT hg (by with_unfolding_all rfl)
/-- the items of xs[lo:hi] -/
noncomputable def cutV (xs : List V) (lo hi : Option Int) : List V := (xs.drop (HT.sIx xs.length 0 lo)).take (HT.sIx xs.length xs.length hi - HT.sIx xs.length 0 lo)
theorem cutV_length (xs : List V) (lo hi : Option Int) : (cutV xs lo hi).length ≤ xs.length := by
  unfold cutV
  rw [List.length_take, List.length_drop]
  omega
/-- t[lo:hi], not the whole of it (the whole would be t itself) -/
noncomputable def rSlT (K : PySem.W.Frag) : V → Option Int → Option Int → Hp → VK → Prop := fun x lo hi H Q => ∃ a xs, x = .ref a ∧ SqT K H a xs ∧
  ¬ (HT.sIx xs.length 0 lo = 0 ∧ HT.sIx xs.length xs.length hi = xs.length) ∧ ∀ p, H p = none → Q (.ref p) (upd H p (.tup (cutV xs lo hi)))
theorem sl_tup : SlR X (rSlT X.K) := by
  intro pins s σ H x v vl vu lo hi sl Q I rx hs pl pu h
  obtain ⟨a, xs, rfl, hx, hw, q⟩ := h
  cases rx
  obtain ⟨its, r, ht, hz⟩ := I.tuple hx
  have hlen : its.toArray.size = xs.length := by rw [List.size_toArray]; exact r.length.symm
  refine ⟨"tuple", _, PyProof.Rows.slot_tuple_getitem.lookup, ht.typeIs, ?_⟩
  refine HT.getItem_tuple_cut ht hs pl pu (by rw [hlen]; exact hw) ?_ (by rw [hlen]; exact hz)
  rw [hlen]
  refine ⟨.ref s.heap.objs.size, _, I.laid (t' := s.toks) (o := .tup (cutV xs lo hi)) (fun b ob q => Heap.get?_push_of_some _ q) (Nat.le_refl _) ?_, rfl, q _ (I.hok.fresh (Nat.le_refl _))⟩
  exact ⟨Nat.le_trans (cutV_length xs lo hi) hz, _, (r.drop (HT.sIx xs.length 0 lo)).take (HT.sIx xs.length xs.length hi - HT.sIx xs.length 0 lo), IsTup.new _ _⟩
/-- t + u, t not empty: u empty gives t itself -/
noncomputable def rCatT (K : PySem.W.Frag) : R2 := fun x y H Q => ∃ a b xs ys, x = .ref a ∧ y = .ref b ∧ SqT K H a xs ∧ SqT K H b ys ∧ xs ≠ [] ∧ xs.length + ys.length ≤ sizeLine ∧
  (ys = [] → Q (.ref a) H) ∧ (ys ≠ [] → ∀ p, H p = none → Q (.ref p) (upd H p (.tup (xs ++ ys))))
theorem Vals.nil_iff {xs : List V} {us : List Value} (r : Vals xs us) : us = [] ↔ xs = [] := by
  cases r with
  | nil => simp
  | cons _ _ => simp
theorem op_catT : OpR X (binaryOp .Add) (rCatT X.K) := by
  intro pins s σ H x y v u Q I rx ry h
  obtain ⟨a, b, xs, ys, rfl, rfl, ha, hb, hx, hz, q1, q2⟩ := h
  cases rx
  cases ry
  obtain ⟨its, r1, p1, _⟩ := I.tuple ha
  obtain ⟨its2, r2, p2, _⟩ := I.tuple hb
  refine HT.cat_tup p1 p2 (fun z => hx (r1.nil_iff.mp z)) (fun z => ⟨.ref a, H, I, rfl, q1 (r2.nil_iff.mp z)⟩) (fun z => ?_) (by rw [← r1.length, ← r2.length]; exact hz)
  refine ⟨.ref s.heap.objs.size, _, I.laid (t' := s.toks) (o := .tup (xs ++ ys)) (fun b ob q => Heap.get?_push_of_some _ q) (Nat.le_refl _) ?_, rfl, q2 (fun w => z (r2.nil_iff.mpr w)) _ (I.hok.fresh (Nat.le_refl _))⟩
  exact ⟨by rw [List.length_append]; exact hz, _, r1.append r2, IsTup.new _ _⟩
end
end L2
namespace L2
open PySem PySem.Spec PyProof.Rows
/-- the place that an index of any sign means -/
noncomputable def ixN (n : Nat) (i : Int) : Option Nat := if 0 ≤ i then (if i < n then some i.toNat else none) else if -(n : Int) ≤ i then some (i + n).toNat else none
noncomputable def atI {α : Type} (xs : List α) (i : Int) : Option α := (ixN xs.length i).bind fun j => xs[j]?
theorem ixN_seq {n : Nat} {i : Int} {j : Nat} (h : ixN n i = some j) : seqIndex? i n = some j ∧ j < n ∧ -(n : Int) ≤ i ∧ i < n := by
  unfold ixN at h
  by_cases h0 : 0 ≤ i
  · rw [if_pos h0] at h
    by_cases h1 : i < n
    · rw [if_pos h1] at h
      have e : i.toNat = j := Option.some.inj h
      exact ⟨by rw [seqIndex_of h0 h1, e], by omega, by omega, h1⟩
    · rw [if_neg h1] at h; cases h
  · rw [if_neg h0] at h
    by_cases h1 : -(n : Int) ≤ i
    · rw [if_pos h1] at h
      have e : (i + n).toNat = j := Option.some.inj h
      exact ⟨by rw [seqIndex_neg (by omega) h1, e], by omega, h1, by omega⟩
    · rw [if_neg h1] at h; cases h
theorem atI_get {α : Type} {xs : List α} {i : Int} {v : α} (h : atI xs i = some v) : ∃ j, seqIndex? i xs.length = some j ∧ xs[j]? = some v ∧ j < xs.length ∧ -(xs.length : Int) ≤ i ∧ i < xs.length := by
  unfold atI at h
  cases e : ixN xs.length i with
  | none => rw [e] at h; cases h
  | some j =>
    rw [e] at h
    obtain ⟨h1, h2, h3, h4⟩ := ixN_seq e
    exact ⟨j, h1, h, h2, h3, h4⟩
theorem atI_nat {α : Type} {xs : List α} {j : Nat} {v : α} (h : xs[j]? = some v) : atI xs (j : Int) = some v := by
  have hj : j < xs.length := (List.getElem?_eq_some_iff.mp h).1
  have e : ixN xs.length (j : Int) = some j := by
    unfold ixN
    rw [if_pos (by omega), if_pos (by omega)]; simp
  unfold atI; rw [e]; exact h
/-- what stands as an index of a plain subscript -/
noncomputable def PlainIx (b : Expr) : Prop := ∀ o i, subscripted b false o i = operate [o, i] (getItem o i)
/-- a subscript by values -/
noncomputable def IxR (X : Cx) (r : R2) : Prop :=
  ∀ (value slice : Expr) (pins : List (Addr × Obj)) (s : Shared) (σ : St) (H : Hp) (x y : V) (v u : Value) (Q : VK), Inv X pins σ H s → RelV x v → RelV y u → r x y H Q →
    subscripted slice false v u = operate [v, u] (getItem v u) → wpAny (model X.prog X.w) X.A (subscriptTail value slice v u) (EP X pins σ Q) X.xe s
/-- a call of a builtin's method by values: the receiver, the arguments -/
noncomputable def MtR (X : Cx) (id : String) (r : V → List V → Hp → VK → Prop) : Prop :=
  ∀ (pins : List (Addr × Obj)) (s : Shared) (σ : St) (H : Hp) (x : V) (xs : List V) (v : Value) (us : List Value) (Q : VK), Inv X pins σ H s → RelV x v → Vals xs us → r x xs H Q →
    wpAny (model X.prog X.w) X.A (call (.builtin id) (v :: us)) (EP X pins σ Q) X.xe s
section
variable {X : Cx} {a b : Expr} {ta tb : TE} {pos : Pos}
theorem IxR.or {r r' : R2} (h : IxR X r) (h' : IxR X r') : IxR X (fun x y H Q => r x y H Q ∨ r' x y H Q) := by
  intro value slice pins s σ H x y v u Q I rx ry q hs
  rcases q with q | q
  · exact h value slice pins s σ H x y v u Q I rx ry q hs
  · exact h' value slice pins s σ H x y v u Q I rx ry q hs
theorem MtR.or {id : String} {r r' : V → List V → Hp → VK → Prop} (h : MtR X id r) (h' : MtR X id r') : MtR X id (fun x xs H Q => r x xs H Q ∨ r' x xs H Q) := by
  intro pins s σ H x xs v us Q I rx rs q
  rcases q with q | q
  · exact h pins s σ H x xs v us Q I rx rs q
  · exact h' pins s σ H x xs v us Q I rx rs q
/-- a[b] -/
theorem pe_ix {r : R2} (hr : IxR X r) (ha : PE X a ta) (hb : PE X b tb) (hs : PlainIx b) : PE X (.Subscript a b pos) (tOp r ta tb) := by
  intro pins s σ H Q I h
  exact Subscript_ (binT ha hb I h fun v u s2 x y H2 I2 rx ry q => hr a b pins s2 σ H2 x y v u Q I2 rx ry q (hs _ _))
noncomputable def rIxL (K : PySem.W.Frag) : R2 := fun x y H Q => ∃ p xs i v, x = .ref p ∧ y = .int i ∧ SqL K H p xs ∧ atI xs i = some v ∧ Q v H
noncomputable def rIxT (K : PySem.W.Frag) : R2 := fun x y H Q => ∃ p xs i v, x = .ref p ∧ y = .int i ∧ SqT K H p xs ∧ atI xs i = some v ∧ Q v H
noncomputable def rIxS : R2 := fun x y H Q => ∃ z i c, x = .str z ∧ y = .int i ∧ z.length ≤ sizeLine ∧ atI z.cps.toList i = some c ∧ Q (.str ⟨#[c]⟩) H
theorem ix_list : IxR X (rIxL X.K) := by
  intro value slice pins s σ H x y v u Q I rx ry h hs
  obtain ⟨p, xs, i, z, rfl, rfl, hq, he, q⟩ := h
  cases rx
  obtain ⟨t, rfl⟩ := ry
  obtain ⟨its, r, pl, hz⟩ := I.list hq
  obtain ⟨j, h1, h2, h3, h4, h5⟩ := atI_get he
  obtain ⟨w, ew, rw'⟩ := r.get h2
  have hl := r.length
  have hn := line63
  have fin : EP X pins σ Q w s := ⟨z, H, I, rw', q⟩
  by_cases h0 : 0 ≤ i
  · have hj : i.toNat = j := by
      rw [seqIndex_of h0 h5] at h1
      exact Option.some.inj h1
    exact item_listR pl.isList h0 (by omega) (by rw [hj]; simpa using ew) fin hs
  · have hj : (i + (its.toArray.size : Int)).toNat = j := by
      rw [seqIndex_neg (by omega) h4] at h1
      rw [List.size_toArray, ← hl]
      exact Option.some.inj h1
    exact subscriptTail_builtinR (x := w) pl.isList.typeIs slot_list_getitem.lookup
      (wpAny_getItem_list_neg (Q := fun r s' => r = w ∧ EP X pins σ Q r s') pl.isList (by omega) (by rw [List.size_toArray] <;> omega) (by omega) (by rw [hj]; simpa using ew) ⟨rfl, fin⟩) hs
theorem ix_tup : IxR X (rIxT X.K) := by
  intro value slice pins s σ H x y v u Q I rx ry h hs
  obtain ⟨p, xs, i, z, rfl, rfl, hq, he, q⟩ := h
  cases rx
  obtain ⟨t, rfl⟩ := ry
  obtain ⟨its, r, pl, hz⟩ := I.tuple hq
  obtain ⟨j, h1, h2, h3, h4, h5⟩ := atI_get he
  obtain ⟨w, ew, rw'⟩ := r.get h2
  have hl := r.length
  have hn := line63
  have fin : EP X pins σ Q w s := ⟨z, H, I, rw', q⟩
  exact subscriptTail_builtinR (x := w) pl.typeIs slot_tuple_getitem.lookup
    (getItem_tuple (j := j) (Q := fun r s' => r = w ∧ EP X pins σ Q r s') pl (by omega) (by omega) (by rw [List.size_toArray, ← hl]; exact h1) (by simpa using ew) ⟨rfl, fin⟩) hs
theorem ix_str : IxR X rIxS := by
  intro value slice pins s σ H x y v u Q I rx ry h hs
  obtain ⟨z, i, c, rfl, rfl, hz, he, q⟩ := h
  obtain ⟨t, rfl⟩ := rx
  obtain ⟨t', rfl⟩ := ry
  obtain ⟨j, h1, h2, h3, h4, h5⟩ := atI_get he
  have hl : z.cps.toList.length = z.length := by simp [Str.length]
  rw [hl] at h1 h4 h5
  have hn := line63
  exact tail_any (typeIs_str s z t) slot_str_getitem.lookup (getItem_str (c := c) (by
    have e1 : decide (i < -(2 ^ 63 : Int)) = false := decide_eq_false (by omega)
    have e2 : decide (i ≥ 2 ^ 63) = false := decide_eq_false (by omega)
    rw [e1, e2, Bool.or_false]) (by rw [h1]; simpa using h2) ⟨.str ⟨#[c]⟩, H, I.tok _, ⟨_, rfl⟩, q⟩) hs
/-- the list's object behind a store -/
theorem mapSeq_set (its : List Value) (n j : Nat) (u : Value) : Obj.mapSeq (·.setIfInBounds j u) { cls := .type "list", data := .seq its.toArray n } = { cls := .type "list", data := .seq (its.set j u).toArray n } := by
  simp [Obj.mapSeq]
theorem Inv.lst {pins : List (Addr × Obj)} {σ : St} {H : Hp} {s : Shared} {p : Addr} {xs : List V} (I : Inv X pins σ H s) (h : H p = some (.lst xs)) :
    ∃ (its : List Value) (n : Nat), Vals xs its ∧ s.heap.get? p = some { cls := .type "list", data := .seq its.toArray n } ∧ xs.length ≤ sizeLine := by
  obtain ⟨z, its, n, r, e⟩ := I.hok p _ h
  exact ⟨its, n, r, e, z⟩
/-- the list at p is written by an update of its object -/
theorem Inv.lstUpd {pins : List (Addr × Obj)} {σ : St} {H : Hp} {s : Shared} {p : Addr} {xs ys : List V} {its its' : List Value} {n n' : Nat} {f : Obj → Obj} (I : Inv X pins σ H s) (h : H p = some (.lst xs))
    (ho : s.heap.get? p = some { cls := .type "list", data := .seq its.toArray n }) (hf : f { cls := .type "list", data := .seq its.toArray n } = { cls := .type "list", data := .seq its'.toArray n' }) (r : Vals ys its') (hz : ys.length ≤ sizeLine) (t : Nat) :
    Inv X pins σ (upd H p (.lst ys)) { s with heap := s.heap.update p f, toks := t } := by
  have e : (s.heap.update p f).get? p = some { cls := .type "list", data := .seq its'.toArray n' } := by
    rw [Heap.get?_update_self f ho (by rw [hf] <;> rfl), hf]
  refine I.write (x := p) (e := p) (by rw [h]; trivial) (.inl rfl) (fun b u hb q => (Heap.get?_update_other _ _ (Ne.symm hb)).trans q) ⟨_, e⟩ ?_
  exact ⟨hz, its', n', r, e⟩
noncomputable def rSetL : V → V → V → Hp → (Hp → Prop) → Prop := fun o i v H Q => ∃ p xs k j, o = .ref p ∧ i = .int k ∧ H p = some (.lst xs) ∧ ixN xs.length k = some j ∧ Q (upd H p (.lst (xs.set j v)))
theorem set_list : PSet X rSetL := by
  intro pins s σ H o i v ov iv u Q I ro ri rv h
  obtain ⟨p, xs, k, j, rfl, rfl, hp, hj, q⟩ := h
  cases ro
  obtain ⟨t, rfl⟩ := ri
  obtain ⟨its, n, r, ho, hz⟩ := I.lst hp
  obtain ⟨h1, h2, h3, h4⟩ := ixN_seq hj
  have hl := r.length
  have hn := line63
  have I' : Inv X pins σ (upd H p (.lst (xs.set j v))) { s with heap := s.heap.update p (Obj.mapSeq (·.setIfInBounds j u)) } :=
    I.lstUpd hp ho (mapSeq_set its n j u) (r.set rv j) (by rw [List.length_set]; exact hz) s.toks
  by_cases h0 : 0 ≤ k
  · have hk : k.toNat = j := by
      rw [seqIndex_of h0 h4] at h1
      exact Option.some.inj h1
    exact PySem.W.ki_setAt ho h0 (by omega) (by rw [List.size_toArray, ← hl]; exact h4) (by rw [hk]; exact ⟨_, I', q⟩)
  · have hk : (k + (its.toArray.size : Int)).toNat = j := by
      rw [seqIndex_neg (by omega) h3] at h1
      rw [List.size_toArray, ← hl]
      exact Option.some.inj h1
    exact PySem.W.ki_setBack ho (by omega) (by rw [List.size_toArray, ← hl]; exact h3) (by omega) (by rw [hk]; exact ⟨_, I', q⟩)
theorem slice_bounds (lo hi : Option Int) (n : Nat) : (sliceBounds lo hi none n).1 = ((HT.sIx n 0 lo : Nat) : Int) ∧ (sliceBounds lo hi none n).2.1 = ((HT.sIx n n hi : Nat) : Int) ∧ (sliceBounds lo hi none n).2.2 = 1 := by
  refine ⟨?_, ?_, rfl⟩
  · cases lo with
    | none => simp [sliceBounds, HT.sIx]
    | some i =>
      simp only [sliceBounds, HT.sIx, Option.getD_none, show (1 : Int) > 0 by decide, if_true]
      by_cases h : i < 0
      · simp only [h, if_true] <;> omega
      · simp only [h, if_false] <;> omega
  · cases hi with
    | none => simp [sliceBounds, HT.sIx]
    | some i =>
      simp only [sliceBounds, HT.sIx, Option.getD_none, show (1 : Int) > 0 by decide, if_true]
      by_cases h : i < 0
      · simp only [h, if_true] <;> omega
      · simp only [h, if_false] <;> omega
theorem slicePick_cut (its : List Value) (lo hi : Option Int) : slicePick its.toArray lo hi none = ((its.drop (HT.sIx its.length 0 lo)).take (HT.sIx its.length its.length hi - HT.sIx its.length 0 lo)).toArray := by
  obtain ⟨h1, h2, h3⟩ := slice_bounds lo hi its.toArray.size
  unfold slicePick
  rw [h1, h2, h3]
  simp only [sliceRange_one, pick_run, List.size_toArray] <;> rfl
/-- xs[lo:hi] of a list: a new list -/
noncomputable def rSlL (K : PySem.W.Frag) : V → Option Int → Option Int → Hp → VK → Prop := fun x lo hi H Q => ∃ a xs, x = .ref a ∧ SqL K H a xs ∧ ∀ p, H p = none → Q (.ref p) (upd H p (.lst (cutV xs lo hi)))
theorem sl_list : SlR X (rSlL X.K) := by
  intro pins s σ H x v vl vu lo hi sl Q I rx hs pl pu h
  obtain ⟨a, xs, rfl, hx, q⟩ := h
  cases rx
  obtain ⟨its, r, ht, hz⟩ := I.list hx
  have hlen := r.length
  refine ⟨"list", _, slot_list_getitem.lookup, ht.isList.typeIs, ?_⟩
  refine wpAny_getItem_list_slice ht.isList hs pl pu .none (by simp) ?_ (by rw [List.size_toArray] <;> omega)
  rw [slicePick_cut, ← hlen]
  refine ⟨.ref s.heap.objs.size, _, I.laid (t' := s.toks) (o := .lst (cutV xs lo hi)) (fun b ob q => Heap.get?_push_of_some _ q) (Nat.le_refl _) ?_, rfl, q _ (I.hok.fresh (Nat.le_refl _))⟩
  exact ⟨Nat.le_trans (cutV_length xs lo hi) hz, _, 0, (r.drop (HT.sIx xs.length 0 lo)).take (HT.sIx xs.length xs.length hi - HT.sIx xs.length 0 lo), Heap.get?_push_size _ rfl⟩
noncomputable def flatV : V → Bool
  | .non => true
  | .bl _ => true
  | .int _ => true
  | .str _ => true
  | _ => false
/-- == of flat values -/
noncomputable def eqV : V → V → Bool
  | .non, .non => true
  | .bl a, .bl b => a == b
  | .bl a, .int b => (if a then 1 else 0) == b
  | .int a, .bl b => a == (if b then 1 else 0)
  | .int a, .int b => a == b
  | .str a, .str b => a == b
  | _, _ => false
theorem eqAt_V {A : Around} {s : Shared} {y x : V} {u v : Value} (ry : RelV y u) (rx : RelV x v) (fy : flatV y = true) (fx : flatV x = true) : SeqAt.EqAt A s u v (eqV y x) := by
  cases y with
  | non =>
    cases ry
    cases x with
    | non => cases rx; exact SeqAt.EqAt.same _
    | bl b => cases rx; exact SeqAt.EqAt.none_bool b
    | int b => obtain ⟨t, rfl⟩ := rx; exact SeqAt.EqAt.none_int b t
    | str b => obtain ⟨t, rfl⟩ := rx; exact SeqAt.EqAt.none_str b t
    | _ => exact absurd (show false = true from fx) Bool.false_ne_true
  | bl a =>
    cases ry
    cases x with
    | non => cases rx; exact SeqAt.EqAt.bool_none a
    | bl b => cases rx; exact SeqAt.EqAt.bool_bool a b
    | int b => obtain ⟨t, rfl⟩ := rx; exact SeqAt.EqAt.bool_int a b t
    | str b => obtain ⟨t, rfl⟩ := rx; exact SeqAt.EqAt.bool_str a b t
    | _ => exact absurd (show false = true from fx) Bool.false_ne_true
  | int a =>
    obtain ⟨t', rfl⟩ := ry
    cases x with
    | non => cases rx; exact SeqAt.EqAt.int_none a t'
    | bl b => cases rx; exact SeqAt.EqAt.int_bool a t' b
    | int b => obtain ⟨t, rfl⟩ := rx; exact SeqAt.EqAt.int_int a t' b t
    | str b => obtain ⟨t, rfl⟩ := rx; exact SeqAt.EqAt.int_str a t' b t
    | _ => exact absurd (show false = true from fx) Bool.false_ne_true
  | str a =>
    obtain ⟨t', rfl⟩ := ry
    cases x with
    | non => cases rx; exact SeqAt.EqAt.str_none a t'
    | bl b => cases rx; exact SeqAt.EqAt.str_bool a t' b
    | int b => obtain ⟨t, rfl⟩ := rx; exact SeqAt.EqAt.str_int a t' b t
    | str b => obtain ⟨t, rfl⟩ := rx; exact SeqAt.EqAt.str_str a t' b t
    | _ => exact absurd (show false = true from fx) Bool.false_ne_true
  | _ => exact absurd (show false = true from fy) Bool.false_ne_true
/-- the items' answers, read off the values (a value's own answer does not lean on its token) -/
noncomputable def eqU (x : V) (u : Value) : Bool := match u with
  | .none => eqV .non x
  | .bool b => eqV (.bl b) x
  | .int i _ => eqV (.int i) x
  | .str z _ => eqV (.str z) x
  | _ => false
theorem eqU_of {x y : V} {u : Value} (r : RelV y u) (f : flatV y = true) : eqU x u = eqV y x := by
  cases y with
  | non => cases r; rfl
  | bl b => cases r; rfl
  | int i => obtain ⟨t, rfl⟩ := r; rfl
  | str z => obtain ⟨t, rfl⟩ := r; rfl
  | _ => exact absurd (show false = true from f) Bool.false_ne_true
theorem any_eqU {x : V} : ∀ {xs : List V} {us : List Value}, Vals xs us → xs.all flatV = true → us.any (eqU x) = xs.any fun y => eqV y x
  | _, _, .nil, _ => rfl
  | y :: xs, u :: us, .cons r t, f => by
    rw [List.all_cons, Bool.and_eq_true] at f
    rw [List.any_cons, List.any_cons, eqU_of r f.1, any_eqU t f.2]
theorem mem_eqAt {A : Around} {s : Shared} {x : V} {v : Value} (rx : RelV x v) (fx : flatV x = true) : ∀ {xs : List V} {us : List Value}, Vals xs us → xs.all flatV = true → ∀ u ∈ us, SeqAt.EqAt A s u v (eqU x u)
  | _, _, .nil, _ => fun u hu => by cases hu
  | y :: xs, u :: us, .cons r t, f => fun u' hu => by
    rw [List.all_cons, Bool.and_eq_true] at f
    rcases List.mem_cons.mp hu with rfl | hu
    · rw [eqU_of r f.1]; exact eqAt_V r rx f.1 fx
    · exact mem_eqAt rx fx t f.2 u' hu
noncomputable def inV (x : V) (xs : List V) : Bool := xs.any fun y => eqV y x
/-- x in a list or tuple of flat items -/
noncomputable def rIn (K : PySem.W.Frag) (neg : Bool) : R2 := fun x y H Q => ∃ p xs, y = .ref p ∧ (SqL K H p xs ∨ SqT K H p xs) ∧ flatV x = true ∧ xs.all flatV = true ∧ Q (.bl (if neg then !inV x xs else inV x xs)) H
theorem op_in_seq : OpR X (compareOp .In) (rIn X.K false) := by
  intro pins s σ H x y v u Q I rx ry h
  obtain ⟨p, xs, rfl, hq, fx, fs, q⟩ := h
  cases ry
  rcases hq with hq | hq
  · obtain ⟨its, r, pl, hz⟩ := I.list hq
    refine SeqAt.in_listAt (eqU x) pl.isList (fun w hw => mem_eqAt rx fx r fs w (by simpa using hw)) ⟨.bl _, H, I, rfl, ?_⟩
    rw [show its.toArray.any (eqU x) = its.any (eqU x) by simp, any_eqU r fs]
    exact q
  · obtain ⟨its, r, pl, hz⟩ := I.tuple hq
    refine SeqAt.in_tupleAt (eqU x) pl (fun w hw => mem_eqAt rx fx r fs w (by simpa using hw)) ⟨.bl _, H, I, rfl, ?_⟩
    rw [show its.toArray.any (eqU x) = its.any (eqU x) by simp, any_eqU r fs]
    exact q
theorem op_notIn_seq : OpR X (compareOp .NotIn) (rIn X.K true) := by
  intro pins s σ H x y v u Q I rx ry h
  obtain ⟨p, xs, rfl, hq, fx, fs, q⟩ := h
  cases ry
  rcases hq with hq | hq
  · obtain ⟨its, r, pl, hz⟩ := I.list hq
    refine SeqAt.notIn_listAt (eqU x) pl.isList (fun w hw => mem_eqAt rx fx r fs w (by simpa using hw)) ⟨.bl _, H, I, rfl, ?_⟩
    rw [show its.toArray.any (eqU x) = its.any (eqU x) by simp, any_eqU r fs]
    exact q
  · obtain ⟨its, r, pl, hz⟩ := I.tuple hq
    refine SeqAt.notIn_tupleAt (eqU x) pl (fun w hw => mem_eqAt rx fx r fs w (by simpa using hw)) ⟨.bl _, H, I, rfl, ?_⟩
    rw [show its.toArray.any (eqU x) = its.any (eqU x) by simp, any_eqU r fs]
    exact q
theorem CallR.or {f : Value} {r r' : List V → Hp → VK → Prop} (h : CallR X f r) (h' : CallR X f r') : CallR X f (fun xs H Q => r xs H Q ∨ r' xs H Q) := by
  intro pins s σ H xs us Q I rs q
  rcases q with q | q
  · exact h pins s σ H xs us Q I rs q
  · exact h' pins s σ H xs us Q I rs q
theorem call_list_of : CallR X (.type "list") (fun xs H Q => ∃ p ys, xs = [.ref p] ∧ (SqL X.K H p ys ∨ SqT X.K H p ys) ∧ ∀ l, H l = none → Q (.ref l) (upd H l (.lst ys))) := by
  intro pins s σ H xs us Q I r h
  obtain ⟨p, ys, rfl, hq, q⟩ := h
  obtain ⟨u, rfl, rx⟩ := vals1 r
  cases rx
  have fin : ∀ (its : List Value), Vals ys its → ys.length ≤ sizeLine → ∀ (h' : Heap) (c' : Nat), (∀ b o', s.heap.get? b = some o' → h'.get? b = some o') →
      h'.get? s.heap.objs.size = some { cls := .type "list", dict := none, data := .seq its.toArray c', slots := #[] } → EP X pins σ Q (.ref s.heap.objs.size) { s with heap := h' } := fun its r' hz h' c' kp e =>
    ⟨.ref s.heap.objs.size, _, I.laid (t' := s.toks) kp (Nat.le_refl _) (show ObjOk X.prog X.w _ h' _ (.lst ys) from ⟨hz, its, c', r', e⟩), rfl, q _ (I.hok.fresh (Nat.le_refl _))⟩
  rcases hq with hq | hq
  · obtain ⟨its, r', pl, hz⟩ := I.list hq
    have hlen := r'.length
    obtain ⟨o, ho, hc, n, hd⟩ := pl.isList
    exact call_list_seq p (.inl rfl) ho hc hd (fun h' c' kp e => fin its r' hz h' c' kp e) (by simp only [List.size_toArray] <;> omega)
  · obtain ⟨its, r', pl, hz⟩ := I.tuple hq
    have hlen := r'.length
    obtain ⟨o, ho, hc, n, hd⟩ := pl
    exact call_list_seq p (.inr rfl) ho hc hd (fun h' c' kp e => fin its r' hz h' c' kp e) (by simp only [List.size_toArray] <;> omega)
theorem call_tuple_of : CallR X (.type "tuple") (fun xs H Q => ∃ p ys, xs = [.ref p] ∧ ((SqL X.K H p ys ∧ ∀ l, H l = none → Q (.ref l) (upd H l (.tup ys))) ∨ (SqT X.K H p ys ∧ Q (.ref p) H))) := by
  intro pins s σ H xs us Q I r h
  obtain ⟨p, ys, rfl, h⟩ := h
  obtain ⟨u, rfl, rx⟩ := vals1 r
  cases rx
  rcases h with ⟨hq, q⟩ | ⟨hq, q⟩
  · obtain ⟨its, r', pl, hz⟩ := I.list hq
    have hlen := r'.length
    refine call_tuple_list pl.isList (fun h' kp => ?_) (by simp only [List.size_toArray] <;> omega)
    have I1 : Inv X pins σ H { s with heap := h' } := I.kept (t' := s.toks) kp
    have I2 : Inv X pins σ (upd H h'.objs.size (.tup ys)) { s with heap := h'.push { cls := .type "tuple", data := .seq its.toArray } } :=
      I1.laid (t' := s.toks) (fun b o e => Heap.get?_push_of_some _ e) (Nat.le_refl _) (show ObjOk X.prog X.w _ _ _ (.tup ys) from ⟨hz, its, r', IsTup.new _ _⟩)
    exact ⟨.ref h'.objs.size, _, I2, rfl, q _ (I1.hok.fresh (Nat.le_refl _))⟩
  · obtain ⟨its, r', pl, hz⟩ := I.tuple hq
    exact call_tuple_same pl ⟨.ref p, H, I, rfl, q⟩
/-- the value is of that builtin type -/
noncomputable def tyV (K : PySem.W.Frag) (T : String) (x : V) (H : Hp) : Prop := match x with
  | .str _ => T = "str"
  | .int _ => T = "int"
  | .ref p => (T = "list" ∧ ∃ xs, SqL K H p xs) ∨ (T = "tuple" ∧ ∃ o, K.lookup p = some o ∧ o.cls = .type "tuple" ∧ o.dict = none) ∨
      (T = "dict" ∧ ((∃ kvs, H p = some (.dK kvs)) ∨ ∃ kvs, H p = some (.dT kvs))) ∨ (T = "set" ∧ ∃ S n, H p = some (.set S n))
  | _ => False
theorem tyV_is {pins : List (Addr × Obj)} {σ : St} {H : Hp} {s : Shared} {T : String} {x : V} {v : Value} (I : Inv X pins σ H s) (r : RelV x v) (ty : tyV X.K T x H) :
    s.TypeIs v T ∧ ∀ a, v = .ref a → ∃ ob, s.heap.get? a = some ob ∧ ob.dict = none := by
  cases x with
  | str z =>
    obtain ⟨t, rfl⟩ := r
    cases (show T = "str" from ty)
    exact ⟨typeIs_str s z t, fun _ e => nomatch e⟩
  | int i =>
    obtain ⟨t, rfl⟩ := r
    cases (show T = "int" from ty)
    exact ⟨typeIs_int s i t, fun _ e => nomatch e⟩
  | ref p =>
    cases r
    rcases ty with ⟨rfl, xs, hq⟩ | ⟨rfl, o, hk, hc, hd⟩ | ⟨rfl, hk⟩ | ⟨rfl, S, n, hk⟩
    · obtain ⟨its, _, pl, _⟩ := I.list hq
      refine ⟨pl.isList.typeIs, fun a e => ?_⟩
      cases e
      obtain ⟨o, n, e, c, hd, _⟩ := pl
      exact ⟨o, e, hd⟩
    · refine ⟨⟨o, I.kIn p o hk, hc⟩, fun a e => ?_⟩
      cases e
      exact ⟨o, I.kIn _ o hk, hd⟩
    · have z : ∃ o, s.heap.get? p = some o ∧ o.ExactDict := by
        rcases hk with ⟨kvs, hk⟩ | ⟨kvs, hk⟩
        · obtain ⟨_, _, _, _, o, _, _, e, ex, _⟩ := I.hok p _ hk
          exact ⟨o, e, ex⟩
        · obtain ⟨_, _, _, _, o, _, _, e, ex, _⟩ := I.hok p _ hk
          exact ⟨o, e, ex⟩
      obtain ⟨o, e, ex⟩ := z
      refine ⟨⟨o, e, ex.1⟩, fun a e2 => ?_⟩
      cases e2
      exact ⟨o, e, ex.2.1⟩
    · obtain ⟨o, _, _, _, e, ex, _⟩ := I.hok p _ hk
      refine ⟨⟨o, e, ex.1⟩, fun a e2 => ?_⟩
      cases e2
      exact ⟨o, e, ex.2.1⟩
  | _ => exact False.elim ty
noncomputable def tBM (K : PySem.W.Frag) (T : String) (r : V → List V → Hp → VK → Prop) (to : TE) (t : TA) : TE := fun σ H Q => to σ H fun x H1 => tyV K T x H1 ∧ t σ H1 fun xs H2 => r x xs H2 Q
variable {o e : Expr} {es : List Expr} {to : TE} {t : TA} {name : Str} {apos cpos : Pos} {T id : String} {r : V → List V → Hp → VK → Prop}
theorem pe_bm (pa : PlainAttrs T) (slot : Slot T name id) (hty : typeOf (.builtin id) = pure (.type "method_descriptor")) (hm : MtR X id r) (ho : PE X o to) (ha : PA X (e :: es) t)
    (hbase : attributeBase o name X.env (eval o X.env) = eval o X.env := by rfl)
    (hfew : ((backTo cpos (starEach (e :: es) X.env)).all (fun x => !x.1) && (backToKw cpos (keywordEach [] X.env)).all (fun x => x.1.isSome)
      && decide ((e :: es).length + ([] : List Keyword).length + (if ([] : List Keyword).isEmpty then 0 else 1) < 30)) = true := by rfl)
    (hline : (apos.endLine == cpos.line) = true := by rfl) (hs : starEach (e :: es) X.env = (false, eval e X.env) :: starEach es X.env := by rfl) (hplain : (backTo cpos (starEach es X.env)).any (·.1) = false := by rfl) :
    PE X (.Call (.Attribute o name apos) (e :: es) [] cpos) (tBM X.K T r to t) := by
  intro pins s σ H Q I h
  refine wpAny_Call_method_late hbase hfew hline rfl (thn (ho pins s σ H _ I h) fun v s1 zz51 => ?_)
  obtain ⟨x, H1, I1, r1, ty, q1⟩ := zz51
  obtain ⟨h1, h2⟩ := tyV_is I1 r1 ty
  refine ⟨T, id, pa, slot, hty, h1, h2, ?_⟩
  have hA := ha cpos pins s1 σ H1 _ I1 q1
  rw [hs] at hA ⊢
  refine Calls.callWith_builtin (by show (false || (backTo cpos (starEach es X.env)).any (·.1)) = false; rw [hplain] <;> rfl) (Calls.evalArgs_plain ?_)
  exact thn hA (by rintro us s2 ⟨vs, H2, I2, r2, q2⟩; exact hm pins s2 σ H2 x vs v us Q I2 r1 r2 q2)
/- xs.append(e), list.index on a module's tuple .. are MtR facts of 06m -/
end
end L2
namespace L2
open PySem PySem.Spec PyProof.Rows
noncomputable def MtM (X : Cx) (id : String) (r : V → List V → Hp → VK → Prop) : Prop :=
  ∀ (pins : List (Addr × Obj)) (s : Shared) (σ : St) (H : Hp) (x : V) (xs : List V) (v : Value) (us : List Value) (Q : VK), Inv X pins σ H s → RelV x v → Vals xs us → r x xs H Q →
    wpAny (model X.prog X.w) X.A (call (.builtin id) (v :: us)) (EP X pins σ Q) X.xe s
theorem Vals.one : ∀ {x : V} {us : List Value}, Vals [x] us → ∃ u, us = [u] ∧ RelV x u
  | _, _, .cons r .nil => ⟨_, rfl, r⟩
theorem Vals.two : ∀ {x y : V} {us : List Value}, Vals [x, y] us → ∃ u v, us = [u, v] ∧ RelV x u ∧ RelV y v
  | _, _, _, .cons r (.cons q .nil) => ⟨_, _, rfl, r, q⟩
theorem Vals.zero : ∀ {us : List Value}, Vals [] us → us = []
  | _, .nil => rfl
theorem Vals.rep {xs : List V} {us : List Value} (h : Vals xs us) : ∀ k : Nat, Vals (List.replicate k xs).flatten (List.replicate k us).flatten
  | 0 => .nil
  | k + 1 => by
    rw [List.replicate_succ, List.replicate_succ, List.flatten_cons, List.flatten_cons]
    exact Vals.append h (Vals.rep h k)
theorem foldl_rep (its : List Value) : ∀ (k : Nat) (acc : List Value),
    List.foldl (fun x1 x2 => x1 ++ x2) acc.toArray (List.replicate k its.toArray) = (acc ++ (List.replicate k its).flatten).toArray
  | 0, acc => by simp
  | k + 1, acc => by
    have e : acc.toArray ++ its.toArray = (acc ++ its).toArray := by simp
    have e2 : (acc ++ its) ++ (List.replicate k its).flatten = acc ++ (List.replicate (k + 1) its).flatten := by
      rw [List.replicate_succ, List.flatten_cons, List.append_assoc]
    rw [← e2, ← foldl_rep its k (acc ++ its), ← e, List.replicate_succ, List.foldl_cons]
section
variable {X : Cx} {pins : List (Addr × Obj)} {σ : St} {H : Hp} {s : Shared} {l b : Addr} {xs ys zs : List V}
theorem Inv.lset {its its' : List Value} {n : Nat} {f : Array Value → Array Value} {t' : Nat} (I : Inv X pins σ H s) (hH : H l = some (.lst xs))
    (e : s.heap.get? l = some { cls := .type "list", data := .seq its.toArray n }) (hf : f its.toArray = its'.toArray) (hv : Vals ys its') (hz : ys.length ≤ sizeLine) :
    Inv X pins σ (upd H l (.lst ys)) { s with heap := s.heap.update l (Obj.mapSeq f), toks := t' } := by
  have q := PySem.IsL.update e f
  rw [hf] at q
  refine I.write (x := l) (e := l) (by rw [hH]; exact trivial) (.inl rfl) (fun b' u hb hu => (Heap.get?_update_other s.heap (Obj.mapSeq f) (Ne.symm hb)).trans hu) ⟨_, q⟩ ?_
  exact ⟨hz, its', _, hv, q⟩
theorem Inv.lnew {its : List Value} {t' : Nat} (I : Inv X pins σ H s) (hv : Vals ys its) (hz : ys.length ≤ sizeLine) :
    Inv X pins σ (upd H s.heap.objs.size (.lst ys)) { s with heap := s.heap.push { cls := .type "list", data := .seq its.toArray }, toks := t' } :=
  I.laid (fun _ _ q => Heap.get?_push_of_some _ q) (Nat.le_refl _) ⟨hz, its, 0, hv, Heap.get?_push_size _ rfl⟩
theorem Inv.fresh (I : Inv X pins σ H s) : H s.heap.objs.size = none := I.hok.fresh (Nat.le_refl _)
theorem Inv.lstM (I : Inv X pins σ H s) (hH : H l = some (.lst xs)) : xs.length ≤ sizeLine ∧ ∃ (its : List Value) (n : Nat), Vals xs its ∧ xs.length = its.length ∧ s.heap.get? l = some { cls := .type "list", data := .seq its.toArray n } := by
  obtain ⟨z, its, n, r, e⟩ := I.hok l _ hH
  exact ⟨z, its, n, r, r.length, e⟩
theorem notLongL {n : Nat} (h : n ≤ sizeLine) : Builtin.List.listTooLong n = false := by
  unfold Builtin.List.listTooLong
  exact decide_eq_false (by omega)
end
section
variable {X : Cx}
noncomputable def rAppend : V → List V → Hp → VK → Prop := fun x vs H Q => ∃ l xs y, x = .ref l ∧ vs = [y] ∧ H l = some (.lst xs) ∧ xs.length < sizeLine ∧ Q .non (upd H l (.lst (xs ++ [y])))
theorem mt_append : MtM X "list.append" rAppend := by
  intro pins s σ H x vs v us Q I rx rv h
  obtain ⟨l, xs, y, rfl, rfl, hH, hz, q⟩ := h
  cases rx
  obtain ⟨u, rfl, ru⟩ := rv.one
  obtain ⟨z, its, n, r, hl, e⟩ := I.lstM hH
  refine call_meets F.slot_list_append ⟨_, e, rfl⟩ F.entry_list_append (F.args_list_append_2 _ _) (PySem.list_append l its.toArray n u (by rw [List.size_toArray]; omega)) ⟨e, ?_⟩
  refine ⟨.non, _, I.lset (its' := its ++ [u]) hH e (by simp) (r.append (.cons ru .nil)) ?_, rfl, q⟩
  rw [List.length_append, List.length_singleton]
  omega
noncomputable def rExtend : V → List V → Hp → VK → Prop := fun x vs H Q => ∃ l b xs zs, x = .ref l ∧ vs = [.ref b] ∧ H l = some (.lst xs) ∧ H b = some (.lst zs) ∧ xs.length + zs.length ≤ sizeLine ∧ Q .non (upd H l (.lst (xs ++ zs)))
theorem mt_extend : MtM X "list.extend" rExtend := by
  intro pins s σ H x vs v us Q I rx rv h
  obtain ⟨l, b, xs, zs, rfl, rfl, hH, hB, hz, q⟩ := h
  cases rx
  obtain ⟨u, rfl, ru⟩ := rv.one
  cases ru
  obtain ⟨z, its, n, r, hl, e⟩ := I.lstM hH
  obtain ⟨z2, its2, n2, r2, hl2, e2⟩ := I.lstM hB
  have hsz : its.toArray.size + its2.toArray.size ≤ sizeLine := by rw [List.size_toArray, List.size_toArray]; omega
  have hlong : ¬ (!its.toArray.isEmpty && Builtin.List.listTooLong (its.toArray.size + its2.toArray.size)) = true := by
    rw [notLongL hsz, Bool.and_false]
    exact Bool.false_ne_true
  refine call_meets F.slot_list_extend ⟨_, e, rfl⟩ F.entry_list_extend (F.args_list_extend_2 _ _)
    (AutoSeq1.list_extend_list_list_0 l its.toArray n b its2.toArray n2 hlong (by rw [List.size_toArray]; omega) (by omega)) ⟨e, e2, ?_⟩
  refine ⟨.non, _, I.lset (its' := its ++ its2) hH e (by simp) (r.append r2) ?_, rfl, q⟩
  rw [List.length_append]
  omega
noncomputable def rCat : R2 := fun x y H Q => ∃ l b xs zs, x = .ref l ∧ y = .ref b ∧ H l = some (.lst xs) ∧ H b = some (.lst zs) ∧ xs.length + zs.length ≤ sizeLine ∧ ∀ p, H p = none → Q (.ref p) (upd H p (.lst (xs ++ zs)))
theorem op_cat : OpR X (binaryOp .Add) rCat := by
  intro pins s σ H x y v u Q I rx ry h
  obtain ⟨l, b, xs, zs, rfl, rfl, hH, hB, hz, q⟩ := h
  cases rx
  cases ry
  obtain ⟨z, its, n, r, hl, e⟩ := I.lstM hH
  obtain ⟨z2, its2, n2, r2, hl2, e2⟩ := I.lstM hB
  refine PySem.P.add_list e e2 ?_ (by rw [List.size_toArray, List.size_toArray]; omega)
  have ea : its.toArray ++ its2.toArray = (its ++ its2).toArray := by simp
  rw [ea]
  exact ⟨.ref _, _, I.lnew (t' := s.toks) (r.append r2) (by rw [List.length_append]; omega), rfl, q _ I.fresh⟩
/-- a list times an int (a negative one is nothing) -/
noncomputable def rRep : R2 := fun x y H Q => ∃ l k xs, x = .ref l ∧ y = .int k ∧ H l = some (.lst xs) ∧ -(2 ^ 63) ≤ k ∧ k < 2 ^ 63 ∧ xs.length * k.toNat ≤ sizeLine ∧
  ∀ p, H p = none → Q (.ref p) (upd H p (.lst (List.replicate k.toNat xs).flatten))
theorem len_rep {α : Type} (xs : List α) (k : Nat) : (List.replicate k xs).flatten.length = k * xs.length := by
  induction k with
  | zero => simp
  | succ k ih => rw [List.replicate_succ, List.flatten_cons, List.length_append, ih, Nat.succ_mul, Nat.add_comm]
theorem op_rep : OpR X (binaryOp .Mult) rRep := by
  intro pins s σ H x y v u Q I rx ry h
  obtain ⟨l, k, xs, rfl, rfl, hH, h1, h2, hz, q⟩ := h
  cases rx
  obtain ⟨t, rfl⟩ := ry
  obtain ⟨z, its, n, r, hl, e⟩ := I.lstM hH
  have hlen : its.toArray.size * k.toNat ≤ sizeLine := by rw [List.size_toArray, ← hl]; exact hz
  have hcap : ¬ its.toArray.size * k.toNat > (2 ^ 63 - 1) / 8 := by
    have : (sizeLine : Nat) ≤ (2 ^ 63 - 1) / 8 := by decide
    omega
  have hfit : ¬ (!Builtin.List.listFitsIndex k) = true := by
    rw [fitsIndex_both h1 h2]
    exact Bool.false_ne_true
  have hlong : ¬ Builtin.List.listTooLong (its.toArray.size * k.toNat) = true := by
    rw [notLongL hlen]
    exact Bool.false_ne_true
  have hnew : List.foldl (fun x1 x2 => x1 ++ x2) #[] (List.replicate (if its.toArray.isEmpty = true then 0 else k.toNat) its.toArray) = (List.replicate k.toNat its).flatten.toArray := by
    have f0 : ∀ m : Nat, List.foldl (fun x1 x2 => x1 ++ x2) #[] (List.replicate m its.toArray) = (List.replicate m its).flatten.toArray := fun m => by
      have := foldl_rep its m []
      rw [List.nil_append] at this
      exact this
    rw [f0]
    cases its with
    | nil => simp
    | cons a r' => rw [if_neg (by simp)]
  refine wpAny_binaryOp_repeat_ref (T := "list") (U := "int") (by decide) ⟨_, e, rfl⟩ (fun s' => typeIs_int s' k t) noFill_list_mul F.fills_int_mul F.slot_int_rmul repeat_list F.slot_int_index.lookup
    (call_meets F.slot_int_rmul (typeIs_int s k t) F.entry_int_rmul (F.args_int_rmul_2 _ _) (int___rmul___int_list k t l its.toArray n)
      ⟨e, rfl, ⟨_, e, rfl⟩, call_meets F.slot_list_mul ⟨_, e, rfl⟩ F.entry_list_mul (F.args_list_mul_2 _ _) (AutoListH.list___mul___list_int_3 l its.toArray n k t hfit hcap hlong) ⟨e, ?_⟩⟩)
  rw [hnew]
  exact ⟨.ref _, _, I.lnew (t' := s.toks) (r.rep k.toNat) (by rw [len_rep, Nat.mul_comm]; exact hz), rfl, q _ I.fresh⟩
end
section
variable {prog : Program} {w : World} {A : Around} {E : Value → Shared → Prop} {s : Shared}
end
section
variable {X : Cx}
end
end L2
namespace Att
open PySem PySem.W PySem.Calls PyProof.Rows
theorem ints_of_wellAll {P : Params} {h : Heap} : ∀ (ns : List Int) (vs : List Value), WellAll P h vs (ns.map WData.int) → IntsAre vs ns := by
  intro ns
  induction ns with
  | nil =>
    intro vs w
    rw [List.map_nil] at w
    cases w
    exact .nil
  | cons n ns ih =>
    intro vs w
    rw [List.map_cons] at w
    cases w with
    | cons a b =>
      cases a
      exact .cons _ _ (ih _ b)
theorem script_of {l : OpenLaw} {n : Nat} (hn : l.most = some n) {P : Params} {h : Heap} {args : List WData} {vals : List Value}
    (hpre : l.row.toRowW.claim.pre args = true) (hwl : WellAll P h vals args) :
    ∃ a vs ns, vals = [Value.ref a] ∧ args = [WData.list (ns.map WData.int)] ∧ h.get? a = some { cls := .type "list", data := .seq vs.toArray } ∧ IntsAre vs ns ∧ ns.length ≤ n := by
  have hsh : WShape.hasAll [] args [.list .int] = true := (pre_splitW hpre).1
  have hc : l.pre.holds [] { args := args } = true := (pre_splitW hpre).2
  obtain ⟨d, r, rfl, h1, h2⟩ := hasAllW_cons hsh
  obtain rfl := hasAllW_nil h2
  obtain ⟨xs, rfl, h3⟩ := hasW_list h1
  obtain ⟨ns, rfl⟩ := items_int h3
  have hlen : ns.length ≤ n := by
    unfold OpenLaw.pre at hc
    have h4 : (WTm.not (.lt (.lit (.int (n : Int))) (.len (.arg 0)))).holds [] { args := [.list (ns.map .int)] } = true := by
      have h4 := (holds_andW hc).1
      rw [hn] at h4
      exact h4
    have h5 := condW_of h4 (w_not (w_lt w_lit (w_len_list (w_arg rfl))))
    rw [List.length_map] at h5
    refine Nat.le_of_not_lt fun q => ?_
    have q' : (n : Int) < ((ns.length : Nat) : Int) := by omega
    first
      | (rw [decide_eq_true q'] at h5; exact absurd h5 (by decide))
      | (simp at h5; omega)
  cases hwl with
  | cons w1 w2 =>
    cases w2
    cases w1 with
    | list ho hall => exact ⟨_, _, ns, rfl, rfl, ho, ints_of_wellAll ns _ hall, hlen⟩
theorem post_true (l : OpenLaw) (args : List WData) : l.row.toRowW.claim.post args (.bool true) args = true :=
  postW_of (r := l.row.toRowW) (X := (true == true))
    (show WShape.has [] (.bool true) .bool = true by first | rfl | decide | simp [WShape.has, WShape.arms, WShape.armsAll])
    (show (WTm.eq .res (.lit (.bool true))).value [] { args := args, res := some (.bool true), after := args } = some (.bool (true == true)) from w_eq_bool (w_res rfl) w_lit) rfl
/-- the same from a codeAny of the CALL (for a layer whose function contracts speak of calls) -/
theorem attach_call {l : OpenLaw} {n : Nat} {q : Program} {loose : List Str} {XP : (Str → Option Value) → Heap → Prop} {YP : World → Heap → Prop} {d : DefRec}
    (hn : l.most = some n) (hdf : d.params.defaults = [])
    (call : ∀ (w : World) (s₀ s₁ : Shared) (mg mb : Str → Option Value) (fa : Addr) (o : Obj) (pm cd doc : Value) (a : Addr) (vs : List Value) (ns : List Int),
      Ground q loose [] XP w s₀ mg mb s₁.heap → YP w s₁.heap →
      s₁.heap.get? fa = some o → o.data = .func (docDef d.name d.params d.body d.scope pm cd doc) → s₁.heap.CodeRec cd d.name → mg d.name = some (.ref fa) →
      s₁.heap.get? a = some { cls := .type "list", data := .seq vs.toArray } → IntsAre vs ns → ns.length ≤ n → s₁.gens = #[] →
      codeAny (model l.prog w) callerA (.call (.ref fa) ⟨[.ref a], []⟩) (fun r s' => r = .ok (.ret (.bool true)) ∧ OldK s₁.heap s'.heap ∧ s'.os = s₁.os ∧ AllBare s'.gens) s₁) :
    WalkO q loose XP YP l.row.toRowW d [] (fun f vs => PySem.call f vs) := by
  intro w s₀ s₁ mg mb G Y fa o pm cd doc dV kV ho hd hcd hD hmg hg args vals as hpre hlay hrd hwl hlo
  obtain rfl : dV = .none := Dflts.none hD hdf
  obtain rfl : kV = .none := Dflts.noKw hD
  obtain ⟨a, vs, ns, rfl, rfl, hobj, hints, hlen⟩ := script_of hn hpre hwl
  refine enter_call (codeAny_mono (call w s₀ s₁ mg mb fa o pm cd doc a vs ns G Y ho (fd_plain hd) hcd hmg hobj hints hlen hg) fun r s' hq => ?_)
  obtain ⟨rfl, h2, h3, h4⟩ := hq
  exact ⟨.inl ⟨.bool true, .bool true, [], rfl, fun _ => rfl, .bool true, post_true l _, fun _ => ⟨List.Pairwise.nil, fun _ hm => (nomatch hm)⟩⟩, h2, h3, h4⟩
section
variable {prog : Program} {w : World} {A : Around} {E : Value → Shared → Prop} {s : Shared} {K : Frag}
end
end Att
namespace L2
open PySem PySem.Spec PyProof.Rows
theorem vals_ints : ∀ {vs : List Value} {ns : List Int}, IntsAre vs ns → Vals (ns.map V.int) vs
  | _, _, .nil => .nil
  | _, _, .cons n t h => .cons ⟨t, rfl⟩ (vals_ints h)
/-- nothing is tracked but the script, known to the object (or it is an object of the module) -/
noncomputable def Only (H : Hp) : Prop := ∀ b, H b = none ∨ ∃ o xs, H b = some (.frz o (.lst xs))
/-- THE HEAD: the law's promise, at the heap behind the top. F, the promise of the law's def, may use that base is part of the heap (so K.In base, base.Ns mainGlobals mg stand in Mod) -/
theorem law_call {P : Program} {w : World} {K : PySem.W.Frag} {mg mb : Str → Option Value} {CX : CXT} {k : Nat} {fa a : Addr} {fd : FuncData} {x : Str} {sp : Sp} {s₁ : Shared} {vs : List Value} {ns : List Int}
    (KX : K.In s₁.heap) (hns : s₁.heap.Ns mainGlobals mg) (hb : s₁.heap.Ns builtinsNs mb) (hbb : ∀ x : Str, x ≠ "__name__" → mb x = bootBuiltins x) (hlim : s₁.heap.NoLimit) (hg : s₁.gens = #[])
    (ha : s₁.heap.get? a = some { cls := .type "list", data := .seq vs.toArray }) (hi : IntsAre vs ns) (hl : ns.length ≤ sizeLine) (hr : Room k callerA)
    (F : ∀ base : Heap, K.In base → base.Ns mainGlobals mg → FnOk P w K mg base CX k fa fd [x] sp) (hbind : ∀ (s : Shared) (u : Value), BindsTo s fd ⟨[u], []⟩ [(x, u)])
    (hsp : ∀ H : Hp, Only H → SqL K H a (ns.map V.int) → sp [.ref a] H (fun v _ => v = .bl true) fun _ _ _ => False)
    (hCX : ∀ H e s', CX [] H s₁ (fun _ _ _ => False) e s' → False) :
    codeAny (model P w) callerA (.call (.ref fa) ⟨[.ref a], []⟩) (fun r s' => r = .ok (.ret (.bool true)) ∧ OldK s₁.heap s'.heap ∧ s'.os = s₁.os ∧ AllBare s'.gens) s₁ := by
  have rv := vals_ints hi
  have lenV := hi.length
  -- from an abstract heap in which nothing but the script may be tracked
  have core : ∀ H : Hp, Only H → SqL K H a (ns.map V.int) → HOk P w H s₁.heap → (∀ b, H b ≠ none → b = a) → (H a ≠ none → K.lookup a = none) →
      codeAny (model P w) callerA (.call (.ref fa) ⟨[.ref a], []⟩) (fun r s' => r = .ok (.ret (.bool true)) ∧ OldK s₁.heap s'.heap ∧ s'.os = s₁.os ∧ AllBare s'.gens) s₁ := by
    intro H hO hS hok hA hK
    have base_of : ∀ {b : Addr} {o : Obj}, s₁.heap.get? b = some o → H b = none → (hidT s₁.heap H).get? b = some o := fun e n => hidT_get e n
    have noA : ∀ {b : Addr} {o : Obj} {es : Array DictEntry} {ep : Nat}, s₁.heap.get? b = some o → o.data = .dict es ep → H b = none := fun {b o es ep} e d => by
      cases q : H b with
      | none => rfl
      | some u =>
        have e' : b = a := hA b (by rw [q]; simp)
        subst e'
        rw [ha] at e; cases e
        have d' : Data.seq vs.toArray _ = Data.dict es ep := d
        cases d'
    have nsK : ∀ {b : Addr} {m : Str → Option Value}, s₁.heap.Ns b m → (hidT s₁.heap H).Ns b m := fun {b m} ⟨o, es, ep, e, d, r⟩ => ⟨o, es, ep, base_of e (noA e d), d, r⟩
    have hKb : K.In (hidT s₁.heap H) := fun b o e => base_of (KX b o e) (by
      cases q : H b with
      | none => rfl
      | some u =>
        have e' : b = a := hA b (by rw [q]; simp)
        subst e'
        rw [hK (by rw [q]; simp)] at e; cases e)
    have hM : Mod K mg (hidT s₁.heap H) := ⟨hKb, nsK hns, ⟨mb, nsK hb, hbb⟩, let ⟨mc, h1, h2⟩ := hlim; ⟨mc, nsK h1, h2⟩⟩
    have e0 : Env0 P w K mg (hidT s₁.heap H) callerA [] s₁ H := ⟨rfl, hM, fun b o e => of_hidT e, Nat.le_of_eq (hidT_size _ _), trivial, fun b hb => absurd (show b ∈ ([] : List Addr) from hb) (by simp), hok, .of_eq hg⟩
    refine codeAny_mono ((F _ hKb (nsK hns)).run callerA [] s₁ H ⟨[.ref a], []⟩ [.ref a] [.ref a] _ _ hr e0 (hbind s₁ (.ref a)) (.cons rfl .nil) (hsp H hO hS)) fun r s' h => ?_
    cases r with
    | error e => exact (hCX H e s' h).elim
    | ok fl =>
      cases fl with
      | next => exact False.elim h
      | brk => exact False.elim h
      | cont => exact False.elim h
      | ret u =>
        obtain ⟨v, H', os, bare, un, hok', r', q⟩ := h
        have q' : v = .bl true := q
        subst q'
        obtain rfl : u = Value.bool true := r'
        refine ⟨rfl, OldK.of_keep fun b o e => ?_, os, bare⟩
        cases q : H b with
        | none => exact un.keep b o e q (by intro z; exact absurd (show b ∈ ([] : List Addr) from z) (by simp)) (by simp)
        | some u =>
          rcases hO b with z | ⟨ob, xs, z⟩
          · rw [q] at z; cases z
          · have z2 := un.frzs b ob _ z
            obtain ⟨e1, _⟩ := hok b _ z
            obtain ⟨e2, _⟩ := hok' b _ z2
            rw [e] at e1; cases e1
            exact e2
  cases hk : K.lookup a with
  | some o =>
    -- the script is one of the module's own objects
    have e := KX a o hk
    rw [ha] at e
    cases e
    refine core (fun _ => none) (fun _ => .inl rfl) (.inr ⟨_, vs.toArray, _, hk, rfl, rfl, rfl, by rw [List.size_toArray, lenV]; exact hl, by simpa using rv⟩) (fun b u z => by have z' : (none : Option HO) = some u := z; cases z') (fun b z => absurd rfl z) fun z => absurd rfl z
  | none =>
    refine core (fun b => if b = a then some (.frz { cls := .type "list", data := .seq vs.toArray } (.lst (ns.map V.int))) else none) (fun b => ?_) (.inl (.inr ⟨{ cls := .type "list", data := .seq vs.toArray }, if_pos rfl⟩)) (fun b u z => ?_) (fun b z => ?_) fun _ => hk
    · by_cases hb : b = a
      · exact .inr ⟨_, _, if_pos hb⟩
      · exact .inl (if_neg hb)
    · by_cases hb : b = a
      · have z' := (if_pos hb).symm.trans z
        cases z'
        subst hb
        exact ⟨ha, by rw [List.length_map]; exact hl, vs, _, rv, ha⟩
      · have z' := (if_neg hb).symm.trans z
        cases z'
    · by_cases hb : b = a
      · exact hb
      · exact absurd (if_neg hb) z
end L2
namespace L2
open PySem PySem.Spec PyProof.Rows
noncomputable abbrev KOf {K : PySem.W.Frag} {h : Heap} (_ : K.In h) : PySem.W.Frag := K
/-- the goal that k_head leaves (case hc), from the law's promise. F gives the function object fd (K's own) once, then the promise over every base -/
theorem walk_of {l : PySem.W.OpenLaw} {n k : Nat} {q : Program} {loose : List Str} {XP : (Str → Option Value) → Heap → Prop} {YP : World → Heap → Prop} {d : DefRec} {K : Params → PySem.W.Frag} {CX : World → CXT} {sp : World → Sp} {x : Str}
    (hn : l.most = some n) (hn2 : n ≤ sizeLine) (hdf : d.params.defaults = []) (hr : Room k callerA)
    (hY : ∀ (w : World) (h : Heap), YP w h → (K w.params).In h)
    (F : ∀ (w : World) (mg : Str → Option Value) (fa : Addr) (h : Heap), (K w.params).In h → h.Ns mainGlobals mg → mg d.name = some (.ref fa) →
      ∃ fd : FuncData, (∀ (s : Shared) (u : Value), BindsTo s fd ⟨[u], []⟩ [(x, u)]) ∧
        ∀ base : Heap, (K w.params).In base → base.Ns mainGlobals mg → FnOk l.prog w (K w.params) mg base (CX w) k fa fd [x] (sp w))
    (hsp : ∀ (w : World) (H : Hp) (a : Addr) (ns : List Int), ns.length ≤ n → Only H → SqL (K w.params) H a (ns.map V.int) → sp w [.ref a] H (fun v _ => v = .bl true) fun _ _ _ => False)
    (hCX : ∀ (w : World) (H : Hp) (s : Shared) (e : Value) (s' : Shared), CX w [] H s (fun _ _ _ => False) e s' → False) :
    PySem.W.WalkO q loose XP YP l.row.toRowW d [] (fun f vs => PySem.call f vs) := by
  refine Att.attach_call hn hdf fun w s₀ s₁ mg mb fa o pm cd doc a vs ns G Y ho hd hcd hmg hobj hints hlen hg => ?_
  have KX := hY w _ Y
  obtain ⟨fd, hb, hF⟩ := F w mg fa _ KX G.T.g hmg
  exact law_call KX G.T.g G.T.b G.T.builtins G.T.nolimit hg hobj hints (Nat.le_trans hlen hn2) hr hF hb (fun H hO hS => hsp w H a ns hlen hO hS) fun H e s' => hCX w H s₁ e s'
end L2
/- THE LAST THEOREM (shape; LID, My.* are yours):
   My.Adr: a structure of the addresses that your layer names (classes, functions); My.Txt K t: a structure (Prop) of the equations over K;
   My.txt_mk : {K} {implicit addresses ..} (e1 : nsIn K mainGlobals "law" = some (some (.ref f))) (e2 : K.lookup f = some ⟨oc, od, .func (fnOf "law" "law" params body scope dV kV doc pm an cdv ct), sl⟩) (e3 : codeIn K cdv "law" = true) .. : ∃ t, My.Txt K t
set_option maxRecDepth 100000 in
set_option maxHeartbeats 0 in
theorem PySem.Challenge.cw_LID_holds : PySem.Challenge.rw_LID.Holds := by
  w_on; o_law; k_head; (case hw => w_witness2)
  k_fill
  refine L2.walk_of (l := PySem.Challenge.rw_LID) (n := 63) (k := 40) (x := "script") (CX := fun w => ..) (sp := fun _ => My.sp_law) rfl (by decide) rfl ⟨rfl, by decide, by decide⟩ (fun w h Y => PySem.W.kIn_of Y) ?F ?S ?C
  case F =>
    intro w mg fa h KX G hmg
    have T : ∃ t, My.Txt (L2.KOf KX) t := by
      dsimp only [L2.KOf]                          -- K must stand as «<heap const> w.params» for k_is
      refine' My.txt_mk ?e1 ?e2 ?e3 ..
      (case e1 => PySem.W.k_is)                    -- in the order: a name -> its address -> its object -> its parts
      (case e2 => PySem.W.k_is)
      ..
    obtain ⟨t, T⟩ := T
    have e0 := hmg.symm.trans (PySem.W.mg_of KX G T.law)
    cases e0                                       -- fa is the law's own address
    exact ⟨_, fun s u => .of_eq rfl, fun base kb nb => My.law_fn T kb nb⟩     -- if «.of_eq rfl» comes too early: refine' ⟨_, ?b, fun base kb nb => My.law_fn T kb nb⟩; exact fun s u => .of_eq rfl
  case S => exact fun w H a ns hl hO hS => ..
  case C => exact ..
(the tactic k_is has no namespace: write k_is) -/
namespace L2
open PySem PySem.Spec PyProof.Rows
/-- the j-th statement of a class's body -/
noncomputable abbrev CX0 : CXT := fun _ _ _ _ _ _ => False
structure Fun (K : PySem.W.Frag) (x qual : Str) (st : Stmt) (f : Addr) (fd : FuncData) : Prop where
  ex : ∃ (oc : Value) (od : Option Addr) (kV doc pm : Value) (an : Option Addr) (cdv ct : Value) (osl : Array (Option Value)),
    fd = PySem.W.fnOf x qual (defArgs st) (defBody st) (defScope st) .none kV doc pm an cdv ct ∧ K.lookup f = some ⟨oc, od, .func fd, osl⟩ ∧ PySem.W.codeIn K cdv qual = true
  kp : PySem.W.keepIn K (.ref f) = true
section
variable {P : Program} {w : World} {K : PySem.W.Frag} {mg : Str → Option Value} {base : Heap}
/-- THE RULE for a def: its body as a term of rules, and the reading of that term -/
theorem Fun.ok {x qual : Str} {st : Stmt} {f : Addr} {fd : FuncData} {N ps : List Str} {k : Nat} {sp : Sp} (F : Fun K x qual st f fd) (S : FnScope N ps (defScope st)) (len : ∀ vs H Q E, sp vs H Q E → vs.length = ps.length)
    (hbody : ∀ (cdv : Value) (A : Around) (outer : List Env) (s : Shared) (H : Hp) (vs : List V) (Q : VK) (E : XK), Room k (A.deeper (envOfC qual (defScope st) s.heap.objs.size f cdv)) → sp vs H Q E →
      ∃ t, PSs (cxOf CX0 P w K mg base N qual (defScope st) f cdv A outer s H E).nox (defBody st) t ∧ t { nx := fun _ H' => Q .non H', rt := Q } (start N vs) H) : FnOk P w K mg base CX0 (k + 1) f fd ps sp := by
  obtain ⟨oc, od, kV, doc, pm, an, cdv, ct, osl, rfl, lk, hcd⟩ := F.ex
  refine fn_of lk hcd S len fun A outer s H vs Q E hr hsp => ?_
  obtain ⟨t, h, q⟩ := hbody cdv A outer s H vs Q E hr hsp
  exact ⟨t, h.nox, q⟩
/-- how its arguments bind (no defaults): h is «fun _ _ _ _ _ _ us hl => match us, hl with | [_, _], _ => rfl», one _ a parameter -/
theorem Fun.binds {x qual : Str} {st : Stmt} {f : Addr} {fd : FuncData} {ps : List Str} (F : Fun K x qual st f fd)
    (h : ∀ (kV doc pm : Value) (an : Option Addr) (cdv ct : Value) (us : List Value), us.length = ps.length → bindArgs (PySem.W.fnOf x qual (defArgs st) (defBody st) (defScope st) .none kV doc pm an cdv ct) ⟨us, []⟩ = pure (ps.zip us)) : Binds K fd ps [] := by
  obtain ⟨oc, od, kV, doc, pm, an, cdv, ct, osl, rfl, lk, hcd⟩ := F.ex
  exact .all (h kV doc pm an cdv ct)
theorem fun_mk {x qual : Str} {st : Stmt} {f : Addr} {oc : Value} {od an : Option Addr} {osl : Array (Option Value)} {kV doc pm cdv ct : Value} (l : K.lookup f = some ⟨oc, od, .func (PySem.W.fnOf x qual (defArgs st) (defBody st) (defScope st) .none kV doc pm an cdv ct), osl⟩)
    (c : PySem.W.codeIn K cdv qual = true) (k : PySem.W.keepIn K (.ref f) = true) : Fun K x qual st f (PySem.W.fnOf x qual (defArgs st) (defBody st) (defScope st) .none kV doc pm an cdv ct) := ⟨⟨oc, od, kV, doc, pm, an, cdv, ct, osl, rfl, l, c⟩, k⟩
end
section
variable {X : Cx}
end
theorem ite2 {c A B : Prop} [Decidable c] (h1 : c → A) (h2 : ¬ c → B) : if c then A else B := by
  by_cases h : c
  · rw [if_pos h]
    exact h1 h
  · rw [if_neg h]
    exact h2 h
/-- all that was tracked is as it was -/
noncomputable def Same (H H' : Hp) : Prop := ∀ b o, H b = some o → H' b = some o
theorem Same.refl (H : Hp) : Same H H := fun _ _ h => h
theorem Same.trans {H H1 H2 : Hp} (a : Same H H1) (b : Same H1 H2) : Same H H2 := fun c o h => b c o (a c o h)
theorem Same.free {H H' : Hp} (e : Same H H') {l : Addr} (h : H' l = Option.none) : H l = Option.none := by
  cases q : H l with
  | none => rfl
  | some o =>
    rw [e l o q] at h
    cases h
theorem Same.seq {K : PySem.W.Frag} {H H' : Hp} {a : Addr} {xs : List V} (e : Same H H') (h : SqL K H a xs) : SqL K H' a xs := by
  rcases h with (h | ⟨o, h⟩) | h
  · exact .inl (.inl (e _ _ h))
  · exact .inl (.inr ⟨o, e _ _ h⟩)
  · exact .inr h
end L2
set_option Elab.async false
set_option linter.all false
set_option maxRecDepth 100000
set_option maxHeartbeats 4000000
namespace L2
open PySem PySem.Spec PyProof.Rows
section
variable {prog : Program} {w : World} {A : Around} {R : Result → Shared → Prop} {s : Shared}
theorem codeAny_compLoop_go {elt target iter : Expr} {ifs : List Expr} {scope : Scope} {pos : Pos} {it acc : Value} {env : Env} {E' : Value → Shared → Prop} (I : Nat → Shared → Prop)
    (hE : ∀ e s', E' e s' → notedBy (model prog w) A env (fun e s' => R (.error e) s') e s')
    (turn : ∀ n s, I n s → wpAny (model prog w) A (pyNext it) (fun r s₁ => match r with
      | none => R (.ok .next) s₁
      | some v => wpAny (model prog w) A (letOwnedTupleGo target it v) (fun _ s₁' => wpAny (model prog w) A (assign target env v) (fun _ s₂ =>
          wpAny (model prog w) A (forIn ifs true fun c r => if r = true then do let ok ← isTrue c env (eval c env); pure (ForInStep.yield ok) else pure (ForInStep.yield r)) (fun ok s₃ =>
            if ok = true then wpAny (model prog w) A (eval elt env) (fun x s₄ =>
              wpAny (model prog w) A (call (.builtin "list.append") [acc, x]) (fun _ s₅ => ∃ m, m < n ∧ I m s₅) E' s₄) E' s₃
            else ∃ m, m < n ∧ I m s₃) E' s₂) E' s₁') E' s₁) E' s)
    (n : Nat) (h : I n s) :
    codeAny (model prog w) A (.compLoop (.ListComp elt [⟨target, iter, ifs, 0⟩] scope pos) 0 it acc env) R s := by
  refine codeAny_loop rfl I (fun n s hI => ?_) n h
  show wpAny _ A ((compTurn (.ListComp elt [⟨target, iter, ifs, 0⟩] scope pos) 0 it acc env).onRaise (fun x => do noteFrame x env; theTreesLotGoes x)) _ _ s
  refine wpAny_noted ?_
  rw [compTurn_list]
  refine wpAny_bind (wpAny_standAt (wpAny_bind (wpAny_mono (turn n s hI) (fun r s₁ h₁ => ?_) hE)))
  cases r with
  | none => exact wpAny_pure h₁
  | some v =>
    refine wpAny_bind (wpAny_mono h₁ (fun _ s₁' h₁' => ?_) hE)
    refine wpAny_bind (wpAny_mono h₁' (fun _ s₂ h₂ => wpAny_bind (wpAny_mono h₂ (fun ok s₃ h₃ => ?_) hE)) hE)
    cases ok with
    | false => exact wpAny_pure ⟨rfl, h₃⟩
    | true =>
      exact wpAny_bind (wpAny_bind (wpAny_mono h₃ (fun x s₄ h₄ => wpAny_bind (wpAny_mono h₄ (fun _ s₅ h₅ => wpAny_pure (wpAny_pure ⟨rfl, h₅⟩)) hE)) hE))
end
/-- the tests of a comprehension's clause -/
noncomputable def PF (X : Cx) (ifs : List Expr) (t : TT) : Prop :=
  ∀ (pins : List (Addr × Obj)) (s : Shared) (σ : St) (H : Hp) (Q : Bool → Hp → Prop), Inv X pins σ H s → t σ H Q →
    wpAny (model X.prog X.w) X.A (forIn ifs true fun c r => if r = true then do let ok ← isTrue c X.env (eval c X.env); pure (ForInStep.yield ok) else pure (ForInStep.yield r)) (TP X pins σ Q) X.xe s
noncomputable def tYes : TT := fun _ H Q => Q true H
theorem pf_nil {X : Cx} : PF X [] tYes := fun _ _ _ H _ I h => wpAny_tests_nil ⟨H, I, h⟩
/-- the context of a comprehension's block, at its entry -/
noncomputable def cxB (X : Cx) (Nc : List Str) (scope : Scope) (cl : List (Str × Addr)) (C : Addr) (fp : List Addr) (s : Shared) (H : Hp) : Cx :=
  { X with N := Nc, s₀ := s, H₀ := H, env := compEnvC scope cl C X.env, outer := X.stack, ex := fp, fn := fun _ => false, pn := [], xe := fun _ _ => False }
/-- a comprehension's scope within X: its own names, and those that it reads of X's -/
structure Blk (X : Cx) (Nc : List Str) (scope : Scope) (cl : List (Str × Addr)) (cap : St → St) : Prop where
  clos : closureFor scope X.env = pure cl
  kind : scope.kind = .function
  names : ∀ x ∈ scope.names, x.2 = .local → scope.names.lookup x.1 = some .local
  nocell : ∀ y ∈ scope.names, y.2 ≠ .cell
  sub : ∀ y c, cl.lookup y = some c → X.env.cells.lookup y = some c
  has : ∀ y, ((relabel scope X.env).names.lookup y = some .cell ∨ (relabel scope X.env).names.lookup y = some .free) → ∃ c, cl.lookup y = some c
  take : ∀ (σ : St) (i : Nat) (y : Str) (v : V), Nc[i]? = some y → (cap σ)[i]? = some (some v) → Vis (relabel scope X.env) y →
    ((relabel scope X.env).names.lookup y = some .cell ∨ (relabel scope X.env).names.lookup y = some .free) ∧ Vis X.env.scope y ∧ X.env.scope.names.lookup y ≠ some .local ∧ ∃ j : Nat, X.N[j]? = some y ∧ σ[j]? = some (some v)
  len : ∀ σ : St, (cap σ).length = Nc.length
theorem relabel_nofree {scope : Scope} {env : Env} (h : ∀ y ∈ scope.names, y.2 ≠ .free) : relabel scope env = scope := by
  unfold relabel
  rw [map_eq_self (l := scope.names) (fun x hx => by
    obtain ⟨n, k⟩ := x
    have : (k == NameKind.free) = false := by simpa using h _ hx
    simp [this])]
theorem lookup_kind {names : List (Str × NameKind)} {x : Str} {k : NameKind} (h : names.lookup x = some k) : (x, k) ∈ names := PySem.mem_of_lookup h
/-- nothing is read from around -/
theorem blk0 {X : Cx} {Nc : List Str} {scope : Scope} (kind : scope.kind = .function) (all : ∀ y ∈ scope.names, y.2 ≠ .free ∧ y.2 ≠ .cell) (names : ∀ x ∈ scope.names, x.2 = .local → scope.names.lookup x.1 = some .local) :
    Blk X Nc scope [] (fun _ => List.replicate Nc.length none) where
  clos := closureFor_none fun x hx => (all x hx).1
  kind := kind
  names := names
  nocell := fun y hy => (all y hy).2
  sub := fun y c h => by cases h
  has := fun y h => by
    rw [relabel_nofree fun z hz => (all z hz).1] at h
    rcases h with h | h
    · exact absurd rfl (all _ (lookup_kind h)).2
    · exact absurd rfl (all _ (lookup_kind h)).1
  take := fun σ i y v h1 h2 h3 => by
    rw [List.getElem?_replicate] at h2
    split at h2 <;> cases h2
  len := fun σ => List.length_replicate ..
/-- what is wanted of a comprehension: W: the invariant by the turn, a measure and the items so far -/
noncomputable def cOk (cap : St → St) (g : TG) (tt : TT) (te : TE) (K : List V → Hp → Prop) (σ : St) (J : It) (H1 : Hp) : Prop :=
  ∃ W : Nat → Nat → St → Hp → List V → Prop, (∃ m, W 0 m (cap σ) H1 []) ∧ ∀ i m σ' H' ys, W i m σ' H' ys →
    (J.stop i H' ∧ K ys H') ∨
    (J.go i H' ∧ ys.length < sizeLine ∧ ∃ N : St → Hp → List V → Prop, (∀ σ2 H2 ys2, N σ2 H2 ys2 → ∃ m', m' < m ∧ W (i + 1) m' σ2 H2 ys2) ∧
      ∀ x H2, J.yld i H' x H2 → g x σ' H2 fun σ3 H3 => tt σ3 H3 fun b H4 => if b = true then te σ3 H4 fun y H5 => N σ3 H5 (ys ++ [y]) else N σ3 H4 ys)
noncomputable def tComp (wi : TI) (cap : St → St) (g : TG) (tt : TT) (te : TE) : TE := fun σ H Q => wi σ H fun J H1 => cOk cap g tt te (fun ys H' => ∀ a, H' a = none → Q (.ref a) (upd H' a (.lst ys))) σ J H1
section
variable {X : Cx} {elt tg iter : Expr} {ifs : List Expr} {scope : Scope} {pos : Pos} {g : TG} {tt : TT} {te : TE} {Nc : List Str} {cap : St → St} {cl : List (Str × Addr)}
theorem comp_block (hc : X.calm = true) (B : Blk X Nc scope cl cap) (hg : ∀ C fp s H, PG (cxB X Nc scope cl C fp s H) tg g) (ht : ∀ C fp s H, PF (cxB X Nc scope cl C fp s H) ifs tt) (he : ∀ C fp s H, PE (cxB X Nc scope cl C fp s H) elt te)
    {pins : List (Addr × Obj)} {σ : St} {H2 : Hp} {s2 : Shared} {E : Value → Shared → Prop} {RR : Value → Addr → Result → Shared → Prop} {J : It} {fp : List Addr} {it : Addr} {tn : Nat → Heap → Prop} {K : List V → Hp → Prop}
    (I2 : Inv X pins σ H2 s2) (T : Turn X.prog X.w X.K tg J fp it tn) (st2 : tn 0 s2.heap) (f2 : ∀ b ∈ fp, FpOk X pins H2 b) (w2 : cOk cap g tt te K σ J H2)
    (fin : ∀ (D C : Addr) (s' : Shared) (H' : Hp) (ys : List V) (oC : Obj), H' D = none → K ys H' → Inv X pins σ (upd H' D (.lst ys)) s' → FpOk X pins (upd H' D (.lst ys)) C → s'.heap.get? C = some oC → (∀ v, oC.data ≠ .cell v) → (∃ m, s'.heap.Ns C m) → RR (.ref D) C (.ok .next) s') :
    wpAny (model X.prog X.w) X.A (newList []) (fun acc s₃ => wpAny (model X.prog X.w) X.A (newFunctionEnv scope X.env.globals cl [] X.env.qual none .none (some X.env)) (fun cenv s₄ =>
      codeAny (model X.prog X.w) X.A (.compStart (.ListComp elt [⟨tg, iter, ifs, 0⟩] scope pos) 0 (.ref it) acc { cenv with scope := relabel scope X.env }) (RR acc cenv.locals) s₄) E s₃) E s2 := by
  refine wpAny_newObj_type (wpAny_newFunctionEnv B.nocell (by intro y hy; simp at hy) (fun h₁ hns₁ hsb₁ => ?_) B.kind)
  dsimp only at hns₁ hsb₁ ⊢
  generalize hP2 : s2.heap.push { cls := .type "list", dict := none, data := .seq ([] : List Value).toArray } = P2 at hns₁ hsb₁ ⊢
  generalize hDD : s2.heap.objs.size = D at hns₁ hsb₁ ⊢
  have hCs : P2.objs.size = D + 1 := by rw [← hP2, Heap.size_push, hDD]
  generalize hCC : P2.objs.size = C at hns₁ hsb₁ hCs ⊢
  have hDC : D ≠ C := Nat.ne_of_lt (by rw [hCs]; exact Nat.lt_succ_self _)
  have ltC : ∀ b : Addr, b < D → b ≠ C := fun b h => Nat.ne_of_lt (by rw [hCs]; exact Nat.lt_succ_of_lt h)
  have leC : D ≤ C := by rw [hCs]; exact Nat.le_succ _
  have old : ∀ b o, s2.heap.get? b = some o → h₁.get? b = some o := fun b o e => by
    have hb := Heap.lt_size e
    rw [hDD] at hb
    refine hsb₁.extBut b o (ltC b hb) (Heap.get?_push_of_some _ ?_)
    rw [← hP2]
    exact Heap.get?_push_of_some _ e
  have hacc : h₁.get? D = some { cls := .type "list", data := .seq #[] } := by
    refine hsb₁.extBut D _ hDC (Heap.get?_push_of_some _ ?_)
    rw [← hP2, ← hDD]
    exact Heap.get?_push_size _ rfl
  have lt2 : ∀ b o, s2.heap.get? b = some o → b < D := fun b o e => by rw [← hDD]; exact Heap.lt_size e
  have fplt : ∀ b ∈ fp, b < D := fun b hb => by
    obtain ⟨o, e, _⟩ := T.obj _ _ st2 b hb
    exact lt2 b o e
  have celt : ∀ x c, X.env.cells.lookup x = some c → c < D := fun x c e => by
    obtain ⟨v, z⟩ := I2.cell x c e
    rw [← hDD]
    exact z.lt
  have pinlt : ∀ p ∈ X.pn ++ pins, p.1 < D := fun p hp => lt2 _ _ (I2.pin p hp).1
  have fstk : ∀ b ∈ fp, b ∉ frs X.stack := fun b hb z => (List.mem_cons.mp (I2.stkSub b z)).elim (f2 b hb).2.1 (f2 b hb).2.2.1
  have hDn : H2 D = none := I2.hok.fresh (by rw [hDD]; exact Nat.le_refl _)
  have hCn : H2 C = none := I2.hok.fresh (by rw [hDD]; exact leC)
  have sz0 : X.s₀.heap.objs.size ≤ D := by rw [← hDD]; exact I2.sz
  let Xc := cxB X Nc scope cl C fp s2 H2
  have okc : Xc.Ok := by
    refine ⟨I2.ok.mod, ?_, I2.ok.glob, I2.ok.blt, ?_, fun x y c h1 h2 => I2.ok.inj x y c (B.sub x c h1) (B.sub y c h2), fun x hx => B.has x hx, (fun x c h => by cases h), I2.ok.hd, I2.ok.frames, .inl rfl, ?_, I2.bs, Nat.le_trans I2.ok.bsz I2.sz, ?_, fstk, I2.stack, I2.stkFree⟩
    · exact B.kind
    · show s2.heap.objs.size ≤ C
      rw [hDD]; exact leC
    · intro b hb
      refine ⟨?_, fun x c e => ?_⟩
      · exact ltC b (fplt b hb)
      · exact (f2 b hb).2.2.2.2.1 x c (B.sub x c e)
    · intro b o e hb
      rcases (f2 b hb).2.2.2.1 with z | z
      · exact I2.ok.noex b o e z
      · exact absurd (Nat.lt_of_lt_of_le (Heap.lt_size (I2.ok.bs b o e).1) z) (Nat.lt_irrefl _)
  have I0 : ∀ tk, Inv Xc (X.pn ++ pins) (cap σ) H2 { s2 with heap := h₁, toks := tk } := fun tk => by
    refine ⟨okc, rfl, I2.bare, Un.kept old, ⟨_, hns₁, fun i y v h1 h2 h3 => ?_⟩, fun x c e => ?_, hCn, fun x c e => I2.freeC x c (B.sub x c e), fun p hp => ?_, I2.hok.kept old, B.len σ⟩
    · obtain ⟨k1, k2, k3, j, k4, k5⟩ := B.take σ i y v h1 h2 h3
      obtain ⟨m, hn, hl⟩ := I2.loc
      obtain ⟨u, r, l⟩ := hl j y v k4 k5 k2
      refine ⟨u, r, .inr ⟨k1, ?_⟩⟩
      rcases l with ⟨l, _⟩ | ⟨_, c, e, z⟩
      · exact absurd l k3
      · obtain ⟨c', e'⟩ := B.has y k1
        have := B.sub y c' e'
        rw [e] at this; cases this
        obtain ⟨oc, ec, dc⟩ := z
        exact ⟨c, e', oc, old _ _ ec, dc⟩
    · obtain ⟨v, oc, ec, dc⟩ := I2.cell x c (B.sub x c e)
      exact ⟨v, oc, old _ _ ec, dc⟩
    · have hp' : p ∈ X.pn ++ pins := by simpa [Xc, cxB] using hp
      obtain ⟨e, n, ne, nf, d⟩ := I2.pin p hp'
      exact ⟨old _ _ e, n, ltC _ (pinlt p hp'), fun z => (List.mem_cons.mp (I2.stkSub _ z)).elim ne nf, d⟩
  have fpc : ∀ {H' : Hp} {o : Obj}, (∀ b ∈ fp, H' b = none) → ∀ b ∈ fp, FpOk Xc ((X.pn ++ pins) ++ [(D, o)]) H' b := fun {H' o} hn b hb => by
    refine ⟨hn b hb, ltC b (fplt b hb), fstk b hb, .inl hb, fun x c e => (f2 b hb).2.2.2.2.1 x c (B.sub x c e), fun p hp => ?_⟩
    · have hp' : p ∈ X.pn ++ pins ∨ p = (D, o) := by
        rcases List.mem_append.mp hp with z | z
        · cases z
        · rcases List.mem_append.mp z with z | z
          · exact .inl z
          · exact .inr (List.mem_singleton.mp z)
      rcases hp' with z | z
      · exact (f2 b hb).2.2.2.2.2 p z
      · subst z
        exact Nat.ne_of_gt (fplt b hb)
  obtain ⟨W, ⟨m0, w0⟩, turn⟩ := w2
  have loop : ∀ tk, codeAny (model X.prog X.w) X.A (.compLoop (.ListComp elt [⟨tg, iter, ifs, 0⟩] scope pos) 0 (.ref it) (.ref D) Xc.env) (RR (.ref D) C) { s2 with heap := h₁, toks := tk } := by
    intro tk
    refine codeAny_compLoop_go (E' := fun _ _ => False)
      (fun n s' => ∃ (i : Nat) (σ' : St) (H' : Hp) (ys : List V) (its : List Value) (k : Nat), Inv Xc (X.pn ++ pins) σ' H' s' ∧ tn i s'.heap ∧ (∀ b ∈ fp, H' b = none) ∧ H' D = none ∧ s'.heap.get? D = some { cls := .type "list", data := .seq its.toArray k } ∧
        Vals ys its ∧ ys.length ≤ sizeLine ∧ W i n σ' H' ys) (fun _ _ z => z.elim) ?_ m0
      ⟨0, cap σ, H2, [], [], 0, I0 tk, T.keep _ _ _ st2 fun b _ o e => old b o e, fun b hb => (f2 b hb).1, hDn, hacc, .nil, Nat.zero_le _, w0⟩
    rintro n s3 ⟨i, σ3, H3, ys, its, k, I3, st3, fr3, hD3, o3, rv3, hz3, w3⟩
    have I3' : Inv Xc ((X.pn ++ pins) ++ [(D, { cls := .type "list", data := .seq its.toArray k })]) σ3 H3 s3 := I3.pins_of fun p hp => by
      have hp' : p ∈ X.pn ++ pins ∨ p = (D, { cls := .type "list", data := .seq its.toArray k }) := by
        rcases List.mem_append.mp hp with z | z
        · exact .inl z
        · exact .inr (List.mem_singleton.mp z)
      rcases hp' with z | z
      · exact I3.pin p (by simpa [Xc, cxB] using z)
      · subst z
        refine ⟨o3, hD3, hDC, fun z => ?_, (fun v z => by cases z)⟩
        · obtain ⟨_, o, ho, _⟩ := I2.stack.mem z
          exact absurd (lt2 _ _ ho) (Nat.lt_irrefl _)
    rcases turn i n σ3 H3 ys w3 with ⟨stop, qn⟩ | ⟨go, hlt, N, hN, step⟩
    · refine thn (T.done Xc rfl rfl rfl hc i _ s3 σ3 H3 _ I3' (fpc fr3) st3 stop) fun r s4 zz1 => ?_
      obtain ⟨hr, I4⟩ := zz1
      subst hr
      have pD := I4.pin (D, { cls := .type "list", data := .seq its.toArray k }) (by simp)
      obtain ⟨m4, hn4, _⟩ := I4.loc
      obtain ⟨oC, es, ep, eC, dC, rC⟩ := id hn4
      have hD4 : H3 D = none := hD3
      have hC4 : H3 C = none := I4.free
      have hupd : ∀ b u, H3 b = some u → upd H3 D (.lst ys) b = some u := fun b u e => by rw [upd_ne (ne_of_none e hD4)]; exact e
      have un : Un (frs X.stack) fp H2 (upd H3 D (.lst ys)) s2.heap s4.heap := by
        have u := I4.base
        refine ⟨u.keep, u.slot, fun b o e n hx => ?_, u.there, fun b xs e => hupd _ _ (u.tups b xs e), fun b o v e => hupd _ _ (u.frzs b o v e), fun b ps e => ?_⟩
        · rw [upd_ne (Nat.ne_of_lt (lt2 b o e))]
          exact u.free b o e n hx
        · obtain ⟨more, q⟩ := u.tbls b ps e
          exact ⟨more, hupd _ _ q⟩
      have hok : HOk X.prog X.w (upd H3 D (.lst ys)) s4.heap := fun b u e => by
        by_cases hb : b = D
        · subst hb
          rw [upd_same] at e; cases e
          exact ⟨hz3, its, k, rv3, pD.1⟩
        · rw [upd_ne hb] at e
          exact (I4.hok b u e).stay (fun _ _ _ q => q) (fun c q => hupd _ _ q) fun c xs q => hupd _ _ q
      have I5 : Inv X pins σ (upd H3 D (.lst ys)) s4 := I2.call' (ch := fp) I4.os un hok I4.bare fun b hb => ⟨(f2 b hb).2.2.2.1, (f2 b hb).2.1, (f2 b hb).2.2.2.2.1, (f2 b hb).2.2.2.2.2⟩
      refine fin D C s4 H3 ys oC hD4 qn I5 ⟨?_, ?_, fun z => ?_, .inr (Nat.le_trans sz0 leC), fun x c e => ?_, fun p hp => ?_⟩ eC (fun v z => by rw [dC] at z; cases z) ⟨m4, hn4⟩
      · rw [upd_ne (Ne.symm hDC)]; exact hC4
      · have := I2.lt
        rw [hDD] at this
        exact Ne.symm (ltC _ this)
      · exact I2.nofs (a := C) (by rw [hDD]; exact leC) z
      · exact ltC _ (celt x c e)
      · exact ltC _ (pinlt p hp)
    · refine thn (T.item Xc rfl rfl rfl hc i _ s3 σ3 H3 _ I3' (fpc fr3) st3 go) fun r s4 zz2 => ?_
      obtain ⟨u, hr, h4⟩ := zz2
      subst hr
      refine thn h4 fun _ s5 zz3 => ?_
      obtain ⟨x, H5, I5, r5, y5, st5, fr5⟩ := zz3
      have I5' := I5.pinned (fpc fr5) (T.obj _ _ st5)
      refine thn (hg C fp s2 H2 _ s5 σ3 H5 x u _ I5' r5 (step x H5 y5)) fun _ s6 zz4 => ?_
      obtain ⟨σ6, H6, I6, q6⟩ := zz4
      refine thn (ht C fp s2 H2 _ s6 σ6 H6 _ I6 q6) fun ok s7 zz5 => ?_
      obtain ⟨H7, I7, q7⟩ := zz5
      have again : ∀ {σ8 : St} {H8 : Hp} {s8 : Shared}, Inv Xc (((X.pn ++ pins) ++ [(D, { cls := .type "list", data := .seq its.toArray k })]) ++ pinsAt fp s5.heap) σ8 H8 s8 →
          tn (i + 1) s8.heap ∧ (∀ b ∈ fp, H8 b = none) ∧ s8.heap.get? D = some { cls := .type "list", data := .seq its.toArray k } ∧ H8 D = none := fun {σ8 H8 s8} I8 => by
        refine ⟨T.keep _ _ _ st5 fun b hb o e => (I8.pin (b, o) (List.mem_append_right _ (List.mem_append_right _ (mem_pinsAt hb e)))).1, fun b hb => ?_, ?_⟩
        · obtain ⟨o, e, d⟩ := T.obj _ _ st5 b hb
          exact (I8.pin (b, o) (List.mem_append_right _ (List.mem_append_right _ (mem_pinsAt hb e)))).2.1
        · have := I8.pin (D, { cls := .type "list", data := .seq its.toArray k }) (by simp)
          exact ⟨this.1, this.2.1⟩
      cases ok with
      | false =>
        rw [if_neg Bool.false_ne_true] at q7 ⊢
        obtain ⟨m', hm, w7⟩ := hN _ _ _ q7
        obtain ⟨t7, f7, o7, d7⟩ := again I7
        exact ⟨m', hm, i + 1, σ6, H7, ys, its, k, I7.unpinned.unpinned, t7, f7, d7, o7, rv3, hz3, w7⟩
      | true =>
        rw [if_pos rfl] at q7 ⊢
        refine thn (he C fp s2 H2 _ s7 σ6 H7 _ I7 q7) fun y s8 zz6 => ?_
        obtain ⟨yv, H8, I8, r8, q8⟩ := zz6
        obtain ⟨m', hm, w8⟩ := hN _ _ _ q8
        obtain ⟨t8, f8, o8, d8⟩ := again I8
        have hlen := rv3.length
        refine wpAny_list_append_plain (s := s8) (items := its.toArray) ⟨k, o8⟩ (fun h9 zz7 sb9 => ?_) (by rw [List.size_toArray]; omega)
        obtain ⟨k9, l9⟩ := zz7
        have I9 : Inv Xc (X.pn ++ pins) σ6 H8 { s8 with heap := h9 } := by
          refine I8.unpinned.unpinned.turned (t' := s8.toks) (fun b o hb e => (sb9.2 b hb).trans e) d8 ?_ (.inr ?_) (fun x c e => ?_) fun p hp => ?_
          · exact hDC
          · show s2.heap.objs.size ≤ D
            rw [hDD]; exact Nat.le_refl _
          · exact Nat.ne_of_lt (celt x c (B.sub x c e))
          · exact Nat.ne_of_lt (pinlt p (by simpa [Xc, cxB] using hp))
        refine ⟨m', hm, i + 1, σ6, H8, ys ++ [yv], its ++ [y], k9, I9, ?_, f8, d8, ?_, rv3.append (.cons r8 .nil), ?_, w8⟩
        · refine T.keep _ _ _ t8 fun b hb o e => ?_
          exact (sb9.2 b (Nat.ne_of_lt (fplt b hb))).trans e
        · rw [l9]
          simp
        · rw [List.length_append, List.length_singleton]
          omega
  have env_eq : Xc.env = compEnvC scope cl C X.env := rfl
  exact codeAny_compStart_list (loop _) (T.self _ 0 _ _ _ (T.keep _ _ _ st2 fun b _ o e => old b o e) (loop _))
theorem pe_comp {wi : TI} (hc : X.calm = true) (hi : PI X tg iter wi) (B : Blk X Nc scope cl cap) (hg : ∀ C fp s H, PG (cxB X Nc scope cl C fp s H) tg g) (ht : ∀ C fp s H, PF (cxB X Nc scope cl C fp s H) ifs tt) (he : ∀ C fp s H, PE (cxB X Nc scope cl C fp s H) elt te)
    (hs : ∀ x, foldedSetIterable iter X.env x = pure x := by intro _; rfl) : PE X (.ListComp elt [⟨tg, iter, ifs, 0⟩] scope pos) (tComp wi cap g tt te) := by
  intro pins s σ H Q I h
  rw [eval_ListComp]
  refine wpAny_comprehension_free (use := none) rfl hs B.clos B.kind B.names (thn (hi pins s σ H _ I h) fun v s1 h1 => thn h1 fun itv s2 h2 => ?_)
  obtain ⟨it, fp, tn, J, H2, e, I2, T, st2, f2, w2⟩ := h2
  subst e
  refine comp_block (RR := fun acc C => compPost (model X.prog X.w) X.A X.xe none (EP X pins σ Q) acc C) hc B hg ht he I2 T st2 f2 w2 ?_
  intro D C s' H' ys oC hD q I' F eC dC ⟨m, hn⟩
  obtain ⟨f0, f1, _, f3, f4, f5⟩ := F
  exact ⟨m, hn, fun h' sb => ⟨.ref D, _, I'.turned (t' := s'.toks) (fun b o hb e => (sb.2 b hb).trans e) f0 f1 f3 f4 f5, rfl, q D hD⟩⟩
/-- name = [..] on one line: the store comes ahead of the comprehension's own names' end -/
theorem ps_setComp {wi : TI} {i : Nat} {x : Str} {pos' spos : Pos} (hN : X.N.Nodup) (hix : X.N[i]? = some x) (hx : X.env.scope.names.lookup x = some .local) (hsw : swapsWith (.ListComp elt [⟨tg, iter, ifs, 0⟩] scope pos) (some (.Name x pos')) spos.line X.env = pure true)
    (hc : X.calm = true) (hi : PI X tg iter wi) (B : Blk X Nc scope cl cap) (hg : ∀ C fp s H, PG (cxB X Nc scope cl C fp s H) tg g) (ht : ∀ C fp s H, PF (cxB X Nc scope cl C fp s H) ifs tt) (he : ∀ C fp s H, PE (cxB X Nc scope cl C fp s H) elt te)
    (hs : ∀ x, foldedSetIterable iter X.env x = pure x := by intro _; rfl) : PS X (.Assign [.Name x pos'] (.ListComp elt [⟨tg, iter, ifs, 0⟩] scope pos) spos) (tAsg (tComp wi cap g tt te) (gName i)) := by
  intro pins s σ H D0 I h
  rw [exec_Assign_Name_used _ _ _ _ hsw]
  refine wpAny_bind (wpAny_standAt (wpAny_bind ?_))
  show wpAny _ X.A (do let _ ← comprehension (.ListComp elt [⟨tg, iter, ifs, 0⟩] scope pos) scope X.env _ (newList []) false (eval iter X.env) (some (assign (.Name x pos') X.env))) _ _ s
  refine wpAny_bind (wpAny_mono (wpAny_comprehension_free (use := some (assign (.Name x pos') X.env)) (Q := fun _ s' => SP X pins D0 .next s') rfl hs B.clos B.kind B.names
    (thn (hi pins s σ H _ I h) fun v s1 h1 => thn h1 fun itv s2 h2 => ?_)) (fun _ s' hq => wpAny_pure (wpAny_pure hq)) fun _ _ e => e)
  obtain ⟨it, fp, tn, J, H2, e, I2, T, st2, f2, w2⟩ := h2
  subst e
  refine comp_block (RR := fun acc C => compPost (model X.prog X.w) X.A X.xe (some (assign (.Name x pos') X.env)) (fun _ s' => SP X pins D0 .next s') acc C) hc B hg ht he I2 T st2 f2 w2 ?_
  intro D C s' H' ys oC hD q I' F eC dC ⟨m, hn⟩
  obtain ⟨f0, f1, f2', f3, f4, f5⟩ := F
  have Ip : Inv X (pins ++ pinsAt [C] s'.heap) σ (upd H' D (.lst ys)) s' := I'.pinned (fp := [C]) (fun b hb => by
    have e : b = C := by simpa using hb
    subst e
    exact ⟨f0, f1, f2', f3, f4, f5⟩) fun b hb => by
      have e : b = C := by simpa using hb
      subst e
      exact ⟨oC, eC, dC⟩
  show wpAny _ X.A (assign (.Name x pos') X.env (.ref D)) _ _ _
  refine wpAny_assign_Name (store_ok Ip hN hix (.inl hx) (v := .ref D) rfl (fun s3 I3 => ?_) (.inr hx))
  have pC := I3.pin (C, oC) (List.mem_append_right _ (List.mem_append_right _ (mem_pinsAt (by simp) eC)))
  obtain ⟨oC', es, ep, eC', dC', rC'⟩ := hn
  rw [eC] at eC'; cases eC'
  refine ⟨m, ⟨oC, es, ep, pC.1, dC', rC'⟩, fun h' sb => ⟨_, _, I3.unpinned.turned (t' := s3.toks) (fun b o hb e => (sb.2 b hb).trans e) f0 f1 f3 f4 f5, q D hD⟩⟩
end
end L2
namespace L2
open PySem PySem.Spec PyProof.Rows
theorem ObjOk.at {P : Program} {w : World} {H : Hp} {h : Heap} {a : Addr} {o : HO} (x : ObjOk P w H h a o) : ∃ u, h.get? a = some u := by
  cases o with
  | lst xs => obtain ⟨_, _, _, _, e⟩ := x; exact ⟨_, e⟩
  | tup xs => obtain ⟨_, _, _, ob, e, _⟩ := x; exact ⟨_, e⟩
  | dK kvs => obtain ⟨_, _, _, _, o, _, _, e, _⟩ := x; exact ⟨_, e⟩
  | dT kvs => obtain ⟨_, _, _, _, o, _, _, e, _⟩ := x; exact ⟨_, e⟩
  | set S n => obtain ⟨o, _, _, _, e, _⟩ := x; exact ⟨_, e⟩
  | ins C dx fs => obtain ⟨_, _, _, e, _⟩ := x; exact ⟨_, e⟩
  | own y => obtain ⟨_, e⟩ := x; exact ⟨_, e⟩
  | xd fs => obtain ⟨_, ⟨_, _, _, e, _⟩, _⟩ := x; exact ⟨_, e⟩
  | rng lo hi => obtain ⟨_, _, _, e⟩ := x; exact ⟨_, e⟩
  | frz ob u => obtain ⟨e, _⟩ := x; exact ⟨_, e⟩
  | tbl ps => exact ⟨_, (show h.get? a = some _ from x)⟩
  | met f y => exact ⟨_, (show h.get? a = some _ from x)⟩
  | ext φ => obtain ⟨_, ⟨_, e⟩, _⟩ := x; exact ⟨_, e⟩
/-- an exception of the own class at C flies: behind the frames at outer, from the state s0 on -/
structure Fly (P : Program) (w : World) (outer : List Env) (H0 : Hp) (s0 : Shared) (H' : Hp) (e C : Addr) (s' : Shared) : Prop where
  os : s'.os = s0.os
  bare : AllBare s'.gens
  un : Un (frs outer) [] H0 H' s0.heap s'.heap
  hok : HOk P w H' s'.heap
  fly : ∃ (B : Heap) (a0 : Value), Heap.FlyingW B outer e (.ref C) a0 s'.heap ∧ ∀ b, b ∉ frs outer → ((∃ o, s0.heap.get? b = some o) ∨ H' b ≠ none) → ∃ o, B.get? b = some o
  new : s0.heap.get? e = none
  free : H' e = none
noncomputable def CXe (P : Program) (w : World) : CXT := fun outer H0 s0 E ev s' => ∃ (e C : Addr) (H' : Hp), ev = .ref e ∧ Fly P w outer H0 s0 H' e C s' ∧ E (.ref C) none H'
section
variable {X : Cx} {pins : List (Addr × Obj)} {σ : St} {H H' : Hp} {s s' : Shared} {e C : Addr}
end
section
variable {P : Program} {w : World} {K : PySem.W.Frag} {mg : Str → Option Value} {base : Heap} {N : List Str} {qual : Str} {scope : Scope} {f : Addr} {cd : Value} {A : Around} {outer : List Env} {s : Shared} {H : Hp} {E : XK}
end
/-- an object that was there is tracked from now on -/
theorem Inv.track {X : Cx} {pins : List (Addr × Obj)} {σ : St} {H : Hp} {s : Shared} {e : Addr} {o : HO} (I : Inv X pins σ H s) (hn : H e = none) (hL : e ≠ X.env.locals) (hc : ∀ x c, X.env.cells.lookup x = some c → c ≠ e) (hp : ∀ p ∈ X.pn ++ pins, p.1 ≠ e)
    (h0 : X.s₀.heap.get? e = none) (ok : ObjOk X.prog X.w (upd H e o) s.heap e o) : Inv X pins σ (upd H e o) s := by
  have hupd : ∀ b u, H b = some u → upd H e o b = some u := fun b u z => by rw [upd_ne (ne_of_none z hn)]; exact z
  refine ⟨I.ok, I.os, I.bare, ⟨I.base.keep, I.base.slot, fun b ob z n hx => ?_, I.base.there, fun b xs z => hupd _ _ (I.base.tups b xs z), fun b ob u z => hupd _ _ (I.base.frzs b ob u z), fun b ps z => ?_⟩, I.loc, I.cell, ?_, fun x c z => ?_, fun p z => ?_, fun b u z => ?_, I.len⟩
  · rw [upd_ne (fun q => by rw [q, h0] at z; cases z)]
    exact I.base.free b ob z n hx
  · obtain ⟨more, q⟩ := I.base.tbls b ps z
    exact ⟨more, hupd _ _ q⟩
  · rw [upd_ne (Ne.symm hL)]; exact I.free
  · rw [upd_ne (hc x c z)]; exact I.freeC x c z
  · obtain ⟨q1, q2, q3⟩ := I.pin p z
    exact ⟨q1, by rw [upd_ne (hp p z)]; exact q2, q3⟩
  · by_cases hb : b = e
    · subst hb
      rw [upd_same] at z; cases z
      exact ok
    · rw [upd_ne hb] at z
      exact (I.hok b u z).stay (fun _ _ _ q => q) (fun c q => hupd _ _ q) fun c xs q => hupd _ _ q
/-- the exception that is held, as the abstract heap has it -/
noncomputable def IsExc (e C : Addr) : Heap → Prop := fun h => ∃ ox, h.get? e = some ox ∧ ox.cls = .ref C
/-- where exceptions of callees go, by the state of the names -/
noncomputable def PassesS (CX : CXT) (X : Cx) (Eσ : St → XK) : Prop := ∀ (pins : List (Addr × Obj)) (σ : St) (H : Hp) (s : Shared) (e : Value) (s' : Shared), Inv X pins σ H s → CX X.stack H s (Eσ σ) e s' → X.xe e s'
noncomputable def tCallS (sp : Sp) (dvs : List V) (Eσ : St → XK) (t : TA) : TE := fun σ H Q => t σ H fun vs H1 => sp (vs ++ dvs) H1 Q (Eσ σ)
section
variable {X : Cx} {CX : CXT} {k : Nat} {f : Addr} {fd : FuncData} {ps : List Str} {sp : Sp} {dvs : List V} {ds : List Value} {Eσ : St → XK} {x : Str} {p pos : Pos} {e : Expr} {es : List Expr} {t : TA}
theorem pe_callS (F : FnOk X.prog X.w X.K X.mg X.base CX k f fd ps sp) (hr : Room k X.A) (hg : Gl X x) (hm : X.mg x = some (.ref f)) (hk : PySem.W.keepIn X.K (.ref f) = true) (hb : Binds X.K fd ps ds) (hd : Vals dvs ds) (hx : PassesS CX X Eσ)
    (ha : PA X (e :: es) t) (hdb : (x == ("__debug__" : Str)) = false := by decide) (he : starEach (e :: es) X.env = (false, eval e X.env) :: starEach es X.env := by rfl) (hpl : (backTo pos (starEach es X.env)).any (·.1) = false := by rfl) :
    PE X (.Call (.Name x p) (e :: es) [] pos) (tCallS sp dvs Eσ t) := by
  intro pins s σ H Q I h
  refine wpAny_Call_Name_kw (ld_glob I hg hm ?_ hdb)
  refine PySem.W.callWith_K (h₀ := X.base) I.ok.mod.kin hk (thn (ha pos pins s σ H _ I h) fun us s1 ⟨vs, H1, I1, r, q⟩ => ⟨I1.kIn, ?_⟩) he hpl
  have r2 : Vals (vs ++ dvs) (us ++ ds) := r.append hd
  have hl : (us ++ ds).length = ps.length := by rw [← r2.length]; exact F.len _ _ _ _ q
  refine wpAny_call (codeAny_mono (F.run X.A X.stack s1 H1 ⟨us, []⟩ (us ++ ds) (vs ++ dvs) Q (Eσ σ) hr I1.env0 (hb s1 us I1.kIn hl) r2 q) fun r s' hq => ?_)
  cases r with
  | error e => exact hx pins σ H1 s1 e s' I1 hq
  | ok fl =>
    cases fl with
    | ret u => exact I1.after hq
    | next => exact False.elim hq
    | brk => exact False.elim hq
    | cont => exact False.elim hq
end
section
variable {X : Cx} {k : Nat} {f : Addr} {fd : FuncData} {ps : List Str} {sp : Sp} {x : Str} {p pos : Pos} {e : Expr} {es : List Expr} {t : TA}
end
end L2
set_option Elab.async false
set_option linter.all false
set_option maxRecDepth 100000
set_option maxHeartbeats 4000000
namespace L3
open PySem PySem.Spec PyProof.Rows L2
noncomputable abbrev St := L2.St
/-- a value whose tuples are trees -/
inductive W where
  | non | bl (b : Bool) | int (i : Int) | str (x : Str) | tup (xs : List W) | rol (xs : List W) | ref (a : Addr)
/-- a tracked object: a list, a held exception, an instance of an own class, a dict -/
inductive HW where
  | lst (xs : List W) | exc (C : Addr) | ins (C : Addr) (fs : List (Str × W)) | dct (kvs : List (Key × W))
noncomputable abbrev Sw := List (Option W)
noncomputable abbrev Hw := Addr → Option HW
noncomputable def put (H : Hw) (a : Addr) (o : HW) : Hw := fun b => if b = a then some o else H b
theorem put_same {H : Hw} {a : Addr} {o : HW} : put H a o a = some o := by unfold put; rw [if_pos rfl]
theorem put_ne {H : Hw} {a b : Addr} {o : HW} (h : b ≠ a) : put H a o b = H b := by unfold put; rw [if_neg h]
section
variable (K : PySem.W.Frag)
/-- a list that is only read: the script, one of the module's -/
noncomputable def RoL (H : Hp) (a : Addr) (xs : List V) : Prop := (∃ o, H a = some (.frz o (.lst xs))) ∨
  ∃ (o : Obj) (its : Array Value) (n : Nat), K.lookup a = some o ∧ o.cls = .type "list" ∧ o.dict = none ∧ o.data = .seq its n ∧ its.size ≤ sizeLine ∧ Vals xs its.toList
theorem RoL.sq {K : PySem.W.Frag} {H : Hp} {a : Addr} {xs : List V} (h : RoL K H a xs) : SqL K H a xs := by
  rcases h with ⟨o, h⟩ | h
  · exact .inl (.inr ⟨o, h⟩)
  · exact .inr h
mutual
inductive Tr (H : Hp) : V → W → Prop where
  | non : Tr H .non .non
  | bl (b : Bool) : Tr H (.bl b) (.bl b)
  | int (i : Int) : Tr H (.int i) (.int i)
  | str (x : Str) : Tr H (.str x) (.str x)
  | tup {a : Addr} {vs : List V} {ws : List W} : SqT K H a vs → TrL H vs ws → Tr H (.ref a) (.tup ws)
  | rol {a : Addr} {vs : List V} {ws : List W} : RoL K H a vs → TrL H vs ws → Tr H (.ref a) (.rol ws)
  | ref (a : Addr) : Tr H (.ref a) (.ref a)
inductive TrL (H : Hp) : List V → List W → Prop where
  | nil : TrL H [] []
  | cons {v : V} {w : W} {vs : List V} {ws : List W} : Tr H v w → TrL H vs ws → TrL H (v :: vs) (w :: ws)
end
/-- values by names -/
inductive TrP {α : Type} (H : Hp) : List (α × V) → List (α × W) → Prop where
  | nil : TrP H [] []
  | cons {f : α} {v : V} {w : W} {vs : List (α × V)} {ws : List (α × W)} : Tr K H v w → TrP H vs ws → TrP H ((f, v) :: vs) ((f, w) :: ws)
/-- tuples and lists that are only read stay -/
structure Mono (H H' : Hp) : Prop where
  tup : ∀ a vs, SqT K H a vs → SqT K H' a vs
  rol : ∀ a vs, RoL K H a vs → RoL K H' a vs
noncomputable def RelO2 (H : Hp) (a : Addr) : HW → Prop
  | .lst ws => ∃ vs, H a = some (.lst vs) ∧ TrL K H vs ws
  | .exc C => H a = some (.ext (IsExc a C))
  | .ins C ws => ∃ dx vs, H a = some (.ins C dx vs) ∧ TrP K H vs ws
  | .dct ws => ∃ vs, H a = some (.dK vs) ∧ TrP K H vs ws
noncomputable def RelH (H : Hp) (G : Hw) : Prop := ∀ a o, G a = some o → RelO2 K H a o
structure TrSt (H : Hp) (σ : St) (ω : Sw) : Prop where
  len : σ.length = ω.length
  get : ∀ (i : Nat) (w : W), ω[i]? = some (some w) → ∃ v, σ[i]? = some (some v) ∧ Tr K H v w
end
variable {K : PySem.W.Frag} {H H' H2 : Hp}
theorem Mono.refl : Mono K H H := ⟨fun _ _ h => h, fun _ _ h => h⟩
theorem Mono.trans (m : Mono K H H') (m' : Mono K H' H2) : Mono K H H2 := ⟨fun a vs h => m'.tup a vs (m.tup a vs h), fun a vs h => m'.rol a vs (m.rol a vs h)⟩
mutual
theorem Tr.mono (m : Mono K H H') {v : V} {w : W} (t : Tr K H v w) : Tr K H' v w := by
  cases t with
  | non => exact .non
  | bl b => exact .bl b
  | int i => exact .int i
  | str x => exact .str x
  | tup h l => exact .tup (m.tup _ _ h) (TrL.mono m l)
  | rol h l => exact .rol (m.rol _ _ h) (TrL.mono m l)
  | ref a => exact .ref a
theorem TrL.mono (m : Mono K H H') {vs : List V} {ws : List W} (t : TrL K H vs ws) : TrL K H' vs ws := by
  cases t with
  | nil => exact .nil
  | cons h l => exact .cons (Tr.mono m h) (TrL.mono m l)
end
theorem TrP.mono {α : Type} (m : Mono K H H') : ∀ {vs : List (α × V)} {ws : List (α × W)}, TrP K H vs ws → TrP K H' vs ws
  | _, _, .nil => .nil
  | _, _, .cons r t => .cons (r.mono m) (TrP.mono m t)
theorem RelO2.mono (m : Mono K H H') {a : Addr} (e : H' a = H a) : ∀ {o : HW}, RelO2 K H a o → RelO2 K H' a o
  | .lst ws, ⟨vs, z, t⟩ => ⟨vs, e.trans z, t.mono m⟩
  | .exc C, z => (e.trans z : H' a = _)
  | .ins C ws, ⟨dx, vs, z, t⟩ => ⟨dx, vs, e.trans z, t.mono m⟩
  | .dct ws, ⟨vs, z, t⟩ => ⟨vs, e.trans z, t.mono m⟩
theorem RelO2.some {a : Addr} : ∀ {o : HW}, RelO2 K H a o → H a ≠ none
  | .lst ws, ⟨vs, z, t⟩, q => by rw [q] at z; cases z
  | .exc C, z, q => by rw [show H a = _ from z] at q; cases q
  | .ins C ws, ⟨dx, vs, z, t⟩, q => by rw [q] at z; cases z
  | .dct ws, ⟨vs, z, t⟩, q => by rw [q] at z; cases z
theorem TrSt.mono {σ : St} {ω : Sw} (m : Mono K H H') (t : TrSt K H σ ω) : TrSt K H' σ ω := ⟨t.len, fun i w e => let ⟨v, e', r⟩ := t.get i w e; ⟨v, e', r.mono m⟩⟩
theorem TrSt.set {σ : St} {ω : Sw} {v : V} {w : W} (t : TrSt K H σ ω) (i : Nat) (r : Tr K H v w) : TrSt K H (σ.set i (some v)) (ω.set i (some w)) := by
  refine ⟨by simp [t.len], fun j u e => ?_⟩
  by_cases h : i = j
  · subst h
    by_cases hl : i < ω.length
    · rw [List.getElem?_set_self hl] at e
      cases e
      exact ⟨v, List.getElem?_set_self (by rw [t.len]; exact hl), r⟩
    · rw [List.getElem?_eq_none (by simp; omega)] at e; cases e
  · rw [List.getElem?_set_ne h] at e
    obtain ⟨v', e', r'⟩ := t.get j u e
    exact ⟨v', by rw [List.getElem?_set_ne h]; exact e', r'⟩
theorem TrL.length : ∀ {vs : List V} {ws : List W}, TrL K H vs ws → vs.length = ws.length
  | _, _, .nil => rfl
  | _, _, .cons _ t => congrArg (· + 1) t.length
theorem TrL.get : ∀ {vs : List V} {ws : List W} {i : Nat} {w : W}, TrL K H vs ws → ws[i]? = some w → ∃ v, vs[i]? = some v ∧ Tr K H v w
  | _, _, _, _, .nil, e => by simp at e
  | _, _, 0, _, .cons r _, e => by simp at e; subst e; exact ⟨_, rfl, r⟩
  | _, _, i + 1, w, .cons _ t, e => by
    obtain ⟨v, h1, h2⟩ := TrL.get (i := i) (w := w) t (by simpa using e)
    exact ⟨v, by simpa using h1, h2⟩
theorem TrL.get' : ∀ {vs : List V} {ws : List W} {i : Nat} {v : V}, TrL K H vs ws → vs[i]? = some v → ∃ w, ws[i]? = some w ∧ Tr K H v w
  | _, _, _, _, .nil, e => by simp at e
  | _, _, 0, _, .cons r _, e => by simp at e; subst e; exact ⟨_, rfl, r⟩
  | _, _, i + 1, v, .cons _ t, e => by
    obtain ⟨w, h1, h2⟩ := TrL.get' (i := i) (v := v) t (by simpa using e)
    exact ⟨w, by simpa using h1, h2⟩
theorem TrL.append : ∀ {vs vs' : List V} {ws ws' : List W}, TrL K H vs ws → TrL K H vs' ws' → TrL K H (vs ++ vs') (ws ++ ws')
  | _, _, _, _, .nil, s => s
  | _, _, _, _, .cons r t, s => .cons r (t.append s)
theorem TrL.set {v : V} {w : W} (r : Tr K H v w) : ∀ {vs : List V} {ws : List W} (i : Nat), TrL K H vs ws → TrL K H (vs.set i v) (ws.set i w)
  | _, _, _, .nil => .nil
  | _, _, 0, .cons _ t => .cons r t
  | _, _, i + 1, .cons q t => .cons q (TrL.set r i t)
theorem TrL.take : ∀ {vs : List V} {ws : List W} (n : Nat), TrL K H vs ws → TrL K H (vs.take n) (ws.take n)
  | _, _, 0, _ => .nil
  | _, _, _ + 1, .nil => .nil
  | _, _, n + 1, .cons r t => .cons r (TrL.take n t)
theorem TrL.drop : ∀ {vs : List V} {ws : List W} (n : Nat), TrL K H vs ws → TrL K H (vs.drop n) (ws.drop n)
  | _, _, 0, r => r
  | _, _, _ + 1, .nil => .nil
  | _, _, n + 1, .cons _ t => TrL.drop n t
theorem sqT_upd {a b : Addr} {vs : List V} {o : HO} (h : SqT K H a vs) (hb : ∀ xs, H b ≠ some (.tup xs)) (hf : ∀ ob xs, H b ≠ some (.frz ob (.tup xs))) : SqT K (upd H b o) a vs := by
  rcases h with (h | ⟨ob, h⟩) | h
  · exact .inl (.inl (by rw [upd_ne (fun e => hb _ (e ▸ h))]; exact h))
  · exact .inl (.inr ⟨ob, by rw [upd_ne (fun e => hf _ _ (e ▸ h))]; exact h⟩)
  · exact .inr h
theorem roL_upd {a b : Addr} {vs : List V} {o : HO} (h : RoL K H a vs) (hf : ∀ ob u, H b ≠ some (.frz ob u)) : RoL K (upd H b o) a vs := by
  rcases h with ⟨ob, h⟩ | h
  · exact .inl ⟨ob, by rw [upd_ne (fun e => hf _ _ (e ▸ h))]; exact h⟩
  · exact .inr h
theorem Mono.new {p : Addr} (hp : H p = none) (o : HO) : Mono K H (upd H p o) :=
  ⟨fun a vs h => sqT_upd h (fun xs e => by rw [hp] at e; cases e) (fun ob xs e => by rw [hp] at e; cases e), fun a vs h => roL_upd h (fun ob xs e => by rw [hp] at e; cases e)⟩
theorem Mono.lst {p : Addr} {xs : List V} (hp : H p = some (.lst xs)) (o : HO) : Mono K H (upd H p o) :=
  ⟨fun a vs h => sqT_upd h (fun xs e => by rw [hp] at e; cases e) (fun ob xs e => by rw [hp] at e; cases e), fun a vs h => roL_upd h (fun ob xs e => by rw [hp] at e; cases e)⟩
theorem Mono.was {p : Addr} {o' : HO} (hp : H p = some o') (o : HO) (h1 : ∀ xs, o' ≠ .tup xs) (h2 : ∀ ob u, o' ≠ .frz ob u) : Mono K H (upd H p o) :=
  ⟨fun a vs h => sqT_upd h (fun xs e => by rw [hp] at e; exact h1 _ (Option.some.inj e)) (fun ob xs e => by rw [hp] at e; exact h2 _ _ (Option.some.inj e)), fun a vs h => roL_upd h (fun ob xs e => by rw [hp] at e; exact h2 _ _ (Option.some.inj e))⟩
theorem RelH.no {G : Hw} {p : Addr} (r : RelH K H G) (hp : H p = none) : G p = none := by
  cases e : G p with
  | none => rfl
  | some o => exact absurd hp (r p o e).some
theorem RelH.mono0 {G : Hw} {p : Addr} {o : HO} (r : RelH K H G) (hp : H p = none) : RelH K (upd H p o) G := fun a u e =>
  have q := r a u e
  q.mono (Mono.new hp o) (upd_ne (by rintro rfl; exact q.some hp))
theorem RelH.laid {G : Hw} {p : Addr} {o : HO} {u : HW} (r : RelH K H G) (m : Mono K H (upd H p o)) (t : RelO2 K (upd H p o) p u) : RelH K (upd H p o) (put G p u) := fun a u' e => by
  by_cases h : a = p
  · subst h
    rw [put_same] at e; cases e
    exact t
  · rw [put_ne h] at e
    exact (r a _ e).mono m (upd_ne h)
theorem RelH.new {G : Hw} {p : Addr} {vs : List V} {ws : List W} (r : RelH K H G) (hp : H p = none) (t : TrL K H vs ws) : RelH K (upd H p (.lst vs)) (put G p (.lst ws)) :=
  r.laid (Mono.new hp _) ⟨vs, upd_same, t.mono (Mono.new hp _)⟩
theorem RelH.chg {G : Hw} {p : Addr} {xs vs : List V} {ws : List W} (r : RelH K H G) (hp : H p = some (.lst xs)) (t : TrL K H vs ws) : RelH K (upd H p (.lst vs)) (put G p (.lst ws)) :=
  r.laid (Mono.lst hp _) ⟨vs, upd_same, t.mono (Mono.lst hp _)⟩
theorem RelH.chgI {G : Hw} {p C dx : Addr} {xs vs : List (Str × V)} {ws : List (Str × W)} (r : RelH K H G) (hp : H p = some (.ins C dx xs)) (t : TrP K H vs ws) : RelH K (upd H p (.ins C dx vs)) (put G p (.ins C ws)) :=
  have m : Mono K H (upd H p (.ins C dx vs)) := Mono.was hp _ (fun _ z => by cases z) (fun _ _ z => by cases z)
  r.laid m ⟨dx, vs, upd_same, t.mono m⟩
noncomputable abbrev Kw := W → Hw → Prop
noncomputable abbrev GE := Sw → Hw → Kw → Prop
noncomputable abbrev GT := Sw → Hw → (Bool → Hw → Prop) → Prop
noncomputable abbrev GA := Sw → Hw → (List W → Hw → Prop) → Prop
structure Ew where
  nx : Sw → Hw → Prop
  rt : Kw
  bk : Sw → Hw → Prop
  ct : Sw → Hw → Prop
noncomputable abbrev GS := Ew → Sw → Hw → Prop
noncomputable abbrev GG := W → Sw → Hw → (Sw → Hw → Prop) → Prop
noncomputable def GE.M (g : GE) : Prop := ∀ ω G (Q Q' : Kw), (∀ w G', Q w G' → Q' w G') → g ω G Q → g ω G Q'
noncomputable def GT.M (g : GT) : Prop := ∀ ω G (Q Q' : Bool → Hw → Prop), (∀ w G', Q w G' → Q' w G') → g ω G Q → g ω G Q'
noncomputable def GA.M (g : GA) : Prop := ∀ ω G (Q Q' : List W → Hw → Prop), (∀ w G', Q w G' → Q' w G') → g ω G Q → g ω G Q'
noncomputable def GS.M (g : GS) : Prop := ∀ ω G (D D' : Ew), (∀ a b, D.nx a b → D'.nx a b) → (∀ a b, D.rt a b → D'.rt a b) → (∀ a b, D.bk a b → D'.bk a b) → (∀ a b, D.ct a b → D'.ct a b) → g D ω G → g D' ω G
noncomputable def GG.M (g : GG) : Prop := ∀ w ω G (Q Q' : Sw → Hw → Prop), (∀ a b, Q a b → Q' a b) → g w ω G Q → g w ω G Q'
/-- down to the heap's own values -/
noncomputable def dn (K : PySem.W.Frag) (H : Hp) (Q : VK) : Kw := fun w G => ∀ v H', Mono K H H' → Tr K H' v w → RelH K H' G → Q v H'
noncomputable def dnT (K : PySem.W.Frag) (H : Hp) (Q : Bool → Hp → Prop) : Bool → Hw → Prop := fun b G => ∀ H', Mono K H H' → RelH K H' G → Q b H'
noncomputable def dnA (K : PySem.W.Frag) (H : Hp) (Q : List V → Hp → Prop) : List W → Hw → Prop := fun ws G => ∀ vs H', Mono K H H' → TrL K H' vs ws → RelH K H' G → Q vs H'
noncomputable def dnS (K : PySem.W.Frag) (H : Hp) (Q : St → Hp → Prop) : Sw → Hw → Prop := fun ω G => ∀ σ H', Mono K H H' → TrSt K H' σ ω → RelH K H' G → Q σ H'
noncomputable def dnD (K : PySem.W.Frag) (H : Hp) (D : Ends) : Ew := ⟨dnS K H D.nx, dn K H D.rt, dnS K H D.bk, dnS K H D.ct⟩
theorem dn_mono {Q : VK} (m : Mono K H H') {w : W} {G : Hw} (q : dn K H Q w G) : dn K H' Q w G := fun v H2 m2 t r => q v H2 (m.trans m2) t r
theorem dnT_mono {Q : Bool → Hp → Prop} (m : Mono K H H') {w : Bool} {G : Hw} (q : dnT K H Q w G) : dnT K H' Q w G := fun H2 m2 r => q H2 (m.trans m2) r
theorem dnS_mono {Q : St → Hp → Prop} (m : Mono K H H') {w : Sw} {G : Hw} (q : dnS K H Q w G) : dnS K H' Q w G := fun v H2 m2 t r => q v H2 (m.trans m2) t r
noncomputable def up (K : PySem.W.Frag) (g : GE) : TE := fun σ H Q => ∃ ω G, TrSt K H σ ω ∧ RelH K H G ∧ g ω G (dn K H Q)
noncomputable def upT (K : PySem.W.Frag) (g : GT) : TT := fun σ H Q => ∃ ω G, TrSt K H σ ω ∧ RelH K H G ∧ g ω G (dnT K H Q)
noncomputable def upA (K : PySem.W.Frag) (g : GA) : TA := fun σ H Q => ∃ ω G, TrSt K H σ ω ∧ RelH K H G ∧ g ω G (dnA K H Q)
/-- a statement's ends are wanted from the heap B on -/
noncomputable def upS (K : PySem.W.Frag) (B : Hp) (g : GS) : TS := fun D σ H => ∃ ω G, TrSt K H σ ω ∧ RelH K H G ∧ Mono K B H ∧ g (dnD K B D) ω G
theorem pe_sub {X : Cx} {e : Expr} {t t' : TE} (h : PE X e t) (i : ∀ σ H Q, t' σ H Q → t σ H Q) : PE X e t' := fun pins s σ H Q I q => h pins s σ H Q I (i σ H Q q)
theorem pt_sub {X : Cx} {e : Expr} {t t' : TT} (h : PT X e t) (i : ∀ σ H Q, t' σ H Q → t σ H Q) : PT X e t' := fun pins s σ H Q I q => h pins s σ H Q I (i σ H Q q)
theorem pa_sub {X : Cx} {e : List Expr} {t t' : TA} (h : PA X e t) (i : ∀ σ H Q, t' σ H Q → t σ H Q) : PA X e t' := fun pos pins s σ H Q I q => h pos pins s σ H Q I (i σ H Q q)
theorem ps_sub {X : Cx} {e : Stmt} {t t' : TS} (h : PS X e t) (i : ∀ D σ H, t' D σ H → t D σ H) : PS X e t' := fun pins s σ H D I q => h pins s σ H D I (i D σ H q)
theorem pss_sub {X : Cx} {e : List Stmt} {t t' : TS} (h : PSs X e t) (i : ∀ D σ H, t' D σ H → t D σ H) : PSs X e t' := fun pins s σ H D I q => h pins s σ H D I (i D σ H q)
section
variable {X : Cx} {a b c e : Expr} {es : List Expr} {pos : Pos} {ga gb gc : GE} {gt : GT} {gs : GA}
noncomputable abbrev PEw (X : Cx) (e : Expr) (g : GE) : Prop := PE X e (up X.K g)
noncomputable abbrev PTw (X : Cx) (e : Expr) (g : GT) : Prop := PT X e (upT X.K g)
noncomputable abbrev PAw (X : Cx) (es : List Expr) (g : GA) : Prop := PA X es (upA X.K g)
/-- P: from which heaps on -/
noncomputable abbrev PSw (X : Cx) (P : Hp → Prop) (st : Stmt) (g : GS) : Prop := ∀ B, P B → PS X st (upS X.K B g)
noncomputable abbrev PSsw (X : Cx) (P : Hp → Prop) (st : List Stmt) (g : GS) : Prop := ∀ B, P B → PSs X st (upS X.K B g)
noncomputable abbrev anyB : Hp → Prop := fun _ => True
noncomputable def gC (w : W) : GE := fun _ G Q => Q w G
noncomputable def gVar (i : Nat) : GE := fun ω G Q => match ω[i]? with | some (some w) => Q w G | _ => False
theorem gC_M {w : W} : GE.M (gC w) := fun _ _ _ _ h q => h _ _ q
theorem gVar_M {i : Nat} : GE.M (gVar i) := fun ω G Q Q' h q => by
  have z : gVar i ω G Q = (match ω[i]? with | some (some w) => Q w G | _ => False) := rfl
  have z' : gVar i ω G Q' = (match ω[i]? with | some (some w) => Q' w G | _ => False) := rfl
  rw [z] at q
  rw [z']
  cases e : ω[i]? with
  | none => rw [e] at q; exact q
  | some o =>
    cases o with
    | none => rw [e] at q; exact q
    | some w => rw [e] at q; exact h _ _ q
theorem ew_var {i : Nat} {x : Str} (hN : X.N[i]? = some x) (hv : Vis X.env.scope x) (hd : (x == ("__debug__" : Str)) = false) (hcd : (x == ("__classdict__" : Str)) = false) : PEw X (.Name x pos) (gVar i) :=
  pe_sub (pe_var hN hv hd hcd) <| by
    rintro σ H Q ⟨ω, G, ts, r, q⟩
    unfold gVar at q
    split at q
    · rename_i w z
      obtain ⟨v, e, t⟩ := ts.get i w z
      exact ⟨v, e, q v H .refl t r⟩
    · exact q.elim
theorem ew_int {i : Int} {j} : PEw X (.Constant (.int i) j pos) (gC (.int i)) := pe_sub pe_int (by rintro σ H Q ⟨ω, G, ts, r, q⟩; exact q _ H .refl (.int i) r)
theorem ew_bl {i : Bool} {j} : PEw X (.Constant (.bool i) j pos) (gC (.bl i)) := pe_sub pe_bl (by rintro σ H Q ⟨ω, G, ts, r, q⟩; exact q _ H .refl (.bl i) r)
theorem ew_str {i : Str} {j} : PEw X (.Constant (.str i) j pos) (gC (.str i)) := pe_sub pe_str (by rintro σ H Q ⟨ω, G, ts, r, q⟩; exact q _ H .refl (.str i) r)
/-- a module's constant -/
theorem ew_glob {x : Str} {v : V} {w : W} {u : Value} (hg : Gl X x) (hm : X.mg x = some u) (rv : RelV v u) (t : ∀ H, Tr X.K H v w) (hd : (x == ("__debug__" : Str)) = false) : PEw X (.Name x pos) (gC w) :=
  pe_sub (pe_glob hg hm rv hd) (by rintro σ H Q ⟨ω, G, ts, r, q⟩; exact q _ H .refl (t H) r)
/-- two in a row, then r -/
noncomputable abbrev RW2 := W → W → Hw → Kw → Prop
noncomputable def RW2.M (r : RW2) : Prop := ∀ x y G (Q Q' : Kw), (∀ w G', Q w G' → Q' w G') → r x y G Q → r x y G Q'
noncomputable def gBin (r : RW2) (ga gb : GE) : GE := fun ω G Q => ga ω G fun x G1 => gb ω G1 fun y G2 => r x y G2 Q
theorem gBin_M {r : RW2} (mr : r.M) (ma : ga.M) (mb : gb.M) : GE.M (gBin r ga gb) := fun ω G Q Q' h q => ma _ _ _ _ (fun x G1 q1 => mb _ _ _ _ (fun y G2 q2 => mr _ _ _ _ _ h q2) q1) q
theorem up_bin {r : RW2} {r2 : R2} (mr : r.M) (ma : ga.M) (mb : gb.M)
    (hr : ∀ (x y : W) (v u : V) (G : Hw) (H : Hp) (Q : VK), Tr K H v x → Tr K H u y → RelH K H G → r x y G (dn K H Q) → r2 v u H Q) (σ : St) (H : Hp) (Q : VK) (h : up K (gBin r ga gb) σ H Q) : tOp r2 (up K ga) (up K gb) σ H Q := by
  obtain ⟨ω, G, ts, rh, q⟩ := h
  refine ⟨ω, G, ts, rh, ma _ _ _ _ (fun x G1 q1 v H1 m1 tx r1 => ?_) q⟩
  refine ⟨ω, G1, ts.mono m1, r1, mb _ _ _ _ (fun y G2 q2 u H2 m2 ty r2' => ?_) q1⟩
  exact hr x y v u G2 H2 Q (tx.mono m2) ty r2' (mr _ _ _ _ _ (fun w G' z => dn_mono (m1.trans m2) z) q2)
theorem ew_bin {op : Operator} {r : RW2} {r2 : R2} (ho : OpR X (binaryOp op) r2) (mr : r.M) (ma : ga.M) (mb : gb.M) (hr : ∀ (x y : W) (v u : V) (G : Hw) (H : Hp) (Q : VK), Tr X.K H v x → Tr X.K H u y → RelH X.K H G → r x y G (dn X.K H Q) → r2 v u H Q)
    (ha : PEw X a ga) (hb : PEw X b gb) : PEw X (.BinOp a op b pos) (gBin r ga gb) := pe_sub (pe_op ho ha hb) (up_bin mr ma mb hr)
theorem ew_cmp {op : CmpOp} {r : RW2} {r2 : R2} (ho : OpR X (compareOp op) r2) (mr : r.M) (ma : ga.M) (mb : gb.M) (hr : ∀ (x y : W) (v u : V) (G : Hw) (H : Hp) (Q : VK), Tr X.K H v x → Tr X.K H u y → RelH X.K H G → r x y G (dn X.K H Q) → r2 v u H Q)
    (ha : PEw X a ga) (hb : PEw X b gb) (hm : behindInMarks op b = false) : PEw X (.Compare a [op] [b] pos) (gBin r ga gb) := pe_sub (pe_cmpR ho ha hb hm) (up_bin mr ma mb hr)
theorem ew_ix {r : RW2} {r2 : R2} (ho : IxR X r2) (mr : r.M) (ma : ga.M) (mb : gb.M) (hr : ∀ (x y : W) (v u : V) (G : Hw) (H : Hp) (Q : VK), Tr X.K H v x → Tr X.K H u y → RelH X.K H G → r x y G (dn X.K H Q) → r2 v u H Q)
    (ha : PEw X a ga) (hb : PEw X b gb) (hs : PlainIx b) : PEw X (.Subscript a b pos) (gBin r ga gb) := pe_sub (pe_ix ho ha hb hs) (up_bin mr ma mb hr)
end
end L3
namespace L3
open PySem PySem.Spec PyProof.Rows L2
variable {K : PySem.W.Frag} {H H' H2 : Hp}
noncomputable abbrev Xw := Sw → Addr → Hw → Prop
noncomputable def upX (K : PySem.W.Frag) (ex : Xw) : St → XK := fun σ Cv _ H' => ∃ C ω G, Cv = .ref C ∧ TrSt K H' σ ω ∧ RelH K H' G ∧ ex ω C G
noncomputable abbrev PassW (X : Cx) (ex : Xw) : Prop := PassesS (CXe X.prog X.w) X (upX X.K ex)
/-- what a def promises, over trees: arguments, heap, the wanted end, the wanted exception -/
noncomputable abbrev Spw := List W → Hw → Kw → (Addr → Hw → Prop) → Prop
noncomputable def dnX (K : PySem.W.Frag) (H : Hp) (E : XK) : Addr → Hw → Prop := fun C G' => ∀ H', Mono K H H' → RelH K H' G' → E (.ref C) none H'
noncomputable def upSp (K : PySem.W.Frag) (sp : Spw) : Sp := fun vs H Q E => ∃ ws G, TrL K H vs ws ∧ RelH K H G ∧ sp ws G (dn K H Q) (dnX K H E)
noncomputable def Spw.M (sp : Spw) : Prop := ∀ ws G (Q Q' : Kw) (E E' : Addr → Hw → Prop), (∀ w G', Q w G' → Q' w G') → (∀ w G', E w G' → E' w G') → sp ws G Q E → sp ws G Q' E'
/-- a def that stands in the text and keeps its promise -/
structure Df (P : Program) (w : World) (K : PySem.W.Frag) (mg : Str → Option Value) (base : Heap) (x : Str) (k n : Nat) (sp : Spw) : Prop where
  ex : ∃ (f : Addr) (fd : FuncData) (ps : List Str), mg x = some (.ref f) ∧ PySem.W.keepIn K (.ref f) = true ∧ Binds K fd ps [] ∧ ps.length = n ∧ FnOk P w K mg base (CXe P w) k f fd ps (upSp K sp)
  mono : sp.M
section
variable {X : Cx} {e : Expr} {es : List Expr} {pos p : Pos} {ga gb : GE} {gs : GA} {ex : Xw}
noncomputable def gNil : GA := fun _ G Q => Q [] G
noncomputable def gCons (g : GE) (gs : GA) : GA := fun ω G Q => g ω G fun x G1 => gs ω G1 fun xs G2 => Q (x :: xs) G2
theorem gNil_M : GA.M gNil := fun _ _ _ _ h q => h _ _ q
theorem gCons_M (ma : ga.M) (ms : gs.M) : GA.M (gCons ga gs) := fun ω G Q Q' h q => ma _ _ _ _ (fun x G1 q1 => ms _ _ _ _ (fun xs G2 q2 => h _ _ q2) q1) q
theorem aw_nil : PAw X [] gNil := pa_sub pa_nil (by rintro σ H Q ⟨ω, G, ts, r, q⟩; exact q [] H .refl .nil r)
theorem aw_cons (ma : ga.M) (ms : gs.M) (ha : PEw X e ga) (hs : PAw X es gs) (hst : starEach (e :: es) X.env = (false, eval e X.env) :: starEach es X.env := by rfl) : PAw X (e :: es) (gCons ga gs) :=
  pa_sub (pa_cons ha hs hst) (by rintro σ H Q ⟨ω, G, ts, r, q⟩; exact ⟨ω, G, ts, r, ma _ _ _ _ (fun x G1 q1 v H1 m1 tx r1 => ⟨ω, G1, ts.mono m1, r1, ms _ _ _ _ (fun xs G2 q2 vs H2 m2 txs r2 => q2 _ H2 (m1.trans m2) (.cons (tx.mono m2) txs) r2) q1⟩) q⟩)
/-- f(..), f a def of the text -/
noncomputable def gCall (sp : Spw) (ex : Xw) (gs : GA) : GE := fun ω G Q => gs ω G fun ws G1 => sp ws G1 Q (ex ω)
theorem gCall_M {sp : Spw} (m : sp.M) (ms : gs.M) : GE.M (gCall sp ex gs) := fun ω G Q Q' h q => ms _ _ _ _ (fun ws G1 q1 => m _ _ _ _ _ _ h (fun _ _ z => z) q1) q
theorem ew_call {x : Str} {k n : Nat} {sp : Spw} (D : Df X.prog X.w X.K X.mg X.base x k n sp) (hr : Room k X.A) (hg : Gl X x) (hp : PassW X ex) (ms : gs.M) (ha : PAw X (e :: es) gs)
    (hdb : (x == ("__debug__" : Str)) = false := by decide) (he : starEach (e :: es) X.env = (false, eval e X.env) :: starEach es X.env := by rfl) (hpl : (backTo pos (starEach es X.env)).any (·.1) = false := by rfl) :
    PEw X (.Call (.Name x p) (e :: es) [] pos) (gCall sp ex gs) := by
  obtain ⟨f, fd, ps, hm, hk, hb, _, F⟩ := D.ex
  refine pe_sub (pe_callS F hr hg hm hk hb .nil hp ha hdb he hpl) fun σ H Q zz1 => ?_
  obtain ⟨ω, G, ts, r, q⟩ := zz1
  refine ⟨ω, G, ts, r, ms _ _ _ _ (fun ws G1 q1 vs H1 m1 tvs r1 => ?_) q⟩
  refine ⟨ws, G1, by rw [List.append_nil]; exact tvs, r1, D.mono _ _ _ _ _ _ (fun w G' z => dn_mono m1 z) (fun C G' z H2 m2 r2 => ?_) q1⟩
  exact ⟨C, ω, G', rfl, (ts.mono m1).mono m2, r2, z⟩
end
noncomputable def startW (N : List Str) (ws : List W) : Sw := ws.map some ++ List.replicate (N.length - ws.length) none
theorem trSt_start {N : List Str} {vs : List V} {ws : List W} (t : TrL K H vs ws) : TrSt K H (L2.start N vs) (startW N ws) := by
  have hl := t.length
  refine ⟨by simp [L2.start, startW, hl], fun i w e => ?_⟩
  unfold startW at e
  by_cases hi : i < ws.length
  · rw [List.getElem?_append_left (by simpa using hi), List.getElem?_map] at e
    cases z : ws[i]? with
    | none => rw [z] at e; cases e
    | some w' =>
      rw [z] at e
      cases e
      obtain ⟨v, e1, r⟩ := t.get z
      exact ⟨v, by unfold L2.start; rw [List.getElem?_append_left (by simp; omega), List.getElem?_map, e1]; rfl, r⟩
  · rw [List.getElem?_append_right (by simpa using hi), List.getElem?_replicate] at e
    split at e <;> cases e
/-- a part of a heap -/
noncomputable def Sub (G G' : Hw) : Prop := ∀ a o, G a = some o → G' a = some o
theorem Sub.refl {G : Hw} : Sub G G := fun _ _ h => h
theorem Sub.trans {G G1 G2 : Hw} (a : Sub G G1) (b : Sub G1 G2) : Sub G G2 := fun c o h => b c o (a c o h)
theorem Sub.put {G G' : Hw} {a : Addr} {o : HW} (h : Sub G G') (hn : G a = none) : Sub G (put G' a o) := fun c u z => by
  rw [put_ne (fun e => by rw [e, hn] at z; cases z)]
  exact h c u z
theorem Sub.put2 {G G' : Hw} {a : Addr} {o : HW} (h : Sub G G') : Sub (L3.put G a o) (L3.put G' a o) := fun c u z => by
  by_cases e : c = a
  · subst e; rw [put_same] at z ⊢; exact z
  · rw [put_ne e] at z ⊢; exact h c u z
theorem RelH.sub {G G' : Hw} (r : RelH K H G') (s : Sub G G') : RelH K H G := fun a o e => r a o (s a o e)
/-- what is wanted hangs on a part of the heap alone -/
noncomputable def Kw.C (Q : Kw) : Prop := ∀ w G G', Sub G G' → Q w G → Q w G'
noncomputable def Xc (E : Addr → Hw → Prop) : Prop := ∀ w G G', Sub G G' → E w G → E w G'
theorem dn_C {Q : VK} : Kw.C (dn K H Q) := fun w G G' s q v H2 m t r => q v H2 m t (r.sub s)
noncomputable def endsW (Q : Kw) : Ew := ⟨fun _ G => Q .non G, Q, fun _ _ => False, fun _ _ => False⟩
section
variable {P : Program} {w : World} {mg : Str → Option Value} {base : Heap}
/-- the context of a def's body -/
noncomputable abbrev cxW (P : Program) (w : World) (K : PySem.W.Frag) (mg : Str → Option Value) (base : Heap) (N : List Str) (qual : Str) (scope : Scope) (f : Addr) (cd : Value) (A : Around) (outer : List Env) (s : Shared) (H : Hp) (E : XK) : Cx :=
  cxOf (CXe P w) P w K mg base N qual scope f cd A outer s H E
end
end L3
namespace L3
open PySem PySem.Spec PyProof.Rows L2
variable {K : PySem.W.Frag} {H H' H2 : Hp}
section
variable {X : Cx} {a b c e : Expr} {st : Stmt} {sts sts' : List Stmt} {pos pos' : Pos} {ga gb gc : GE} {gt gu : GT} {g1 g2 : GS} {ex : Xw} {P : Hp → Prop}
noncomputable def gNext : GS := fun D ω G => D.nx ω G
noncomputable def gSeq (g1 g2 : GS) : GS := fun D ω G => g1 { D with nx := g2 D } ω G
theorem gNext_M : GS.M gNext := fun _ _ _ _ h _ _ _ q => h _ _ q
theorem gSeq_M (m1 : g1.M) (m2 : g2.M) : GS.M (gSeq g1 g2) := fun ω G D D' h1 h2 h3 h4 q => m1 _ _ { D with nx := g2 D } _ (fun _ _ z => m2 _ _ _ _ h1 h2 h3 h4 z) h2 h3 h4 q
theorem ssw_nil : PSsw X P [] gNext := fun B hB => pss_sub pss_nil (by rintro D σ H ⟨ω, G, ts, r, mb, q⟩; exact q σ H mb ts r)
theorem ssw_cons (m1 : g1.M) (m2 : g2.M) (h1 : PSw X P st g1) (h2 : PSsw X P sts g2) : PSsw X P (st :: sts) (gSeq g1 g2) := fun B hB =>
  pss_sub (pss_cons (h1 B hB) (h2 B hB)) (by rintro D σ H ⟨ω, G, ts, r, mb, q⟩; exact ⟨ω, G, ts, r, mb, m1 _ _ { dnD X.K B D with nx := g2 (dnD X.K B D) } _ (fun ω' G' z σ' H' m ts' r' => ⟨ω', G', ts', r', m, z⟩) (fun _ _ z => z) (fun _ _ z => z) (fun _ _ z => z) q⟩)
theorem ssw_one (h1 : PSw X P st g1) : PSsw X P [st] g1 := fun B hB => pss_sub (pss_one (h1 B hB)) fun D σ H z => z
noncomputable def gSet (i : Nat) (ga : GE) : GS := fun D ω G => ga ω G fun w G1 => D.nx (ω.set i (some w)) G1
theorem gSet_M {i : Nat} (ma : ga.M) : GS.M (gSet i ga) := fun ω G D D' h _ _ _ q => ma _ _ _ _ (fun _ _ z => h _ _ z) q
theorem sw_set {i : Nat} {x : Str} (hN : X.N.Nodup) (hi : X.N[i]? = some x) (hx : Loc X.env.scope x) (ma : ga.M) (ha : PEw X e ga) (hs : swapsWith e (some (.Name x pos')) pos.line X.env = pure false) (hf : X.fn x = true ∨ X.env.scope.names.lookup x = some .local) :
    PSw X P (.Assign [.Name x pos'] e pos) (gSet i ga) := fun B hB =>
  ps_sub (ps_set hN hi hx ha hs hf) (by rintro D σ H ⟨ω, G, ts, r, mb, q⟩; exact ⟨ω, G, ts, r, ma _ _ _ _ (fun w G1 z v H1 m t r1 => z _ H1 (mb.trans m) ((ts.mono m).set i t) r1) q⟩)
noncomputable def gRet (ga : GE) : GS := fun D ω G => ga ω G D.rt
theorem gRet_M (ma : ga.M) : GS.M (gRet ga) := fun ω G D D' _ h _ _ q => ma _ _ _ _ (fun _ _ z => h _ _ z) q
theorem sw_ret (ma : ga.M) (ha : PEw X e ga) : PSw X P (.Return (some e) pos) (gRet ga) := fun B hB => ps_sub (ps_ret ha) (by rintro D σ H ⟨ω, G, ts, r, mb, q⟩; exact ⟨ω, G, ts, r, ma _ _ _ _ (fun w G1 z v H1 m t r1 => z v H1 (mb.trans m) t r1) q⟩)
noncomputable def gDrop (ga : GE) : GS := fun D ω G => ga ω G fun _ G1 => D.nx ω G1
theorem gDrop_M (ma : ga.M) : GS.M (gDrop ga) := fun ω G D D' h _ _ _ q => ma _ _ _ _ (fun _ _ z => h _ _ z) q
theorem sw_expr (ma : ga.M) (ha : PEw X e ga) (hs : swapsWith e none pos.line X.env = pure false) : PSw X P (.Expr e pos) (gDrop ga) := fun B hB =>
  ps_sub (ps_expr ha hs) (by rintro D σ H ⟨ω, G, ts, r, mb, q⟩; exact ⟨ω, G, ts, r, ma _ _ _ _ (fun w G1 z v H1 m t r1 => z _ H1 (mb.trans m) (ts.mono m) r1) q⟩)
noncomputable def gIf (gt : GT) (g1 g2 : GS) : GS := fun D ω G => gt ω G fun b G1 => if b = true then g1 D ω G1 else g2 D ω G1
theorem gIf_M (mt : gt.M) (m1 : g1.M) (m2 : g2.M) : GS.M (gIf gt g1 g2) := fun ω G D D' h1 h2 h3 h4 q => mt _ _ _ _ (fun b G1 z => by
  cases b with
  | true => exact m1 _ _ _ _ h1 h2 h3 h4 z
  | false => exact m2 _ _ _ _ h1 h2 h3 h4 z) q
theorem sw_if (mt : gt.M) (m1 : g1.M) (m2 : g2.M) (hc : PTw X c gt) (h1 : PSsw X P sts g1) (h2 : PSsw X P sts' g2) : PSw X P (.If c sts sts' pos) (gIf gt g1 g2) := fun B hB =>
  ps_sub (ps_if hc (h1 B hB) (h2 B hB)) fun D σ H ⟨ω, G, ts, r, mb, q⟩ => ⟨ω, G, ts, r, mt _ _ _ _ (fun b G1 z H1 m r1 => by
    cases b with
    | true => exact ⟨ω, G1, ts.mono m, r1, mb.trans m, z⟩
    | false => exact ⟨ω, G1, ts.mono m, r1, mb.trans m, z⟩) q⟩
noncomputable def gTB (g : GE) : GT := fun ω G Q => g ω G fun w G1 => match w with | .bl b => Q b G1 | _ => False
theorem gTB_M (m : ga.M) : GT.M (gTB ga) := fun ω G Q Q' h q => m _ _ _ _ (fun w G1 z => by
  cases w <;> first | exact h _ _ z | exact z) q
theorem tr_bl {v : V} {b : Bool} (t : Tr K H v (.bl b)) : v = .bl b := by cases t; rfl
theorem tr_int {v : V} {b : Int} (t : Tr K H v (.int b)) : v = .int b := by cases t; rfl
theorem tr_str {v : V} {b : Str} (t : Tr K H v (.str b)) : v = .str b := by cases t; rfl
theorem tr_ref {v : V} {a : Addr} (t : Tr K H v (.ref a)) : v = .ref a := by cases t; rfl
theorem up_tb (m : ga.M) {f : Bool → Hp → Prop} {σ : St} (h : upT K (gTB ga) σ H f) : up K ga σ H (fun x H1 => ∃ k, x = .bl k ∧ f k H1) := by
  obtain ⟨ω, G, ts, r, q⟩ := h
  refine ⟨ω, G, ts, r, m _ _ _ _ (fun w G1 z v H1 m1 t r1 => ?_) q⟩
  cases w with
  | bl b => exact ⟨b, tr_bl t, z H1 m1 r1⟩
  | _ => exact z.elim
theorem tw_cmp {op : CmpOp} {r : RW2} {r2 : R2} (ho : OpR X (compareOp op) r2) (mr : r.M) (ma : ga.M) (mb : gb.M) (hr : ∀ (x y : W) (v u : V) (G : Hw) (H : Hp) (Q : VK), Tr X.K H v x → Tr X.K H u y → RelH X.K H G → r x y G (dn X.K H Q) → r2 v u H Q)
    (ha : PEw X a ga) (hb : PEw X b gb) (hm : behindInMarks op b = false) : PTw X (.Compare a [op] [b] pos) (gTB (gBin r ga gb)) :=
  pt_sub (pt_cmpR ho ha hb hm) fun σ H Q z => up_bin mr ma mb hr σ H _ (up_tb (gBin_M mr ma mb) z)
noncomputable def truW (w : W) (G : Hw) : Option Bool := match w with
  | .non => some false
  | .bl b => some b
  | .int i => some (i != 0)
  | .tup xs => some (!xs.isEmpty)
  | .rol xs => some (!xs.isEmpty)
  | .ref a => match G a with | some (.lst xs) => some (!xs.isEmpty) | _ => none
  | .str _ => none
noncomputable def gTru (g : GE) : GT := fun ω G Q => g ω G fun w G1 => match truW w G1 with | some b => Q b G1 | none => False
theorem gTru_M (m : ga.M) : GT.M (gTru ga) := fun ω G Q Q' h q => m _ _ _ _ (fun w G1 z => by
  cases e : truW w G1 with
  | none => rw [e] at z; exact z
  | some b => rw [e] at z; exact h _ _ z) q
theorem isEmpty_tr : ∀ {vs : List V} {ws : List W}, TrL K H vs ws → vs.isEmpty = ws.isEmpty
  | _, _, .nil => rfl
  | _, _, .cons _ _ => rfl
theorem truV_of {v : V} {w : W} {G : Hw} {b : Bool} (t : Tr K H v w) (r : RelH K H G) (e : truW w G = some b) : TruV K v H b := by
  cases t with
  | non => cases e; rfl
  | bl c => cases e; rfl
  | int i => cases e; rfl
  | str x => cases e
  | tup h l => cases e; exact .inr (.inl ⟨_, h, by rw [isEmpty_tr l]⟩)
  | rol h l => cases e; exact .inl ⟨_, h.sq, by rw [isEmpty_tr l]⟩
  | ref a =>
    unfold truW at e
    dsimp only at e
    cases z : G a with
    | none => rw [z] at e; cases e
    | some o =>
      rw [z] at e
      cases o with
      | exc C => cases e
      | ins C fs => cases e
      | dct kvs => cases e
      | lst xs =>
        cases e
        obtain ⟨vs, e1, l⟩ := r a _ z
        exact .inl ⟨vs, SqL.of e1, by rw [isEmpty_tr l]⟩
theorem tw_tru (ma : ga.M) (ha : PEw X e ga) (he : ∀ whole, isTrue e X.env whole = (do let v ← whole; standAt e.pos; holding [v] (truthy v)) := by intro _; rfl) : PTw X e (gTru ga) :=
  pt_sub (pt_truth ha he) fun σ H Q ⟨ω, G, ts, r, q⟩ => ⟨ω, G, ts, r, ma _ _ _ _ (fun w G1 z v H1 m t r1 => by
    cases e1 : truW w G1 with
    | none => rw [e1] at z; exact z.elim
    | some b => rw [e1] at z; exact ⟨b, truV_of t r1 e1, z H1 m r1⟩) q⟩
noncomputable def gNt (g : GT) : GT := fun ω G Q => g ω G fun b G1 => Q (!b) G1
theorem gNt_M (m : gt.M) : GT.M (gNt gt) := fun ω G Q Q' h q => m _ _ _ _ (fun w G1 z => h _ _ z) q
theorem tw_not (ha : PTw X a gt) : PTw X (.UnaryOp .Not a pos) (gNt gt) := pt_sub (pt_not ha) fun σ H Q z => z
noncomputable abbrev PWw (X : Cx) (e : Expr) (g : GT) : Prop := PW X e (upT X.K g)
theorem pw_sub {e : Expr} {t t' : TT} (h : PW X e t) (i : ∀ σ H Q, t' σ H Q → t σ H Q) : PW X e t' := fun wh pins s σ H Q I q => h wh pins s σ H Q I (i σ H Q q)
noncomputable def gAnd (g1 g2 : GT) : GT := fun ω G Q => g1 ω G fun b G1 => if b = true then g2 ω G1 Q else Q false G1
noncomputable def gOr (g1 g2 : GT) : GT := fun ω G Q => g1 ω G fun b G1 => if b = true then Q true G1 else g2 ω G1 Q
theorem gAnd_M (m1 : gt.M) (m2 : gu.M) : GT.M (gAnd gt gu) := fun ω G Q Q' h q => m1 _ _ _ _ (fun b G1 z => by
  cases b with
  | true => exact m2 _ _ _ _ h z
  | false => exact h _ _ z) q
theorem gOr_M (m1 : gt.M) (m2 : gu.M) : GT.M (gOr gt gu) := fun ω G Q Q' h q => m1 _ _ _ _ (fun b G1 z => by
  cases b with
  | true => exact h _ _ z
  | false => exact m2 _ _ _ _ h z) q
variable {rest : List Expr}
theorem ww_and1 (ha : PTw X a gt) : PWw X (.BoolOp .And [a] pos) gt := pw_sub (pw_and1 ha) fun σ H Q z => z
theorem ww_or1 (ha : PTw X a gt) : PWw X (.BoolOp .Or [a] pos) gt := pw_sub (pw_or1 ha) fun σ H Q z => z
theorem ww_and (m1 : gt.M) (m2 : gu.M) (ha : PTw X a gt) (hb : PWw X (.BoolOp .And (b :: rest) pos) gu) : PWw X (.BoolOp .And (a :: b :: rest) pos) (gAnd gt gu) :=
  pw_sub (pw_and ha hb) fun σ H Q ⟨ω, G, ts, r, q⟩ => ⟨ω, G, ts, r, m1 _ _ _ _ (fun b G1 z H1 m r1 => by
    cases b with
    | true => exact ⟨ω, G1, ts.mono m, r1, m2 _ _ _ _ (fun _ _ z => dnT_mono m z) z⟩
    | false => exact z H1 m r1) q⟩
theorem ww_or (m1 : gt.M) (m2 : gu.M) (ha : PTw X a gt) (hb : PWw X (.BoolOp .Or (b :: rest) pos) gu) : PWw X (.BoolOp .Or (a :: b :: rest) pos) (gOr gt gu) :=
  pw_sub (pw_or ha hb) fun σ H Q ⟨ω, G, ts, r, q⟩ => ⟨ω, G, ts, r, m1 _ _ _ _ (fun b G1 z H1 m r1 => by
    cases b with
    | true => exact z H1 m r1
    | false => exact ⟨ω, G1, ts.mono m, r1, m2 _ _ _ _ (fun _ _ z => dnT_mono m z) z⟩) q⟩
theorem tw_bool {op : BoolOp} {vs : List Expr} (h : PWw X (.BoolOp op vs pos) gt) : PTw X (.BoolOp op vs pos) gt := PW.pt h
noncomputable def gAndV (ga gb : GE) : GE := fun ω G Q => ga ω G fun x G1 => match x with | .bl c => if c = true then gb ω G1 Q else Q (.bl false) G1 | _ => False
noncomputable def gOrV (ga gb : GE) : GE := fun ω G Q => ga ω G fun x G1 => match x with | .bl c => if c = true then Q (.bl true) G1 else gb ω G1 Q | _ => False
noncomputable def gIte (gt : GT) (ga gb : GE) : GE := fun ω G Q => gt ω G fun c G1 => if c = true then ga ω G1 Q else gb ω G1 Q
theorem gAndV_M (ma : ga.M) (mb : gb.M) : GE.M (gAndV ga gb) := fun ω G Q Q' h q => ma _ _ _ _ (fun x G1 z => by
  cases x with
  | bl c =>
    cases c with
    | true => exact mb _ _ _ _ h z
    | false => exact h _ _ z
  | _ => exact z) q
theorem gOrV_M (ma : ga.M) (mb : gb.M) : GE.M (gOrV ga gb) := fun ω G Q Q' h q => ma _ _ _ _ (fun x G1 z => by
  cases x with
  | bl c =>
    cases c with
    | true => exact h _ _ z
    | false => exact mb _ _ _ _ h z
  | _ => exact z) q
theorem gIte_M (mt : gt.M) (ma : ga.M) (mb : gb.M) : GE.M (gIte gt ga gb) := fun ω G Q Q' h q => mt _ _ _ _ (fun c G1 z => by
  cases c with
  | true => exact ma _ _ _ _ h z
  | false => exact mb _ _ _ _ h z) q
theorem ew_one {op : BoolOp} (h : PEw X a ga) : PEw X (.BoolOp op [a] pos) ga := pe_one h
theorem ew_and (ma : ga.M) (mb : gb.M) (ha : PEw X a ga) (hb : PEw X (.BoolOp .And (b :: rest) pos) gb) : PEw X (.BoolOp .And (a :: b :: rest) pos) (gAndV ga gb) :=
  pe_sub (pe_and ha hb) fun σ H Q ⟨ω, G, ts, r, q⟩ => ⟨ω, G, ts, r, ma _ _ _ _ (fun x G1 z v H1 m t r1 => by
    cases x with
    | bl c =>
      refine ⟨c, tr_bl t, ?_⟩
      cases c with
      | true => exact ⟨ω, G1, ts.mono m, r1, mb _ _ _ _ (fun _ _ z => dn_mono m z) z⟩
      | false => exact z _ H1 m (.bl false) r1
    | _ => exact z.elim) q⟩
theorem ew_or (ma : ga.M) (mb : gb.M) (ha : PEw X a ga) (hb : PEw X (.BoolOp .Or (b :: rest) pos) gb) : PEw X (.BoolOp .Or (a :: b :: rest) pos) (gOrV ga gb) :=
  pe_sub (pe_or ha hb) fun σ H Q ⟨ω, G, ts, r, q⟩ => ⟨ω, G, ts, r, ma _ _ _ _ (fun x G1 z v H1 m t r1 => by
    cases x with
    | bl c =>
      refine ⟨c, tr_bl t, ?_⟩
      cases c with
      | true => exact z _ H1 m (.bl true) r1
      | false => exact ⟨ω, G1, ts.mono m, r1, mb _ _ _ _ (fun _ _ z => dn_mono m z) z⟩
    | _ => exact z.elim) q⟩
theorem ew_ite (mt : gt.M) (ma : ga.M) (mb : gb.M) (hc : PTw X c gt) (ha : PEw X a ga) (hb : PEw X b gb) : PEw X (.IfExp c a b pos) (gIte gt ga gb) :=
  pe_sub (pe_ifExp hc ha hb) fun σ H Q ⟨ω, G, ts, r, q⟩ => ⟨ω, G, ts, r, mt _ _ _ _ (fun c G1 z H1 m r1 => by
    cases c with
    | true => exact ⟨ω, G1, ts.mono m, r1, ma _ _ _ _ (fun _ _ z => dn_mono m z) z⟩
    | false => exact ⟨ω, G1, ts.mono m, r1, mb _ _ _ _ (fun _ _ z => dn_mono m z) z⟩) q⟩
variable {es : List Expr} {gs : GA}
noncomputable def gTup (gs : GA) : GE := fun ω G Q => gs ω G fun ws G1 => ws.length ≤ sizeLine ∧ Q (.tup ws) G1
noncomputable def gLst (gs : GA) : GE := fun ω G Q => gs ω G fun ws G1 => ws.length ≤ sizeLine ∧ ∀ p, G1 p = none → Q (.ref p) (put G1 p (.lst ws))
theorem gTup_M (m : gs.M) : GE.M (gTup gs) := fun ω G Q Q' h q => m _ _ _ _ (fun ws G1 z => ⟨z.1, h _ _ z.2⟩) q
theorem gLst_M (m : gs.M) : GE.M (gLst gs) := fun ω G Q Q' h q => m _ _ _ _ (fun ws G1 z => ⟨z.1, fun p hp => h _ _ (z.2 p hp)⟩) q
theorem ew_tup {x1} (m : gs.M) (h : PAw X es gs) : PEw X (.Tuple es x1 pos) (gTup gs) :=
  pe_sub (pe_tup h) fun σ H Q ⟨ω, G, ts, r, q⟩ => ⟨ω, G, ts, r, m _ _ _ _ (fun ws G1 z vs H1 m1 t r1 => ⟨by rw [t.length]; exact z.1, fun p hp =>
    z.2 _ _ (m1.trans (Mono.new hp _)) (.tup (SqT.of upd_same) (t.mono (Mono.new hp _))) (r1.mono0 hp)⟩) q⟩
theorem ew_lst (m : gs.M) (h : PAw X es gs) : PEw X (.List es pos) (gLst gs) :=
  pe_sub (pe_lst h) fun σ H Q ⟨ω, G, ts, r, q⟩ => ⟨ω, G, ts, r, m _ _ _ _ (fun ws G1 z vs H1 m1 t r1 => ⟨by rw [t.length]; exact z.1, fun p hp =>
    z.2 p (r1.no hp) _ _ (m1.trans (Mono.new hp _)) (.ref p) (r1.new hp t)⟩) q⟩
end
end L3
set_option Elab.async false
set_option linter.all false
set_option maxRecDepth 100000
set_option maxHeartbeats 4000000
namespace L3
open PySem PySem.Spec PyProof.Rows L2
variable {K : PySem.W.Frag} {H H' H2 : Hp}
noncomputable def signs (z : Str) : List V := z.cps.toList.map fun c => V.str ⟨#[c]⟩
/-- items that are known at the start -/
noncomputable def Itk (xs : List V) : It := ⟨fun i _ => i < xs.length, fun i H x H' => H' = H ∧ xs[i]? = some x, fun i _ => xs.length ≤ i⟩
theorem turn_ascii {P : Program} {w : World} {tg : Expr} (ht : ∀ it u, letOwnedTupleGo tg it u = pure ()) (it : Addr) (z : Str) (t : Tok) : Turn P w K tg (Itk (signs z)) [it] it (fun i h => h.IsStrIter it "str_ascii_iterator" z t i) where
  mem := by simp
  obj := fun i h st b hb => by
    have e : b = it := by simpa using hb
    subst e
    obtain ⟨o, e, c, d⟩ := st
    exact ⟨o, e, fun v z => by rw [d] at z; cases z⟩
  keep := fun i h h' st k => by
    obtain ⟨o, e, c, d⟩ := st
    exact ⟨o, k it (by simp) o e, c, d⟩
  item := by
    intro X hP hw hK hc i pins s σ H E I hf st hg
    subst hP hw hK
    obtain ⟨f0, f1, f2, f3, f4, f5⟩ := hf it (by simp)
    have W := Walks.strAscii (prog := X.prog) (w := X.w) (I.ok.hd hc) it z t
    have hi : i < z.cps.size := by simpa [signs, Itk] using hg
    refine W.item i s _ _ hi st fun v h' tk hv st' kk => ?_
    obtain ⟨c, t', hc', rfl⟩ := hv
    have I1 : Inv X pins σ H { s with heap := h', toks := tk } := I.turned (fun b o hb e => kk b o (by simpa using hb) e) f0 f1 f3 f4 f5
    exact ⟨_, rfl, wpAny_of_eq (ht _ _) ⟨.str ⟨#[c]⟩, H, I1, ⟨_, rfl⟩, ⟨rfl, by simp [signs, hc']⟩, st', fun b hb => (hf b hb).1⟩⟩
  done := by
    intro X hP hw hK hc i pins s σ H E I hf st hg
    subst hP hw hK
    obtain ⟨f0, f1, f2, f3, f4, f5⟩ := hf it (by simp)
    have hi : z.cps.size ≤ i := by simpa [signs, Itk] using hg
    exact wpAny_pyNext_ascii_end (I.ok.hd hc) st (by simp [hi]) fun h' eb => ⟨rfl, I.turned (t' := s.toks) (fun b o hb e => eb b o hb e) f0 f1 f3 f4 f5⟩
  self := fun A i s Q E st h => wpAny_pyIter_striter_ascii st h
theorem turn_wide {P : Program} {w : World} {tg : Expr} (ht : ∀ it u, letOwnedTupleGo tg it u = pure ()) (it : Addr) (z : Str) (t : Tok) : Turn P w K tg (Itk (signs z)) [it] it (fun i h => h.IsStrIter it "str_iterator" z t i) where
  mem := by simp
  obj := fun i h st b hb => by
    have e : b = it := by simpa using hb
    subst e
    obtain ⟨o, e, c, d⟩ := st
    exact ⟨o, e, fun v z => by rw [d] at z; cases z⟩
  keep := fun i h h' st k => by
    obtain ⟨o, e, c, d⟩ := st
    exact ⟨o, k it (by simp) o e, c, d⟩
  item := by
    intro X hP hw hK hc i pins s σ H E I hf st hg
    subst hP hw hK
    obtain ⟨f0, f1, f2, f3, f4, f5⟩ := hf it (by simp)
    have W := Walks.strWide (prog := X.prog) (w := X.w) (I.ok.hd hc) it z t
    have hi : i < z.cps.size := by simpa [signs, Itk] using hg
    refine W.item i s _ _ hi st fun v h' tk hv st' kk => ?_
    obtain ⟨c, t', hc', rfl⟩ := hv
    have I1 : Inv X pins σ H { s with heap := h', toks := tk } := I.turned (fun b o hb e => kk b o (by simpa using hb) e) f0 f1 f3 f4 f5
    exact ⟨_, rfl, wpAny_of_eq (ht _ _) ⟨.str ⟨#[c]⟩, H, I1, ⟨_, rfl⟩, ⟨rfl, by simp [signs, hc']⟩, st', fun b hb => (hf b hb).1⟩⟩
  done := by
    intro X hP hw hK hc i pins s σ H E I hf st hg
    subst hP hw hK
    obtain ⟨f0, f1, f2, f3, f4, f5⟩ := hf it (by simp)
    have hi : z.cps.size ≤ i := by simpa [signs, Itk] using hg
    exact wpAny_pyNext_wide_end (I.ok.hd hc) st (by simp [hi]) fun h' eb => ⟨rfl, I.turned (t' := s.toks) (fun b o hb e => eb b o hb e) f0 f1 f3 f4 f5⟩
  self := fun A i s Q E st h => wpAny_pyIter_striter_wide st h
/-- a list, a tuple or a text, as it comes -/
noncomputable def iAny (K : PySem.W.Frag) (tl : TE) : TI := fun σ H R => tl σ H fun x H1 => (∃ a, x = .ref a ∧ (∃ xs, SqL K H1 a xs) ∧ R (Itl K a) H1) ∨ (∃ a, x = .ref a ∧ (∃ xs, SqT K H1 a xs) ∧ R (Itt K a) H1) ∨ (∃ z, x = .str z ∧ R (Itk (signs z)) H1)
theorem pi_any {X : Cx} {tg l : Expr} {tl : TE} (ht : ∀ it u, letOwnedTupleGo tg it u = pure ()) (hl : PE X l tl) : PI X tg l (iAny X.K tl) := by
  intro pins s σ H R I h
  refine thn (hl pins s σ H _ I h) fun v s1 zz1 => ?_
  obtain ⟨x, H1, I1, r1, q1⟩ := zz1
  rcases q1 with ⟨a, e, ⟨xs, hq⟩, q⟩ | ⟨a, e, ⟨xs, hq⟩, q⟩ | ⟨z, e, q⟩
  · subst e
    cases r1
    obtain ⟨its, rv, p, hz⟩ := I1.list hq
    refine wpAny_pyIter_list p.isList ?_
    refine ⟨s1.heap.objs.size, [s1.heap.objs.size], _, _, H1, rfl, I1.kept (t' := s1.toks) fun b o e => Heap.get?_push_of_some _ e, turn_list a _, ⟨_, Heap.get?_push_size _ rfl, rfl, rfl⟩, fun b hb => ?_, q⟩
    have e : b = s1.heap.objs.size := by simpa using hb
    subst e
    exact I1.fpOk (Nat.le_refl _) (I1.hok.fresh (Nat.le_refl _))
  · subst e
    cases r1
    obtain ⟨its, rv, p, hz⟩ := I1.tuple hq
    refine wpAny_pyIter_tuple (show s1.heap.IsTuple a its.toArray from p) ?_
    refine ⟨s1.heap.objs.size, [s1.heap.objs.size], _, _, H1, rfl, I1.kept (t' := s1.toks) fun b o e => Heap.get?_push_of_some _ e, turn_tuple a _, ⟨_, Heap.get?_push_size _ rfl, rfl, rfl⟩, fun b hb => ?_, q⟩
    have e : b = s1.heap.objs.size := by simpa using hb
    subst e
    exact I1.fpOk (Nat.le_refl _) (I1.hok.fresh (Nat.le_refl _))
  · subst e
    obtain ⟨t, rfl⟩ := r1
    have fp : ∀ b ∈ [s1.heap.objs.size], FpOk X pins H1 b := fun b hb => by
      have e : b = s1.heap.objs.size := by simpa using hb
      subst e
      exact I1.fpOk (Nat.le_refl _) (I1.hok.fresh (Nat.le_refl _))
    cases ha : z.cps.all (· < 128)
    · exact wpAny_pyIter_wide ha ⟨s1.heap.objs.size, [s1.heap.objs.size], _, _, H1, rfl, I1.kept (t' := s1.toks) fun b o e => Heap.get?_push_of_some _ e, turn_wide ht _ z t, ⟨_, Heap.get?_push_size _ rfl, rfl, rfl⟩, fp, q⟩
    · exact wpAny_pyIter_ascii ha ⟨s1.heap.objs.size, [s1.heap.objs.size], _, _, H1, rfl, I1.kept (t' := s1.toks) fun b o e => Heap.get?_push_of_some _ e, turn_ascii ht _ z t, ⟨_, Heap.get?_push_size _ rfl, rfl, rfl⟩, fp, q⟩
noncomputable abbrev GI := Sw → Hw → (List W → (Hw → Prop) → Hw → Prop) → Prop
noncomputable def GI.M (g : GI) : Prop := ∀ ω G (R R' : List W → (Hw → Prop) → Hw → Prop), (∀ ws gd G', R ws gd G' → R' ws gd G') → g ω G R → g ω G R'
noncomputable def signsW (z : Str) : List W := z.cps.toList.map fun c => W.str ⟨#[c]⟩
theorem trL_signs {z : Str} : TrL K H (signs z) (signsW z) := by
  unfold signs signsW
  generalize z.cps.toList = l
  induction l with
  | nil => exact .nil
  | cons c l ih => exact .cons (.str _) ih
noncomputable def yes : Hw → Prop := fun _ => True
noncomputable def holds (a : Addr) (ws : List W) : Hw → Prop := fun G => G a = some (.lst ws)
noncomputable def gIter (ga : GE) : GI := fun ω G R => ga ω G fun w G1 => match w with
  | .tup ws => R ws yes G1
  | .rol ws => R ws yes G1
  | .str z => R (signsW z) yes G1
  | .ref a => match G1 a with | some (.lst ws) => R ws (holds a ws) G1 | _ => False
  | _ => False
theorem gIter_M {ga : GE} (m : ga.M) : GI.M (gIter ga) := fun ω G R R' h q => m _ _ _ _ (fun w G1 z => by
  cases w with
  | tup ws => exact h _ _ _ z
  | rol ws => exact h _ _ _ z
  | str x => exact h _ _ _ z
  | ref a =>
    dsimp only at z ⊢
    cases e : G1 a with
    | none => rw [e] at z; exact z
    | some o =>
      rw [e] at z
      cases o with
      | lst ws => exact h _ _ _ z
      | exc C => exact z
      | ins C fs => exact z
      | dct kvs => exact z
  | _ => exact z) q
/-- the iterator J, got at the heap H1, yields the items ws as long as gd holds -/
structure Walk (K : PySem.W.Frag) (H1 : Hp) (J : It) (ws : List W) (gd : Hw → Prop) : Prop where
  go : ∀ (i : Nat) (H : Hp) (G : Hw), Mono K H1 H → RelH K H G → gd G → i < ws.length → J.go i H
  yld : ∀ (i : Nat) (H : Hp) (G : Hw) (x : V) (H' : Hp), Mono K H1 H → RelH K H G → gd G → J.yld i H x H' → i < ws.length → Mono K H H' ∧ RelH K H' G ∧ ∃ w, ws[i]? = some w ∧ Tr K H' x w
  stop : ∀ (H : Hp) (G : Hw), Mono K H1 H → RelH K H G → gd G → J.stop ws.length H
theorem yld_same {H H' : Hp} {G : Hw} {x : V} {ws : List W} {i : Nat} (r : RelH K H G) (e : H' = H) (h : ∃ w, ws[i]? = some w ∧ Tr K H x w) : Mono K H H' ∧ RelH K H' G ∧ ∃ w, ws[i]? = some w ∧ Tr K H' x w := by
  subst e; exact ⟨.refl, r, h⟩
theorem walk_sqL {a : Addr} {ws : List W} {gd : Hw → Prop} {H1 : Hp} (h : ∀ H G, Mono K H1 H → RelH K H G → gd G → ∃ vs, SqL K H a vs ∧ TrL K H vs ws) : Walk K H1 (Itl K a) ws gd where
  go := fun i H G m r g hi => by
    obtain ⟨vs, q, t⟩ := h H G m r g
    have hl := t.length
    exact ⟨vs, vs[i]'(by omega), q, by simp⟩
  yld := fun i H G x H' m r g y hi => by
    obtain ⟨vs, q, t⟩ := h H G m r g
    obtain ⟨w, e, tw⟩ := t.get' (y.2 vs q)
    exact yld_same r y.1 ⟨w, e, tw⟩
  stop := fun H G m r g => by
    obtain ⟨vs, q, t⟩ := h H G m r g
    exact ⟨vs, q, Nat.le_of_eq t.length⟩
theorem walk_sqT {a : Addr} {vs : List V} {ws : List W} {gd : Hw → Prop} {H1 : Hp} (q : SqT K H1 a vs) (t : TrL K H1 vs ws) : Walk K H1 (Itt K a) ws gd where
  go := fun i H G m r g hi => by
    have hl := t.length
    exact ⟨vs, vs[i]'(by omega), m.tup _ _ q, by simp⟩
  yld := fun i H G x H' m r g y hi => by
    obtain ⟨w, e, tw⟩ := (t.mono m).get' (y.2 vs (m.tup _ _ q))
    exact yld_same r y.1 ⟨w, e, tw⟩
  stop := fun H G m r g => ⟨vs, m.tup _ _ q, Nat.le_of_eq t.length⟩
theorem walk_known {vs : List V} {ws : List W} {gd : Hw → Prop} {H1 : Hp} (t : TrL K H1 vs ws) : Walk K H1 (Itk vs) ws gd where
  go := fun i H G m r g hi => by show i < vs.length; rw [t.length]; exact hi
  yld := fun i H G x H' m r g y hi => by
    obtain ⟨w, e, tw⟩ := (t.mono m).get' y.2
    exact yld_same r y.1 ⟨w, e, tw⟩
  stop := fun H G m r g => by show vs.length ≤ ws.length; exact Nat.le_of_eq t.length
/-- a way to walk something: an iterator of the machine, and its items over trees -/
noncomputable def PIw (X : Cx) (tg l : Expr) (gi : GI) : Prop := ∃ wi : TI, PI X tg l wi ∧ ∀ (σ : St) (H : Hp) (ω : Sw) (G : Hw) (R : List W → (Hw → Prop) → Hw → Prop) (R0 : It → Hp → Prop), TrSt X.K H σ ω → RelH X.K H G → gi ω G R →
  (∀ ws gd G1 H1 J, R ws gd G1 → Mono X.K H H1 → RelH X.K H1 G1 → gd G1 → Walk X.K H1 J ws gd → R0 J H1) → wi σ H R0
theorem iw_any {X : Cx} {tg l : Expr} {ga : GE} (ht : ∀ it u, letOwnedTupleGo tg it u = pure ()) (ma : ga.M) (hl : PEw X l ga) : PIw X tg l (gIter ga) := by
  refine ⟨_, pi_any ht hl, fun σ H ω G R R0 ts r q k => ⟨ω, G, ts, r, ma _ _ _ _ (fun w G1 z v H1 m t r1 => ?_) q⟩⟩
  cases t with
  | tup h l => exact .inr (.inl ⟨_, rfl, ⟨_, h⟩, k _ _ _ H1 _ z m r1 trivial (walk_sqT h l)⟩)
  | rol h l => exact .inl ⟨_, rfl, ⟨_, h.sq⟩, k _ _ _ H1 _ z m r1 trivial (walk_sqL fun H2 G2 m2 _ _ => ⟨_, (m2.rol _ _ h).sq, l.mono m2⟩)⟩
  | str x => exact .inr (.inr ⟨x, rfl, k _ _ _ H1 _ z m r1 trivial (walk_known trL_signs)⟩)
  | ref a =>
    dsimp only at z
    cases e : G1 a with
    | none => rw [e] at z; exact z.elim
    | some o =>
      rw [e] at z
      cases o with
      | exc C => exact z.elim
      | ins C fs => exact z.elim
      | dct kvs => exact z.elim
      | lst ws =>
        obtain ⟨vs, e1, t1⟩ := r1 a _ e
        exact .inl ⟨a, rfl, ⟨vs, SqL.of e1⟩, k _ _ _ H1 _ z m r1 e (walk_sqL fun H2 G2 m2 r2 g2 => let ⟨vs, e2, t2⟩ := r2 a _ g2; ⟨vs, SqL.of e2, t2⟩)⟩
  | non => exact z.elim
  | bl b => exact z.elim
  | int i => exact z.elim
structure TgW (X : Cx) (tg : Expr) (gg : GG) : Prop where
  ex : ∃ g : TG, PG X tg g ∧ ∀ (x : V) (w : W) (σ : St) (ω : Sw) (H : Hp) (G : Hw) (Q : St → Hp → Prop), Tr X.K H x w → TrSt X.K H σ ω → RelH X.K H G → gg w ω G (dnS X.K H Q) → g x σ H Q
  mono : gg.M
noncomputable def gNm (i : Nat) : GG := fun w ω G Q => Q (ω.set i (some w)) G
theorem tg_name {X : Cx} {x : Str} {p : Pos} {i : Nat} (hN : X.N.Nodup) (hi : X.N[i]? = some x) (hx : Loc X.env.scope x) (hf : X.fn x = true ∨ X.env.scope.names.lookup x = some .local) : TgW X (.Name x p) (gNm i) where
  ex := ⟨_, pg_name hN hi hx hf, fun x w σ ω H G Q t ts r q => q _ H .refl (ts.set i t) r⟩
  mono := fun _ _ _ _ _ h q => h _ _ q
noncomputable def gNm2 (i j : Nat) : GG := fun w ω G Q => match w with | .tup [a, b] => Q ((ω.set i (some a)).set j (some b)) G | _ => False
noncomputable def goFor (gd : Hw → Prop) (gg : GG) (gb : GS) (D : Ew) : List W → Sw → Hw → Prop
  | [], ω, G => gd G ∧ D.nx ω G
  | x :: xs, ω, G => gd G ∧ gg x ω G fun ω1 G1 => gb { nx := goFor gd gg gb D xs, rt := D.rt, bk := D.nx, ct := goFor gd gg gb D xs } ω1 G1
noncomputable def gFor (gi : GI) (gg : GG) (gb : GS) : GS := fun D ω G => gi ω G fun ws gd G1 => goFor gd gg gb D ws ω G1
theorem goFor_M {gd : Hw → Prop} {gg : GG} {gb : GS} (mg : gg.M) (mb : gb.M) {D D' : Ew} (h1 : ∀ a b, D.nx a b → D'.nx a b) (h2 : ∀ a b, D.rt a b → D'.rt a b) : ∀ (ws : List W) (ω : Sw) (G : Hw), goFor gd gg gb D ws ω G → goFor gd gg gb D' ws ω G
  | [], ω, G, q => ⟨q.1, h1 _ _ q.2⟩
  | x :: xs, ω, G, q => ⟨q.1, mg _ _ _ _ _ (fun ω1 G1 z => mb _ _ { nx := goFor gd gg gb D xs, rt := D.rt, bk := D.nx, ct := goFor gd gg gb D xs } _ (fun a b y => goFor_M mg mb h1 h2 xs a b y) h2 h1 (fun a b y => goFor_M mg mb h1 h2 xs a b y) z) q.2⟩
theorem gFor_M {gi : GI} {gg : GG} {gb : GS} (mi : gi.M) (mg : gg.M) (mb : gb.M) : GS.M (gFor gi gg gb) := fun ω G D D' h1 h2 h3 h4 q => mi _ _ _ _ (fun ws gd G1 z => goFor_M mg mb h1 h2 ws ω G1 z) q
theorem goFor_gd {gd : Hw → Prop} {gg : GG} {gb : GS} {D : Ew} {ws : List W} {ω : Sw} {G : Hw} (q : goFor gd gg gb D ws ω G) : gd G := by
  cases ws with
  | nil => exact q.1
  | cons w ws => exact q.1
theorem sw_for {X : Cx} {P : Hp → Prop} {tg iter : Expr} {body : List Stmt} {pos : Pos} {gi : GI} {gg : GG} {gb : GS} (hp : PassesOwn (model X.prog X.w) X.A X.env X.xe) (hc : X.calm = true) (mi : gi.M) (mb : gb.M) (hi : PIw X tg iter gi) (hg : TgW X tg gg) (hb : PSsw X anyB body gb)
    (hs : ∀ x, foldedSetIterable iter X.env x = pure x := by intro _; rfl) : PSw X P (.For tg iter body [] pos) (gFor gi gg gb) := by
  intro B hB
  obtain ⟨wi, hwi, hi⟩ := hi
  obtain ⟨g, hpg, hgg⟩ := hg.ex
  have mg := hg.mono
  have hb' : PSs X body (fun D σ H => ∃ B', upS X.K B' gb D σ H) := (by rintro pins s σ H D I ⟨B', z⟩; exact hb B' trivial pins s σ H D I z)
  refine ps_sub (ps_for hp hc hwi hpg hb' hs) fun D σ H zz2 => ?_
  obtain ⟨ω, G, ts, r, mb0, q⟩ := zz2
  refine hi σ H ω G _ _ ts r q fun ws gd G1 H1 J z m1 r1 hgd wk => ?_
  have mb1 := mb0.trans m1
  refine ⟨fun i m σ' H' => m = ws.length - i ∧ i ≤ ws.length ∧ Mono X.K H1 H' ∧ ∃ ω' G', TrSt X.K H' σ' ω' ∧ RelH X.K H' G' ∧ goFor gd gg gb (dnD X.K B D) (ws.drop i) ω' G', ⟨ws.length, by simp, Nat.zero_le _, .refl, ω, G1, ts.mono m1, r1, by simpa using z⟩, ?_⟩
  rintro i m σ' H' ⟨rfl, hle, mm, ω', G', ts', r', q'⟩
  have hgd' := goFor_gd q'
  by_cases hlt : i < ws.length
  · refine .inr ⟨wk.go i H' G' mm r' hgd' hlt, fun σ2 H2 => Mono X.K H1 H2 ∧ ∃ ω2 G2, TrSt X.K H2 σ2 ω2 ∧ RelH X.K H2 G2 ∧ goFor gd gg gb (dnD X.K B D) (ws.drop (i + 1)) ω2 G2,
      (by rintro σ2 H2 ⟨y1, y2⟩; exact ⟨ws.length - (i + 1), by omega, rfl, hlt, y1, y2⟩), fun x H2 y => ?_⟩
    obtain ⟨my, ry, w, ew, tw⟩ := wk.yld i H' G' x H2 mm r' hgd' y hlt
    have mm := mm.trans my
    have ed : ws.drop i = w :: ws.drop (i + 1) := by
      obtain ⟨h', e'⟩ := List.getElem?_eq_some_iff.mp ew
      rw [← e']; exact List.drop_eq_getElem_cons h'
    rw [ed] at q'
    refine hgg x w σ' ω' _ G' _ tw (ts'.mono my) ry (mg _ _ _ _ _ (fun ω1 G1' z1 σ1 H3 m3 ts3 r3 => ?_) q'.2)
    exact ⟨H1, ω1, G1', ts3, r3, mm.trans m3, mb _ _ _ _ (fun a b y σ4 H4 m4 ts4 r4 => ⟨m4, a, b, ts4, r4, y⟩) (fun a b y => dn_mono mb1 y) (fun a b y => dnS_mono mb1 y) (fun a b y σ4 H4 m4 ts4 r4 => ⟨m4, a, b, ts4, r4, y⟩) z1⟩
  · have e : i = ws.length := by omega
    subst e
    rw [List.drop_length] at q'
    exact .inl ⟨wk.stop H' G' mm r' hgd', q'.2 σ' H' (mb1.trans mm) ts' r'⟩
noncomputable def goComp (gd : Hw → Prop) (gg : GG) (gt : GT) (ge : GE) (R : List W → Hw → Prop) : List W → Sw → Hw → List W → Prop
  | [], _, G, ys => gd G ∧ R ys G
  | x :: xs, ω, G, ys => gd G ∧ ys.length < sizeLine ∧ gg x ω G fun ω1 G1 => gt ω1 G1 fun b G2 => if b = true then ge ω1 G2 fun y G3 => goComp gd gg gt ge R xs ω1 G3 (ys ++ [y]) else goComp gd gg gt ge R xs ω1 G2 ys
noncomputable def gComp (gi : GI) (n : Nat) (gg : GG) (gt : GT) (ge : GE) : GE := fun ω G Q => gi ω G fun ws gd G1 => goComp gd gg gt ge (fun ys G2 => ∀ p, G2 p = none → Q (.ref p) (put G2 p (.lst ys))) ws (List.replicate n none) G1 []
theorem goComp_M {gd : Hw → Prop} {gg : GG} {gt : GT} {ge : GE} (mg : gg.M) (mt : gt.M) (me : ge.M) {R R' : List W → Hw → Prop} (h : ∀ a b, R a b → R' a b) : ∀ (ws : List W) (ω : Sw) (G : Hw) (ys : List W), goComp gd gg gt ge R ws ω G ys → goComp gd gg gt ge R' ws ω G ys
  | [], ω, G, ys, q => ⟨q.1, h _ _ q.2⟩
  | x :: xs, ω, G, ys, q => ⟨q.1, q.2.1, mg _ _ _ _ _ (fun ω1 G1 z => mt _ _ _ _ (fun b G2 z2 => by
      cases b with
      | true => exact me _ _ _ _ (fun y G3 z3 => goComp_M mg mt me h xs ω1 G3 _ z3) z2
      | false => exact goComp_M mg mt me h xs ω1 G2 _ z2) z) q.2.2⟩
theorem gComp_M {gi : GI} {n : Nat} {gg : GG} {gt : GT} {ge : GE} (mi : gi.M) (mg : gg.M) (mt : gt.M) (me : ge.M) : GE.M (gComp gi n gg gt ge) := fun ω G Q Q' h q =>
  mi _ _ _ _ (fun ws gd G1 z => goComp_M mg mt me (fun ys G2 z p hp => h _ _ (z p hp)) _ _ _ _ z) q
theorem goComp_gd {gd : Hw → Prop} {gg : GG} {gt : GT} {ge : GE} {R : List W → Hw → Prop} {ws : List W} {ω : Sw} {G : Hw} {ys : List W} (q : goComp gd gg gt ge R ws ω G ys) : gd G := by
  cases ws with
  | nil => exact q.1
  | cons w ws => exact q.1
noncomputable def gYes : GT := fun _ G Q => Q true G
theorem gYes_M : GT.M gYes := fun _ _ _ _ h q => h _ _ q
noncomputable abbrev PFw (X : Cx) (ifs : List Expr) (g : GT) : Prop := PF X ifs (upT X.K g)
theorem fw_nil {X : Cx} : PFw X [] gYes := (by rintro pins s σ H Q I ⟨ω, G, ts, r, q⟩; exact pf_nil pins s σ H Q I (q H .refl r))
theorem trSt_none {n : Nat} {σ : St} (h : σ = List.replicate n none) : TrSt K H σ (List.replicate n none) := by
  subst h
  refine ⟨by simp, fun i w e => ?_⟩
  rw [List.getElem?_replicate] at e
  split at e <;> cases e
/-- a comprehension that reads nothing from around -/
theorem comp_up {X : Cx} {Nc : List Str} {gi : GI} {gg : GG} {gt : GT} {ge : GE} {wi : TI} {g : TG} (hwi : ∀ (σ : St) (H : Hp) (ω : Sw) (G : Hw) (R : List W → (Hw → Prop) → Hw → Prop) (R0 : It → Hp → Prop), TrSt X.K H σ ω → RelH X.K H G → gi ω G R →
      (∀ ws gd G1 H1 J, R ws gd G1 → Mono X.K H H1 → RelH X.K H1 G1 → gd G1 → Walk X.K H1 J ws gd → R0 J H1) → wi σ H R0)
    (hgg : ∀ (x : V) (w : W) (σ : St) (ω : Sw) (H : Hp) (G : Hw) (Q : St → Hp → Prop), Tr X.K H x w → TrSt X.K H σ ω → RelH X.K H G → gg w ω G (dnS X.K H Q) → g x σ H Q) (mg : gg.M) (mt : gt.M) (me : ge.M) (σ : St) (H : Hp) (Q : VK) (h : up X.K (gComp gi Nc.length gg gt ge) σ H Q) :
    tComp wi (fun _ => List.replicate Nc.length none) g (upT X.K gt) (up X.K ge) σ H Q := by
  obtain ⟨ω, G, ts, r, q⟩ := h
  refine hwi σ H ω G _ _ ts r q fun ws gd G1 H1 J z m1 r1 hgd wk => ?_
  refine ⟨fun i m σ' H' vs => m = ws.length - i ∧ i ≤ ws.length ∧ Mono X.K H1 H' ∧ ∃ ω' G' ys, TrSt X.K H' σ' ω' ∧ RelH X.K H' G' ∧ TrL X.K H' vs ys ∧ goComp gd gg gt ge (fun ys G2 => ∀ p, G2 p = none → dn X.K H Q (.ref p) (put G2 p (.lst ys))) (ws.drop i) ω' G' ys,
    ⟨ws.length, by simp, Nat.zero_le _, .refl, _, G1, [], trSt_none rfl, r1, .nil, by simpa using z⟩, ?_⟩
  rintro i m σ' H' vs ⟨rfl, hle, mm, ω', G', ys, ts', r', tv, q'⟩
  have hgd' := goComp_gd q'
  by_cases hlt : i < ws.length
  · have hw : ∃ w, ws[i]? = some w := ⟨ws[i], by simp [hlt]⟩
    obtain ⟨w0, ew0⟩ := hw
    have ed : ws.drop i = w0 :: ws.drop (i + 1) := by
      obtain ⟨h', e'⟩ := List.getElem?_eq_some_iff.mp ew0
      rw [← e']; exact List.drop_eq_getElem_cons h'
    rw [ed] at q'
    refine .inr ⟨wk.go i H' G' mm r' hgd' hlt, by rw [tv.length]; exact q'.2.1, fun σ2 H2 vs2 => Mono X.K H1 H2 ∧ ∃ ω2 G2 ys2, TrSt X.K H2 σ2 ω2 ∧ RelH X.K H2 G2 ∧ TrL X.K H2 vs2 ys2 ∧ goComp gd gg gt ge (fun ys G2 => ∀ p, G2 p = none → dn X.K H Q (.ref p) (put G2 p (.lst ys))) (ws.drop (i + 1)) ω2 G2 ys2,
      (by rintro σ2 H2 vs2 ⟨y1, y2⟩; exact ⟨ws.length - (i + 1), by omega, rfl, hlt, y1, y2⟩), fun x H2 y => ?_⟩
    obtain ⟨my, ry, w, ew, tw⟩ := wk.yld i H' G' x H2 mm r' hgd' y hlt
    have mm := mm.trans my
    have tv := tv.mono my
    rw [ew0] at ew; cases ew
    refine hgg x _ σ' ω' _ G' _ tw (ts'.mono my) ry (mg _ _ _ _ _ (fun ω1 G1' z1 σ1 H3 m3 ts3 r3 => ?_) q'.2.2)
    refine ⟨ω1, G1', ts3, r3, mt _ _ _ _ (fun b G4 z4 H4 m4 r4 => ?_) z1⟩
    cases b with
    | true => exact ⟨ω1, G4, ts3.mono m4, r4, me _ _ _ _ (fun y5 G5 z5 v5 H5 m5 t5 r5 => ⟨((mm.trans m3).trans m4).trans m5, ω1, G5, _, (ts3.mono m4).mono m5, r5, (((tv.mono m3).mono m4).mono m5).append (.cons t5 .nil), z5⟩) z4⟩
    | false => exact ⟨(mm.trans m3).trans m4, ω1, G4, _, ts3.mono m4, r4, (tv.mono m3).mono m4, z4⟩
  · have e : i = ws.length := by omega
    subst e
    rw [List.drop_length] at q'
    exact .inl ⟨wk.stop H' G' mm r' hgd', fun p hp => q'.2 p (r'.no hp) _ _ ((m1.trans mm).trans (Mono.new hp _)) (.ref p) (r'.new hp tv)⟩
/-- a comprehension's target -/
structure TgU (X : Cx) (Nc : List Str) (scope : Scope) (tg : Expr) (gg : GG) : Prop where
  ex : ∃ g : TG, (∀ C fp s H, PG (cxB X Nc scope [] C fp s H) tg g) ∧ ∀ (x : V) (w : W) (σ : St) (ω : Sw) (H : Hp) (G : Hw) (Q : St → Hp → Prop), Tr X.K H x w → TrSt X.K H σ ω → RelH X.K H G → gg w ω G (dnS X.K H Q) → g x σ H Q
  mono : gg.M
theorem tgu_name {X : Cx} {Nc : List Str} {scope : Scope} {x : Str} {p : Pos} {i : Nat} (hN : Nc.Nodup) (hi : Nc[i]? = some x) (hx : scope.names.lookup x = some .local) : TgU X Nc scope (.Name x p) (gNm i) where
  ex := ⟨gName i, fun C fp s H => pg_name (X := cxB X Nc scope [] C fp s H) hN hi (.inl (lookup_relabel_local hx)) (.inr (lookup_relabel_local hx)), fun x w σ ω H G Q t ts r q => q _ H .refl (ts.set i t) r⟩
  mono := fun _ _ _ _ _ h q => h _ _ q
theorem gNm2_M {i j : Nat} : GG.M (gNm2 i j) := fun w ω G Q Q' h q => by
  unfold gNm2 at q ⊢
  split
  · exact h _ _ q
  · rename_i z
    split at q
    · exact (z _ _ rfl).elim
    · exact q
theorem tgu_two {X : Cx} {Nc : List Str} {scope : Scope} {x y : Str} {p p' pos : Pos} {k i j : Nat} (hc : X.calm = true) (hN : Nc.Nodup) (hi : Nc[i]? = some x) (hx : scope.names.lookup x = some .local) (hj : Nc[j]? = some y) (hy : scope.names.lookup y = some .local) :
    TgU X Nc scope (.Tuple [.Name x p, .Name y p'] k pos) (gNm2 i j) where
  ex := ⟨L2.gTup X.K 2 (L2.gCons (gName i) (L2.gCons (gName j) L2.gNil)), fun C fp s H => pg_tup (X := cxB X Nc scope [] C fp s H) hc (pgs_cons (pg_name hN hi (.inl (lookup_relabel_local hx)) (.inr (lookup_relabel_local hx))) (pgs_cons (pg_name hN hj (.inl (lookup_relabel_local hy)) (.inr (lookup_relabel_local hy))) pgs_nil)),
    fun v w σ ω H G Q t ts r q => by
      unfold gNm2 at q
      split at q
      · rename_i a b
        cases t with
        | tup h l =>
          cases l with
          | cons ta l =>
            cases l with
            | cons tb l =>
              cases l
              exact ⟨_, _, rfl, h, rfl, _, _, rfl, _, _, rfl, rfl, q _ H .refl ((ts.set i ta).set j tb) r⟩
      · exact q.elim⟩
  mono := gNm2_M
theorem ew_comp {X : Cx} {elt tg iter : Expr} {ifs : List Expr} {scope : Scope} {pos : Pos} {Nc : List Str} {gi : GI} {gg : GG} {gt : GT} {ge : GE} (hc : X.calm = true) (hi : PIw X tg iter gi) (B : Blk X Nc scope [] (fun _ => List.replicate Nc.length none))
    (hu : TgU X Nc scope tg gg) (mt : gt.M) (ht : ∀ C fp s H, PFw (cxB X Nc scope [] C fp s H) ifs gt) (me : ge.M) (he : ∀ C fp s H, PEw (cxB X Nc scope [] C fp s H) elt ge) (hs : ∀ x, foldedSetIterable iter X.env x = pure x) :
    PEw X (.ListComp elt [⟨tg, iter, ifs, 0⟩] scope pos) (gComp gi Nc.length gg gt ge) := by
  obtain ⟨wi, hwi, hi⟩ := hi
  obtain ⟨g, hpg, hgg⟩ := hu.ex
  exact pe_sub (pe_comp hc hwi B hpg ht he hs) (comp_up hi hgg hu.mono mt me)
end L3
namespace L3
open PySem PySem.Spec PyProof.Rows L2
variable {K : PySem.W.Frag} {H H' H2 : Hp}
/-- two ints under C, an int out -/
noncomputable def rInt (C : Int → Int → Prop) (f : Int → Int → Int) : RW2 := fun x y G Q => match x, y with
  | .int i, .int j => C i j ∧ Q (.int (f i j)) G
  | _, _ => False
theorem rInt_M {C : Int → Int → Prop} {f : Int → Int → Int} : RW2.M (rInt C f) := fun x y G Q Q' h q => by
  cases x <;> cases y <;> first | exact q | exact ⟨q.1, h _ _ q.2⟩
theorem rInt_up {C : Int → Int → Prop} {f : Int → Int → Int} (x y : W) (v u : V) (G : Hw) (H : Hp) (Q : VK) (tx : Tr K H v x) (ty : Tr K H u y) (r : RelH K H G) (q : rInt C f x y G (dn K H Q)) : rI C (fun i j => .int (f i j)) v u H Q := by
  cases tx <;> first | exact q.elim | (cases ty <;> first | exact q.elim | exact ⟨_, _, rfl, rfl, q.1, q.2 _ H .refl (.int _) r⟩)
/-- + of ints, texts, lists -/
noncomputable def rAdd : RW2 := fun x y G Q => match x, y with
  | .int i, .int j => Q (.int (i + j)) G
  | .str a, .str b => a.length + b.length ≤ sizeLine ∧ Q (.str (a ++ b)) G
  | .ref a, .ref b => (match G a, G b with
    | some (.lst xs), some (.lst ys) => xs.length + ys.length ≤ sizeLine ∧ ∀ p, G p = none → Q (.ref p) (put G p (.lst (xs ++ ys)))
    | _, _ => False)
  | _, _ => False
theorem rAdd_M : RW2.M rAdd := fun x y G Q Q' h q => by
  cases x <;> cases y <;> first | exact q | exact h _ _ q | exact ⟨q.1, h _ _ q.2⟩ | skip
  rename_i a b
  unfold rAdd at q ⊢
  dsimp only at q ⊢
  cases ea : G a with
  | none => rw [ea] at q; exact q
  | some oa =>
    cases eb : G b with
    | none => rw [ea, eb] at q; cases oa <;> exact q
    | some ob =>
      rw [ea, eb] at q
      cases oa <;> cases ob <;> first | exact q | exact ⟨q.1, fun p hp => h _ _ (q.2 p hp)⟩
theorem op_addw {X : Cx} : OpR X (binaryOp .Add) (fun x y H Q => (rI0 fun i j => .int (i + j)) x y H Q ∨ (∃ i j, x = .str i ∧ y = .str j ∧ i.length + j.length ≤ sizeLine ∧ Q (.str (i ++ j)) H) ∨ rCat x y H Q) := OpR.or op_add (OpR.or op_add_str op_cat)
theorem rAdd_up (x y : W) (v u : V) (G : Hw) (H : Hp) (Q : VK) (tx : Tr K H v x) (ty : Tr K H u y) (r : RelH K H G) (q : rAdd x y G (dn K H Q)) :
    (rI0 fun i j => .int (i + j)) v u H Q ∨ (∃ i j, v = .str i ∧ u = .str j ∧ i.length + j.length ≤ sizeLine ∧ Q (.str (i ++ j)) H) ∨ rCat v u H Q := by
  cases tx with
  | int i => cases ty <;> first | exact q.elim | exact .inl ⟨_, _, rfl, rfl, q _ H .refl (.int _) r⟩
  | str i => cases ty <;> first | exact q.elim | exact .inr (.inl ⟨_, _, rfl, rfl, q.1, q.2 _ H .refl (.str _) r⟩)
  | ref a =>
    cases ty <;> try exact q.elim
    rename_i b
    unfold rAdd at q
    dsimp only at q
    cases ea : G a with
    | none => rw [ea] at q; exact q.elim
    | some oa =>
      cases eb : G b with
      | none => rw [ea, eb] at q; cases oa <;> exact q.elim
      | some ob =>
        rw [ea, eb] at q
        cases oa <;> cases ob <;> try exact q.elim
        obtain ⟨vs, e1, t1⟩ := r a _ ea
        obtain ⟨us, e2, t2⟩ := r b _ eb
        exact .inr (.inr ⟨a, b, vs, us, rfl, rfl, e1, e2, by rw [t1.length, t2.length]; exact q.1, fun p hp => q.2 p (r.no hp) _ _ (Mono.new hp _) (.ref p) (r.new hp (t1.append t2))⟩)
  | _ => exact q.elim
/-- comparisons of ints -/
noncomputable def rCmp (f : Int → Int → Bool) : RW2 := fun x y G Q => match x, y with
  | .int i, .int j => Q (.bl (f i j)) G
  | _, _ => False
theorem rCmp_M {f : Int → Int → Bool} : RW2.M (rCmp f) := fun x y G Q Q' h q => by
  cases x <;> cases y <;> first | exact q | exact h _ _ q
theorem rCmp_up {f : Int → Int → Bool} (x y : W) (v u : V) (G : Hw) (H : Hp) (Q : VK) (tx : Tr K H v x) (ty : Tr K H u y) (r : RelH K H G) (q : rCmp f x y G (dn K H Q)) : rI0 (fun i j => .bl (f i j)) v u H Q := by
  cases tx <;> first | exact q.elim | (cases ty <;> first | exact q.elim | exact ⟨_, _, rfl, rfl, q _ H .refl (.bl _) r⟩)
/-- a value that may be -/
noncomputable def opt (o : Option W) (f : W → Prop) : Prop := match o with | some w => f w | none => False
theorem opt_M {o : Option W} {f f' : W → Prop} (h : ∀ w, f w → f' w) (q : opt o f) : opt o f' := by
  cases o with
  | none => exact q
  | some w => exact h _ q
theorem opt_of {o : Option W} {f : W → Prop} (q : opt o f) : ∃ w, o = some w ∧ f w := by
  cases o with
  | none => exact q.elim
  | some w => exact ⟨w, rfl, q⟩
noncomputable def rFun (f : W → W → Hw → Option W) : RW2 := fun x y G Q => opt (f x y G) fun w => Q w G
theorem rFun_M {f : W → W → Hw → Option W} : RW2.M (rFun f) := fun x y G Q Q' h q => opt_M (fun w z => h _ _ z) q
/-- an item -/
noncomputable def ixW (x y : W) (G : Hw) : Option W := match x, y with
  | .tup xs, .int i => atI xs i
  | .rol xs, .int i => atI xs i
  | .ref a, .int i => (match G a with | some (.lst xs) => atI xs i | _ => none)
  | .str z, .int i => if z.length ≤ sizeLine then (atI z.cps.toList i).map fun c => .str ⟨#[c]⟩ else none
  | _, _ => none
theorem atI_tr {vs : List V} {ws : List W} {i : Int} {w : W} (t : TrL K H vs ws) (e : atI ws i = some w) : ∃ v, atI vs i = some v ∧ Tr K H v w := by
  unfold atI at e ⊢
  rw [t.length]
  cases z : ixN ws.length i with
  | none => rw [z] at e; cases e
  | some j =>
    rw [z] at e
    exact t.get e
theorem ix_w {X : Cx} : IxR X (fun x y H Q => rIxL X.K x y H Q ∨ rIxT X.K x y H Q ∨ rIxS x y H Q) := IxR.or ix_list (IxR.or ix_tup ix_str)
theorem ixW_up (x y : W) (v u : V) (G : Hw) (H : Hp) (Q : VK) (tx : Tr K H v x) (ty : Tr K H u y) (r : RelH K H G) (q : rFun ixW x y G (dn K H Q)) : rIxL K v u H Q ∨ rIxT K v u H Q ∨ rIxS v u H Q := by
  obtain ⟨w, e, q'⟩ := opt_of q
  cases ty with
  | int i =>
    cases tx with
    | tup h l =>
      obtain ⟨v', e', t'⟩ := atI_tr l e
      exact .inr (.inl ⟨_, _, _, _, rfl, rfl, h, e', q' _ H .refl t' r⟩)
    | rol h l =>
      obtain ⟨v', e', t'⟩ := atI_tr l e
      exact .inl ⟨_, _, _, _, rfl, rfl, h.sq, e', q' _ H .refl t' r⟩
    | str z =>
      unfold ixW at e; dsimp only at e
      split at e
      · rename_i hz
        cases e1 : atI z.cps.toList i with
        | none => rw [e1] at e; cases e
        | some c =>
          rw [e1] at e; cases e
          exact .inr (.inr ⟨z, i, c, rfl, rfl, hz, e1, q' _ H .refl (.str _) r⟩)
      · cases e
    | ref a =>
      unfold ixW at e; dsimp only at e
      cases eG : G a with
      | none => rw [eG] at e; cases e
      | some o =>
        rw [eG] at e
        cases o with
        | exc C => cases e
        | ins C fs => cases e
        | dct kvs => cases e
        | lst ws =>
          obtain ⟨vs, e1, l⟩ := r a _ eG
          obtain ⟨v', e', t'⟩ := atI_tr l e
          exact .inl ⟨_, _, _, _, rfl, rfl, SqL.of e1, e', q' _ H .refl t' r⟩
    | _ => cases e
  | _ => cases x <;> cases e
end L3
set_option Elab.async false
set_option linter.all false
set_option maxRecDepth 100000
set_option maxHeartbeats 4000000
namespace L3
open PySem PySem.Spec PyProof.Rows L2
variable {K : PySem.W.Frag} {H H' H2 : Hp}
structure Em (X : Cx) (e : Expr) (g : GE) : Prop where
  p : PEw X e g
  m : g.M
structure Tm (X : Cx) (e : Expr) (g : GT) : Prop where
  p : PTw X e g
  m : g.M
structure Wm (X : Cx) (e : Expr) (g : GT) : Prop where
  p : PWw X e g
  m : g.M
structure Am (X : Cx) (es : List Expr) (g : GA) : Prop where
  p : PAw X es g
  m : g.M
structure Sm (X : Cx) (P : Hp → Prop) (s : Stmt) (g : GS) : Prop where
  p : PSw X P s g
  m : g.M
structure Ssm (X : Cx) (P : Hp → Prop) (s : List Stmt) (g : GS) : Prop where
  p : PSsw X P s g
  m : g.M
structure Im (X : Cx) (tg l : Expr) (g : GI) : Prop where
  p : PIw X tg l g
  m : g.M
/-- the place of a name, by computation -/
noncomputable def place (N : List Str) (x : Str) : Option Nat := N.findIdx? (· == x)
theorem place_at {N : List Str} {x : Str} {i : Nat} (h : place N x = some i) : N[i]? = some x := by
  unfold place at h
  obtain ⟨hi, e, _⟩ := List.findIdx?_eq_some_iff_getElem.mp h
  rw [List.getElem?_eq_getElem hi, eq_of_beq e]
noncomputable def seen (sc : Scope) (x : Str) : Bool := match sc.names.lookup x with | some .local => true | some .cell => true | some .free => true | _ => false
theorem seen_vis {sc : Scope} {x : Str} (h : seen sc x = true) : Vis sc x := by
  unfold seen at h
  split at h <;> first | (rename_i e; exact .inl e) | (rename_i e; exact .inr (.inl e)) | (rename_i e; exact .inr (.inr e)) | cases h
noncomputable def local? (sc : Scope) (x : Str) : Bool := match sc.names.lookup x with | some .local => true | _ => false
theorem local_of {sc : Scope} {x : Str} (h : local? sc x = true) : sc.names.lookup x = some .local := by
  unfold local? at h
  split at h
  · rename_i e; exact e
  · cases h
section
variable {X : Cx} {a b c e f : Expr} {es rest : List Expr} {st : Stmt} {sts sts' : List Stmt} {pos pos' p : Pos} {ga gb gc : GE} {gt gu : GT} {gs : GA} {g1 g2 : GS} {ex : Xw} {P : Hp → Prop}
theorem em_int {i : Int} {j} : Em X (.Constant (.int i) j pos) (gC (.int i)) := ⟨ew_int, gC_M⟩
theorem em_bl {i : Bool} {j} : Em X (.Constant (.bool i) j pos) (gC (.bl i)) := ⟨ew_bl, gC_M⟩
theorem em_str {i : Str} {j} : Em X (.Constant (.str i) j pos) (gC (.str i)) := ⟨ew_str, gC_M⟩
theorem em_add (ha : Em X a ga) (hb : Em X b gb) : Em X (.BinOp a .Add b pos) (gBin rAdd ga gb) := ⟨ew_bin op_addw rAdd_M ha.m hb.m rAdd_up ha.p hb.p, gBin_M rAdd_M ha.m hb.m⟩
theorem em_sub (ha : Em X a ga) (hb : Em X b gb) : Em X (.BinOp a .Sub b pos) (gBin (rInt (fun _ _ => True) fun i j => i - j) ga gb) :=
  ⟨ew_bin (r2 := rI (fun _ _ => True) fun i j => .int (i - j)) (opI fun _ _ _ _ _ _ _ _ q => sub_int q) rInt_M ha.m hb.m rInt_up ha.p hb.p, gBin_M rInt_M ha.m hb.m⟩
theorem em_mul (ha : Em X a ga) (hb : Em X b gb) : Em X (.BinOp a .Mult b pos) (gBin (rInt CMul fun i j => i * j) ga gb) := ⟨ew_bin op_mul rInt_M ha.m hb.m rInt_up ha.p hb.p, gBin_M rInt_M ha.m hb.m⟩
theorem em_fdiv (ha : Em X a ga) (hb : Em X b gb) : Em X (.BinOp a .FloorDiv b pos) (gBin (rInt CDiv fun i j => i / j) ga gb) := ⟨ew_bin op_fdiv rInt_M ha.m hb.m rInt_up ha.p hb.p, gBin_M rInt_M ha.m hb.m⟩
theorem em_mod (ha : Em X a ga) (hb : Em X b gb) : Em X (.BinOp a .Mod b pos) (gBin (rInt (fun _ j => 0 < j) fun i j => i % j) ga gb) := ⟨ew_bin op_mod rInt_M ha.m hb.m rInt_up ha.p hb.p, gBin_M rInt_M ha.m hb.m⟩
theorem em_pow (ha : Em X a ga) (hb : Em X b gb) : Em X (.BinOp a .Pow b pos) (gBin (rInt CPow fun i j => i ^ j.toNat) ga gb) := ⟨ew_bin op_pow rInt_M ha.m hb.m rInt_up ha.p hb.p, gBin_M rInt_M ha.m hb.m⟩
theorem em_ix (hs : PlainIx b) (ha : Em X a ga) (hb : Em X b gb) : Em X (.Subscript a b pos) (gBin (rFun ixW) ga gb) := ⟨ew_ix ix_w rFun_M ha.m hb.m ixW_up ha.p hb.p hs, gBin_M rFun_M ha.m hb.m⟩
theorem em_tup {k} (h : Am X es gs) : Em X (.Tuple es k pos) (gTup gs) := ⟨ew_tup h.m h.p, gTup_M h.m⟩
theorem em_lst (h : Am X es gs) : Em X (.List es pos) (gLst gs) := ⟨ew_lst h.m h.p, gLst_M h.m⟩
theorem em_one {op : BoolOp} (h : Em X a ga) : Em X (.BoolOp op [a] pos) ga := ⟨ew_one h.p, h.m⟩
theorem em_and (ha : Em X a ga) (hb : Em X (.BoolOp .And (b :: rest) pos) gb) : Em X (.BoolOp .And (a :: b :: rest) pos) (gAndV ga gb) := ⟨ew_and ha.m hb.m ha.p hb.p, gAndV_M ha.m hb.m⟩
theorem em_or (ha : Em X a ga) (hb : Em X (.BoolOp .Or (b :: rest) pos) gb) : Em X (.BoolOp .Or (a :: b :: rest) pos) (gOrV ga gb) := ⟨ew_or ha.m hb.m ha.p hb.p, gOrV_M ha.m hb.m⟩
theorem em_ite (hc : Tm X c gt) (ha : Em X a ga) (hb : Em X b gb) : Em X (.IfExp c a b pos) (gIte gt ga gb) := ⟨ew_ite hc.m ha.m hb.m hc.p ha.p hb.p, gIte_M hc.m ha.m hb.m⟩
theorem am_nil : Am X [] gNil := ⟨aw_nil, gNil_M⟩
theorem am_cons (hst : starEach (e :: es) X.env = (false, eval e X.env) :: starEach es X.env) (ha : Em X e ga) (hs : Am X es gs) : Am X (e :: es) (gCons ga gs) := ⟨aw_cons ha.m hs.m ha.p hs.p hst, gCons_M ha.m hs.m⟩
theorem em_call {x : Str} {k n : Nat} {sp : Spw} (D : Df X.prog X.w X.K X.mg X.base x k n sp) (hr : Room k X.A) (hg : Gl X x) (hp : PassW X ex) (hdb : (x == ("__debug__" : Str)) = false) (he : starEach (e :: es) X.env = (false, eval e X.env) :: starEach es X.env) (hpl : (backTo pos (starEach es X.env)).any (·.1) = false)
    (ha : Am X (e :: es) gs) : Em X (.Call (.Name x p) (e :: es) [] pos) (gCall sp ex gs) := ⟨ew_call D hr hg hp ha.m ha.p hdb he hpl, gCall_M D.mono ha.m⟩
theorem tm_tru (he : ∀ whole, isTrue e X.env whole = (do let v ← whole; standAt e.pos; holding [v] (truthy v))) (ha : Em X e ga) : Tm X e (gTru ga) := ⟨tw_tru ha.m ha.p he, gTru_M ha.m⟩
theorem tm_not (ha : Tm X a gt) : Tm X (.UnaryOp .Not a pos) (gNt gt) := ⟨tw_not ha.p, gNt_M ha.m⟩
theorem tm_bool {op : BoolOp} {vs : List Expr} (h : Wm X (.BoolOp op vs pos) gt) : Tm X (.BoolOp op vs pos) gt := ⟨tw_bool h.p, h.m⟩
theorem wm_and1 (h : Tm X a gt) : Wm X (.BoolOp .And [a] pos) gt := ⟨ww_and1 h.p, h.m⟩
theorem wm_or1 (h : Tm X a gt) : Wm X (.BoolOp .Or [a] pos) gt := ⟨ww_or1 h.p, h.m⟩
theorem wm_and (ha : Tm X a gt) (hb : Wm X (.BoolOp .And (b :: rest) pos) gu) : Wm X (.BoolOp .And (a :: b :: rest) pos) (gAnd gt gu) := ⟨ww_and ha.m hb.m ha.p hb.p, gAnd_M ha.m hb.m⟩
theorem wm_or (ha : Tm X a gt) (hb : Wm X (.BoolOp .Or (b :: rest) pos) gu) : Wm X (.BoolOp .Or (a :: b :: rest) pos) (gOr gt gu) := ⟨ww_or ha.m hb.m ha.p hb.p, gOr_M ha.m hb.m⟩
theorem ssm_nil : Ssm X P [] gNext := ⟨ssw_nil, gNext_M⟩
theorem ssm_one (h : Sm X P st g1) : Ssm X P [st] g1 := ⟨ssw_one h.p, h.m⟩
theorem ssm_cons (h1 : Sm X P st g1) (h2 : Ssm X P sts g2) : Ssm X P (st :: sts) (gSeq g1 g2) := ⟨ssw_cons h1.m h2.m h1.p h2.p, gSeq_M h1.m h2.m⟩
theorem sm_ret (ha : Em X e ga) : Sm X P (.Return (some e) pos) (gRet ga) := ⟨sw_ret ha.m ha.p, gRet_M ha.m⟩
theorem sm_expr (hs : swapsWith e none pos.line X.env = pure false) (ha : Em X e ga) : Sm X P (.Expr e pos) (gDrop ga) := ⟨sw_expr ha.m ha.p hs, gDrop_M ha.m⟩
theorem sm_if (hc : Tm X c gt) (h1 : Ssm X P sts g1) (h2 : Ssm X P sts' g2) : Sm X P (.If c sts sts' pos) (gIf gt g1 g2) := ⟨sw_if hc.m h1.m h2.m hc.p h1.p h2.p, gIf_M hc.m h1.m h2.m⟩
theorem im_any {tg l : Expr} (ht : ∀ it u, letOwnedTupleGo tg it u = pure ()) (hl : Em X l ga) : Im X tg l (gIter ga) := ⟨iw_any ht hl.m hl.p, gIter_M hl.m⟩
theorem sm_for {tg iter : Expr} {gi : GI} {gg : GG} {gb : GS} (hp : PassesOwn (model X.prog X.w) X.A X.env X.xe) (hc : X.calm = true) (hs : ∀ x, foldedSetIterable iter X.env x = pure x) (hi : Im X tg iter gi) (hg : TgW X tg gg) (hb : Ssm X anyB sts gb) : Sm X P (.For tg iter sts [] pos) (gFor gi gg gb) :=
  ⟨sw_for hp hc hi.m hb.m hi.p hg hb.p hs, gFor_M hi.m hg.mono hb.m⟩
end
end L3
namespace L3
open PySem PySem.Spec PyProof.Rows L2
variable {K : PySem.W.Frag} {H H' H2 : Hp}
theorem bools_get {bs : List Bool} {its : List Value} (r : Vals (bs.map V.bl) its) {i : Nat} {v : Value} (e : its.toArray[i]? = some v) : v = .bool (bs.getD i false) := by
  have e' : its[i]? = some v := by simpa using e
  have hl := r.length
  rw [List.length_map] at hl
  have hi : i < its.length := (List.getElem?_eq_some_iff.mp e').1
  have hb : bs[i]? = some (bs[i]'(by omega)) := List.getElem?_eq_getElem _
  obtain ⟨u, e1, r1⟩ := r.get (i := i) (x := .bl (bs[i]'(by omega))) (by rw [List.getElem?_map, hb]; rfl)
  rw [e'] at e1; cases e1
  rw [List.getD_eq_getElem?_getD, hb]
  exact r1
theorem range_all {bs : List Bool} : (List.range bs.length).all (fun i => bs.getD i false) = bs.all id := by
  rw [Bool.eq_iff_iff]
  simp only [List.all_eq_true, List.mem_range, id]
  constructor
  · intro h b hb
    obtain ⟨i, hi, e⟩ := List.mem_iff_getElem.mp hb
    have := h i hi
    rw [List.getD_eq_getElem?_getD, List.getElem?_eq_getElem hi] at this
    rw [← e]; exact this
  · intro h i hi
    rw [List.getD_eq_getElem?_getD, List.getElem?_eq_getElem hi]
    exact h _ (List.getElem_mem hi)
section
variable {X : Cx}
theorem call_allL (hc : X.calm = true) : CallR X (.builtin "all") (fun xs H Q => ∃ (p : Addr) (bs : List Bool), xs = [.ref p] ∧ SqL X.K H p (bs.map V.bl) ∧ Q (.bl (bs.all id)) H) := by
  intro pins s σ H xs us Q I r h
  obtain ⟨p, bs, rfl, hq, q⟩ := h
  obtain ⟨u, rfl, rx⟩ := vals1 r
  cases rx
  obtain ⟨its, r', pl, hz⟩ := I.list hq
  have hl := r'.length
  rw [List.length_map] at hl
  obtain ⟨o, n, e, _⟩ := id pl
  refine call_all_walk (wpAny_pyIter_list pl.isList ⟨s.heap.objs.size, _, _, _, _, _, fun i => bs.getD i false, rfl, Walks.list (A := X.A.in1) (I.ok.hd hc) _ p (Nat.ne_of_lt (Heap.lt_size e)) its.toArray,
    ⟨⟨_, Heap.get?_push_size _ rfl, rfl, rfl⟩, pl.isList.push _⟩, fun i v s Q E hp hq => by rw [bools_get r' hp]; exact wpAny_truthy_bool hq, fun h' tk k => ?_⟩)
  refine ⟨.bl (bs.all id), H, I.kept (t' := tk) fun b o e => k b o (by simpa using Nat.ne_of_lt (Heap.lt_size e)) (Heap.get?_push_of_some _ e), ?_, q⟩
  show Value.bool _ = _
  rw [List.size_toArray, ← hl, range_all]
end
noncomputable abbrev RWc := List W → Hw → Kw → Prop
noncomputable def RWc.M (r : RWc) : Prop := ∀ ws G (Q Q' : Kw), (∀ w G', Q w G' → Q' w G') → r ws G Q → r ws G Q'
noncomputable def gB (r : RWc) (gs : GA) : GE := fun ω G Q => gs ω G fun ws G1 => r ws G1 Q
theorem gB_M {r : RWc} {gs : GA} (mr : r.M) (ms : gs.M) : GE.M (gB r gs) := fun ω G Q Q' h q => ms _ _ _ _ (fun ws G1 z => mr _ _ _ _ h z) q
theorem up_B {r : RWc} {r1 : List V → Hp → VK → Prop} {gs : GA} (mr : r.M) (ms : gs.M) (hr : ∀ ws vs G H Q, TrL K H vs ws → RelH K H G → r ws G (dn K H Q) → r1 vs H Q) (σ : St) (H : Hp) (Q : VK) (h : up K (gB r gs) σ H Q) : tCB r1 (upA K gs) σ H Q := by
  obtain ⟨ω, G, ts, rh, q⟩ := h
  exact ⟨ω, G, ts, rh, ms _ _ _ _ (fun ws G1 z vs H1 m t r1' => hr ws vs G1 H1 Q t r1' (mr _ _ _ _ (fun w G' y => dn_mono m y) z)) q⟩
section
variable {X : Cx} {x : Str} {p pos : Pos} {e : Expr} {es : List Expr} {gs : GA} {r : RWc} {r1 : List V → Hp → VK → Prop} {id T : String}
theorem em_blt (hc : CallR X (.builtin id) r1) (mr : r.M) (hr : ∀ ws vs G H Q, TrL X.K H vs ws → RelH X.K H G → r ws G (dn X.K H Q) → r1 vs H Q) (hg : Gl X x) (hm : X.mg x = none) (hv : bootBuiltins x = some (.builtin id)) (hn : x ≠ "__name__") (hdb : (x == ("__debug__" : Str)) = false)
    (he : starEach (e :: es) X.env = (false, eval e X.env) :: starEach es X.env) (hpl : (backTo pos (starEach es X.env)).any (·.1) = false) (ha : Am X (e :: es) gs) : Em X (.Call (.Name x p) (e :: es) [] pos) (gB r gs) :=
  ⟨pe_sub (pe_callB hc hg hm hv ha.p hn hdb he hpl) (up_B mr ha.m hr), gB_M mr ha.m⟩
theorem em_typ (hc : CallR X (.type T) r1) (mr : r.M) (hr : ∀ ws vs G H Q, TrL X.K H vs ws → RelH X.K H G → r ws G (dn X.K H Q) → r1 vs H Q) (hg : Gl X x) (hm : X.mg x = none) (hv : bootBuiltins x = some (.type T)) (hn : x ≠ "__name__") (hdb : (x == ("__debug__" : Str)) = false)
    (he : starEach (e :: es) X.env = (false, eval e X.env) :: starEach es X.env) (hpl : (backTo pos (starEach es X.env)).any (·.1) = false) (ha : Am X (e :: es) gs) : Em X (.Call (.Name x p) (e :: es) [] pos) (gB r gs) :=
  ⟨pe_sub (pe_callTy hc hg hm hv ha.p hn hdb he hpl) (up_B mr ha.m hr), gB_M mr ha.m⟩
end
/-- a function of the arguments and the heap -/
noncomputable def rF (f : List W → Hw → Option W) : RWc := fun ws G Q => opt (f ws G) fun w => Q w G
theorem rF_M {f : List W → Hw → Option W} : RWc.M (rF f) := fun ws G Q Q' h q => opt_M (fun w z => h _ _ z) q
noncomputable def bools : List W → Option (List Bool)
  | [] => some []
  | .bl b :: r => (bools r).map (b :: ·)
  | _ => none
theorem bools_tr : ∀ {ws : List W} {bs : List Bool} {vs : List V}, bools ws = some bs → TrL K H vs ws → vs = bs.map V.bl
  | [], bs, vs, e, t => by cases e; cases t; rfl
  | w :: ws, bs, vs, e, t => by
    cases t with
    | cons tw t =>
      cases w with
      | bl b =>
        unfold bools at e
        cases z : bools ws with
        | none => rw [z] at e; cases e
        | some bs' =>
          rw [z] at e; cases e
          rw [tr_bl tw, bools_tr z t]; rfl
      | _ => cases e
/-- a list of one's own -/
noncomputable def lstAt (G : Hw) (w : W) : Option (List W) := match w with
  | .ref a => (match G a with | some (.lst xs) => some xs | _ => none)
  | _ => none
theorem lstAt_tr {G : Hw} {w : W} {xs : List W} {v : V} (r : RelH K H G) (t : Tr K H v w) (e : lstAt G w = some xs) : ∃ a vs, v = .ref a ∧ w = .ref a ∧ G a = some (.lst xs) ∧ H a = some (.lst vs) ∧ TrL K H vs xs := by
  cases t with
  | ref a =>
    unfold lstAt at e; dsimp only at e
    cases z : G a with
    | none => rw [z] at e; cases e
    | some o =>
      rw [z] at e
      cases o with
      | lst ys => cases e; obtain ⟨vs, e1, t1⟩ := r a _ z; exact ⟨a, vs, rfl, rfl, z, e1, t1⟩
      | exc C => cases e
      | ins C fs => cases e
      | dct kvs => cases e
  | _ => cases e
noncomputable def allF (ws : List W) (G : Hw) : Option W := match ws with | [w] => (lstAt G w).bind fun xs => (bools xs).map fun bs => .bl (bs.all id) | _ => none
theorem allF_up (ws : List W) (vs : List V) (G : Hw) (H : Hp) (Q : VK) (t : TrL K H vs ws) (r : RelH K H G) (q : rF allF ws G (dn K H Q)) : ∃ (p : Addr) (bs : List Bool), vs = [.ref p] ∧ SqL K H p (bs.map V.bl) ∧ Q (.bl (bs.all id)) H := by
  obtain ⟨w, e, q'⟩ := opt_of q
  unfold allF at e
  split at e
  · rename_i w0
    cases t with
    | cons tw t =>
      cases t
      obtain ⟨xs, e1, e2⟩ := Option.bind_eq_some_iff.mp e
      obtain ⟨bs, e3, e4⟩ := Option.map_eq_some_iff.mp e2
      obtain ⟨a, us, rfl, rfl, _, e5, t5⟩ := lstAt_tr r tw e1
      subst e4
      have := bools_tr e3 t5
      subst this
      exact ⟨a, bs, rfl, SqL.of e5, q' _ H .refl (.bl _) r⟩
  · cases e
noncomputable def lenW (w : W) (G : Hw) : Option W := match w with
  | .tup xs => some (.int xs.length)
  | .rol xs => some (.int xs.length)
  | .str z => if z.length ≤ sizeLine then some (.int z.length) else none
  | .ref a => (match G a with | some (.lst xs) => some (.int xs.length) | _ => none)
  | _ => none
noncomputable def lenF (ws : List W) (G : Hw) : Option W := match ws with | [w] => lenW w G | _ => none
theorem lenF_up (ws : List W) (vs : List V) (G : Hw) (H : Hp) (Q : VK) (t : TrL K H vs ws) (r : RelH K H G) (q : rF lenF ws G (dn K H Q)) : ∃ x n, vs = [x] ∧ LenV K x H n ∧ Q (.int n) H := by
  obtain ⟨w, e, q'⟩ := opt_of q
  unfold lenF at e
  split at e
  · cases t with
    | cons tw t =>
      cases t
      cases tw with
      | tup h l => cases e; exact ⟨_, _, rfl, .inr ⟨_, h, rfl⟩, by rw [l.length]; exact q' _ H .refl (.int _) r⟩
      | rol h l => cases e; exact ⟨_, _, rfl, .inl ⟨_, h.sq, rfl⟩, by rw [l.length]; exact q' _ H .refl (.int _) r⟩
      | str z =>
        unfold lenW at e; dsimp only at e
        split at e
        · rename_i hz; cases e; exact ⟨_, _, rfl, ⟨hz, rfl⟩, q' _ H .refl (.int _) r⟩
        · cases e
      | ref a =>
        unfold lenW at e; dsimp only at e
        cases z : G a with
        | none => rw [z] at e; cases e
        | some o =>
          rw [z] at e
          cases o with
          | exc C => cases e
          | ins C fs => cases e
          | dct kvs => cases e
          | lst xs =>
            cases e
            obtain ⟨us, e1, t1⟩ := r a _ z
            exact ⟨_, _, rfl, .inl ⟨_, SqL.of e1, rfl⟩, by rw [t1.length]; exact q' _ H .refl (.int _) r⟩
      | _ => cases e
  · cases e
end L3
namespace L3
open PySem PySem.Spec PyProof.Rows L2
variable {K : PySem.W.Frag} {H H' H2 : Hp}
mutual
noncomputable def eqD : W → W → Option Bool
  | .tup xs, .tup ys => eqDL xs ys
  | .non, .non => some true
  | .bl a, .bl b => some (a == b)
  | .bl a, .int b => some ((if a then 1 else 0) == b)
  | .int a, .bl b => some (a == (if b then 1 else 0))
  | .int a, .int b => some (a == b)
  | .str a, .str b => some (a == b)
  | .non, .int _ => some false
  | .int _, .non => some false
  | .int _, .str _ => some false
  | .str _, .int _ => some false
  | .bl _, .str _ => some false
  | .str _, .bl _ => some false
  | .non, .str _ => some false
  | .str _, .non => some false
  | .non, .bl _ => some false
  | .bl _, .non => some false
  | .tup _, .str _ => some false
  | .str _, .tup _ => some false
  | .tup _, .bl _ => some false
  | .bl _, .tup _ => some false
  | _, _ => none
noncomputable def eqDL : List W → List W → Option Bool
  | [], [] => some true
  | [], _ :: _ => some false
  | _ :: _, [] => some false
  | x :: xs, y :: ys => match eqD x y, eqDL xs ys with
    | some a, some b => some (a && b)
    | _, _ => none
end
mutual
noncomputable def dpW : W → Nat
  | .tup xs => dpL xs + 1
  | _ => 0
noncomputable def dpL : List W → Nat
  | [] => 0
  | x :: xs => max (dpW x) (dpL xs)
end
noncomputable def flatW : W → Option V
  | .non => some .non
  | .bl b => some (.bl b)
  | .int i => some (.int i)
  | .str x => some (.str x)
  | _ => none
theorem flatW_tr {v : V} {w : W} {f : V} (t : Tr K H v w) (e : flatW w = some f) : v = f ∧ flatV v = true := by
  cases t <;> first | cases e; exact ⟨rfl, rfl⟩ | cases e
/-- the items' answers one by one -/
theorem eqDL_get : ∀ {xs ys : List W} {b : Bool}, eqDL xs ys = some b → ∃ e : Nat → Bool, (∀ (i : Nat) x y, xs[i]? = some x → ys[i]? = some y → eqD x y = some (e i)) ∧ b = ((List.range (min xs.length ys.length)).all e && xs.length == ys.length)
  | [], [], b, h => by
    cases (show some true = some b from h)
    exact ⟨fun _ => true, fun i x y h1 h2 => by simp at h1, by simp⟩
  | [], _ :: _, b, h => by
    cases (show some false = some b from h)
    exact ⟨fun _ => true, fun i x y h1 h2 => by simp at h1, by simp⟩
  | _ :: _, [], b, h => by
    cases (show some false = some b from h)
    exact ⟨fun _ => true, fun i x y h1 h2 => by simp at h2, by simp⟩
  | x :: xs, y :: ys, b, h => by
    have h' : (match eqD x y, eqDL xs ys with | some a, some b => some (a && b) | _, _ => none) = some b := by rw [← h]; rfl
    cases e1 : eqD x y with
    | none => rw [e1] at h'; cases h'
    | some a =>
      cases e2 : eqDL xs ys with
      | none => rw [e1, e2] at h'; cases h'
      | some c =>
        rw [e1, e2] at h'
        cases h'
        obtain ⟨f, hf, hc⟩ := eqDL_get e2
        refine ⟨fun i => match i with | 0 => a | j + 1 => f j, fun i x' y' h1 h2 => ?_, ?_⟩
        · cases i with
          | zero => simp at h1 h2; subst h1; subst h2; exact e1
          | succ j => exact hf j x' y' (by simpa using h1) (by simpa using h2)
        · have em : min (x :: xs).length (y :: ys).length = min xs.length ys.length + 1 := by simp only [List.length_cons]; omega
          rw [em, List.range_succ_eq_map, List.all_cons, List.all_map, hc]
          have e5 : ((x :: xs).length == (y :: ys).length) = (xs.length == ys.length) := by simp
          rw [e5, Bool.and_assoc]
          rfl
theorem eqDL_rfl : ∀ (xs : List W), (∀ x ∈ xs, eqD x x = some true ∨ eqD x x = none) → eqDL xs xs = some true ∨ eqDL xs xs = none
  | [], _ => .inl rfl
  | x :: xs, h => by
    have e : eqDL (x :: xs) (x :: xs) = (match eqD x x, eqDL xs xs with | some a, some b => some (a && b) | _, _ => none) := rfl
    rw [e]
    rcases h x List.mem_cons_self with h1 | h1
    · rcases eqDL_rfl xs (fun y hy => h y (List.mem_cons_of_mem _ hy)) with h2 | h2
      · rw [h1, h2]; exact .inl rfl
      · rw [h1, h2]; exact .inr rfl
    · rw [h1]; exact .inr rfl
theorem eqD_rfl : ∀ (x : W), eqD x x = some true ∨ eqD x x = none
  | .non => .inl rfl
  | .bl b => .inl (by show some (b == b) = _; simp)
  | .int b => .inl (by show some (b == b) = _; simp)
  | .str b => .inl (by show some (b == b) = _; simp)
  | .tup xs => eqDL_rfl xs (fun x _ => eqD_rfl x)
  | .rol _ => .inr rfl
  | .ref _ => .inr rfl
theorem dpL_mem : ∀ {xs : List W} {x : W}, x ∈ xs → dpW x ≤ dpL xs
  | y :: xs, x, h => by
    have e : dpL (y :: xs) = max (dpW y) (dpL xs) := rfl
    rw [e]
    rcases List.mem_cons.mp h with rfl | h
    · exact Nat.le_max_left ..
    · exact Nat.le_trans (dpL_mem h) (Nat.le_max_right ..)
theorem trL_inj_of : ∀ (ws : List W) (ys : List W) (vs : List V), (∀ (v : V) (w y : W), w ∈ ws → Tr K H v w → Tr K H v y → eqD w y ≠ none → w = y) → TrL K H vs ws → TrL K H vs ys → eqDL ws ys ≠ none → ws = ys := by
  intro ws
  induction ws with
  | nil =>
    intro ys vs _ l l' _
    cases l
    cases l'
    rfl
  | cons w ws ih =>
    intro ys vs h l l' ne
    cases l with
    | cons t l =>
      cases l' with
      | @cons _ y _ ys t' l' =>
        have e : eqDL (w :: ws) (y :: ys) = (match eqD w y, eqDL ws ys with | some a, some b => some (a && b) | _, _ => none) := rfl
        have h1 : eqD w y ≠ none := fun z => ne (by rw [e, z])
        have h2 : eqDL ws ys ≠ none := fun z => ne (by rw [e, z]; cases eqD w y <;> rfl)
        rw [h _ w y List.mem_cons_self t t' h1, ih ys _ (fun v w y hm => h v w y (List.mem_cons_of_mem _ hm)) l l' h2]
theorem tr_inj {X : Cx} {pins : List (Addr × Obj)} {σ : St} {H : Hp} {s : Shared} (I : Inv X pins σ H s) (n : Nat) : ∀ (v : V) (w y : W), dpW w < n → Tr X.K H v w → Tr X.K H v y → eqD w y ≠ none → w = y := by
  induction n with
  | zero => intro v w y h; exact absurd h (Nat.not_lt_zero _)
  | succ n ih =>
    intro v w y h tw ty ne
    cases tw with
    | tup hq l =>
      rename_i a vs ws
      generalize hv : V.ref a = vr at ty
      cases ty with
      | tup hq' l' =>
        cases hv
        have e := I.tuple_inj hq hq'
        subst e
        have hd2 : dpL ws + 1 < n + 1 := h
        rw [trL_inj_of ws _ _ (fun v w y hm => ih v w y (by have := dpL_mem hm; omega)) l l' ne]
      | rol _ _ => exact absurd rfl ne
      | ref _ => exact absurd rfl ne
      | non => cases hv
      | bl _ => cases hv
      | int _ => cases hv
      | str _ => cases hv
    | rol _ _ => exact absurd (by cases y <;> rfl) ne
    | ref _ => exact absurd (by cases y <;> rfl) ne
    | non => cases ty; rfl
    | bl _ => cases ty; rfl
    | int _ => cases ty; rfl
    | str _ => cases ty; rfl
theorem eqAt_tr {X : Cx} {pins : List (Addr × Obj)} {σ : St} {H : Hp} {s : Shared} (I : Inv X pins σ H s) (n : Nat) : ∀ (w y : W) (v u : V) (vv uu : Value) (b : Bool) (A : Around), dpW w < n → Tr X.K H v w → Tr X.K H u y → RelV v vv → RelV u uu → eqD w y = some b → A.units + n < cLine → SeqAt.EqAt A s vv uu b := by
  induction n with
  | zero => intro w _ _ _ _ _ _ _ h; exact absurd h (Nat.not_lt_zero _)
  | succ n ih =>
    intro w y v u vv uu b A h tw ty rv ru e hu
    cases tw with
    | tup hq l =>
      cases ty with
      | tup hq' l' =>
        rename_i a vs ws a' us ys
        cases rv
        cases ru
        by_cases haa : a = a'
        · subst haa
          have ew := tr_inj I (dpW (.tup ws) + 1) _ _ _ (Nat.lt_succ_self _) (.tup hq l) (.tup hq' l') (by rw [e]; simp)
          cases ew
          rcases eqD_rfl (.tup ws) with z | z
          · rw [e] at z; cases z; exact SeqAt.EqAt.same _
          · rw [e] at z; cases z
        · obtain ⟨its, r1, p1, _⟩ := I.tuple hq
          obtain ⟨its', r2, p2, _⟩ := I.tuple hq'
          obtain ⟨f, hf, hb⟩ := eqDL_get (show eqDL ws ys = some b from e)
          have l1 := r1.length
          have l2 := r2.length
          have l3 := l.length
          have l4 := l'.length
          refine SeqAt.EqAt.of_refs haa ?_
          have key := SeqAt.RcAt.tuples (A := A) (s := s) (e := f) (show s.heap.IsTuple a its.toArray from p1) (show s.heap.IsTuple a' its'.toArray from p2) (by omega) (fun j h1 h2 => ?_)
          · rw [hb]
            have e1 : its.toArray.size = ws.length := by rw [List.size_toArray]; omega
            have e2 : its'.toArray.size = ys.length := by rw [List.size_toArray]; omega
            rw [e1, e2] at key
            exact key
          · have j1 : j < ws.length := by rw [List.size_toArray] at h1; omega
            have j2 : j < ys.length := by rw [List.size_toArray] at h2; omega
            obtain ⟨v1, g1, t1⟩ := l.get (List.getElem?_eq_getElem j1)
            obtain ⟨v2, g2, t2⟩ := l'.get (List.getElem?_eq_getElem j2)
            obtain ⟨u1, g3, rr1⟩ := r1.get g1
            obtain ⟨u2, g4, rr2⟩ := r2.get g2
            have eu1 : its.toArray[j] = u1 := by
              have z : its[j]? = some its[j] := List.getElem?_eq_getElem (by omega)
              rw [g3] at z
              have z' := Option.some.inj z
              rw [z']; simp
            have eu2 : its'.toArray[j] = u2 := by
              have z : its'[j]? = some its'[j] := List.getElem?_eq_getElem (by omega)
              rw [g4] at z
              have z' := Option.some.inj z
              rw [z']; simp
            rw [eu1, eu2]
            have hd : dpW (ws[j]) ≤ dpL ws := dpL_mem (List.getElem_mem j1)
            have hd2 : dpL ws + 1 < n + 1 := h
            exact ih _ _ _ _ _ _ _ A.in1 (by omega) t1 t2 rr1 rr2 (hf j _ _ (List.getElem?_eq_getElem j1) (List.getElem?_eq_getElem j2)) (by show A.units + 1 + n < cLine; omega)
      | str _ =>
        cases e; cases rv; obtain ⟨t, rfl⟩ := ru
        obtain ⟨its, r1, p1, _⟩ := I.tuple hq
        exact SeqAt.EqAt.tuple_str (A := A) _ _ p1 (by omega)
      | bl _ =>
        cases e; cases rv; cases ru
        obtain ⟨its, r1, p1, _⟩ := I.tuple hq
        exact SeqAt.EqAt.tuple_bool _ p1 (by omega)
      | _ => cases e
    | non => cases ty <;> cases e <;> exact eqAt_V rv ru rfl rfl
    | bl c =>
      cases ty with
      | tup hq l =>
        cases e; cases rv; cases ru
        obtain ⟨its, r1, p1, _⟩ := I.tuple hq
        exact SeqAt.EqAt.bool_tuple _ p1 (by omega)
      | _ => cases e <;> exact eqAt_V rv ru rfl rfl
    | int c => cases ty <;> cases e <;> exact eqAt_V rv ru rfl rfl
    | str c =>
      cases ty with
      | tup hq l =>
        cases e; cases ru; obtain ⟨t, rfl⟩ := rv
        obtain ⟨its, r1, p1, _⟩ := I.tuple hq
        exact SeqAt.EqAt.str_tuple (A := A) _ _ p1 (by omega)
      | _ => cases e <;> exact eqAt_V rv ru rfl rfl
    | rol _ _ => cases y <;> cases e
    | ref _ => cases y <;> cases e
end L3
set_option Elab.async false
set_option linter.all false
set_option maxRecDepth 100000
set_option maxHeartbeats 2000000
namespace L3
open PySem PySem.Spec PyProof.Rows L2
variable {K : PySem.W.Frag} {H H' H2 : Hp}
/-- two sequences compared -/
noncomputable def rSq (K : PySem.W.Frag) (neg : Bool) : R2 := fun v u H Q => ∃ (a b : Addr) (vs us : List V) (ws ys : List W) (c : Bool), v = .ref a ∧ u = .ref b ∧ ((SqT K H a vs ∧ SqT K H b us) ∨ (SqL K H a vs ∧ SqL K H b us)) ∧ TrL K H vs ws ∧ TrL K H us ys ∧ dpL ws < 90 ∧ eqDL ws ys = some c ∧ Q (.bl (c != neg)) H
section
variable {X : Cx} {pins : List (Addr × Obj)} {σ : St} {H : Hp} {s : Shared}
theorem items_eq (I : Inv X pins σ H s) {A : Around} {vs us : List V} {ws ys : List W} {its its' : List Value} (r1 : Vals vs its) (r2 : Vals us its') (t1 : TrL X.K H vs ws) (t2 : TrL X.K H us ys) (hd : dpL ws < 90) (hu : A.units + 100 < cLine) {f : Nat → Bool}
    (hf : ∀ (i : Nat) x y, ws[i]? = some x → ys[i]? = some y → eqD x y = some (f i)) (j : Nat) (h1 : j < its.toArray.size) (h2 : j < its'.toArray.size) : SeqAt.EqAt A.in1 s its.toArray[j] its'.toArray[j] (f j) := by
  have l1 := r1.length
  have l2 := r2.length
  have l3 := t1.length
  have l4 := t2.length
  have j1 : j < ws.length := by rw [List.size_toArray] at h1; omega
  have j2 : j < ys.length := by rw [List.size_toArray] at h2; omega
  obtain ⟨v1, g1, t1'⟩ := t1.get (List.getElem?_eq_getElem j1)
  obtain ⟨v2, g2, t2'⟩ := t2.get (List.getElem?_eq_getElem j2)
  obtain ⟨u1, g3, rr1⟩ := r1.get g1
  obtain ⟨u2, g4, rr2⟩ := r2.get g2
  have eu1 : its.toArray[j] = u1 := by
    have z : its[j]? = some its[j] := List.getElem?_eq_getElem (by omega)
    rw [g3] at z
    rw [Option.some.inj z]; simp
  have eu2 : its'.toArray[j] = u2 := by
    have z : its'[j]? = some its'[j] := List.getElem?_eq_getElem (by omega)
    rw [g4] at z
    rw [Option.some.inj z]; simp
  rw [eu1, eu2]
  exact eqAt_tr I 99 _ _ _ _ _ _ _ A.in1 (by have := dpL_mem (List.getElem_mem j1); omega) t1' t2' rr1 rr2 (hf j _ _ (List.getElem?_eq_getElem j1) (List.getElem?_eq_getElem j2)) (by show A.units + 1 + 99 < cLine; omega)
end
theorem op_eq_sq {X : Cx} (hu : X.A.units + 100 < cLine) : OpR X (compareOp .Eq) (rSq X.K false) := by
  intro pins s σ H x y v u Q I rx ry h
  obtain ⟨a, b, vs, us, ws, ys, c, rfl, rfl, hq, t1, t2, hd, e, q⟩ := h
  cases rx
  cases ry
  obtain ⟨f, hf, hb⟩ := eqDL_get e
  have l3 := t1.length
  have l4 := t2.length
  have fin : ∀ d : Bool, d = c → EP X pins σ Q (.bool d) s := fun d hd => by subst hd; exact ⟨.bl d, H, I, rfl, by simpa using q⟩
  rcases hq with ⟨h1, h2⟩ | ⟨h1, h2⟩
  · obtain ⟨its, r1, p1, _⟩ := I.tuple h1
    obtain ⟨its', r2, p2, _⟩ := I.tuple h2
    have l1 := r1.length
    have l2 := r2.length
    refine SeqAt.eq_tupleAt (e := f) (show s.heap.IsTuple a its.toArray from p1) (show s.heap.IsTuple b its'.toArray from p2) (by omega) (items_eq I r1 r2 t1 t2 hd hu hf) (fin _ ?_)
    have e1 : its.toArray.size = ws.length := by rw [List.size_toArray]; omega
    have e2 : its'.toArray.size = ys.length := by rw [List.size_toArray]; omega
    rw [e1, e2, hb]
  · obtain ⟨its, r1, p1, _⟩ := I.list h1
    obtain ⟨its', r2, p2, _⟩ := I.list h2
    have l1 := r1.length
    have l2 := r2.length
    have e1 : its.toArray.size = ws.length := by rw [List.size_toArray]; omega
    have e2 : its'.toArray.size = ys.length := by rw [List.size_toArray]; omega
    by_cases hl : ws.length = ys.length
    · refine SeqAt.eq_listAt (e := f) p1.isList p2.isList (by omega) (by omega) (items_eq I r1 r2 t1 t2 hd hu hf) (fin _ ?_)
      rw [e1, hb, hl]; simp
    · refine SeqAt.eq_list_lengthsAt p1.isList p2.isList (by rw [e1, e2]; simpa using hl) (by omega) (fin _ ?_)
      rw [hb]; simp [hl]
theorem op_ne_sq {X : Cx} (hu : X.A.units + 100 < cLine) : OpR X (compareOp .NotEq) (rSq X.K true) := by
  intro pins s σ H x y v u Q I rx ry h
  obtain ⟨a, b, vs, us, ws, ys, c, rfl, rfl, hq, t1, t2, hd, e, q⟩ := h
  cases rx
  cases ry
  obtain ⟨f, hf, hb⟩ := eqDL_get e
  have l3 := t1.length
  have l4 := t2.length
  have fin : ∀ d : Bool, d = !c → EP X pins σ Q (.bool d) s := fun d hd => by subst hd; exact ⟨.bl _, H, I, rfl, by simpa using q⟩
  rcases hq with ⟨h1, h2⟩ | ⟨h1, h2⟩
  · obtain ⟨its, r1, p1, _⟩ := I.tuple h1
    obtain ⟨its', r2, p2, _⟩ := I.tuple h2
    have l1 := r1.length
    have l2 := r2.length
    refine SeqAt.RcNeAt.tuples (e := f) (show s.heap.IsTuple a its.toArray from p1) (show s.heap.IsTuple b its'.toArray from p2) (by omega) (items_eq I r1 r2 t1 t2 hd hu hf) _ _ _ _ (fin _ ?_)
    have e1 : its.toArray.size = ws.length := by rw [List.size_toArray]; omega
    have e2 : its'.toArray.size = ys.length := by rw [List.size_toArray]; omega
    rw [e1, e2, hb]
  · obtain ⟨its, r1, p1, _⟩ := I.list h1
    obtain ⟨its', r2, p2, _⟩ := I.list h2
    have l1 := r1.length
    have l2 := r2.length
    have e1 : its.toArray.size = ws.length := by rw [List.size_toArray]; omega
    have e2 : its'.toArray.size = ys.length := by rw [List.size_toArray]; omega
    by_cases hl : ws.length = ys.length
    · refine SeqAt.RcNeAt.lists (e := f) p1.isList p2.isList (by omega) (by omega) (items_eq I r1 r2 t1 t2 hd hu hf) _ _ _ _ (fin _ ?_)
      rw [e1, hb, hl]; simp
    · refine SeqAt.RcNeAt.lists_lengths p1.isList p2.isList (by rw [e1, e2]; simpa using hl) (by omega) _ _ _ _ (fin _ ?_)
      rw [hb]; simp [hl]
/-- == over trees -/
noncomputable def eqW (x y : W) (G : Hw) : Option Bool := match x, y with
  | .tup xs, .tup ys => if dpL xs < 90 then eqDL xs ys else none
  | .ref a, .ref b => (match G a, G b with
    | some (.lst xs), some (.lst ys) => if dpL xs < 90 then eqDL xs ys else none
    | _, _ => none)
  | .int a, .int b => some (a == b)
  | .bl a, .bl b => some (a == b)
  | .str a, .str b => some (a == b)
  | .non, .non => some true
  | .int _, .non => some false
  | .non, .int _ => some false
  | .int _, .str _ => some false
  | .str _, .int _ => some false
  | .bl _, .str _ => some false
  | .str _, .bl _ => some false
  | .non, .str _ => some false
  | .str _, .non => some false
  | .non, .bl _ => some false
  | .bl _, .non => some false
  | _, _ => none
noncomputable def eqF (neg : Bool) (x y : W) (G : Hw) : Option W := (eqW x y G).map fun c => .bl (c != neg)
theorem bne_t (c : Bool) : (c != true) = !c := by cases c <;> rfl
theorem eqF_up (neg : Bool) (x y : W) (v u : V) (G : Hw) (H : Hp) (Q : VK) (tx : Tr K H v x) (ty : Tr K H u y) (r : RelH K H G) (q : rFun (eqF neg) x y G (dn K H Q)) : (scal v u = true ∧ Q (.bl (decide (v = u) != neg)) H) ∨ rSq K neg v u H Q := by
  obtain ⟨w, e, q'⟩ := opt_of q
  obtain ⟨c, e1, e2⟩ := Option.map_eq_some_iff.mp e
  subst e2
  have qq := q' (.bl (c != neg)) H .refl (.bl _) r
  have sc : ∀ {i j : V}, decide (i = j) = c → scal i j = true → (scal i j = true ∧ Q (.bl (decide (i = j) != neg)) H) ∨ rSq K neg i j H Q := fun {i j} h1 h2 => .inl ⟨h2, by rw [h1]; exact qq⟩
  cases tx with
  | tup hq l =>
    cases ty with
    | tup hq' l' =>
      unfold eqW at e1; dsimp only at e1
      split at e1
      · rename_i hd
        exact .inr ⟨_, _, _, _, _, _, c, rfl, rfl, .inl ⟨hq, hq'⟩, l, l', hd, e1, qq⟩
      · cases e1
    | _ => cases e1
  | ref a =>
    cases ty with
    | ref b =>
      unfold eqW at e1; dsimp only at e1
      cases ea : G a with
      | none => rw [ea] at e1; cases e1
      | some oa =>
        cases eb : G b with
        | none => rw [ea, eb] at e1; cases oa <;> cases e1
        | some ob =>
          rw [ea, eb] at e1
          cases oa <;> cases ob <;> try cases e1
          dsimp only at e1
          split at e1
          · rename_i hd
            obtain ⟨vs, z1, t1⟩ := r a _ ea
            obtain ⟨us, z2, t2⟩ := r b _ eb
            exact .inr ⟨_, _, _, _, _, _, c, rfl, rfl, .inr ⟨SqL.of z1, SqL.of z2⟩, t1, t2, hd, e1, qq⟩
          · cases e1
    | _ => cases e1
  | rol _ _ => cases y <;> cases e1
  | non => cases ty <;> cases e1 <;> exact sc (by simp) rfl
  | bl b => cases ty <;> cases e1 <;> exact sc (by first | exact dec_bl | simp) rfl
  | int b => cases ty <;> cases e1 <;> exact sc (by first | exact dec_int | simp) rfl
  | str b => cases ty <;> cases e1 <;> exact sc (by first | exact dec_str | simp) rfl
theorem op_eqw {X : Cx} (hu : X.A.units + 100 < cLine) : OpR X (compareOp .Eq) (fun x y H Q => (scal x y = true ∧ Q (.bl (decide (x = y) != false)) H) ∨ rSq X.K false x y H Q) := by
  intro pins s σ H x y v u Q I rx ry h
  rcases h with ⟨h1, h2⟩ | h
  · exact op_eq pins s σ H x y v u Q I rx ry ⟨h1, by simpa using h2⟩
  · exact op_eq_sq hu pins s σ H x y v u Q I rx ry h
theorem op_new {X : Cx} (hu : X.A.units + 100 < cLine) : OpR X (compareOp .NotEq) (fun x y H Q => (scal x y = true ∧ Q (.bl (decide (x = y) != true)) H) ∨ rSq X.K true x y H Q) := by
  intro pins s σ H x y v u Q I rx ry h
  rcases h with ⟨h1, h2⟩ | h
  · exact op_ne pins s σ H x y v u Q I rx ry ⟨h1, by rw [← bne_t]; exact h2⟩
  · exact op_ne_sq hu pins s σ H x y v u Q I rx ry h
section
variable {X : Cx} {a b c e : Expr} {es rest : List Expr} {pos pos' p : Pos} {ga gb gc : GE} {gt gu : GT} {gs : GA}
noncomputable def seqAt (G : Hw) (w : W) : Option (List W) := match w with
  | .tup xs => some xs
  | .rol xs => some xs
  | .ref a => (match G a with | some (.lst xs) => some xs | _ => none)
  | _ => none
theorem seqAt_tr {G : Hw} {w : W} {xs : List W} {v : V} (r : RelH K H G) (t : Tr K H v w) (e : seqAt G w = some xs) : ∃ a vs, v = .ref a ∧ (SqL K H a vs ∨ SqT K H a vs) ∧ TrL K H vs xs := by
  cases t with
  | tup h l => cases e; exact ⟨_, _, rfl, .inr h, l⟩
  | rol h l => cases e; exact ⟨_, _, rfl, .inl h.sq, l⟩
  | ref a =>
    unfold seqAt at e; dsimp only at e
    cases z : G a with
    | none => rw [z] at e; cases e
    | some o =>
      rw [z] at e
      cases o with
      | lst ys => cases e; obtain ⟨vs, e1, t1⟩ := r a _ z; exact ⟨a, vs, rfl, .inl (SqL.of e1), t1⟩
      | exc C => cases e
      | ins C fs => cases e
      | dct kvs => cases e
  | _ => cases e
noncomputable def flats : List W → Option (List V)
  | [] => some []
  | w :: ws => (flatW w).bind fun v => (flats ws).map (v :: ·)
theorem flats_tr : ∀ {ws : List W} {vs us : List V}, flats ws = some us → TrL K H vs ws → vs = us ∧ vs.all flatV = true
  | [], vs, us, e, t => by cases e; cases t; exact ⟨rfl, rfl⟩
  | w :: ws, vs, us, e, t => by
    cases t with
    | cons tw t =>
      obtain ⟨f, e1, e2⟩ := Option.bind_eq_some_iff.mp (show (flatW w).bind (fun v => (flats ws).map (v :: ·)) = some us from e)
      obtain ⟨fs, e3, e4⟩ := Option.map_eq_some_iff.mp e2
      obtain ⟨h1, h2⟩ := flatW_tr tw e1
      obtain ⟨h3, h4⟩ := flats_tr e3 t
      subst e4
      exact ⟨by rw [h1, h3], by rw [List.all_cons, h2, h4]; rfl⟩
noncomputable def inF (neg : Bool) (x y : W) (G : Hw) : Option W := (flatW x).bind fun v => (seqAt G y).bind fun xs => (flats xs).map fun us => .bl (if neg then !inV v us else inV v us)
theorem inF_up (neg : Bool) (x y : W) (v u : V) (G : Hw) (H : Hp) (Q : VK) (tx : Tr K H v x) (ty : Tr K H u y) (r : RelH K H G) (q : rFun (inF neg) x y G (dn K H Q)) : rIn K neg v u H Q := by
  obtain ⟨w, e, q'⟩ := opt_of q
  obtain ⟨f, e1, e2⟩ := Option.bind_eq_some_iff.mp e
  obtain ⟨xs, e3, e4⟩ := Option.bind_eq_some_iff.mp e2
  obtain ⟨us, e5, e6⟩ := Option.map_eq_some_iff.mp e4
  subst e6
  obtain ⟨h1, h2⟩ := flatW_tr tx e1
  obtain ⟨a, vs, rfl, hq, t⟩ := seqAt_tr r ty e3
  obtain ⟨h3, h4⟩ := flats_tr e5 t
  subst h1; subst h3
  exact ⟨a, vs, rfl, hq, h2, h4, q' _ H .refl (.bl _) r⟩
end
end L3
namespace L3
open PySem PySem.Spec PyProof.Rows L2
variable {K : PySem.W.Frag} {H H' H2 : Hp}
section
variable {X : Cx} {P : Hp → Prop} {a b c e o i : Expr} {sts : List Stmt} {pos pos' : Pos} {ga gb gc gv go gi : GE} {gt : GT} {g : GS} {gs : GA}
noncomputable def gWhile (gt : GT) (g : GS) : GS := fun D ω G => ∃ W : Nat → Sw → Hw → Prop, (∃ m, W m ω G) ∧ ∀ m ω G, W m ω G →
  gt ω G fun b G1 => if b = true then g { nx := fun ω' G' => ∃ m', m' < m ∧ W m' ω' G', rt := D.rt, bk := D.nx, ct := fun ω' G' => ∃ m', m' < m ∧ W m' ω' G' } ω G1 else D.nx ω G1
theorem gWhile_M (mt : gt.M) (mb : g.M) : GS.M (gWhile gt g) := fun ω G D D' h1 h2 h3 h4 ⟨W, w0, turn⟩ => ⟨W, w0, fun m ω G w => mt _ _ _ _ (fun b G1 z => by
  cases b with
  | true => exact mb _ _ { nx := fun ω' G' => ∃ m', m' < m ∧ W m' ω' G', rt := D.rt, bk := D.nx, ct := fun ω' G' => ∃ m', m' < m ∧ W m' ω' G' } _ (fun _ _ y => y) h2 h1 (fun _ _ y => y) z
  | false => exact h1 _ _ z) (turn m ω G w)⟩
theorem sw_while (hp : PassesOwn (model X.prog X.w) X.A X.env X.xe) (mt : gt.M) (mb : g.M) (hc : PTw X c gt) (hb : PSsw X P sts g) : PSw X P (.While c sts [] pos) (gWhile gt g) := fun B hB =>
  ps_sub (ps_while hp hc (hb B hB)) <| by
    rintro D σ H ⟨ω, G, ts, r, mb0, W, ⟨m0, w0⟩, turn⟩
    refine ⟨fun m σ' H' => Mono X.K B H' ∧ ∃ ω' G', TrSt X.K H' σ' ω' ∧ RelH X.K H' G' ∧ W m ω' G', ⟨m0, mb0, ω, G, ts, r, w0⟩, ?_⟩
    rintro m σ' H' ⟨mm, ω', G', ts', r', w'⟩
    refine ⟨ω', G', ts', r', mt _ _ _ _ (fun b G1 z H1 m1 r1 => ?_) (turn m ω' G' w')⟩
    cases b with
    | true =>
      rw [if_pos rfl]
      refine ⟨fun σ2 H2 => ∃ m', m' < m ∧ Mono X.K B H2 ∧ ∃ ω2 G2, TrSt X.K H2 σ2 ω2 ∧ RelH X.K H2 G2 ∧ W m' ω2 G2, (by rintro σ2 H2 ⟨m', h1, h2⟩; exact ⟨m', h1, h2⟩), ω', G1, ts'.mono m1, r1, mm.trans m1, ?_⟩
      exact mb _ _ { nx := fun ω' G' => ∃ m', m' < m ∧ W m' ω' G', rt := (dnD X.K B D).rt, bk := (dnD X.K B D).nx, ct := fun ω' G' => ∃ m', m' < m ∧ W m' ω' G' } _
        ((by rintro a b ⟨m', h1, h2⟩ σ2 H2 m2 ts2 r2; exact ⟨m', h1, m2, a, b, ts2, r2, h2⟩)) (fun a b y => y) (fun a b y => y) ((by rintro a b ⟨m', h1, h2⟩ σ2 H2 m2 ts2 r2; exact ⟨m', h1, m2, a, b, ts2, r2, h2⟩)) z
    | false =>
      rw [if_neg Bool.false_ne_true]
      exact z σ' H1 (mm.trans m1) (ts'.mono m1) r1
theorem sm_while (hp : PassesOwn (model X.prog X.w) X.A X.env X.xe) (hc : Tm X c gt) (hb : Ssm X P sts g) : Sm X P (.While c sts [] pos) (gWhile gt g) := ⟨sw_while hp hc.m hb.m hc.p hb.p, gWhile_M hc.m hb.m⟩
noncomputable def getW (ω : Sw) (i : Nat) : Option W := match ω[i]? with | some (some w) => some w | _ => none
theorem getW_tr {σ : St} {ω : Sw} {n : Nat} {w : W} (ts : TrSt K H σ ω) (e : getW ω n = some w) : ∃ v, σ[n]? = some (some v) ∧ Tr K H v w := by
  unfold getW at e
  split at e
  · rename_i u z
    cases e
    exact ts.get n _ z
  · cases e
noncomputable def gAug (n : Nat) (r : RW2) (ga : GE) : GS := fun D ω G => opt (getW ω n) fun x => ga ω G fun y G1 => r x y G1 fun z G2 => D.nx (ω.set n (some z)) G2
theorem gAug_M {n : Nat} {r : RW2} (mr : r.M) (ma : ga.M) : GS.M (gAug n r ga) := fun ω G D D' h1 _ _ _ q => opt_M (fun x q => ma _ _ _ _ (fun y G1 z => mr _ _ _ _ _ (fun w G2 z2 => h1 _ _ z2) z) q) q
theorem sw_aug {op : Operator} {r : RW2} {r2 : R2} {n : Nat} {x : Str} (ho : OpR X (inplaceOp op) r2) (mr : r.M) (hr : ∀ (x y : W) (v u : V) (G : Hw) (H : Hp) (Q : VK), Tr X.K H v x → Tr X.K H u y → RelH X.K H G → r x y G (dn X.K H Q) → r2 v u H Q)
    (hN : X.N.Nodup) (hi : X.N[n]? = some x) (hx : Loc X.env.scope x) (hf : X.fn x = true ∨ X.env.scope.names.lookup x = some .local) (ma : ga.M) (ha : PEw X e ga) : PSw X P (.AugAssign (.Name x pos') op e pos) (gAug n r ga) := fun B hB =>
  ps_sub (ps_aug hN hi hx ha (fun pins s σ H x y v u Q I r1 r2 h => ho pins s σ H x y v u Q I r1 r2 h) hf) <| by
    rintro D σ H ⟨ω, G, ts, rh, mb, q⟩
    obtain ⟨w, e1, q⟩ := opt_of q
    obtain ⟨v, e2, t⟩ := getW_tr ts e1
    refine ⟨v, e2, ω, G, ts, rh, ma _ _ _ _ (fun y G1 z u H1 m tu r1 => ?_) q⟩
    exact hr w y v u G1 H1 _ (t.mono m) tu r1 (mr _ _ _ _ _ (fun w2 G2 z2 v2 H2 m2 t2 r2 => z2 _ H2 ((mb.trans m).trans m2) (((ts.mono m).mono m2).set n t2) r2) z)
noncomputable def rIAdd : RW2 := fun x y G Q => match x, y with
  | .int i, .int j => Q (.int (i + j)) G
  | .str a, .str b => a.length + b.length ≤ sizeLine ∧ Q (.str (a ++ b)) G
  | _, _ => False
theorem rIAdd_M : RW2.M rIAdd := fun x y G Q Q' h q => by
  cases x <;> cases y <;> first | exact q | exact h _ _ q | exact ⟨q.1, h _ _ q.2⟩
theorem rIAdd_up (x y : W) (v u : V) (G : Hw) (H : Hp) (Q : VK) (tx : Tr K H v x) (ty : Tr K H u y) (r : RelH K H G) (q : rIAdd x y G (dn K H Q)) :
    (rI0 fun i j => .int (i + j)) v u H Q ∨ (∃ i j, v = .str i ∧ u = .str j ∧ i.length + j.length ≤ sizeLine ∧ Q (.str (i ++ j)) H) := by
  cases tx with
  | int i => cases ty <;> first | exact q.elim | exact .inl ⟨_, _, rfl, rfl, q _ H .refl (.int _) r⟩
  | str i => cases ty <;> first | exact q.elim | exact .inr ⟨_, _, rfl, rfl, q.1, q.2 _ H .refl (.str _) r⟩
  | _ => exact q.elim
noncomputable def setAt (o k v : W) (G : Hw) (Q : Hw → Prop) : Prop := match o, k with
  | .ref a, .int j => (match G a with
    | some (.lst xs) => (match ixN xs.length j with | some n => Q (put G a (.lst (xs.set n v))) | none => False)
    | _ => False)
  | _, _ => False
theorem setAt_of {o k v : W} {G : Hw} {Q : Hw → Prop} (q : setAt o k v G Q) : ∃ a j xs n, o = .ref a ∧ k = .int j ∧ G a = some (.lst xs) ∧ ixN xs.length j = some n ∧ Q (put G a (.lst (xs.set n v))) := by
  unfold setAt at q
  split at q
  · split at q
    · rename_i xs e
      split at q
      · rename_i n e2; exact ⟨_, _, xs, n, rfl, rfl, e, e2, q⟩
      · exact q.elim
    · exact q.elim
  · exact q.elim
theorem setAt_mk {v : W} {G : Hw} {Q : Hw → Prop} {a : Addr} {j : Int} {xs : List W} {n : Nat} (e : G a = some (.lst xs)) (e2 : ixN xs.length j = some n) (q : Q (put G a (.lst (xs.set n v)))) : setAt (.ref a) (.int j) v G Q := by
  unfold setAt
  dsimp only
  rw [e]
  dsimp only
  rw [e2]
  exact q
theorem setAt_M {o k v : W} {G : Hw} {Q Q' : Hw → Prop} (h : ∀ G, Q G → Q' G) (q : setAt o k v G Q) : setAt o k v G Q' := by
  obtain ⟨a, j, xs, n, rfl, rfl, e, e2, q⟩ := setAt_of q
  exact setAt_mk e e2 (h _ q)
theorem setAt_up {o k v : W} {x y u : V} {G : Hw} {Pq : Hw → Prop} {R : Hp → Prop} (tx : Tr K H x v) (ty : Tr K H y o) (tu : Tr K H u k) (r : RelH K H G) (q : setAt o k v G Pq) (f : ∀ G4 H4, Mono K H H4 → RelH K H4 G4 → Pq G4 → R H4) : rSetL y u x H R := by
  obtain ⟨a, j, xs, n, rfl, rfl, e, e2, q⟩ := setAt_of q
  cases ty
  cases tu
  obtain ⟨vs, e3, t⟩ := r a _ e
  exact ⟨a, vs, j, n, rfl, rfl, e3, by rw [t.length]; exact e2, f _ _ (Mono.lst e3 _) (r.chg e3 (TrL.set tx n t)) q⟩
noncomputable def gSetIx (gv go gi : GE) : GS := fun D ω G => gv ω G fun v G1 => go ω G1 fun o G2 => gi ω G2 fun k G3 => setAt o k v G3 fun G4 => D.nx ω G4
theorem gSetIx_M (mv : gv.M) (mo : go.M) (mi : gi.M) : GS.M (gSetIx gv go gi) := fun ω G D D' h1 _ _ _ q =>
  mv _ _ _ _ (fun v G1 z => mo _ _ _ _ (fun o G2 z => mi _ _ _ _ (fun k G3 z => setAt_M (fun G4 z => h1 _ _ z) z) z) z) q
theorem sm_setIx (ha : ∀ v, assign (.Subscript o i pos') X.env v = (do
      let ov ← holding [v] (eval o X.env)
      let iv ← holding [v, ov] (eval i X.env)
      standAt pos'
      holding [v, ov, iv] (setItem ov iv v)
      release [v, ov, iv] [])) (hs : swapsWithSole [.Subscript o i pos'] e pos.line X.env = pure false) (hw : swappedStores [.Subscript o i pos'] e X.env = pure none)
    (h1 : (assignEach [.Subscript o i pos'] X.env).map (·.2) = [assign (.Subscript o i pos') X.env]) (hv : Em X e gv) (ho : Em X o go) (hi : Em X i gi) : Sm X P (.Assign [.Subscript o i pos'] e pos) (gSetIx gv go gi) :=
  ⟨fun B hB => ps_sub (ps_asg hv.p (pg_sub ho.p hi.p set_list ha) hs hw h1) fun D σ H ⟨ω, G, ts, r, mb, q⟩ => ⟨ω, G, ts, r, hv.m _ _ _ _ (fun v G1 z x H1 m1 tx r1 =>
    ⟨ω, G1, ts.mono m1, r1, ho.m _ _ _ _ (fun ow G2 z2 y H2 m2 ty r2 =>
      ⟨ω, G2, (ts.mono m1).mono m2, r2, hi.m _ _ _ _ (fun k G3 z3 u H3 m3 tu r3 =>
        setAt_up ((tx.mono m2).mono m3) (ty.mono m3) tu r3 z3 (fun G4 H4 m4 r4 q4 => q4 σ H4 ((((mb.trans m1).trans m2).trans m3).trans m4) ((((ts.mono m1).mono m2).mono m3).mono m4) r4)) z2⟩) z⟩) q⟩, gSetIx_M hv.m ho.m hi.m⟩
noncomputable abbrev GO := Sw → Hw → (Option Int → Hw → Prop) → Prop
noncomputable def GO.M (g : GO) : Prop := ∀ ω G (Q Q' : Option Int → Hw → Prop), (∀ w G', Q w G' → Q' w G') → g ω G Q → g ω G Q'
noncomputable def dnO (K : PySem.W.Frag) (H : Hp) (Q : Option Int → Hp → Prop) : Option Int → Hw → Prop := fun b G => ∀ H', Mono K H H' → RelH K H' G → Q b H'
noncomputable def upO (K : PySem.W.Frag) (g : GO) : TO := fun σ H Q => ∃ ω G, TrSt K H σ ω ∧ RelH K H G ∧ g ω G (dnO K H Q)
structure Om (X : Cx) (e : Option Expr) (g : GO) : Prop where
  p : PO X e (upO X.K g)
  m : g.M
noncomputable def gNoPart : GO := fun _ G Q => Q none G
noncomputable def gPart (ga : GE) : GO := fun ω G Q => ga ω G fun w G1 => match w with | .int j => Q (some j) G1 | _ => False
theorem om_none : Om X none gNoPart := ⟨(by rintro pins s σ H Q I ⟨ω, G, ts, r, q⟩; exact po_none pins s σ H Q I (q H .refl r)), fun _ _ _ _ h q => h _ _ q⟩
theorem om_some (h : Em X e ga) : Om X (some e) (gPart ga) := ⟨fun pins s σ H Q I ⟨ω, G, ts, r, q⟩ => po_some h.p pins s σ H Q I ⟨ω, G, ts, r, h.m _ _ _ _ (fun w G1 z v H1 m t r1 => by
    cases w with
    | int j => exact ⟨j, tr_int t, z H1 m r1⟩
    | _ => exact z.elim) q⟩, fun ω G Q Q' hh q => h.m _ _ _ _ (fun w G1 z => by cases w <;> first | exact hh _ _ z | exact z) q⟩
noncomputable def cutW {α : Type} (xs : List α) (lo hi : Option Int) : List α := (xs.drop (HT.sIx xs.length 0 lo)).take (HT.sIx xs.length xs.length hi - HT.sIx xs.length 0 lo)
/-- w[lo:hi]: a tuple's is a tuple, a list's a new list, a text's a text -/
noncomputable def slW (w : W) (lo hi : Option Int) (G : Hw) (Q : Kw) : Prop := match w with
  | .tup xs => ¬ (HT.sIx xs.length 0 lo = 0 ∧ HT.sIx xs.length xs.length hi = xs.length) ∧ Q (.tup (cutW xs lo hi)) G
  | .rol xs => ∀ p, G p = none → Q (.ref p) (put G p (.lst (cutW xs lo hi)))
  | .ref a => (match G a with | some (.lst xs) => ∀ p, G p = none → Q (.ref p) (put G p (.lst (cutW xs lo hi))) | _ => False)
  | _ => False
theorem slW_M {w : W} {lo hi : Option Int} {G : Hw} {Q Q' : Kw} (h : ∀ w G', Q w G' → Q' w G') (q : slW w lo hi G Q) : slW w lo hi G Q' := by
  cases w with
  | tup xs => exact ⟨q.1, h _ _ q.2⟩
  | rol xs => exact fun p hp => h _ _ (q p hp)
  | ref a =>
    unfold slW at q ⊢
    dsimp only at q ⊢
    cases e : G a with
    | none => rw [e] at q; exact q.elim
    | some ob =>
      rw [e] at q
      cases ob with
      | lst xs => exact fun p hp => h _ _ (q p hp)
      | exc C => exact q.elim
      | ins C fs => exact q.elim
      | dct kvs => exact q.elim
  | _ => exact q.elim
theorem TrL.cut {vs : List V} {ws : List W} (t : TrL K H vs ws) (lo hi : Option Int) : TrL K H (cutV vs lo hi) (cutW ws lo hi) := by
  unfold cutV cutW
  rw [t.length]
  exact (t.drop _).take _
theorem slW_up {w : W} {v : V} {lo hi : Option Int} {G : Hw} {Q : VK} (t : Tr K H v w) (r : RelH K H G) (q : slW w lo hi G (dn K H Q)) : rSlT K v lo hi H Q ∨ rSlL K v lo hi H Q := by
  cases t with
  | tup h l =>
    refine .inl ⟨_, _, rfl, h, by rw [l.length]; exact q.1, fun p hp => ?_⟩
    exact q.2 _ _ (Mono.new hp _) (.tup (SqT.of upd_same) ((l.cut lo hi).mono (Mono.new hp _))) (r.mono0 hp)
  | rol h l => exact .inr ⟨_, _, rfl, h.sq, fun p hp => q p (r.no hp) _ _ (Mono.new hp _) (.ref p) (r.new hp (l.cut lo hi))⟩
  | ref a =>
    unfold slW at q
    dsimp only at q
    cases e : G a with
    | none => rw [e] at q; exact q.elim
    | some ob =>
      rw [e] at q
      cases ob with
      | lst xs =>
        obtain ⟨vs, e1, l⟩ := r a _ e
        exact .inr ⟨_, _, rfl, SqL.of e1, fun p hp => q p (r.no hp) _ _ (Mono.new hp _) (.ref p) (r.new hp (l.cut lo hi))⟩
      | exc C => exact q.elim
      | ins C fs => exact q.elim
      | dct kvs => exact q.elim
  | _ => exact q.elim
noncomputable def gSl (ga : GE) (gl gh : GO) : GE := fun ω G Q => ga ω G fun w G1 => gl ω G1 fun lo G2 => gh ω G2 fun hi G3 => slW w lo hi G3 Q
theorem em_sl {lo hi : Option Expr} {gl gh : GO} {p2 : Pos} (ha : Em X e ga) (hl : Om X lo gl) (hh : Om X hi gh) : Em X (.Subscript e (.Slice lo hi none p2) pos) (gSl ga gl gh) :=
  ⟨pe_sub (pe_slice (SlR.or sl_tup sl_list) ha.p hl.p hh.p) fun σ H Q ⟨ω, G, ts, r, q⟩ => ⟨ω, G, ts, r, ha.m _ _ _ _ (fun w G1 z v H1 m1 t r1 => ⟨ω, G1, ts.mono m1, r1, hl.m _ _ _ _ (fun l G2 z2 H2 m2 r2 =>
      ⟨ω, G2, (ts.mono m1).mono m2, r2, hh.m _ _ _ _ (fun h G3 z3 H3 m3 r3 => slW_up ((t.mono m2).mono m3) r3 (slW_M (fun w G' z => dn_mono ((m1.trans m2).trans m3) z) z3)) z2⟩) z⟩) q⟩,
    fun ω G Q Q' h q => ha.m _ _ _ _ (fun w G1 z => hl.m _ _ _ _ (fun l G2 z2 => hh.m _ _ _ _ (fun u G3 z3 => slW_M h z3) z2) z) q⟩
end
end L3
set_option Elab.async false
set_option linter.all false
set_option maxRecDepth 100000
set_option maxHeartbeats 2000000
namespace L3
open PySem PySem.Spec PyProof.Rows L2
variable {K : PySem.W.Frag} {H H' H2 : Hp}
noncomputable abbrev UpW (K : PySem.W.Frag) (r : RW2) (r2 : R2) : Prop := ∀ (x y : W) (v u : V) (G : Hw) (H : Hp) (Q : VK), Tr K H v x → Tr K H u y → RelH K H G → r x y G (dn K H Q) → r2 v u H Q
structure Cop (X : Cx) (op : CmpOp) (r : RW2) : Prop where
  ex : ∃ r2, OpR X (compareOp op) r2 ∧ UpW X.K r r2
  m : r.M
noncomputable def strLt (a b : Str) : Bool := decide (a.cps.toList < b.cps.toList)
noncomputable def rOrd (f : Int → Int → Bool) (g : Str → Str → Bool) : RW2 := fun x y G Q => match x, y with
  | .int i, .int j => Q (.bl (f i j)) G
  | .str i, .str j => Q (.bl (g i j)) G
  | _, _ => False
theorem rOrd_M {f : Int → Int → Bool} {g : Str → Str → Bool} : RW2.M (rOrd f g) := fun x y G Q Q' h q => by
  cases x <;> cases y <;> first | exact q | exact h _ _ q
theorem rOrd_up {f : Int → Int → Bool} {g : Str → Str → Bool} : UpW K (rOrd f g) (fun x y H Q => rI0 (fun i j => .bl (f i j)) x y H Q ∨ ∃ i j, x = .str i ∧ y = .str j ∧ Q (.bl (g i j)) H) := fun x y v u G H Q tx ty r q => by
  cases tx with
  | int i => cases ty <;> first | exact q.elim | exact .inl ⟨_, _, rfl, rfl, q _ H .refl (.bl _) r⟩
  | str i => cases ty <;> first | exact q.elim | exact .inr ⟨_, _, rfl, rfl, q _ H .refl (.bl _) r⟩
  | _ => exact q.elim
theorem op_le_str {X : Cx} : OpR X (compareOp .LtE) (fun x y H Q => ∃ i j, x = .str i ∧ y = .str j ∧ Q (.bl (!strLt j i)) H) := by
  intro pins s σ H x y v u Q I rx ry h
  obtain ⟨i, j, rfl, rfl, q⟩ := h
  obtain ⟨t, rfl⟩ := rx
  obtain ⟨t', rfl⟩ := ry
  exact PySem.P.le_str ⟨.bl _, H, I, rfl, q⟩
theorem cop_lt {X : Cx} : Cop X .Lt (rOrd (fun i j => decide (i < j)) strLt) := ⟨⟨_, OpR.or op_lt op_lt_str, rOrd_up⟩, rOrd_M⟩
theorem cop_le {X : Cx} : Cop X .LtE (rOrd (fun i j => decide (i ≤ j)) (fun a b => !strLt b a)) := ⟨⟨_, OpR.or op_le op_le_str, rOrd_up⟩, rOrd_M⟩
theorem cop_gt {X : Cx} : Cop X .Gt (rCmp fun i j => decide (j < i)) := ⟨⟨_, op_gt, rCmp_up⟩, rCmp_M⟩
theorem cop_ge {X : Cx} : Cop X .GtE (rCmp fun i j => decide (j ≤ i)) := ⟨⟨_, op_ge, rCmp_up⟩, rCmp_M⟩
theorem cop_eq {X : Cx} (hu : X.A.units + 100 < cLine) : Cop X .Eq (rFun (eqF false)) := ⟨⟨_, op_eqw hu, eqF_up false⟩, rFun_M⟩
theorem cop_ne {X : Cx} (hu : X.A.units + 100 < cLine) : Cop X .NotEq (rFun (eqF true)) := ⟨⟨_, op_new hu, eqF_up true⟩, rFun_M⟩
theorem cop_in {X : Cx} : Cop X .In (rFun (inF false)) := ⟨⟨_, op_in_seq, inF_up false⟩, rFun_M⟩
theorem cop_nin {X : Cx} : Cop X .NotIn (rFun (inF true)) := ⟨⟨_, op_notIn_seq, inF_up true⟩, rFun_M⟩
section
variable {X : Cx} {op op' : CmpOp} {r r' : RW2} {a b c e : Expr} {es : List Expr} {pos : Pos} {ga gb gc : GE}
theorem em_cmp (C : Cop X op r) (hm : behindInMarks op b = false) (ha : Em X a ga) (hb : Em X b gb) : Em X (.Compare a [op] [b] pos) (gBin r ga gb) :=
  let ⟨_, h1, h2⟩ := C.ex
  ⟨ew_cmp h1 C.m ha.m hb.m h2 ha.p hb.p hm, gBin_M C.m ha.m hb.m⟩
theorem tm_cmp (C : Cop X op r) (hm : behindInMarks op b = false) (ha : Em X a ga) (hb : Em X b gb) : Tm X (.Compare a [op] [b] pos) (gTB (gBin r ga gb)) :=
  let ⟨_, h1, h2⟩ := C.ex
  ⟨tw_cmp h1 C.m ha.m hb.m h2 ha.p hb.p hm, gTB_M (gBin_M C.m ha.m hb.m)⟩
/-- a op b op' c -/
noncomputable def gChain (r r' : RW2) (ga gb gc : GE) : GE := fun ω G Q => ga ω G fun x G1 => gb ω G1 fun y G2 => r x y G2 fun z G3 => match z with
  | .bl k => if k = true then gc ω G3 fun w G4 => r' y w G4 Q else Q (.bl false) G3
  | _ => False
theorem gChain_M (mr : r.M) (mr' : r'.M) (ma : ga.M) (mb : gb.M) (mc : gc.M) : GE.M (gChain r r' ga gb gc) := fun ω G Q Q' h q =>
  ma _ _ _ _ (fun x G1 z => mb _ _ _ _ (fun y G2 z => mr _ _ _ _ _ (fun z1 G3 z => by
    cases z1 with
    | bl k =>
      cases k with
      | true => exact mc _ _ _ _ (fun w G4 z => mr' _ _ _ _ _ h z) z
      | false => exact h _ _ z
    | _ => exact z) z) z) q
theorem up_chain {r2 r2' : R2} (u : UpW K r r2) (u' : UpW K r' r2') (mr : r.M) (mr' : r'.M) (ma : ga.M) (mb : gb.M) (mc : gc.M) (σ : St) (H : Hp) (Q : VK) (h : up K (gChain r r' ga gb gc) σ H Q) : tChain r2 r2' (up K ga) (up K gb) (up K gc) σ H Q := by
  obtain ⟨ω, G, ts, rh, q⟩ := h
  refine ⟨ω, G, ts, rh, ma _ _ _ _ (fun x G1 z1 v H1 m1 tx r1 => ⟨ω, G1, ts.mono m1, r1, mb _ _ _ _ (fun y G2 z2 v2 H2 m2 ty r2 => ?_) z1⟩) q⟩
  refine u x y v v2 G2 H2 _ (tx.mono m2) ty r2 (mr _ _ _ _ _ (fun k G3 z3 v3 H3 m3 tk r3 => ?_) z2)
  cases k with
  | bl k =>
    refine ⟨k, tr_bl tk, ?_⟩
    cases k with
    | true =>
      rw [if_pos rfl]
      refine ⟨ω, G3, ((ts.mono m1).mono m2).mono m3, r3, mc _ _ _ _ (fun w G4 z4 v4 H4 m4 tw r4 => ?_) z3⟩
      exact u' y w v2 v4 G4 H4 Q ((ty.mono m3).mono m4) tw r4 (mr' _ _ _ _ _ (fun w5 G5 z5 => dn_mono (((m1.trans m2).trans m3).trans m4) z5) z4)
    | false =>
      rw [if_neg Bool.false_ne_true]
      exact z3 _ H3 ((m1.trans m2).trans m3) (.bl false) r3
  | _ => exact z3.elim
theorem em_chain (C : Cop X op r) (C' : Cop X op' r') (hm : lastMarks [op, op'] [b, c] = false) (ha : Em X a ga) (hb : Em X b gb) (hc : Em X c gc) : Em X (.Compare a [op, op'] [b, c] pos) (gChain r r' ga gb gc) :=
  let ⟨_, h1, h2⟩ := C.ex
  let ⟨_, h3, h4⟩ := C'.ex
  ⟨pe_sub (pe_chain h1 h3 ha.p hb.p hc.p hm) (up_chain h2 h4 C.m C'.m ha.m hb.m hc.m), gChain_M C.m C'.m ha.m hb.m hc.m⟩
theorem tm_chain (C : Cop X op r) (C' : Cop X op' r') (hm : lastMarks [op, op'] [b, c] = false) (ha : Em X a ga) (hb : Em X b gb) (hc : Em X c gc) : Tm X (.Compare a [op, op'] [b, c] pos) (gTB (gChain r r' ga gb gc)) :=
  let ⟨_, h1, h2⟩ := C.ex
  let ⟨_, h3, h4⟩ := C'.ex
  ⟨pt_sub (pt_chain h1 h3 ha.p hb.p hc.p hm) fun σ H Q z => up_chain h2 h4 C.m C'.m ha.m hb.m hc.m σ H _ (up_tb (gChain_M C.m C'.m ha.m hb.m hc.m) z), gTB_M (gChain_M C.m C'.m ha.m hb.m hc.m)⟩
end
noncomputable abbrev UpC (K : PySem.W.Frag) (r : RWc) (r1 : List V → Hp → VK → Prop) : Prop := ∀ ws vs G H Q, TrL K H vs ws → RelH K H G → r ws G (dn K H Q) → r1 vs H Q
structure Blt (X : Cx) (f : Value) (r : RWc) : Prop where
  ex : ∃ r1, CallR X f r1 ∧ UpC X.K r r1
  m : r.M
section
variable {X : Cx} {x : Str} {p pos : Pos} {e : Expr} {es : List Expr} {gs : GA} {r : RWc} {id T : String}
theorem em_fn (hv : bootBuiltins x = some (.builtin id)) (B : Blt X (.builtin id) r) (hg : Gl X x) (hm : X.mg x = none) (hn : x ≠ "__name__") (hdb : (x == ("__debug__" : Str)) = false)
    (he : starEach (e :: es) X.env = (false, eval e X.env) :: starEach es X.env) (hpl : (backTo pos (starEach es X.env)).any (·.1) = false) (ha : Am X (e :: es) gs) : Em X (.Call (.Name x p) (e :: es) [] pos) (gB r gs) :=
  let ⟨_, h1, h2⟩ := B.ex
  em_blt h1 B.m h2 hg hm hv hn hdb he hpl ha
theorem em_ty (hv : bootBuiltins x = some (.type T)) (B : Blt X (.type T) r) (hg : Gl X x) (hm : X.mg x = none) (hn : x ≠ "__name__") (hdb : (x == ("__debug__" : Str)) = false)
    (he : starEach (e :: es) X.env = (false, eval e X.env) :: starEach es X.env) (hpl : (backTo pos (starEach es X.env)).any (·.1) = false) (ha : Am X (e :: es) gs) : Em X (.Call (.Name x p) (e :: es) [] pos) (gB r gs) :=
  let ⟨_, h1, h2⟩ := B.ex
  em_typ h1 B.m h2 hg hm hv hn hdb he hpl ha
end
theorem blt_len {X : Cx} : Blt X (.builtin "len") (rF lenF) := ⟨⟨_, call_len, lenF_up⟩, rF_M⟩
theorem blt_all {X : Cx} (hc : X.calm = true) : Blt X (.builtin "all") (rF allF) := ⟨⟨_, call_allL hc, allF_up⟩, rF_M⟩
/-- list(..) -/
noncomputable def rList : RWc := fun ws G Q => match ws with
  | [w] => (match seqAt G w with | some xs => ∀ p, G p = none → Q (.ref p) (put G p (.lst xs)) | none => False)
  | _ => False
theorem rList_M : RWc.M rList := fun ws G Q Q' h q => by
  unfold rList at q ⊢
  split at q
  · split at q
    · exact fun p hp => h _ _ (q p hp)
    · exact q.elim
  · exact q.elim
theorem rList_up : UpC K rList (fun xs H Q => ∃ p ys, xs = [.ref p] ∧ (SqL K H p ys ∨ SqT K H p ys) ∧ ∀ l, H l = none → Q (.ref l) (upd H l (.lst ys))) := fun ws vs G H Q t r q => by
  unfold rList at q
  split at q
  · rename_i w0
    split at q
    · rename_i xs e
      cases t with
      | cons tw t =>
        cases t
        obtain ⟨a, us, rfl, hq, l⟩ := seqAt_tr r tw e
        exact ⟨a, us, rfl, hq, fun p hp => q p (r.no hp) _ _ (Mono.new hp _) (.ref p) (r.new hp l)⟩
    · exact q.elim
  · exact q.elim
theorem blt_list {X : Cx} : Blt X (.type "list") rList := ⟨⟨_, call_list_of, rList_up⟩, rList_M⟩
/-- tuple(..) -/
noncomputable def tupF (ws : List W) (G : Hw) : Option W := match ws with | [w] => (seqAt G w).map W.tup | _ => none
theorem tupF_up : UpC K (rF tupF) (fun xs H Q => ∃ p ys, xs = [.ref p] ∧ ((SqL K H p ys ∧ ∀ l, H l = none → Q (.ref l) (upd H l (.tup ys))) ∨ (SqT K H p ys ∧ Q (.ref p) H))) := fun ws vs G H Q t r q => by
  obtain ⟨w, e, q'⟩ := opt_of q
  unfold tupF at e
  split at e
  · obtain ⟨xs, e1, e2⟩ := Option.map_eq_some_iff.mp e
    subst e2
    cases t with
    | cons tw t =>
      cases t
      obtain ⟨a, us, rfl, hq, l⟩ := seqAt_tr r tw e1
      rcases hq with hq | hq
      · exact ⟨a, us, rfl, .inl ⟨hq, fun p hp => q' _ _ (Mono.new hp _) (.tup (SqT.of upd_same) (l.mono (Mono.new hp _))) (r.mono0 hp)⟩⟩
      · exact ⟨a, us, rfl, .inr ⟨hq, q' _ H .refl (.tup hq l) r⟩⟩
  · cases e
theorem blt_tuple {X : Cx} : Blt X (.type "tuple") (rF tupF) := ⟨⟨_, call_tuple_of, tupF_up⟩, rF_M⟩
/-- int(..) of an int, a bool -/
noncomputable def intF (ws : List W) (_ : Hw) : Option W := match ws with | [.int i] => some (.int i) | [.bl k] => some (.int (if k then 1 else 0)) | _ => none
theorem intF_up : UpC K (rF intF) (fun xs H Q => (∃ i, xs = [.int i] ∧ Q (.int i) H) ∨ ∃ k, xs = [.bl k] ∧ Q (.int (if k then 1 else 0)) H) := fun ws vs G H Q t r q => by
  obtain ⟨w, e, q'⟩ := opt_of q
  unfold intF at e
  split at e
  · cases e
    cases t with
    | cons tw t => cases t; cases tw; exact .inl ⟨_, rfl, q' _ H .refl (.int _) r⟩
  · cases e
    cases t with
    | cons tw t => cases t; cases tw; exact .inr ⟨_, rfl, q' _ H .refl (.int _) r⟩
  · cases e
theorem blt_int {X : Cx} : Blt X (.type "int") (rF intF) := ⟨⟨_, call_int1, intF_up⟩, rF_M⟩
structure Mth (X : Cx) (T : String) (name : Str) (id : String) (pre : W → Hw → Prop) (r : W → List W → Hw → Kw → Prop) : Prop where
  pa : PlainAttrs T
  slot : Slot T name id
  ty : typeOf (.builtin id) = pure (.type "method_descriptor")
  ex : ∃ r2, MtR X id r2 ∧ ∀ (o : W) (ws : List W) (v : V) (vs : List V) (G : Hw) (H : Hp) (Q : VK), Tr X.K H v o → TrL X.K H vs ws → RelH X.K H G → r o ws G (dn X.K H Q) → r2 v vs H Q
  pr : ∀ (o : W) (v : V) (G : Hw) (H : Hp), Tr X.K H v o → RelH X.K H G → pre o G → tyV X.K T v H
  m : ∀ o ws G (Q Q' : Kw), (∀ w G', Q w G' → Q' w G') → r o ws G Q → r o ws G Q'
noncomputable def gMt (pre : W → Hw → Prop) (r : W → List W → Hw → Kw → Prop) (go : GE) (gs : GA) : GE := fun ω G Q => go ω G fun o G1 => pre o G1 ∧ gs ω G1 fun ws G2 => r o ws G2 Q
section
variable {X : Cx} {o e : Expr} {es : List Expr} {go : GE} {gs : GA} {name : Str} {apos cpos : Pos} {T id : String} {pre : W → Hw → Prop} {r : W → List W → Hw → Kw → Prop}
theorem em_mth (M : Mth X T name id pre r) (hbase : attributeBase o name X.env (eval o X.env) = eval o X.env)
    (hfew : ((backTo cpos (starEach (e :: es) X.env)).all (fun x => !x.1) && (backToKw cpos (keywordEach [] X.env)).all (fun x => x.1.isSome) && decide ((e :: es).length + ([] : List Keyword).length + (if ([] : List Keyword).isEmpty then 0 else 1) < 30)) = true)
    (hline : (apos.endLine == cpos.line) = true) (hs : starEach (e :: es) X.env = (false, eval e X.env) :: starEach es X.env) (hplain : (backTo cpos (starEach es X.env)).any (·.1) = false) (ho : Em X o go) (ha : Am X (e :: es) gs) :
    Em X (.Call (.Attribute o name apos) (e :: es) [] cpos) (gMt pre r go gs) :=
  let ⟨_, h1, h2⟩ := M.ex
  ⟨pe_sub (pe_bm M.pa M.slot M.ty h1 ho.p ha.p hbase hfew hline hs hplain) fun σ H Q ⟨ω, G, ts, rh, q⟩ => ⟨ω, G, ts, rh, ho.m _ _ _ _ (fun ow G1 z v H1 m1 tv r1 => ⟨M.pr ow v G1 H1 tv r1 z.1,
      ω, G1, ts.mono m1, r1, ha.m _ _ _ _ (fun ws G2 z2 vs H2 m2 tvs r2 => h2 ow ws v vs G2 H2 Q (tv.mono m2) tvs r2 (M.m _ _ _ _ _ (fun w G' y => dn_mono (m1.trans m2) y) z2)) z.2⟩) q⟩,
    fun ω G Q Q' h q => ho.m _ _ _ _ (fun ow G1 z => ⟨z.1, ha.m _ _ _ _ (fun ws G2 z2 => M.m _ _ _ _ _ h z2) z.2⟩) q⟩
end
noncomputable def isLst (o : W) (G : Hw) : Prop := ∃ xs, lstAt G o = some xs
theorem isLst_ty {o : W} {v : V} {G : Hw} (t : Tr K H v o) (r : RelH K H G) (h : isLst o G) : tyV K "list" v H := by
  obtain ⟨xs, e⟩ := h
  obtain ⟨a, vs, rfl, _, _, e1, _⟩ := lstAt_tr r t e
  exact .inl ⟨rfl, _, SqL.of e1⟩
noncomputable def chgL (o : W) (G : Hw) (f : List W → Option (List W)) (Q : Kw) : Prop := match o with
  | .ref a => (match G a with | some (.lst xs) => (match f xs with | some ys => Q .non (put G a (.lst ys)) | none => False) | _ => False)
  | _ => False
theorem chgL_of {o : W} {G : Hw} {f : List W → Option (List W)} {Q : Kw} (q : chgL o G f Q) : ∃ a xs ys, o = .ref a ∧ G a = some (.lst xs) ∧ f xs = some ys ∧ Q .non (put G a (.lst ys)) := by
  unfold chgL at q
  split at q
  · split at q
    · rename_i xs e
      split at q
      · rename_i ys e2; exact ⟨_, xs, ys, rfl, e, e2, q⟩
      · exact q.elim
    · exact q.elim
  · exact q.elim
theorem chgL_mk {G : Hw} {f : List W → Option (List W)} {Q : Kw} {a : Addr} {xs ys : List W} (e : G a = some (.lst xs)) (e2 : f xs = some ys) (q : Q .non (put G a (.lst ys))) : chgL (.ref a) G f Q := by
  unfold chgL
  dsimp only
  rw [e]
  dsimp only
  rw [e2]
  exact q
theorem chgL_M {o : W} {G : Hw} {f : List W → Option (List W)} {Q Q' : Kw} (h : ∀ w G', Q w G' → Q' w G') (q : chgL o G f Q) : chgL o G f Q' := by
  obtain ⟨a, xs, ys, rfl, e, e2, q⟩ := chgL_of q
  exact chgL_mk e e2 (h _ _ q)
noncomputable def rApp (o : W) (ws : List W) (G : Hw) (Q : Kw) : Prop := match ws with
  | [y] => chgL o G (fun xs => if xs.length < sizeLine then some (xs ++ [y]) else none) Q
  | _ => False
theorem mth_append {X : Cx} : Mth X "list" "append" "list.append" isLst rApp where
  pa := PySem.F.plainAttrs_list
  slot := PySem.F.slot_list_append
  ty := PySem.F.type_list_append
  ex := ⟨_, mt_append, fun o ws v vs G H Q tv tvs r q => by
    unfold rApp at q
    split at q
    · obtain ⟨a, xs, ys, rfl, e, e2, q⟩ := chgL_of q
      split at e2
      · rename_i hlen
        cases e2
        cases tv
        cases tvs with
        | cons ty t =>
          cases t
          obtain ⟨us, e1, l⟩ := r a _ e
          exact ⟨a, us, _, rfl, rfl, e1, by rw [l.length]; exact hlen, q _ _ (Mono.lst e1 _) .non (r.chg e1 (l.append (.cons ty .nil)))⟩
      · cases e2
    · exact q.elim⟩
  pr := fun o v G H t r h => isLst_ty t r h
  m := fun o ws G Q Q' h q => by
    unfold rApp at q ⊢
    split at q
    · exact chgL_M h q
    · exact q.elim
noncomputable def rExt (o : W) (ws : List W) (G : Hw) (Q : Kw) : Prop := match ws with
  | [y] => chgL o G (fun xs => (lstAt G y).bind fun zs => if xs.length + zs.length ≤ sizeLine then some (xs ++ zs) else none) Q
  | _ => False
theorem mth_extend {X : Cx} : Mth X "list" "extend" "list.extend" isLst rExt where
  pa := PySem.F.plainAttrs_list
  slot := PySem.F.slot_list_extend
  ty := PySem.F.type_list_extend
  ex := ⟨_, mt_extend, fun o ws v vs G H Q tv tvs r q => by
    unfold rExt at q
    split at q
    · obtain ⟨a, xs, ys, rfl, e, e2, q⟩ := chgL_of q
      obtain ⟨zs, e3, e4⟩ := Option.bind_eq_some_iff.mp e2
      split at e4
      · rename_i hlen
        cases e4
        cases tv
        cases tvs with
        | cons ty t =>
          cases t
          obtain ⟨us, e1, l⟩ := r a _ e
          obtain ⟨b, ws', rfl, _, _, e5, l5⟩ := lstAt_tr r ty e3
          exact ⟨a, b, us, ws', rfl, rfl, e1, e5, by rw [l.length, l5.length]; exact hlen, q _ _ (Mono.lst e1 _) .non (r.chg e1 (l.append l5))⟩
      · cases e4
    · exact q.elim⟩
  pr := fun o v G H t r h => isLst_ty t r h
  m := fun o ws G Q Q' h q => by
    unfold rExt at q ⊢
    split at q
    · exact chgL_M h q
    · exact q.elim
end L3
namespace L3
open PySem PySem.Spec PyProof.Rows L2
variable {K : PySem.W.Frag} {H H' H2 : Hp}
section
variable {P : Program} {w : World} {mg : Str → Option Value} {base : Heap} {N : List Str} {qual : Str} {scope : Scope} {f : Addr} {cd : Value} {A : Around} {outer : List Env} {s : Shared} {E : XK} {Pb : Hp → Prop}
end
section
variable {X : Cx} {e : Expr} {es : List Expr} {pos p : Pos} {gs : GA}
end
noncomputable def tyN (w : W) (G : Hw) : Option String := match w with
  | .non => some "NoneType"
  | .bl _ => some "bool"
  | .int _ => some "int"
  | .str _ => some "str"
  | .tup _ => some "tuple"
  | .rol _ => some "list"
  | .ref a => (match G a with | some (.lst _) => some "list" | _ => none)
noncomputable def isiB (n T : String) : Bool := n == T || (n == "bool" && T == "int")
theorem kit_tab {n T : String} (hn : n ∈ ["NoneType", "bool", "int", "str", "tuple", "list"]) (hT : T ∈ ["tuple", "list", "str", "int", "bool", "dict"]) : PySem.W.kitOne K (.type n) (.type T) = some (isiB n T) := by
  simp only [List.mem_cons, List.not_mem_nil, or_false] at hn hT
  rcases hn with rfl | rfl | rfl | rfl | rfl | rfl <;> rcases hT with rfl | rfl | rfl | rfl | rfl | rfl <;> kernel_rfl
noncomputable def gIsiT (T : String) (ge : GE) : GE := fun ω G Q => ge ω G fun w G1 => match tyN w G1 with | some n => Q (.bl (isiB n T)) G1 | none => False
theorem gIsiT_M {T : String} {ge : GE} (m : ge.M) : GE.M (gIsiT T ge) := fun ω G Q Q' h q => m _ _ _ _ (fun w G1 z => by
  cases e : tyN w G1 with
  | none => rw [e] at z; exact z
  | some n => rw [e] at z; exact h _ _ z) q
theorem isi_at {X : Cx} {pins : List (Addr × Obj)} {σ : St} {s : Shared} {v : V} {u : Value} {w : W} {G : Hw} {n T : String} {Q : Value → Shared → Prop} {E : Value → Shared → Prop} (I : Inv X pins σ H s) (rv : RelV v u) (t : Tr X.K H v w) (r : RelH X.K H G) (e : tyN w G = some n)
    (hT : T ∈ ["tuple", "list", "str", "int", "bool", "dict"]) (h : ∀ tk, Q (.bool (isiB n T)) { s with toks := tk }) : wpAny (model X.prog X.w) X.A (call (.builtin "isinstance") [u, .type T]) Q E s := by
  cases t with
  | non => cases e; cases (show u = Value.none from rv); exact PySem.W.kia_one PySem.W.kitx_none I.kIn True.intro (kit_tab (by simp) hT) (fun z => nomatch z) h
  | bl y => cases e; cases (show u = Value.bool y from rv); exact PySem.W.kia_one PySem.W.kitx_bool I.kIn True.intro (kit_tab (by simp) hT) (fun z => nomatch z) h
  | int i => cases e; obtain ⟨t, rfl⟩ := rv; exact PySem.W.kia_one PySem.W.kitx_int I.kIn True.intro (kit_tab (by simp) hT) (fun z => nomatch z) h
  | str y => cases e; obtain ⟨t, rfl⟩ := rv; exact PySem.W.kia_one PySem.W.kitx_str I.kIn True.intro (kit_tab (by simp) hT) (fun z => nomatch z) h
  | tup hq l =>
    cases e
    cases rv
    obtain ⟨its, _, p, _⟩ := I.tuple hq
    obtain ⟨o, h1, h2, _⟩ := p
    exact PySem.W.kia_one PySem.W.kitx_tuple I.kIn ⟨o, h1, h2⟩ (kit_tab (by simp) hT) (fun z => nomatch z) h
  | rol hq l =>
    cases e
    cases rv
    obtain ⟨its, _, p, _⟩ := I.list hq.sq
    obtain ⟨o, h1, h2, _⟩ := p.isList
    exact PySem.W.kia_one PySem.W.kitx_list I.kIn ⟨o, h1, h2⟩ (kit_tab (by simp) hT) (fun z => nomatch z) h
  | ref a =>
    unfold tyN at e
    dsimp only at e
    cases ea : G a with
    | none => rw [ea] at e; cases e
    | some o =>
      rw [ea] at e
      cases o with
      | exc C => cases e
      | ins C fs => cases e
      | dct kvs => cases e
      | lst xs =>
        cases e
        cases rv
        obtain ⟨vs, e1, _⟩ := r a _ ea
        obtain ⟨its, _, p, _⟩ := I.list (SqL.of e1)
        obtain ⟨o, h1, h2, _⟩ := p.isList
        exact PySem.W.kia_one PySem.W.kitx_list I.kIn ⟨o, h1, h2⟩ (kit_tab (by simp) hT) (fun z => nomatch z) h
theorem boot_isi : bootBuiltins "isinstance" = some (.builtin "isinstance") := by decide +kernel
section
variable {X : Cx} {e : Expr} {p pc pos : Pos} {ge : GE}
/-- isinstance(e, T), T a type of the language's own -/
theorem em_isiT {c : Str} {T : String} (hT : T ∈ ["tuple", "list", "str", "int", "bool", "dict"]) (hv : bootBuiltins c = some (.type T)) (hmc : X.mg c = none) (hmi : X.mg "isinstance" = none) (hgi : Gl X "isinstance") (hgc : Gl X c) (hn : c ≠ "__name__") (hd : (c == ("__debug__" : Str)) = false)
    (he : starEach [e, .Name c pc] X.env = [(false, eval e X.env), (false, eval (.Name c pc) X.env)]) (he2 : starEach [.Name c pc] X.env = [(false, eval (.Name c pc) X.env)]) (h : Em X e ge) : Em X (.Call (.Name "isinstance" p) [e, .Name c pc] [] pos) (gIsiT T ge) := by
  refine ⟨fun pins s σ H Q I zz3 => ?_, gIsiT_M h.m⟩
  obtain ⟨ω, G, ts, r, q⟩ := zz3
  have pa : PA X [e, .Name c pc] (tCons (up X.K ge) (tCons (tC (.ty T)) tNil)) := pa_cons h.p (pa_cons (pe_bltn hgc hmc hv rfl hn hd) pa_nil (by rw [he2]; rfl)) (by rw [he, he2])
  refine wpAny_Call_Name_kw (ld_blt I hgi hmi boot_isi ?_ (by decide) (by decide))
  refine PyProof.Rows.callWith_builtin1 (thn (pa pos pins s σ H (fun vs H1 => ∃ v w G1 n, vs = [v, .ty T] ∧ Tr X.K H1 v w ∧ RelH X.K H1 G1 ∧ tyN w G1 = some n ∧ Q (.bl (isiB n T)) H1) I ?_) fun us s1 ⟨vs, H1, I1, r1, v, w, G1, n, e1, tv, rr, ey, qq⟩ => ?_) (by rw [he, he2]) (by rw [he2]; rfl)
  · refine ⟨ω, G, ts, r, h.m _ _ _ _ (fun w G1 z v H1 m t r1 => ?_) q⟩
    cases ey : tyN w G1 with
    | none => rw [ey] at z; exact z.elim
    | some n => rw [ey] at z; exact ⟨v, w, G1, n, rfl, t, r1, ey, z _ H1 m (.bl _) r1⟩
  · subst e1
    obtain ⟨u, u2, rfl, rv, rt⟩ := vals2 r1
    cases rt
    exact isi_at I1 rv tv rr ey hT fun tk => ⟨.bl _, H1, I1.tok tk, rfl, qq⟩
end
structure XCls (K : PySem.W.Frag) (C : Addr) : Prop where
  ga : PySem.W.findIn K (.ref C) "__getattribute__" = some (some (.builtin "BaseException.__getattribute__"))
  gh : PySem.W.findIn K (.ref C) "__getattr__" = some none
  cl : (PySem.W.clsIn K C).isSome = true
  fc : PySem.W.findIn K (.ref C) "__class__" = some (some (.builtin "object.__class__"))
  sp : PySem.W.specialIn K (.builtin "object.__class__") "__get__" = some (some (.builtin "getset_descriptor.__get__"))
  tk : PySem.W.takesIn K (.builtin "object.__class__") = some true
  mr : PySem.W.mroIn K C (.type "object") = some true
  mb : PySem.W.mroIn K C (.type "BaseException") = some true
end L3
set_option Elab.async false
set_option linter.all false
set_option maxRecDepth 100000
set_option maxHeartbeats 2000000
namespace L3
open PySem PySem.W PySem.Spec PySem.Calls PyProof.Rows PySem.Builtin PySem.Builtin.ObjectAttr PySem.Builtin.Getset_descriptor
section
variable {prog : Program} {w : World} {A : Around} {E : Value → Shared → Prop} {s : Shared} {K : Frag} {x C : Addr} {name : Str}
end
end L3
namespace L3
open PySem PySem.Spec PyProof.Rows L2
variable {K : PySem.W.Frag} {H H' H2 : Hp}
/-- isinstance(e, c), e a held exception, c a class (an own one, or one of the language's) -/
noncomputable def gIsiX (K : PySem.W.Frag) (cv : Value) (ge : GE) : GE := fun ω G Q => ge ω G fun w G1 => match w with
  | .ref a => (match G1 a with | some (.exc C) => ∃ b, XCls K C ∧ PySem.W.kitOne K (.ref C) cv = some b ∧ Q (.bl b) G1 | _ => False)
  | _ => False
section
variable {X : Cx} {e : Expr} {p pc pos : Pos} {ge : GE}
end
theorem walk_range {n : Nat} {gd : Hw → Prop} {H1 : Hp} : Walk K H1 (Itr 0 n) ((List.range n).map fun i : Nat => W.int i) gd where
  go := fun i H G m r g hi => by show i < n; simpa using hi
  yld := fun i H G x H' m r g y hi => by
    obtain ⟨e, ex⟩ := y
    subst ex
    have hn : i < n := by simpa using hi
    refine yld_same r e ⟨.int i, by simp [hn], ?_⟩
    rw [Int.zero_add]; exact .int _
  stop := fun H G m r g => by show n ≤ _; simp
noncomputable def gRange (gs : GA) : GI := fun ω G R => gs ω G fun ws G1 => match ws with
  | [.int j] => -(2 ^ 62) ≤ j ∧ j < 2 ^ 62 ∧ R ((List.range j.toNat).map fun i : Nat => W.int i) yes G1
  | _ => False
theorem gRange_M {gs : GA} (m : gs.M) : GI.M (gRange gs) := fun ω G R R' h q => m _ _ _ _ (fun ws G1 z => by
  split at z
  · exact ⟨z.1, z.2.1, h _ _ _ z.2.2⟩
  · exact z.elim) q
theorem im_range {X : Cx} {tg a : Expr} {p pos : Pos} {gs : GA} (hm : X.mg "range" = none) (hg : Gl X "range") (hs : starEach [a] X.env = [(false, eval a X.env)]) (ha : Am X [a] gs) : Im X tg (.Call (.Name "range" p) [a] [] pos) (gRange gs) := by
  refine ⟨⟨_, pi_range1 hg hm ha.p hs, fun σ H ω G R R0 ts r q k => ⟨ω, G, ts, r, ha.m _ _ _ _ (fun ws G1 z vs H1 m t r1 => ?_) q⟩⟩, gRange_M ha.m⟩
  split at z
  · cases t with
    | cons tw t => cases t; cases tw; exact ⟨_, rfl, z.1, z.2.1, k _ _ _ H1 _ z.2.2 m r1 trivial walk_range⟩
  · exact z.elim
theorem Inv.turneds {X : Cx} {pins : List (Addr × Obj)} {σ : St} {s : Shared} {h' : Heap} {t' : Nat} {fp : List Addr} (I : Inv X pins σ H s) (hf : ∀ b ∈ fp, FpOk X pins H b) (k : ∀ b o, b ∉ fp → s.heap.get? b = some o → h'.get? b = some o) : Inv X pins σ H { s with heap := h', toks := t' } := by
  have nit : ∀ b u, H b = some u → b ∉ fp := fun b u e z => by rw [(hf b z).1] at e; cases e
  refine I.step (g' := s.gens) (d' := s.drawn) (ch := fp) (fun b hb => ⟨(hf b hb).2.2.2.1, (hf b hb).2.1, (hf b hb).2.2.2.2.1, (hf b hb).2.2.2.2.2⟩) (fun b o _ _ hc e _ => k b o hc e) (fun b o _ _ hc e _ => ⟨o.slots, k b o hc e⟩) (fun _ _ _ _ n => n)
    (fun b o hc e => ⟨o, k b o hc e⟩) (fun _ _ e => e) (fun _ _ _ e => e) (fun b ps e => ⟨#[], by rw [e]; simp⟩) (fun m hm => ?_) (fun b u e => ?_) I.bare
  · obtain ⟨o, es, ep, ho, r⟩ := hm
    exact ⟨o, es, ep, k _ o (fun z => (hf _ z).2.1 rfl) ho, r⟩
  · refine (I.hok b u e).stay (fun c v hc q => k c v ?_ q) (fun _ q => q) fun _ _ q => q
    rcases hc with z | z
    · rw [z]; exact nit b u e
    · exact nit c _ z
noncomputable def Itz (K : PySem.W.Frag) (l1 l2 : Addr) : It :=
  ⟨fun i H => ∃ xs ys, SqL K H l1 xs ∧ SqL K H l2 ys ∧ i < xs.length ∧ i < ys.length,
   fun i H v H' => ∃ T x y, H T = none ∧ v = .ref T ∧ H' = upd H T (.tup [x, y]) ∧ ∀ xs ys, SqL K H l1 xs → SqL K H l2 ys → xs[i]? = some x ∧ ys[i]? = some y,
   fun i H => ∃ xs ys, SqL K H l1 xs ∧ SqL K H l2 ys ∧ i = min xs.length ys.length⟩
theorem turn_zip {P : Program} {w : World} {elts : List Expr} {k : Nat} {tpos : Pos} {z TI TO i1 i2 l1 l2 : Addr} (D : ZipApart z TI TO i1 i2 l1 l2) :
    Turn P w K (.Tuple elts k tpos) (Itz K l1 l2) [z, TI, TO, i1, i2] z (fun i h => IsZip h z TI TO .none ∧ IsPair h TI (.ref i1) (.ref i2) ∧ (∃ a b, IsPair h TO a b) ∧ h.IsListIter i1 l1 i ∧ h.IsListIter i2 l2 i) where
  mem := by simp
  obj := fun i h st b hb => by
    obtain ⟨hz, hTI, ⟨a, c, hTO⟩, ⟨o1, e1, _, d1⟩, ⟨o2, e2, _, d2⟩⟩ := st
    simp only [List.mem_cons, List.not_mem_nil, or_false] at hb
    rcases hb with rfl | rfl | rfl | rfl | rfl
    · exact ⟨_, hz, fun v z => by cases z⟩
    · exact ⟨_, hTI, fun v z => by cases z⟩
    · exact ⟨_, hTO, fun v z => by cases z⟩
    · exact ⟨o1, e1, fun v z => by rw [d1] at z; cases z⟩
    · exact ⟨o2, e2, fun v z => by rw [d2] at z; cases z⟩
  keep := fun i h h' st kk => by
    obtain ⟨hz, hTI, ⟨a, c, hTO⟩, h1, h2⟩ := st
    exact ⟨kk z (by simp) _ hz, kk TI (by simp) _ hTI, ⟨a, c, kk TO (by simp) _ hTO⟩, h1.at fun o e => kk i1 (by simp) o e, h2.at fun o e => kk i2 (by simp) o e⟩
  item := by
    intro X hP hw hK hc i pins s σ H E I hf st hg
    subst hP hw hK
    obtain ⟨xs, ys, hx, hy, hix, hiy⟩ := hg
    obtain ⟨its1, r1, pl1, z1⟩ := I.list hx
    obtain ⟨its2, r2, pl2, z2⟩ := I.list hy
    have n1 := r1.length
    have n2 := r2.length
    obtain ⟨hz, hTI, hTO, h1, h2⟩ := st
    have Wk := WalksT.zip2 (prog := X.prog) (w := X.w) (A := X.A) (I.ok.hd hc) z TI TO i1 i2 l1 l2 D its1.toArray its2.toArray
    refine Wk.item i s _ _ (by simp only [List.size_toArray]; omega) ⟨hz, hTI, hTO, h1, h2, pl1.isList, pl2.isList⟩ fun T vals h' tk hPt hT hTup hMid hk => ⟨.ref T, rfl, ?_⟩
    refine Wk.go elts k tpos i T _ _ _ hMid fun h2' st2 hk2 => ?_
    obtain ⟨v1, v2, g1, g2, rfl⟩ := hPt
    have g1' : its1[i]? = some v1 := by simpa using g1
    have g2' : its2[i]? = some v2 := by simpa using g2
    have gx : xs[i]? = some xs[i] := List.getElem?_eq_getElem hix
    have gy : ys[i]? = some ys[i] := List.getElem?_eq_getElem hiy
    obtain ⟨u1, q1, rv1⟩ := r1.get gx
    obtain ⟨u2, q2, rv2⟩ := r2.get gy
    rw [g1'] at q1; cases q1
    rw [g2'] at q2; cases q2
    have hw1 : ∀ b, b ∉ [z, TI, TO, i1, i2] → b ∉ [z, TO, i1, i2] := fun b hb hc => hb (by
      simp only [List.mem_cons, List.not_mem_nil, or_false] at hc ⊢
      rcases hc with h | h | h | h <;> simp [h])
    have I1 : Inv X pins σ H { s with heap := h2', toks := tk } := Inv.turneds I hf fun b o hb e => hk2 b o (hw1 b hb) (hk b o (hw1 b hb) e)
    have hTn : H T = none := I.hok.fresh hT
    have hTup2 : IsTup h2' T #[v1, v2] := by
      obtain ⟨o, e, c, m, d⟩ := hTup
      exact ⟨o, hk2 _ _ (Wk.apart _ _ _ hMid) e, c, m, d⟩
    have lt : ∀ {b : Addr} {o : Obj}, s.heap.get? b = some o → b ≠ T := fun e q => absurd (Nat.lt_of_lt_of_le (Heap.lt_size e) hT) (by rw [q]; exact Nat.lt_irrefl _)
    have I2 : Inv X pins σ (upd H T (.tup [xs[i], ys[i]])) { s with heap := h2', toks := tk } := by
      refine I1.track hTn ?_ (fun x c e => ?_) (fun p hp => ?_) ?_ ⟨by show 2 ≤ sizeLine; decide, [v1, v2], .cons rv1 (.cons rv2 .nil), hTup2⟩
      · obtain ⟨m, ⟨o, es, ep, ho, _⟩, _⟩ := I.loc
        exact Ne.symm (lt ho)
      · obtain ⟨v, o, ho, _⟩ := I.cell x c e
        exact lt ho
      · exact lt (I.pin p hp).1
      · cases e : X.s₀.heap.get? T with
        | none => rfl
        | some o => exact absurd (Nat.lt_of_lt_of_le (Heap.lt_size e) (Nat.le_trans I.sz hT)) (Nat.lt_irrefl _)
    refine ⟨.ref T, _, I2, rfl, ⟨T, _, _, hTn, rfl, rfl, fun xs' ys' hx' hy' => ?_⟩, ⟨st2.1, st2.2.1, st2.2.2.1, st2.2.2.2.1, st2.2.2.2.2.1⟩, fun b hb => ?_⟩
    · rw [I.list_inj hx' hx, I.list_inj hy' hy]; exact ⟨gx, gy⟩
    · have hb' := (hf b hb).1
      have : b ≠ T := by
        obtain ⟨o, e, _⟩ : ∃ o, s.heap.get? b = some o ∧ True := by
          obtain ⟨a, c, hTO'⟩ := hTO
          obtain ⟨o1, e1, _⟩ := h1
          obtain ⟨o2, e2, _⟩ := h2
          simp only [List.mem_cons, List.not_mem_nil, or_false] at hb
          rcases hb with rfl | rfl | rfl | rfl | rfl
          · exact ⟨_, hz, trivial⟩
          · exact ⟨_, hTI, trivial⟩
          · exact ⟨_, hTO', trivial⟩
          · exact ⟨_, e1, trivial⟩
          · exact ⟨_, e2, trivial⟩
        exact lt e
      rw [upd_ne this]; exact hb'
  done := by
    intro X hP hw hK hc i pins s σ H E I hf st hg
    subst hP hw hK
    obtain ⟨xs, ys, hx, hy, hi⟩ := hg
    obtain ⟨its1, r1, pl1, z1⟩ := I.list hx
    obtain ⟨its2, r2, pl2, z2⟩ := I.list hy
    have n1 := r1.length
    have n2 := r2.length
    obtain ⟨hz, hTI, hTO, h1, h2⟩ := st
    have Wk := WalksT.zip2 (prog := X.prog) (w := X.w) (A := X.A) (I.ok.hd hc) z TI TO i1 i2 l1 l2 D its1.toArray its2.toArray
    have hi' : i = min its1.toArray.size its2.toArray.size := by simp only [List.size_toArray]; omega
    subst hi'
    refine Wk.done s _ _ ⟨hz, hTI, hTO, h1, h2, pl1.isList, pl2.isList⟩ fun h' tk hk => ⟨rfl, Inv.turneds I hf fun b o hb e => hk b o (fun hc => hb ?_) e⟩
    simp only [List.mem_cons, List.not_mem_nil, or_false] at hc ⊢
    rcases hc with h | h | h | h <;> simp [h]
  self := fun A i s Q E st h => wpAny_pyIter_zip st.1 h
noncomputable def iZip (K : PySem.W.Frag) (ta : TA) : TI := fun σ H R => ta σ H fun vs H1 => ∃ a b xs ys, vs = [.ref a, .ref b] ∧ SqL K H1 a xs ∧ SqL K H1 b ys ∧ R (Itz K a b) H1
theorem pi_zip {X : Cx} {a b : Expr} {ta : TA} {p pos tpos : Pos} {elts : List Expr} {k : Nat} (hg : Gl X "zip") (hm : X.mg "zip" = none) (ha : PA X [a, b] ta) (hs : starEach [a, b] X.env = [(false, eval a X.env), (false, eval b X.env)]) (hs2 : starEach [b] X.env = [(false, eval b X.env)]) :
    PI X (.Tuple elts k tpos) (.Call (.Name "zip" p) [a, b] [] pos) (iZip X.K ta) := by
  intro pins s σ H R I h
  refine Call_ (ld_blt I hg hm boot_zip (PyProof.Rows.callWith_type1 (thn (ha pos pins s σ H _ I h) fun us s1 zz2 => ?_) (by rw [hs, hs2]) (by rw [hs2]; rfl)))
  obtain ⟨vs, H1, I1, r1, q1⟩ := zz2
  obtain ⟨l1, l2, xs, ys, e, hx, hy, q⟩ := q1
  subst e
  obtain ⟨u, u2, rfl, ru, ru2⟩ := vals2 r1
  cases ru
  cases ru2
  obtain ⟨its1, _, pl1, _⟩ := I1.list hx
  obtain ⟨its2, _, pl2, _⟩ := I1.list hy
  have a1 : l1 < s1.heap.objs.size := by obtain ⟨_, e, _⟩ := pl1.isList; exact Heap.lt_size e
  have a2 : l2 < s1.heap.objs.size := by obtain ⟨_, e, _⟩ := pl2.isList; exact Heap.lt_size e
  refine call_zip_2 pl1.isList pl2.isList fun h' hz hTI hTO hi1 hi2 hsz hk => wpAny_pyIter_zip hz ?_
  refine ⟨_, _, _, _, H1, rfl, I1.kept (t' := s1.toks) hk, turn_zip (zipApart_new a1 a2), ⟨hz, hTI, ⟨_, _, hTO⟩, hi1, hi2⟩, fun b hb => ?_, q⟩
  have hge : s1.heap.objs.size ≤ b := by
    simp only [List.mem_cons, List.not_mem_nil, or_false] at hb
    rcases hb with rfl | rfl | rfl | rfl | rfl
    · exact Nat.le_add_right _ 4
    · exact Nat.le_add_right _ 2
    · exact Nat.le_add_right _ 3
    · exact Nat.le_refl _
    · exact Nat.le_add_right _ 1
  exact I1.fpOk hge (I1.hok.fresh hge)
/-- a list that may be read -/
noncomputable def rdL (G : Hw) (w : W) : Option (List W) := match w with
  | .rol xs => some xs
  | .ref a => (match G a with | some (.lst xs) => some xs | _ => none)
  | _ => none
theorem rdL_tr {G : Hw} {w : W} {xs : List W} {v : V} (r : RelH K H G) (t : Tr K H v w) (e : rdL G w = some xs) : ∃ a vs, v = .ref a ∧ SqL K H a vs ∧ TrL K H vs xs := by
  cases t with
  | rol h l => cases e; exact ⟨_, _, rfl, h.sq, l⟩
  | ref a =>
    unfold rdL at e; dsimp only at e
    cases z : G a with
    | none => rw [z] at e; cases e
    | some o =>
      rw [z] at e
      cases o with
      | lst ys => cases e; obtain ⟨vs, e1, t1⟩ := r a _ z; exact ⟨a, vs, rfl, SqL.of e1, t1⟩
      | exc C => cases e
      | ins C fs => cases e
      | dct kvs => cases e
  | _ => cases e
noncomputable def zipW : List W → List W → List W
  | x :: xs, y :: ys => .tup [x, y] :: zipW xs ys
  | _, _ => []
theorem zipW_len : ∀ (xs ys : List W), (zipW xs ys).length = min xs.length ys.length
  | [], _ => by simp [zipW]
  | _ :: _, [] => by simp [zipW]
  | _ :: xs, _ :: ys => by simp only [zipW, List.length_cons, zipW_len xs ys]; omega
theorem zipW_get : ∀ (xs ys : List W) (i : Nat) {x y : W}, xs[i]? = some x → ys[i]? = some y → (zipW xs ys)[i]? = some (.tup [x, y])
  | [], _, _, _, _, h, _ => by simp at h
  | _ :: _, [], _, _, _, _, h => by simp at h
  | a :: xs, b :: ys, 0, x, y, h, h' => by simp at h h'; subst h; subst h'; rfl
  | a :: xs, b :: ys, i + 1, x, y, h, h' => by
    have := zipW_get xs ys i (x := x) (y := y) (by simpa using h) (by simpa using h')
    simpa [zipW] using this
noncomputable def gZip (gs : GA) : GI := fun ω G R => gs ω G fun ws G1 => match ws with
  | [x, y] => (match rdL G1 x, rdL G1 y with
    | some xs, some ys => R (zipW xs ys) (fun G => rdL G x = some xs ∧ rdL G y = some ys) G1
    | _, _ => False)
  | _ => False
theorem gZip_of {gs : GA} {R : List W → (Hw → Prop) → Hw → Prop} {ws : List W} {G1 : Hw} (z : match ws with
  | [x, y] => (match rdL G1 x, rdL G1 y with
    | some xs, some ys => R (zipW xs ys) (fun G => rdL G x = some xs ∧ rdL G y = some ys) G1
    | _, _ => False)
  | _ => False) : ∃ x y xs ys, ws = [x, y] ∧ rdL G1 x = some xs ∧ rdL G1 y = some ys ∧ R (zipW xs ys) (fun G => rdL G x = some xs ∧ rdL G y = some ys) G1 := by
  split at z
  · rename_i x y
    split at z
    · rename_i xs ys e1 e2; exact ⟨x, y, xs, ys, rfl, e1, e2, z⟩
    · exact z.elim
  · exact z.elim
theorem gZip_M {gs : GA} (m : gs.M) : GI.M (gZip gs) := fun ω G R R' h q => m _ _ _ _ (fun ws G1 z => by
  obtain ⟨x, y, xs, ys, rfl, e1, e2, z⟩ := gZip_of (gs := gs) z
  dsimp only
  rw [e1, e2]
  exact h _ _ _ z) q
theorem im_zip {X : Cx} {a b : Expr} {p pos tpos : Pos} {elts : List Expr} {k : Nat} {gs : GA} (hm : X.mg "zip" = none) (hg : Gl X "zip") (hs : starEach [a, b] X.env = [(false, eval a X.env), (false, eval b X.env)]) (hs2 : starEach [b] X.env = [(false, eval b X.env)]) (ha : Am X [a, b] gs) :
    Im X (.Tuple elts k tpos) (.Call (.Name "zip" p) [a, b] [] pos) (gZip gs) := by
  refine ⟨⟨_, pi_zip hg hm ha.p hs hs2, fun σ H ω G R R0 ts r q kk => ⟨ω, G, ts, r, ha.m _ _ _ _ (fun ws G1 z vs H1 m t r1 => ?_) q⟩⟩, gZip_M ha.m⟩
  obtain ⟨x, y, xs, ys, rfl, e1, e2, z⟩ := gZip_of (gs := gs) z
  cases t with
  | cons tx t =>
    cases t with
    | cons ty t =>
      cases t
      obtain ⟨a1, us1, rfl, hq1, l1⟩ := rdL_tr r1 tx e1
      obtain ⟨a2, us2, rfl, hq2, l2⟩ := rdL_tr r1 ty e2
      refine ⟨a1, a2, us1, us2, rfl, hq1, hq2, kk _ _ _ H1 _ z m r1 ⟨e1, e2⟩ ⟨fun i H3 G3 m3 r3 g3 hi => ?_, fun i H3 G3 v H4 m3 r3 g3 y3 hi => ?_, fun H3 G3 m3 r3 g3 => ?_⟩⟩
      · obtain ⟨b1, vs1, e3, h3, t3⟩ := rdL_tr r3 (tx.mono m3) g3.1
        obtain ⟨b2, vs2, e4, h4, t4⟩ := rdL_tr r3 (ty.mono m3) g3.2
        cases e3; cases e4
        rw [zipW_len] at hi
        exact ⟨vs1, vs2, h3, h4, by rw [t3.length]; omega, by rw [t4.length]; omega⟩
      · obtain ⟨b1, vs1, e3, h3, t3⟩ := rdL_tr r3 (tx.mono m3) g3.1
        obtain ⟨b2, vs2, e4, h4, t4⟩ := rdL_tr r3 (ty.mono m3) g3.2
        cases e3; cases e4
        obtain ⟨T, v1, v2, hT, rfl, rfl, hv⟩ := y3
        obtain ⟨g1, g2⟩ := hv _ _ h3 h4
        obtain ⟨w1, q1, tw1⟩ := t3.get' g1
        obtain ⟨w2, q2, tw2⟩ := t4.get' g2
        have mn : Mono X.K H3 (upd H3 T (.tup [v1, v2])) := Mono.new hT _
        exact ⟨mn, r3.mono0 hT, _, zipW_get _ _ i q1 q2, .tup (SqT.of upd_same) (.cons (tw1.mono mn) (.cons (tw2.mono mn) .nil))⟩
      · obtain ⟨b1, vs1, e3, h3, t3⟩ := rdL_tr r3 (tx.mono m3) g3.1
        obtain ⟨b2, vs2, e4, h4, t4⟩ := rdL_tr r3 (ty.mono m3) g3.2
        cases e3; cases e4
        exact ⟨vs1, vs2, h3, h4, by rw [zipW_len, t3.length, t4.length]⟩
end L3
namespace L3
open PySem PySem.Spec PyProof.Rows L2
variable {K : PySem.W.Frag} {H H' H2 : Hp}
theorem bt_len : bootBuiltins "len" = some (.builtin "len") := by decide +kernel
theorem bt_all : bootBuiltins "all" = some (.builtin "all") := by decide +kernel
theorem bt_list : bootBuiltins "list" = some (.type "list") := by decide +kernel
theorem bt_tuple : bootBuiltins "tuple" = some (.type "tuple") := by decide +kernel
theorem bt_int : bootBuiltins "int" = some (.type "int") := by decide +kernel
theorem bt_str : bootBuiltins "str" = some (.type "str") := by decide +kernel
theorem bt_bool : bootBuiltins "bool" = some (.type "bool") := by decide +kernel
section
variable {X : Cx} {P : Hp → Prop} {a b c e : Expr} {es : List Expr} {pos pos' p : Pos} {ga gb ge : GE} {gt : GT}
theorem em_v {x : Str} {i : Nat} (hi : X.N[i]? = some x) (hv : seen X.env.scope x = true) (hd : (x == ("__debug__" : Str)) = false) (hc : (x == ("__classdict__" : Str)) = false) : Em X (.Name x pos) (gVar i) := ⟨ew_var hi (seen_vis hv) hd hc, gVar_M⟩
theorem sm_s {x : Str} {i : Nat} (hN : X.N.Nodup) (hi : X.N[i]? = some x) (hx : local? X.env.scope x = true) (hs : swapsWith e (some (.Name x pos')) pos.line X.env = pure false) (ha : Em X e ga) : Sm X P (.Assign [.Name x pos'] e pos) (gSet i ga) :=
  ⟨sw_set hN hi (.inl (local_of hx)) ha.m ha.p hs (.inr (local_of hx)), gSet_M ha.m⟩
theorem sm_a {n : Nat} {x : Str} (hN : X.N.Nodup) (hi : X.N[n]? = some x) (hx : local? X.env.scope x = true) (ha : Em X e ga) : Sm X P (.AugAssign (.Name x pos') .Add e pos) (gAug n rIAdd ga) :=
  ⟨sw_aug (OpR.or iop_add iop_add_str) rIAdd_M rIAdd_up hN hi (.inl (local_of hx)) (.inr (local_of hx)) ha.m ha.p, gAug_M rIAdd_M ha.m⟩
/-- a constant of the module -/
noncomputable def Glb (K : PySem.W.Frag) (mg : Str → Option Value) (x : Str) (w : W) : Prop := ∃ v u, mg x = some u ∧ RelV v u ∧ ∀ H, Tr K H v w
theorem em_glob {x : Str} {w : W} (h : Glb X.K X.mg x w) (hg : Gl X x) (hd : (x == ("__debug__" : Str)) = false) : Em X (.Name x pos) (gC w) :=
  let ⟨_, _, h1, h2, h3⟩ := h
  ⟨ew_glob hg h1 h2 h3 hd, gC_M⟩
structure Fm (X : Cx) (ifs : List Expr) (g : GT) : Prop where
  p : PFw X ifs g
  m : g.M
theorem fm_nil : Fm X [] gYes := ⟨fw_nil, gYes_M⟩
theorem em_comp {elt tg iter : Expr} {ifs : List Expr} {scope : Scope} {Nc : List Str} {gi : GI} {gg : GG} (hc : X.calm = true) (B : Blk X Nc scope [] (fun _ => List.replicate Nc.length none)) (hs : ∀ x, foldedSetIterable iter X.env x = pure x) (hi : Im X tg iter gi)
    (hu : TgU X Nc scope tg gg) (ht : ∀ C fp s H, Fm (cxB X Nc scope [] C fp s H) ifs gt) (he : ∀ C fp s H, Em (cxB X Nc scope [] C fp s H) elt ge) : Em X (.ListComp elt [⟨tg, iter, ifs, 0⟩] scope pos) (gComp gi Nc.length gg gt ge) :=
  have mt : gt.M := (ht 0 [] X.s₀ X.H₀).m
  have me : ge.M := (he 0 [] X.s₀ X.H₀).m
  ⟨ew_comp hc hi.p B hu mt (fun C fp s H => (ht C fp s H).p) me (fun C fp s H => (he C fp s H).p) hs, gComp_M hi.m hu.mono mt me⟩
theorem passF : PassW X (fun _ _ _ => False) := (by rintro pins σ H s ev s' I ⟨e, C, H', ee, F, C', ω, G, eC, ts, r, q⟩; exact q.elim)
theorem u100 {k : Nat} {A : Around} (hr : Room k A) : A.units + 100 < cLine := by have := hr.un; omega
end
noncomputable def tabAt : List (Str × Int) → Str → W
  | [], _ => .non
  | (x, i) :: D, z => if z = x then .int i else tabAt D z
noncomputable def TabK (mg : Str → Option Value) (base : Heap) (x : Str) (D : List (Str × Int)) : Prop := ∃ d, mg x = some (.ref d) ∧ KTD.TextTab base d (D.map fun p => (p.1, KTD.Dat.flat (.int p.2)))
theorem tabAt_some : ∀ {D : List (Str × Int)} {z : Str} {d : KTD.Dat}, KTD.datumAt z (D.map fun p => (p.1, KTD.Dat.flat (.int p.2))) = some d → ∃ i, d = .flat (.int i) ∧ tabAt D z = .int i
  | [], _, _, h => by cases h
  | (x, i) :: D, z, d, h => by
    have h' : (if decide (z = x) = true then some (KTD.Dat.flat (.int i)) else KTD.datumAt z (D.map fun p => (p.1, KTD.Dat.flat (.int p.2)))) = some d := h
    unfold tabAt
    by_cases hx : z = x
    · rw [if_pos (decide_eq_true hx)] at h'
      cases h'
      exact ⟨i, rfl, if_pos hx⟩
    · rw [if_neg (by simpa using hx)] at h'
      rw [if_neg hx]
      exact tabAt_some h'
theorem tabAt_none : ∀ {D : List (Str × Int)} {z : Str}, KTD.datumAt z (D.map fun p => (p.1, KTD.Dat.flat (.int p.2))) = none → tabAt D z = .non
  | [], _, _ => rfl
  | (x, i) :: D, z, h => by
    have h' : (if decide (z = x) = true then some (KTD.Dat.flat (.int i)) else KTD.datumAt z (D.map fun p => (p.1, KTD.Dat.flat (.int p.2)))) = none := h
    unfold tabAt
    by_cases hx : z = x
    · rw [if_pos (decide_eq_true hx)] at h'; cases h'
    · rw [if_neg (by simpa using hx)] at h'
      rw [if_neg hx]
      exact tabAt_none h'
noncomputable def gTabGet (D : List (Str × Int)) (gk : GE) : GE := fun ω G Q => gk ω G fun w G1 => match w with | .str z => Q (tabAt D z) G1 | _ => False
theorem em_tabGet {X : Cx} {x : Str} {D : List (Str × Int)} {e : Expr} {p0 apos cpos : Pos} {gk : GE} (h : TabK X.mg X.base x D) (hg : Gl X x) (hd : (x == ("__debug__" : Str)) = false) (hbase : attributeBase (.Name x p0) "get" X.env (eval (.Name x p0) X.env) = eval (.Name x p0) X.env)
    (hfew : ((backTo cpos (starEach [e] X.env)).all (fun x => !x.1) && (backToKw cpos (keywordEach [] X.env)).all (fun x => x.1.isSome) && decide ([e].length + ([] : List Keyword).length + (if ([] : List Keyword).isEmpty then 0 else 1) < 30)) = true)
    (hline : (apos.endLine == cpos.line) = true) (hs : starEach [e] X.env = (false, eval e X.env) :: starEach [] X.env) (hplain : (backTo cpos (starEach [] X.env)).any (·.1) = false) (hk : Em X e gk) :
    Em X (.Call (.Attribute (.Name x p0) "get" apos) [e] [] cpos) (gTabGet D gk) := by
  refine ⟨fun pins s σ H Q I ⟨ω, G, ts, r, q⟩ => ?_, fun ω G Q Q' hh q => hk.m _ _ _ _ (fun w G1 z => by cases w <;> first | exact hh _ _ z | exact z) q⟩
  obtain ⟨d, hm, T⟩ := h
  have here : KTD.Here X.base s.heap d (D.map fun p => (p.1, KTD.Dat.flat (.int p.2))) := ⟨T, I.bk⟩
  refine wpAny_Call_method_late hbase hfew hline rfl (ld_glob I hg hm ⟨"dict", "dict.get", PySem.F.plainAttrs_dict, PySem.F.slot_dict_get, PySem.F.type_dict_get, here.typeIs, here.noDict, ?_⟩ hd)
  have pa : PA X [e] (tCons (up X.K gk) tNil) := pa_cons hk.p pa_nil hs
  have hA := pa cpos pins s σ H (fun vs H1 => ∃ z, vs = [.str z] ∧ ∀ v, Tr X.K H1 v (tabAt D z) → Q v H1) I ⟨ω, G, ts, r, hk.m _ _ _ _ (fun w G1 z v H1 m t r1 => by
    cases w with
    | str y => exact ⟨y, by rw [tr_str t], fun v tv => z v H1 m tv r1⟩
    | _ => exact z.elim) q⟩
  rw [hs] at hA ⊢
  refine Calls.callWith_builtin (by show (false || (backTo cpos (starEach [] X.env)).any (·.1)) = false; rw [hplain] <;> rfl) (Calls.evalArgs_plain ?_)
  refine thn hA fun us s2 zz1 => ?_
  obtain ⟨vs, H2, I2, r2, z, e1, q2⟩ := zz1
  subst e1
  obtain ⟨u, rfl, ru⟩ := vals1 r2
  obtain ⟨t, rfl⟩ := ru
  have here2 : KTD.Here X.base s2.heap d (D.map fun p => (p.1, KTD.Dat.flat (.int p.2))) := ⟨T, I2.bk⟩
  refine call_meetsIn PySem.F.slot_dict_get here2.typeIs PySem.F.entry_dict_get (PySem.F.args_dict_get_2 _ _) (KTD.meets_get1 (h₀ := X.base) (D := D.map fun p => (p.1, KTD.Dat.flat (.int p.2)))) ⟨here2, fun dd v ha hv => ?_, fun hn => ?_⟩
  · obtain ⟨i, rfl, e2⟩ := tabAt_some ha
    obtain ⟨t2, rfl⟩ := PyProof.V.Flat.int_inv hv
    exact ⟨.int i, H2, I2.tok _, ⟨_, rfl⟩, q2 _ (by rw [e2]; exact .int i)⟩
  · exact ⟨.non, H2, I2.tok _, rfl, q2 _ (by rw [tabAt_none hn]; exact .non)⟩
noncomputable def Fn (K : PySem.W.Frag) (mg : Str → Option Value) (st : Stmt) (x : Str) (ps : List Str) : Prop := ∃ f fd, mg x = some (.ref f) ∧ Fun K x x st f fd ∧ Binds K fd ps []
section
variable {P : Program} {w : World} {mg : Str → Option Value} {base : Heap}
/-- nothing raised -/
theorem mk0 {x : Str} {st : Stmt} {N ps : List Str} {k n : Nat} {sp : Spw} {g : GS} (Fx : Fn K mg st x ps) (hn : ps.length = n) (S : FnScope N ps (defScope st)) (spm : sp.M) (len : ∀ ws G Q E, sp ws G Q E → ws.length = n)
    (hg : ∀ {f : Addr} {cdv : Value} {A : Around} {outer : List Env} {s : Shared} {H : Hp} {E : XK}, Room k (A.deeper (envOfC x (defScope st) s.heap.objs.size f cdv)) → Ssm (cxW P w K mg base N x (defScope st) f cdv A outer s H E).nox (fun B => B = H) (defBody st) g)
    (ok : ∀ ws G (Q : Kw) (E : Addr → Hw → Prop), Kw.C Q → sp ws G Q E → g (endsW Q) (startW N ws) G) : Df P w K mg base x (k + 1) n sp := by
  obtain ⟨f, fd, h1, F, h3⟩ := Fx
  refine ⟨⟨f, fd, ps, h1, F.kp, h3, hn, ?_⟩, spm⟩
  obtain ⟨oc, od, kV, doc, pm, an, cdv, ct, osl, rfl, lk, hcd⟩ := F.ex
  refine fn_of lk hcd S ((by rintro vs H Q E ⟨ws, G, t, r, q⟩; rw [t.length, hn]; exact len ws G _ _ q)) fun A outer s H vs Q E hr hsp => ?_
  obtain ⟨ws, G, t, r, q⟩ := hsp
  have D := hg (cdv := cdv) (outer := outer) (H := H) (E := E) hr
  refine ⟨_, (D.p H rfl).nox, startW N ws, G, trSt_start t, r, .refl, ?_⟩
  exact D.m _ _ (endsW (dn K H Q)) _ (fun a b z σ H2 m ts r2 => z _ H2 m Tr.non r2) (fun a b z => z) (fun a b z => z.elim) (fun a b z => z.elim) (ok ws G _ _ dn_C q)
end
end L3
set_option Elab.async false
set_option linter.all false
set_option maxRecDepth 100000
set_option maxHeartbeats 4000000
namespace L3
open PySem PySem.Spec PyProof.Rows L2
/-- own places empty, then the places read from around -/
noncomputable def capO {α : Type} (n : Nat) (js : List Nat) (l : List (Option α)) : List (Option α) := List.replicate n none ++ js.map fun j => (l[j]?).getD none
theorem capO_len {α : Type} {n : Nat} {js : List Nat} {l : List (Option α)} : (capO n js l).length = n + js.length := by simp [capO]
theorem capO_get {α : Type} {n i : Nat} {js : List Nat} {l : List (Option α)} {v : α} (h : (capO n js l)[i]? = some (some v)) : ∃ m j, i = n + m ∧ js[m]? = some j ∧ l[j]? = some (some v) := by
  unfold capO at h
  by_cases hi : i < n
  · rw [List.getElem?_append_left (by simpa using hi), List.getElem?_replicate] at h
    split at h <;> cases h
  · rw [List.getElem?_append_right (by simpa using Nat.le_of_not_lt hi), List.length_replicate, List.getElem?_map] at h
    cases hj : js[i - n]? with
    | none => rw [hj] at h; cases h
    | some j =>
      rw [hj] at h
      refine ⟨i - n, j, by omega, hj, ?_⟩
      have h' : (l[j]?).getD none = some v := Option.some.inj h
      cases e : l[j]? with
      | none => rw [e] at h'; cases h'
      | some o => rw [e] at h'; exact congrArg some h'
theorem capO_put {α : Type} {n m j : Nat} {js : List Nat} {l : List (Option α)} {v : α} (h1 : js[m]? = some j) (h2 : l[j]? = some (some v)) : (capO n js l)[n + m]? = some (some v) := by
  unfold capO
  rw [List.getElem?_append_right (by simp), List.length_replicate, List.getElem?_map]
  have : n + m - n = m := by omega
  rw [this, h1]
  show some ((l[j]?).getD none) = _
  rw [h2]; rfl
theorem TrSt.cap {K : PySem.W.Frag} {H : Hp} {σ : St} {ω : Sw} (t : TrSt K H σ ω) (n : Nat) (js : List Nat) : TrSt K H (capO n js σ) (capO n js ω) := by
  refine ⟨by rw [capO_len, capO_len], fun i w e => ?_⟩
  obtain ⟨m, j, rfl, h1, h2⟩ := capO_get e
  obtain ⟨v, h3, r⟩ := t.get j w h2
  exact ⟨v, capO_put h1 h3, r⟩
/-- the cells that a block takes along -/
noncomputable def closL (env : Env) : List (Str × NameKind) → List (Str × Addr) → List (Str × Addr)
  | [], cs => cs
  | (n, k) :: r, cs => closL env r (if k = .free then (n, (env.cells.lookup n).getD 0) :: cs else cs)
theorem closL_eq {env : Env} : ∀ (l : List (Str × NameKind)) (cs : List (Str × Addr)), (∀ y ∈ l, y.2 = .free → ∃ c, env.cells.lookup y.1 = some c) →
    (forIn l cs fun (x : Str × NameKind) r => if (x.2 == NameKind.free) = true then do let c ← cellOf env x.1; pure (ForInStep.yield ((x.1, c) :: r)) else pure (ForInStep.yield r) : Sem (List (Str × Addr))) = pure (closL env l cs)
  | [], cs, _ => by simp [closL]
  | (n, k) :: r, cs, h => by
    have ih := fun cs => closL_eq r cs fun y hy => h y (List.mem_cons_of_mem _ hy)
    rw [List.forIn_cons]
    by_cases hk : k = .free
    · obtain ⟨c, hc⟩ := h (n, k) List.mem_cons_self hk
      subst hk
      have e : cellOf env n = pure c := by unfold cellOf; rw [hc]
      simp only [beq_self_eq_true, if_true, e, pure_bind, closL, hc, Option.getD_some]
      exact ih _
    · have : (k == NameKind.free) = false := by simpa using hk
      simp only [this, Bool.false_eq_true, if_false, pure_bind, closL, hk]
      exact ih _
theorem closL_mem {env : Env} {y : Str} {c : Addr} : ∀ (l : List (Str × NameKind)) (cs : List (Str × Addr)), (closL env l cs).lookup y = some c → cs.lookup y = some c ∨ ((y, NameKind.free) ∈ l ∧ c = (env.cells.lookup y).getD 0)
  | [], cs, h => .inl h
  | (n, k) :: r, cs, h => by
    rcases closL_mem r _ h with q | ⟨q1, q2⟩
    · split at q
      · rename_i hk
        subst hk
        rw [List.lookup_cons] at q
        split at q
        · rename_i e
          have e' : y = n := beq_iff_eq.mp e
          subst e'
          exact .inr ⟨List.mem_cons_self, (Option.some.inj q).symm⟩
        · exact .inl q
      · exact .inl q
    · exact .inr ⟨List.mem_cons_of_mem _ q1, q2⟩
theorem closL_keep {env : Env} {y : Str} : ∀ (l : List (Str × NameKind)) (cs : List (Str × Addr)), (∃ c, cs.lookup y = some c) → ∃ c, (closL env l cs).lookup y = some c
  | [], cs, h => h
  | (n, k) :: r, cs, h => closL_keep r _ (by
    split
    · rw [List.lookup_cons]
      split
      · exact ⟨_, rfl⟩
      · exact h
    · exact h)
theorem closL_has {env : Env} {y : Str} : ∀ (l : List (Str × NameKind)) (cs : List (Str × Addr)), (y, NameKind.free) ∈ l → ∃ c, (closL env l cs).lookup y = some c
  | [], cs, h => by cases h
  | (n, k) :: r, cs, h => by
    rcases List.mem_cons.mp h with h | h
    · cases h
      refine closL_keep r _ ⟨(env.cells.lookup y).getD 0, ?_⟩
      rw [if_pos rfl, List.lookup_cons, beq_self_eq_true]
    · exact closL_has r _ h
theorem relabel_has {scope : Scope} {env : Env} {y : Str} {k : NameKind} (nocell : ∀ z ∈ scope.names, z.2 ≠ .cell) (h : (relabel scope env).names.lookup y = some k) (hk : k = .cell ∨ k = .free) : (y, NameKind.free) ∈ scope.names := by
  have m := lookup_kind h
  unfold relabel at m
  obtain ⟨⟨n, k0⟩, hm, e⟩ := List.mem_map.mp m
  dsimp only at e
  split at e
  · rename_i hc
    cases e
    simp only [Bool.and_eq_true, beq_iff_eq] at hc
    rw [hc.1.1] at hm
    exact hm
  · cases e
    rcases hk with rfl | rfl
    · exact absurd rfl (nocell _ hm)
    · exact hm
theorem lookup_relabel_free {env : Env} (hf : env.scope.kind = .function) : ∀ {names : List (Str × NameKind)} {x : Str}, names.lookup x = some .free → env.kindOf x = some .cell →
    (names.map fun (n, k) => if (k == NameKind.free && env.scope.kind == .function && env.kindOf n == some .cell) then (n, NameKind.cell) else (n, k)).lookup x = some .cell
  | [], _, h, _ => by cases h
  | (n, k) :: r, x, h, hk => by
    rw [List.lookup_cons] at h
    rw [List.map_cons]
    split at h
    · rename_i e
      have e' : x = n := beq_iff_eq.mp e
      subst e'
      cases h
      have c : (NameKind.free == NameKind.free && env.scope.kind == ScopeKind.function && env.kindOf x == some NameKind.cell) = true := by rw [hf, hk]; rfl
      dsimp only
      rw [if_pos c, List.lookup_cons, beq_self_eq_true]
    · rename_i e
      have ih := lookup_relabel_free hf (names := r) h hk
      rw [List.lookup_cons]
      have e2 : (x == (if (k == NameKind.free && env.scope.kind == ScopeKind.function && env.kindOf n == some NameKind.cell) = true then (n, NameKind.cell) else (n, k)).1) = false := by
        split <;> exact e
      dsimp only at e2 ⊢
      split
      · rename_i e3; rw [e2] at e3; cases e3
      · exact ih
/-- a block that reads the names fr, cells of the def around -/
theorem blkC {X : Cx} {own fr : List Str} {js : List Nat} {scope scX : Scope} {n : Nat} (kind : scope.kind = .function) (names : ∀ x ∈ scope.names, x.2 = .local → scope.names.lookup x.1 = some .local) (nocell : ∀ y ∈ scope.names, y.2 ≠ .cell)
    (hf : ∀ y ∈ scope.names, y.2 = .free → y.1 ∈ fr) (hk : ∀ y ∈ fr, scope.names.lookup y = some .free) (hsc : X.env.scope = scX) (hkx : scX.kind = .function) (hce : X.env.cells = cellsFrom n scX.names []) (hx : ∀ y ∈ fr, scX.names.lookup y = some .cell)
    (hj : js.map (fun j => X.N[j]?) = fr.map some) : Blk X (own ++ fr) scope (closL X.env scope.names []) (capO own.length js) := by
  have cel : ∀ y ∈ fr, ∃ c, X.env.cells.lookup y = some c := fun y hy => by
    rw [hce]
    exact cell_has (hx y hy)
  have frl : js.length = fr.length := by have := congrArg List.length hj; simpa using this
  refine ⟨?_, kind, names, nocell, fun y c h => ?_, fun y h => ?_, fun σ i y v h1 h2 h3 => ?_, fun σ => by rw [capO_len, List.length_append, frl]⟩
  · have := closL_eq (env := X.env) scope.names [] fun y hy hy2 => cel _ (hf y hy hy2)
    unfold closureFor
    simp only [bind_pure]
    exact this
  · rcases closL_mem _ _ h with q | ⟨q1, q2⟩
    · cases q
    · obtain ⟨c', e⟩ := cel y (hf _ q1 rfl)
      rw [e] at q2 ⊢
      exact congrArg some q2.symm
  · refine closL_has _ _ ?_
    rcases h with h | h
    · exact relabel_has nocell h (.inl rfl)
    · exact relabel_has nocell h (.inr rfl)
  · obtain ⟨m, j, rfl, e1, e2⟩ := capO_get h2
    rw [List.getElem?_append_right (by omega)] at h1
    have : own.length + m - own.length = m := by omega
    rw [this] at h1
    have hy : y ∈ fr := List.mem_of_getElem? h1
    have q := congrArg (fun l => l[m]?) hj
    simp only [List.getElem?_map, e1, h1, Option.map_some] at q
    have l1 : X.env.scope.names.lookup y = some .cell := by rw [hsc]; exact hx y hy
    refine ⟨.inl (lookup_relabel_free (by rw [hsc]; exact hkx) (hk y hy) l1), .inr (.inl l1), (by rw [l1]; intro z; cases z), j, Option.some.inj q, e2⟩
noncomputable def gCompC (gi : GI) (n : Nat) (js : List Nat) (gg : GG) (gt : GT) (ge : GE) : GE := fun ω G Q => gi ω G fun ws gd G1 => goComp gd gg gt ge (fun ys G2 => ∀ p, G2 p = none → Q (.ref p) (put G2 p (.lst ys))) ws (capO n js ω) G1 []
theorem gCompC_M {gi : GI} {n : Nat} {js : List Nat} {gg : GG} {gt : GT} {ge : GE} (mi : gi.M) (mg : gg.M) (mt : gt.M) (me : ge.M) : GE.M (gCompC gi n js gg gt ge) := fun ω G Q Q' h q =>
  mi _ _ _ _ (fun ws gd G1 z => goComp_M mg mt me (fun ys G2 z p hp => h _ _ (z p hp)) _ _ _ _ z) q
theorem comp_upC {X : Cx} {n : Nat} {js : List Nat} {gi : GI} {gg : GG} {gt : GT} {ge : GE} {wi : TI} {g : TG} (hwi : ∀ (σ : St) (H : Hp) (ω : Sw) (G : Hw) (R : List W → (Hw → Prop) → Hw → Prop) (R0 : It → Hp → Prop), TrSt X.K H σ ω → RelH X.K H G → gi ω G R →
      (∀ ws gd G1 H1 J, R ws gd G1 → Mono X.K H H1 → RelH X.K H1 G1 → gd G1 → Walk X.K H1 J ws gd → R0 J H1) → wi σ H R0)
    (hgg : ∀ (x : V) (w : W) (σ : St) (ω : Sw) (H : Hp) (G : Hw) (Q : St → Hp → Prop), Tr X.K H x w → TrSt X.K H σ ω → RelH X.K H G → gg w ω G (dnS X.K H Q) → g x σ H Q) (mg : gg.M) (mt : gt.M) (me : ge.M) (σ : St) (H : Hp) (Q : VK) (h : up X.K (gCompC gi n js gg gt ge) σ H Q) :
    tComp wi (capO n js) g (upT X.K gt) (up X.K ge) σ H Q := by
  obtain ⟨ω, G, ts, r, q⟩ := h
  refine hwi σ H ω G _ _ ts r q fun ws gd G1 H1 J z m1 r1 hgd wk => ?_
  refine ⟨fun i m σ' H' vs => m = ws.length - i ∧ i ≤ ws.length ∧ Mono X.K H1 H' ∧ ∃ ω' G' ys, TrSt X.K H' σ' ω' ∧ RelH X.K H' G' ∧ TrL X.K H' vs ys ∧ goComp gd gg gt ge (fun ys G2 => ∀ p, G2 p = none → dn X.K H Q (.ref p) (put G2 p (.lst ys))) (ws.drop i) ω' G' ys,
    ⟨ws.length, by simp, Nat.zero_le _, .refl, _, G1, [], (ts.mono m1).cap n js, r1, .nil, by simpa using z⟩, ?_⟩
  rintro i m σ' H' vs ⟨rfl, hle, mm, ω', G', ys, ts', r', tv, q'⟩
  have hgd' := goComp_gd q'
  by_cases hlt : i < ws.length
  · have hw : ∃ w, ws[i]? = some w := ⟨ws[i], by simp [hlt]⟩
    obtain ⟨w0, ew0⟩ := hw
    have ed : ws.drop i = w0 :: ws.drop (i + 1) := by
      obtain ⟨h', e'⟩ := List.getElem?_eq_some_iff.mp ew0
      rw [← e']; exact List.drop_eq_getElem_cons h'
    rw [ed] at q'
    refine .inr ⟨wk.go i H' G' mm r' hgd' hlt, by rw [tv.length]; exact q'.2.1, fun σ2 H2 vs2 => Mono X.K H1 H2 ∧ ∃ ω2 G2 ys2, TrSt X.K H2 σ2 ω2 ∧ RelH X.K H2 G2 ∧ TrL X.K H2 vs2 ys2 ∧ goComp gd gg gt ge (fun ys G2 => ∀ p, G2 p = none → dn X.K H Q (.ref p) (put G2 p (.lst ys))) (ws.drop (i + 1)) ω2 G2 ys2,
      (by rintro σ2 H2 vs2 ⟨y1, y2⟩; exact ⟨ws.length - (i + 1), by omega, rfl, hlt, y1, y2⟩), fun x H2 y => ?_⟩
    obtain ⟨my, ry, w, ew, tw⟩ := wk.yld i H' G' x H2 mm r' hgd' y hlt
    have mm := mm.trans my
    have tv := tv.mono my
    rw [ew0] at ew; cases ew
    refine hgg x _ σ' ω' _ G' _ tw (ts'.mono my) ry (mg _ _ _ _ _ (fun ω1 G1' z1 σ1 H3 m3 ts3 r3 => ?_) q'.2.2)
    refine ⟨ω1, G1', ts3, r3, mt _ _ _ _ (fun b G4 z4 H4 m4 r4 => ?_) z1⟩
    cases b with
    | true => exact ⟨ω1, G4, ts3.mono m4, r4, me _ _ _ _ (fun y5 G5 z5 v5 H5 m5 t5 r5 => ⟨((mm.trans m3).trans m4).trans m5, ω1, G5, _, (ts3.mono m4).mono m5, r5, (((tv.mono m3).mono m4).mono m5).append (.cons t5 .nil), z5⟩) z4⟩
    | false => exact ⟨(mm.trans m3).trans m4, ω1, G4, _, ts3.mono m4, r4, (tv.mono m3).mono m4, z4⟩
  · have e : i = ws.length := by omega
    subst e
    rw [List.drop_length] at q'
    exact .inl ⟨wk.stop H' G' mm r' hgd', fun p hp => q'.2 p (r'.no hp) _ _ ((m1.trans mm).trans (Mono.new hp _)) (.ref p) (r'.new hp tv)⟩
/-- a target of such a block -/
structure TgC (X : Cx) (Nc : List Str) (scope : Scope) (cl : List (Str × Addr)) (tg : Expr) (gg : GG) : Prop where
  ex : ∃ g : TG, (∀ C fp s H, PG (cxB X Nc scope cl C fp s H) tg g) ∧ ∀ (x : V) (w : W) (σ : St) (ω : Sw) (H : Hp) (G : Hw) (Q : St → Hp → Prop), Tr X.K H x w → TrSt X.K H σ ω → RelH X.K H G → gg w ω G (dnS X.K H Q) → g x σ H Q
  mono : gg.M
theorem tgc_name {X : Cx} {Nc : List Str} {scope : Scope} {cl : List (Str × Addr)} {x : Str} {p : Pos} {i : Nat} (hN : Nc.Nodup) (hi : Nc[i]? = some x) (hx : scope.names.lookup x = some .local) : TgC X Nc scope cl (.Name x p) (gNm i) where
  ex := ⟨gName i, fun C fp s H => pg_name (X := cxB X Nc scope cl C fp s H) hN hi (.inl (lookup_relabel_local hx)) (.inr (lookup_relabel_local hx)), fun x w σ ω H G Q t ts r q => q _ H .refl (ts.set i t) r⟩
  mono := fun _ _ _ _ _ h q => h _ _ q
/-- three names -/
noncomputable def gNm3 (i j k : Nat) : GG := fun w ω G Q => match w with
  | .tup [a, b, c] => Q (((ω.set i (some a)).set j (some b)).set k (some c)) G
  | _ => False
theorem gNm3_M {i j k : Nat} : GG.M (gNm3 i j k) := fun w ω G Q Q' h q => by
  unfold gNm3 at q ⊢
  split
  · exact h _ _ q
  · rename_i z
    split at q
    · exact (z _ _ _ rfl).elim
    · exact q
theorem nm3_up {K : PySem.W.Frag} {i j k : Nat} (v : V) (w : W) (σ : St) (ω : Sw) (H : Hp) (G : Hw) (Q : St → Hp → Prop) (t : Tr K H v w) (ts : TrSt K H σ ω) (r : RelH K H G) (q : gNm3 i j k w ω G (dnS K H Q)) :
    L2.gTup K 3 (L2.gCons (gName i) (L2.gCons (gName j) (L2.gCons (gName k) L2.gNil))) v σ H Q := by
  unfold gNm3 at q
  split at q
  · cases t with
    | tup h l =>
      cases l with
      | cons ta l =>
        cases l with
        | cons tb l =>
          cases l with
          | cons tc l =>
            cases l
            exact ⟨_, _, rfl, h, rfl, _, _, rfl, _, _, rfl, _, _, rfl, rfl, q _ H .refl (((ts.set i ta).set j tb).set k tc) r⟩
  · exact q.elim
theorem tgc_three {X : Cx} {Nc : List Str} {scope : Scope} {cl : List (Str × Addr)} {x y z : Str} {p p' p2 pos : Pos} {n i j k : Nat} (hc : X.calm = true) (hN : Nc.Nodup) (hi : Nc[i]? = some x) (hx : scope.names.lookup x = some .local) (hj : Nc[j]? = some y) (hy : scope.names.lookup y = some .local) (hk : Nc[k]? = some z) (hz : scope.names.lookup z = some .local) :
    TgC X Nc scope cl (.Tuple [.Name x p, .Name y p', .Name z p2] n pos) (gNm3 i j k) where
  ex := ⟨L2.gTup X.K 3 (L2.gCons (gName i) (L2.gCons (gName j) (L2.gCons (gName k) L2.gNil))), fun C fp s H => pg_tup (X := cxB X Nc scope cl C fp s H) hc (pgs_cons (pg_name hN hi (.inl (lookup_relabel_local hx)) (.inr (lookup_relabel_local hx))) (pgs_cons (pg_name hN hj (.inl (lookup_relabel_local hy)) (.inr (lookup_relabel_local hy))) (pgs_cons (pg_name hN hk (.inl (lookup_relabel_local hz)) (.inr (lookup_relabel_local hz))) pgs_nil))),
    nm3_up⟩
  mono := gNm3_M
section
variable {X : Cx} {P : Hp → Prop} {e : Expr} {pos pos' : Pos} {ga ge : GE} {gt : GT}
theorem em_compC {elt tg iter : Expr} {ifs : List Expr} {scope : Scope} {Nc : List Str} {n : Nat} {js : List Nat} {cl : List (Str × Addr)} {gi : GI} {gg : GG} (hc : X.calm = true) (B : Blk X Nc scope cl (capO n js)) (hs : ∀ x, foldedSetIterable iter X.env x = pure x) (hi : Im X tg iter gi)
    (hu : TgC X Nc scope cl tg gg) (ht : ∀ C fp s H, Fm (cxB X Nc scope cl C fp s H) ifs gt) (he : ∀ C fp s H, Em (cxB X Nc scope cl C fp s H) elt ge) : Em X (.ListComp elt [⟨tg, iter, ifs, 0⟩] scope pos) (gCompC gi n js gg gt ge) := by
  have mt : gt.M := (ht 0 [] X.s₀ X.H₀).m
  have me : ge.M := (he 0 [] X.s₀ X.H₀).m
  refine ⟨?_, gCompC_M hi.m hu.mono mt me⟩
  obtain ⟨wi, hwi, hi⟩ := hi.p
  obtain ⟨g, hpg, hgg⟩ := hu.ex
  exact pe_sub (pe_comp hc hwi B hpg (fun C fp s H => (ht C fp s H).p) (fun C fp s H => (he C fp s H).p) hs) (comp_upC hi hgg hu.mono mt me)
end
end L3
namespace L3
open PySem PySem.Spec PyProof.Rows L2
theorem tg_three {X : Cx} {x y z : Str} {p p' p2 pos : Pos} {n i j k : Nat} (hc : X.calm = true) (hN : X.N.Nodup) (hi : X.N[i]? = some x) (hx : Loc X.env.scope x) (hf : X.fn x = true ∨ X.env.scope.names.lookup x = some .local)
    (hj : X.N[j]? = some y) (hy : Loc X.env.scope y) (hfy : X.fn y = true ∨ X.env.scope.names.lookup y = some .local) (hk : X.N[k]? = some z) (hz : Loc X.env.scope z) (hfz : X.fn z = true ∨ X.env.scope.names.lookup z = some .local) :
    TgW X (.Tuple [.Name x p, .Name y p', .Name z p2] n pos) (gNm3 i j k) where
  ex := ⟨_, pg_tup hc (pgs_cons (pg_name hN hi hx hf) (pgs_cons (pg_name hN hj hy hfy) (pgs_cons (pg_name hN hk hz hfz) pgs_nil))), nm3_up⟩
  mono := gNm3_M
section
variable {prog : Program} {w : World} {A : Around} {E : Value → Shared → Prop} {s : Shared}
theorem cat_tup0 {t b : Addr} {ws : List Value} {Q : Value → Shared → Prop} (ht : IsTup s.heap t #[]) (hb : IsTup s.heap b ws.toArray) (h1 : Q (.ref b) s) : wpAny (model prog w) A (binaryOp .Add (.ref t) (.ref b)) Q E s := by
  obtain ⟨⟨cls, dd, data, sl⟩, ho, hc, n, hd⟩ := id ht
  obtain ⟨⟨cls2, dd2, data2, sl2⟩, ho2, hc2, n2, hd2⟩ := id hb
  simp only at hc hd hc2 hd2
  subst hc hd hc2 hd2
  exact concat_meets ⟨_, ho, rfl⟩ ⟨_, ho2, rfl⟩ noFill_tuple_add seq_tuple_add PySem.F.slot_tuple_add PySem.F.entry_tuple_add (PySem.F.args_tuple_add_2 _ _) (tuple_addW0 t b #[] ws.toArray n n2 dd dd2 sl sl2 rfl) ⟨ho, ho2, h1⟩
end
noncomputable def rCatT0 (K : PySem.W.Frag) : R2 := fun x y H Q => ∃ a b ys, x = .ref a ∧ y = .ref b ∧ SqT K H a [] ∧ SqT K H b ys ∧ Q (.ref b) H
theorem op_catT0 {X : Cx} : OpR X (binaryOp .Add) (rCatT0 X.K) := by
  intro pins s σ H x y v u Q I rx ry h
  obtain ⟨a, b, ys, rfl, rfl, ha, hb, q⟩ := h
  cases rx
  cases ry
  obtain ⟨its, r1, p1, _⟩ := I.tuple ha
  obtain ⟨its2, r2, p2, _⟩ := I.tuple hb
  cases r1
  exact cat_tup0 p1 p2 ⟨.ref b, H, I, rfl, q⟩
/-- + of tuples too -/
noncomputable def rAddA : RW2 := fun x y G Q => match x, y with
  | .tup xs, .tup ys => xs.length + ys.length ≤ sizeLine ∧ Q (.tup (xs ++ ys)) G
  | x, y => rAdd x y G Q
theorem rAddA_tup {xs ys : List W} {G : Hw} {Q : Kw} : rAddA (.tup xs) (.tup ys) G Q = (xs.length + ys.length ≤ sizeLine ∧ Q (.tup (xs ++ ys)) G) := rfl
theorem rAddA_ne {x y : W} {G : Hw} {Q : Kw} (hb : ¬((∃ xs, x = .tup xs) ∧ ∃ ys, y = .tup ys)) : rAddA x y G Q = rAdd x y G Q := by
  cases x <;> cases y <;> first | rfl | exact absurd ⟨⟨_, rfl⟩, ⟨_, rfl⟩⟩ hb
theorem rAddA_M : RW2.M rAddA := fun x y G Q Q' h q => by
  by_cases hb : (∃ xs, x = .tup xs) ∧ ∃ ys, y = .tup ys
  · obtain ⟨⟨xs, rfl⟩, ⟨ys, rfl⟩⟩ := hb
    exact ⟨q.1, h _ _ q.2⟩
  · rw [rAddA_ne hb] at q ⊢
    exact rAdd_M _ _ _ _ _ h q
theorem op_addA {X : Cx} : OpR X (binaryOp .Add) (fun x y H Q => ((rI0 fun i j => .int (i + j)) x y H Q ∨ (∃ i j, x = .str i ∧ y = .str j ∧ i.length + j.length ≤ sizeLine ∧ Q (.str (i ++ j)) H) ∨ rCat x y H Q) ∨ rCatT0 X.K x y H Q ∨ rCatT X.K x y H Q) := OpR.or op_addw (OpR.or op_catT0 op_catT)
theorem rAddA_up {K : PySem.W.Frag} (x y : W) (v u : V) (G : Hw) (H : Hp) (Q : VK) (tx : Tr K H v x) (ty : Tr K H u y) (r : RelH K H G) (q : rAddA x y G (dn K H Q)) :
    ((rI0 fun i j => .int (i + j)) v u H Q ∨ (∃ i j, v = .str i ∧ u = .str j ∧ i.length + j.length ≤ sizeLine ∧ Q (.str (i ++ j)) H) ∨ rCat v u H Q) ∨ rCatT0 K v u H Q ∨ rCatT K v u H Q := by
  by_cases hb : (∃ xs, x = .tup xs) ∧ ∃ ys, y = .tup ys
  · obtain ⟨⟨xs, rfl⟩, ⟨ys, rfl⟩⟩ := hb
    rw [rAddA_tup] at q
    cases tx with
    | tup sa la =>
      cases ty with
      | tup sb lb =>
        rename_i a vs b us
        cases la with
        | nil => exact .inr (.inl ⟨a, b, us, rfl, rfl, sa, sb, by simpa using q.2 _ H .refl (.tup sb lb) r⟩)
        | cons t1 la =>
          refine .inr (.inr ⟨a, b, _, us, rfl, rfl, sa, sb, by simp, ?_, fun e => ?_, fun e p hp => ?_⟩)
          · rw [(TrL.cons t1 la).length, lb.length]; exact q.1
          · subst e
            cases lb
            have := q.2 (.ref a) H .refl (by simpa using Tr.tup sa (.cons t1 la)) r
            exact this
          · exact q.2 _ _ (Mono.new hp _) (.tup (SqT.of upd_same) (((TrL.cons t1 la).append lb).mono (Mono.new hp _))) (r.mono0 hp)
  · refine .inl (rAdd_up x y v u G H Q tx ty r ?_)
    rwa [rAddA_ne hb] at q
theorem em_addA {X : Cx} {a b : Expr} {ga gb : GE} {pos : Pos} (ha : Em X a ga) (hb : Em X b gb) : Em X (.BinOp a .Add b pos) (gBin rAddA ga gb) := ⟨ew_bin op_addA rAddA_M ha.m hb.m rAddA_up ha.p hb.p, gBin_M rAddA_M ha.m hb.m⟩
end L3
namespace L3
open PySem PySem.Spec PyProof.Rows L2
variable {K : PySem.W.Frag} {H H' H2 : Hp}
theorem TrP.lookup {α : Type} [BEq α] : ∀ {vs : List (α × V)} {ws : List (α × W)} {f : α} {w : W}, TrP K H vs ws → ws.lookup f = some w → ∃ v, vs.lookup f = some v ∧ Tr K H v w
  | _, _, _, _, .nil, e => by cases e
  | _, _, f, w, .cons (f := g) r t, e => by
    rw [List.lookup_cons] at e ⊢
    cases hb : f == g with
    | true => rw [hb] at e; cases e; exact ⟨_, rfl, r⟩
    | false => rw [hb] at e; exact t.lookup e
theorem TrP.lookup0 {α : Type} [BEq α] : ∀ {vs : List (α × V)} {ws : List (α × W)} {f : α}, TrP K H vs ws → ws.lookup f = none → vs.lookup f = none
  | _, _, _, .nil, e => rfl
  | _, _, f, .cons (f := g) r t, e => by
    rw [List.lookup_cons] at e ⊢
    cases hb : f == g with
    | true => rw [hb] at e; cases e
    | false => rw [hb] at e; exact t.lookup0 e
theorem TrP.length {α : Type} : ∀ {vs : List (α × V)} {ws : List (α × W)}, TrP K H vs ws → vs.length = ws.length
  | _, _, .nil => rfl
  | _, _, .cons _ t => congrArg (· + 1) t.length
noncomputable def putW (f : Str) (v : W) : List (Str × W) → List (Str × W)
  | [] => [(f, v)]
  | (g, x) :: r => if g = f then (g, v) :: r else (g, x) :: putW f v r
theorem TrP.putF {f : Str} {v : V} {w : W} (q : Tr K H v w) : ∀ {vs : List (Str × V)} {ws : List (Str × W)}, TrP K H vs ws → TrP K H (L2.putF f v vs) (putW f w ws)
  | _, _, .nil => .cons q .nil
  | _, _, .cons (f := g) r t => by
    unfold L2.putF putW
    by_cases h : g = f
    · rw [if_pos h, if_pos h]; exact .cons q t
    · rw [if_neg h, if_neg h]; exact .cons r (t.putF q)
section
variable {X : Cx} {P : Hp → Prop} {o e value : Expr} {es : List Expr} {f m : Str} {C : Addr} {pos pos' tpos apos p : Pos} {ga gv : GE} {gs : GA} {ex : Xw}
/-- e.f, an attribute of an instance of the class at C -/
noncomputable def gFld (C : Addr) (f : Str) (ga : GE) : GE := fun ω G Q => ga ω G fun x G1 => ∃ a fs v, x = .ref a ∧ G1 a = some (.ins C fs) ∧ fs.lookup f = some v ∧ Q v G1
theorem gFld_M (m : ga.M) : GE.M (gFld C f ga) := fun ω G Q Q' h q => m _ _ _ _ ((by rintro x G1 ⟨a, fs, v, h1, h2, h3, z⟩; exact ⟨a, fs, v, h1, h2, h3, h _ _ z⟩)) q
theorem em_fld (c : Cls X.K C) (n : NoAttr X.K C f) (hb : attributeBase e f X.env (eval e X.env) = eval e X.env) (he : Em X e ga) : Em X (.Attribute e f pos) (gFld C f ga) := by
  refine ⟨pe_sub (pe_fld he.p hb) fun σ H Q ⟨ω, G, ts, r, q⟩ => ⟨ω, G, ts, r, he.m _ _ _ _ (fun x G1 ⟨a, fs, v, h1, h2, h3, z⟩ u H1 m1 t r1 => ?_) q⟩, gFld_M he.m⟩
  subst h1
  obtain ⟨dx, vs, e1, tp⟩ := r1 a _ h2
  obtain ⟨v1, e2, tv⟩ := tp.lookup h3
  exact ⟨a, C, dx, vs, v1, tr_ref t, e1, c, n, e2, z _ H1 m1 tv r1⟩
/-- e.f = value -/
noncomputable def gSetF (C : Addr) (f : Str) (gv ga : GE) : GS := fun D ω G => gv ω G fun y G1 => ga ω G1 fun x G2 => ∃ a fs, x = .ref a ∧ G2 a = some (.ins C fs) ∧ fs.length < 1000 ∧ D.nx ω (put G2 a (.ins C (putW f y fs)))
theorem gSetF_M (mv : gv.M) (ma : ga.M) : GS.M (gSetF C f gv ga) := fun ω G D D' h _ _ _ q => mv _ _ _ _ (fun y G1 z => ma _ _ _ _ ((by rintro x G2 ⟨a, fs, h1, h2, h3, z⟩; exact ⟨a, fs, h1, h2, h3, h _ _ z⟩)) z) q
theorem Mono.ins {p C dx : Addr} {xs : List (Str × V)} (hp : H p = some (.ins C dx xs)) (o : HO) : Mono K H (upd H p o) := Mono.was hp _ (fun _ z => by cases z) (fun _ _ z => by cases z)
theorem sm_setF (c : Cls X.K C) (n : NoAttr X.K C f) (hs : swapsWith value (some (.Attribute o f pos')) pos.line X.env = pure false) (hv : Em X value gv) (ha : Em X o ga) : Sm X P (.Assign [.Attribute o f pos'] value pos) (gSetF C f gv ga) := by
  refine ⟨fun B hB => ps_sub (ps_fld ha.p hv.p hs) fun D σ H ⟨ω, G, ts, r, mb, q⟩ => ⟨ω, G, ts, r, hv.m _ _ _ _ (fun y G1 z v H1 m1 t r1 => ⟨ω, G1, ts.mono m1, r1, ha.m _ _ _ _ (fun x G2 ⟨a, fs, h1, h2, h3, z⟩ u H2 m2 t2 r2 => ?_) z⟩) q⟩, gSetF_M hv.m ha.m⟩
  subst h1
  obtain ⟨dx, vs, e1, tp⟩ := r2 a _ h2
  have mi : Mono X.K H2 (upd H2 a (.ins C dx (L2.putF f v vs))) := Mono.ins e1 _
  exact ⟨a, C, dx, vs, tr_ref t2, e1, c, n, by rw [tp.length]; exact h3, z _ _ (((mb.trans m1).trans m2).trans mi) (((ts.mono m1).mono m2).mono mi) (r2.chgI e1 ((TrP.putF (t.mono m2) tp)))⟩
/-- e.f += value, ints -/
noncomputable def gAugF (C : Addr) (f : Str) (ga gv : GE) : GS := fun D ω G => ga ω G fun x G1 => ∃ a fs i, x = .ref a ∧ G1 a = some (.ins C fs) ∧ fs.lookup f = some (.int i) ∧ gv ω G1 fun y G2 => ∃ fs' j, y = .int j ∧ G2 a = some (.ins C fs') ∧ fs'.length < 1000 ∧
  D.nx ω (put G2 a (.ins C (putW f (.int (i + j)) fs')))
theorem gAugF_M (ma : ga.M) (mv : gv.M) : GS.M (gAugF C f ga gv) := fun ω G D D' h _ _ _ q => ma _ _ _ _ ((by rintro x G1 ⟨a, fs, i, h1, h2, h3, z⟩; exact ⟨a, fs, i, h1, h2, h3, mv _ _ _ _ ((by rintro y G2 ⟨fs', j, h4, h5, h6, z⟩; exact ⟨fs', j, h4, h5, h6, h _ _ z⟩)) z⟩)) q
theorem sm_augF (c : Cls X.K C) (n : NoAttr X.K C f) (ha : Em X o ga) (hv : Em X value gv) : Sm X P (.AugAssign (.Attribute o f tpos) .Add value pos) (gAugF C f ga gv) := by
  refine ⟨fun B hB => ps_sub (ps_fldaug ha.p hv.p in_add) fun D σ H ⟨ω, G, ts, r, mb, q⟩ => ⟨ω, G, ts, r, ha.m _ _ _ _ (fun x G1 ⟨a, fs, i, h1, h2, h3, z⟩ u H1 m1 t r1 => ?_) q⟩, gAugF_M ha.m hv.m⟩
  subst h1
  obtain ⟨dx, vs, e1, tp⟩ := r1 a _ h2
  obtain ⟨v1, e2, tv⟩ := tp.lookup h3
  cases tv
  refine ⟨a, C, dx, vs, _, tr_ref t, e1, c, n, e2, ω, G1, ts.mono m1, r1, hv.m _ _ _ _ (fun y G2 ⟨fs', j, h4, h5, h6, z⟩ v H2 m2 t2 r2 => ?_) z⟩
  subst h4
  cases t2
  obtain ⟨dx', vs', e3, tp'⟩ := r2 a _ h5
  have mi : Mono X.K H2 (upd H2 a (.ins C dx' (L2.putF f (.int (i + j)) vs'))) := Mono.ins e3 _
  exact ⟨i, j, rfl, rfl, dx', vs', e3, by rw [tp'.length]; exact h6, z _ _ (((mb.trans m1).trans m2).trans mi) (((ts.mono m1).mono m2).mono mi) (r2.chgI e3 (tp'.putF (.int _)))⟩
/-- a method that stands in the text and keeps its promise -/
structure DfM (P : Program) (w : World) (K : PySem.W.Frag) (mg : Str → Option Value) (base : Heap) (C : Addr) (m : Str) (k n : Nat) (sp : Spw) : Prop where
  ex : ∃ (f : Addr) (fd : FuncData) (ps : List Str), Meth K C m f ∧ Binds K fd ps [] ∧ ps.length = n ∧ FnOk P w K mg base (CXe P w) k f fd ps (upSp K sp)
  mono : sp.M
theorem run_fnS {CX : CXT} {k : Nat} {f : Addr} {fd : FuncData} {ps : List Str} {sp : Sp} {Eσ : L2.St → XK} {pins : List (Addr × Obj)} {σ : L2.St} {H : Hp} {s : Shared} {Q : VK} {us : List Value} {vs : List V} (F : FnOk X.prog X.w X.K X.mg X.base CX k f fd ps sp) (hr : Room k X.A) (hb : Binds X.K fd ps []) (hx : PassesS CX X Eσ)
    (I : Inv X pins σ H s) (r : Vals vs us) (h : sp vs H Q (Eσ σ)) : wpAny (model X.prog X.w) X.A (call (.ref f) us) (EP X pins σ Q) X.xe s := by
  have hl : (us ++ ([] : List Value)).length = ps.length := by rw [List.append_nil, ← r.length]; exact F.len _ _ _ _ h
  have hb' := hb s us I.kIn hl
  rw [List.append_nil] at hb'
  refine wpAny_call (codeAny_mono (F.run X.A X.stack s H ⟨us, []⟩ us vs Q (Eσ σ) hr I.env0 hb' r h) fun r s' hq => ?_)
  cases r with
  | error e => exact hx pins σ H s e s' I hq
  | ok fl =>
    cases fl with
    | ret u => exact I.after hq
    | next => exact False.elim hq
    | brk => exact False.elim hq
    | cont => exact False.elim hq
noncomputable def gMeth (C : Addr) (m : Str) (sp : Spw) (ex : Xw) (ga : GE) (gs : GA) : GE := fun ω G Q => ga ω G fun x G1 => ∃ a fs, x = .ref a ∧ G1 a = some (.ins C fs) ∧ fs.lookup m = none ∧ gs ω G1 fun ws G2 => sp (x :: ws) G2 Q (ex ω)
theorem gMeth_M {sp : Spw} (ms : sp.M) (ma : ga.M) (mg : gs.M) : GE.M (gMeth C m sp ex ga gs) := fun ω G Q Q' h q => ma _ _ _ _ ((by rintro x G1 ⟨a, fs, h1, h2, h3, z⟩; exact ⟨a, fs, h1, h2, h3, mg _ _ _ _ (fun ws G2 z => ms _ _ _ _ _ _ h (fun _ _ z => z) z) z⟩)) q
theorem em_meth {k n : Nat} {sp : Spw} {pl : Sem Bool} (c : Cls X.K C) (D : DfM X.prog X.w X.K X.mg X.base C m k n sp) (hr : Room k X.A) (hp : PassW X ex) (hst : starEach (e :: es) X.env = (false, eval e X.env) :: starEach es X.env) (hpl : (backTo pos (starEach es X.env)).any (·.1) = false)
    (ht : eval (.Call (.Attribute o m apos) (e :: es) [] pos) X.env = (do
      let ov ← eval o X.env
      standAt apos.atName
      let (f, first) ← holding [ov] (getMethod ov m pl)
      callWith pos f first (backTo pos (starEach (e :: es) X.env)) (backToKw pos (keywordEach [] X.env)))) (ho : Em X o ga) (ha : Am X (e :: es) gs) : Em X (.Call (.Attribute o m apos) (e :: es) [] pos) (gMeth C m sp ex ga gs) := by
  refine ⟨fun pins s σ H Q I h => ?_, gMeth_M D.mono ho.m ha.m⟩
  obtain ⟨ω, G, ts, r, q⟩ := h
  obtain ⟨f, fd, ps, hm, hb, _, F⟩ := D.ex
  refine PySem.W.methodCall_KW (pl := pl) (thn (ho.p pins s σ H (fun x H1 => ∃ a dx fs, x = .ref a ∧ H1 a = some (.ins C dx fs) ∧ fs.lookup m = none ∧ (upA X.K gs) σ H1 fun vs H2 => upSp X.K sp (x :: vs) H2 Q (upX X.K ex σ)) I ⟨ω, G, ts, r, ho.m _ _ _ _ (fun x G1 ⟨a, fs, h1, h2, h3, z⟩ u H1 m1 t r1 => ?_) q⟩) fun u s1 ⟨x, H1, I1, rx, a, dx, fs, exx, ea, l, q⟩ => ?_) ht
  rotate_left
  · subst h1
    obtain ⟨dx, vs, e1, tp⟩ := r1 a _ h2
    refine ⟨a, dx, vs, tr_ref t, e1, tp.lookup0 h3, ω, G1, ts.mono m1, r1, ha.m _ _ _ _ (fun ws G2 z us H2 m2 tvs r2 => ?_) z⟩
    refine ⟨.ref a :: ws, G2, .cons (t.mono m2) tvs, r2, D.mono _ _ _ _ _ _ (fun w G' z => dn_mono (m1.trans m2) z) (fun C G' z H3 m3 r3 => ?_) z⟩
    exact ⟨C, ω, G', rfl, ((ts.mono m1).mono m2).mono m3, r3, z⟩
  · subst exx
    obtain rfl : u = Value.ref a := rx
    refine getmeth_ok I1 ea c hm l ?_
    refine PySem.W.callWith_K (first := [.ref a]) (h₀ := X.base) I.ok.mod.kin hm.kp (thn (ha.p pos pins s1 σ H1 _ I1 q) fun us s2 ⟨vs, H2, I2, r, q2⟩ => ⟨I2.kIn, ?_⟩) hst hpl
    exact run_fnS (us := .ref a :: us) (vs := .ref a :: vs) F hr hb hp I2 (.cons rfl r) q2
theorem em_meth0 {k n : Nat} {sp : Spw} {pl : Sem Bool} (c : Cls X.K C) (D : DfM X.prog X.w X.K X.mg X.base C m k n sp) (hr : Room k X.A) (hp : PassW X ex)
    (ht : eval (.Call (.Attribute o m apos) [] [] pos) X.env = (do
      let ov ← eval o X.env
      standAt apos.atName
      let (f, first) ← holding [ov] (getMethod ov m pl)
      callWith pos f first (backTo pos (starEach [] X.env)) (backToKw pos (keywordEach [] X.env)))) (ho : Em X o ga) : Em X (.Call (.Attribute o m apos) [] [] pos) (gMeth C m sp ex ga gNil) := by
  refine ⟨fun pins s σ H Q I h => ?_, gMeth_M D.mono ho.m gNil_M⟩
  obtain ⟨ω, G, ts, r, q⟩ := h
  obtain ⟨f, fd, ps, hm, hb, _, F⟩ := D.ex
  refine PySem.W.methodCall_KW (pl := pl) (thn (ho.p pins s σ H (fun x H1 => ∃ a dx fs, x = .ref a ∧ H1 a = some (.ins C dx fs) ∧ fs.lookup m = none ∧ upSp X.K sp [x] H1 Q (upX X.K ex σ)) I ⟨ω, G, ts, r, ho.m _ _ _ _ (fun x G1 ⟨a, fs, h1, h2, h3, z⟩ u H1 m1 t r1 => ?_) q⟩) fun u s1 ⟨x, H1, I1, rx, a, dx, fs, exx, ea, l, q⟩ => ?_) ht
  rotate_left
  · subst h1
    obtain ⟨dx, vs, e1, tp⟩ := r1 a _ h2
    refine ⟨a, dx, vs, tr_ref t, e1, tp.lookup0 h3, [.ref a], G1, .cons t .nil, r1, D.mono _ _ _ _ _ _ (fun w G' z => dn_mono m1 z) (fun C G' z H3 m3 r3 => ?_) z⟩
    exact ⟨C, ω, G', rfl, (ts.mono m1).mono m3, r3, z⟩
  · subst exx
    obtain rfl : u = Value.ref a := rx
    refine getmeth_ok I1 ea c hm l ?_
    exact PySem.W.callWith_K0 (first := [.ref a]) I1.kIn hm.kp (run_fnS (us := [.ref a]) (vs := [.ref a]) F hr hb hp I1 (.cons rfl .nil) q)
end
end L3
set_option Elab.async false
set_option linter.all false
set_option maxRecDepth 100000
set_option maxHeartbeats 4000000
namespace L3
open PySem PySem.Spec PyProof.Rows L2
variable {K : PySem.W.Frag} {H H' H2 : Hp}
section
variable {X : Cx} {P : Hp → Prop} {o e value : Expr} {es : List Expr} {f m : Str} {C : Addr} {pos pos' tpos apos p : Pos} {ga gv : GE} {gs : GA} {ex : Xw}
/-- a class that is made by calling it: its __init__ keeps its promise -/
structure DfI (P : Program) (w : World) (K : PySem.W.Frag) (mg : Str → Option Value) (base : Heap) (x : Str) (C : Addr) (k n : Nat) (sp : Spw) : Prop where
  ex : ∃ (f : Addr) (fd : FuncData) (ps : List Str), mg x = some (.ref C) ∧ Mk K C f ∧ Binds K fd ps [] ∧ ps.length = n ∧ FnOk P w K mg base (CXe P w) k f fd ps (upSp K sp)
  mono : sp.M
noncomputable def gMake (C : Addr) (sp : Spw) (ex : Xw) (gs : GA) : GE := fun ω G Q => gs ω G fun ws G1 => ∀ x, G1 x = none → sp (.ref x :: ws) (put G1 x (.ins C [])) (fun v G2 => v = .non ∧ Q (.ref x) G2) (ex ω)
theorem gMake_M {sp : Spw} (ms : sp.M) (mg : gs.M) : GE.M (gMake C sp ex gs) := fun ω G Q Q' h q => mg _ _ _ _ (fun ws G1 z x hx => ms _ _ _ _ _ _ (fun v G2 z => ⟨z.1, h _ _ z.2⟩) (fun _ _ z => z) (z x hx)) q
theorem run_makeS {CX : CXT} {k : Nat} {f : Addr} {fd : FuncData} {ps : List Str} {sp : Sp} {Eσ : L2.St → XK} {pins : List (Addr × Obj)} {σ : L2.St} {H : Hp} {s : Shared} {Q : VK} {us : List Value} {vs : List V} (M : Mk X.K C f) (F : FnOk X.prog X.w X.K X.mg X.base CX k f fd ps sp) (hr : Room (k + 1) X.A) (hb : Binds X.K fd ps []) (hx : PassesS CX X Eσ)
    (I : Inv X pins σ H s) (r : Vals vs us)
    (h : ∀ x dx, H x = none → H dx = none → dx ≠ x → sp (.ref x :: vs) (upd (upd H dx (.own x)) x (.ins C dx [])) (fun v H2 => v = .non ∧ Q (.ref x) H2) (Eσ σ)) :
    wpAny (model X.prog X.w) X.A (call (.ref C) us) (EP X pins σ Q) X.xe s := by
  have hq := h (s.heap.objs.size + 1) s.heap.objs.size (I.hok.fresh (Nat.le_succ _)) (I.hok.fresh (Nat.le_refl _)) (Nat.ne_of_lt (Nat.lt_succ_self _))
  have I2 := Inv.made (C := C) I
  have r2 : Vals (V.ref (s.heap.objs.size + 1) :: vs) (Value.ref (s.heap.objs.size + 1) :: us) := .cons rfl r
  have hl : (Value.ref (s.heap.objs.size + 1) :: us ++ ([] : List Value)).length = ps.length := by
    have e := r2.length
    rw [F.len _ _ _ _ hq] at e
    rw [List.append_nil]
    exact e.symm
  have hb' := hb _ (Value.ref (s.heap.objs.size + 1) :: us) I2.kIn hl
  rw [List.append_nil] at hb'
  refine wpAny_call (make_map (f := f) I.kIn M.makes M.init (beq_iff_eq.mp M.fn) (codeAny_mono (F.run _ X.stack _ _ ⟨Value.ref (s.heap.objs.size + 1) :: us, []⟩ (Value.ref (s.heap.objs.size + 1) :: us) _ _ (Eσ σ) (hr.make C us [])
    (I2.env0.make C us []) hb' r2 hq) fun r s' hq' => ?_))
  cases r with
  | error e => exact hx pins σ _ _ e s' I2 hq'
  | ok fl =>
    cases fl with
    | ret u =>
      obtain ⟨v, H', I3, rv, ev, q3⟩ := I2.after hq'
      subst ev
      exact ⟨rv, ⟨V.ref (s.heap.objs.size + 1), H', I3, rfl, q3⟩⟩
    | next => exact False.elim hq'
    | brk => exact False.elim hq'
    | cont => exact False.elim hq'
theorem em_make {x : Str} {k n : Nat} {sp : Spw} (D : DfI X.prog X.w X.K X.mg X.base x C k n sp) (hr : Room (k + 1) X.A) (hg : Gl X x) (hp : PassW X ex) (hdb : (x == ("__debug__" : Str)) = false) (he : starEach (e :: es) X.env = (false, eval e X.env) :: starEach es X.env) (hpl : (backTo pos (starEach es X.env)).any (·.1) = false)
    (ha : Am X (e :: es) gs) : Em X (.Call (.Name x p) (e :: es) [] pos) (gMake C sp ex gs) := by
  refine ⟨fun pins s σ H Q I h => ?_, gMake_M D.mono ha.m⟩
  obtain ⟨ω, G, ts, r, q⟩ := h
  obtain ⟨f, fd, ps, hm, M, hb, _, F⟩ := D.ex
  refine wpAny_Call_Name_kw (ld_glob I hg hm ?_ hdb)
  refine PySem.W.callWith_K (h₀ := X.base) I.ok.mod.kin M.kp (thn (ha.p pos pins s σ H (fun vs H1 => ∀ x dx, H1 x = none → H1 dx = none → dx ≠ x → upSp X.K sp (.ref x :: vs) (upd (upd H1 dx (.own x)) x (.ins C dx [])) (fun v H2 => v = .non ∧ Q (.ref x) H2) (upX X.K ex σ)) I
    ⟨ω, G, ts, r, ha.m _ _ _ _ (fun ws G1 z vs H1 m1 tvs r1 x dx hx hdx hne => ?_) q⟩) (by rintro us s1 ⟨vs, H1, I1, r, q⟩; exact ⟨I1.kIn, run_makeS M F hr hb hp I1 r q⟩)) he hpl
  have m2 : Mono X.K H1 (upd H1 dx (.own x)) := Mono.new hdx _
  have hx2 : (upd H1 dx (.own x)) x = none := by rw [upd_ne (fun e => hne e.symm)]; exact hx
  have m3 : Mono X.K (upd H1 dx (.own x)) (upd (upd H1 dx (.own x)) x (.ins C dx [])) := Mono.new hx2 _
  refine ⟨.ref x :: ws, put G1 x (.ins C []), .cons (.ref x) ((tvs.mono m2).mono m3), (r1.mono0 hdx).laid m3 ⟨dx, [], upd_same, .nil⟩, D.mono _ _ _ _ _ _ (fun w G' z v H3 m4 t r3 => ?_) (fun C G' z H3 m4 r3 => ?_) (z x (r1.no hx))⟩
  · obtain ⟨e1, z⟩ := z
    subst e1
    cases t
    exact ⟨rfl, z _ _ (((m1.trans m2).trans m3).trans m4) (.ref x) r3⟩
  · exact ⟨C, ω, G', rfl, (((ts.mono m1).mono m2).mono m3).mono m4, r3, z⟩
end
/-- a method of the text, as it stands behind the top -/
noncomputable def FnM (K : PySem.W.Frag) (C : Addr) (st : Stmt) (m qual : Str) (ps : List Str) : Prop := ∃ f fd, Meth K C m f ∧ Fun K m qual st f fd ∧ Binds K fd ps []
noncomputable def FnI (K : PySem.W.Frag) (mg : Str → Option Value) (x : Str) (C : Addr) (st : Stmt) (qual : Str) (ps : List Str) : Prop := ∃ f fd, mg x = some (.ref C) ∧ Mk K C f ∧ Fun K "__init__" qual st f fd ∧ Binds K fd ps []
section
variable {P : Program} {w : World} {mg : Str → Option Value} {base : Heap} {C : Addr}
theorem ok_0 {m qual : Str} {st : Stmt} {f : Addr} {fd : FuncData} {N ps : List Str} {k n : Nat} {sp : Spw} {g : GS} (F : Fun K m qual st f fd) (hn : ps.length = n) (S : FnScope N ps (defScope st)) (len : ∀ ws G Q E, sp ws G Q E → ws.length = n)
    (hg : ∀ {f : Addr} {cdv : Value} {A : Around} {outer : List Env} {s : Shared} {H : Hp} {E : XK}, Room k (A.deeper (envOfC qual (defScope st) s.heap.objs.size f cdv)) → Ssm (cxW P w K mg base N qual (defScope st) f cdv A outer s H E).nox (fun B => B = H) (defBody st) g)
    (ok : ∀ ws G (Q : Kw) (E : Addr → Hw → Prop), Kw.C Q → sp ws G Q E → g (endsW Q) (startW N ws) G) : FnOk P w K mg base (CXe P w) (k + 1) f fd ps (upSp K sp) := by
  obtain ⟨oc, od, kV, doc, pm, an, cdv, ct, osl, rfl, lk, hcd⟩ := F.ex
  refine fn_of lk hcd S ((by rintro vs H Q E ⟨ws, G, t, r, q⟩; rw [t.length, hn]; exact len ws G _ _ q)) fun A outer s H vs Q E hr hsp => ?_
  obtain ⟨ws, G, t, r, q⟩ := hsp
  have D := hg (cdv := cdv) (outer := outer) (H := H) (E := E) hr
  refine ⟨_, (D.p H rfl).nox, startW N ws, G, trSt_start t, r, .refl, ?_⟩
  exact D.m _ _ (endsW (dn K H Q)) _ (fun a b z σ H2 m ts r2 => z _ H2 m Tr.non r2) (fun a b z => z) (fun a b z => z.elim) (fun a b z => z.elim) (ok ws G _ _ dn_C q)
theorem mkM0 {m qual : Str} {st : Stmt} {N ps : List Str} {k n : Nat} {sp : Spw} {g : GS} (Fx : FnM K C st m qual ps) (hn : ps.length = n) (S : FnScope N ps (defScope st)) (spm : sp.M) (len : ∀ ws G Q E, sp ws G Q E → ws.length = n)
    (hg : ∀ {f : Addr} {cdv : Value} {A : Around} {outer : List Env} {s : Shared} {H : Hp} {E : XK}, Room k (A.deeper (envOfC qual (defScope st) s.heap.objs.size f cdv)) → Ssm (cxW P w K mg base N qual (defScope st) f cdv A outer s H E).nox (fun B => B = H) (defBody st) g)
    (ok : ∀ ws G (Q : Kw) (E : Addr → Hw → Prop), Kw.C Q → sp ws G Q E → g (endsW Q) (startW N ws) G) : DfM P w K mg base C m (k + 1) n sp := by
  obtain ⟨f, fd, h1, F, h3⟩ := Fx
  exact ⟨⟨f, fd, ps, h1, h3, hn, ok_0 F hn S len hg ok⟩, spm⟩
theorem mkI0 {x qual : Str} {st : Stmt} {N ps : List Str} {k n : Nat} {sp : Spw} {g : GS} (Fx : FnI K mg x C st qual ps) (hn : ps.length = n) (S : FnScope N ps (defScope st)) (spm : sp.M) (len : ∀ ws G Q E, sp ws G Q E → ws.length = n)
    (hg : ∀ {f : Addr} {cdv : Value} {A : Around} {outer : List Env} {s : Shared} {H : Hp} {E : XK}, Room k (A.deeper (envOfC qual (defScope st) s.heap.objs.size f cdv)) → Ssm (cxW P w K mg base N qual (defScope st) f cdv A outer s H E).nox (fun B => B = H) (defBody st) g)
    (ok : ∀ ws G (Q : Kw) (E : Addr → Hw → Prop), Kw.C Q → sp ws G Q E → g (endsW Q) (startW N ws) G) : DfI P w K mg base x C (k + 1) n sp := by
  obtain ⟨f, fd, h0, h1, F, h3⟩ := Fx
  exact ⟨⟨f, fd, ps, h0, h1, h3, hn, ok_0 F hn S len hg ok⟩, spm⟩
end
/-- a statement that is never reached -/
noncomputable def gNever : GS := fun _ _ _ => False
theorem sm_never {X : Cx} {P : Hp → Prop} {st : Stmt} : Sm X P st gNever := ⟨(by rintro B hB pins s σ H D I ⟨ω, G, ts, r, mb, q⟩; exact q.elim), fun ω G D D' _ _ _ _ q => q⟩
end L3
namespace L3
open PySem PySem.Spec PyProof.Rows L2
variable {K : PySem.W.Frag} {H H' H2 : Hp}
noncomputable def isStr (o : W) (_ : Hw) : Prop := ∃ x, o = .str x
theorem isStr_ty {o : W} {v : V} {G : Hw} (t : Tr K H v o) (h : isStr o G) : tyV K "str" v H := by
  obtain ⟨x, rfl⟩ := h
  cases t
  rfl
/-- x.startswith(y, i) -/
noncomputable def rStarts (o : W) (ws : List W) (G : Hw) (Q : Kw) : Prop := match o, ws with
  | .str x, [.str y] => Q (.bl (Txt.startswith x y)) G
  | .str x, [.str y, .int i] => Q (.bl (Txt.startswith3 x y i)) G
  | _, _ => False
theorem rStarts_of {o : W} {ws : List W} {G : Hw} {Q : Kw} (q : rStarts o ws G Q) : ∃ x y, o = .str x ∧ ((ws = [.str y] ∧ Q (.bl (Txt.startswith x y)) G) ∨ ∃ i, ws = [.str y, .int i] ∧ Q (.bl (Txt.startswith3 x y i)) G) := by
  unfold rStarts at q
  split at q
  · exact ⟨_, _, rfl, .inl ⟨rfl, q⟩⟩
  · exact ⟨_, _, rfl, .inr ⟨_, rfl, q⟩⟩
  · exact q.elim
noncomputable def rStartsV : V → List V → Hp → VK → Prop := fun v vs H Q => ∃ x y, v = .str x ∧ ((vs = [.str y] ∧ Q (.bl (Txt.startswith x y)) H) ∨ ∃ i, vs = [.str y, .int i] ∧ Q (.bl (Txt.startswith3 x y i)) H)
theorem mt_starts {X : Cx} : MtR X "str.startswith" rStartsV := by
  intro pins s σ H x vs v us Q I rx rv h
  obtain ⟨x, y, rfl, h⟩ := h
  obtain ⟨t, rfl⟩ := rx
  rcases h with ⟨rfl, q⟩ | ⟨i, rfl, q⟩
  · obtain ⟨u, rfl, ru⟩ := rv.one
    obtain ⟨t2, rfl⟩ := ru
    exact SC.startswith ⟨.bl _, H, I, rfl, q⟩
  · obtain ⟨u, u2, rfl, ru, ru2⟩ := vals2 rv
    obtain ⟨t2, rfl⟩ := ru
    obtain ⟨t3, rfl⟩ := ru2
    exact SC.startswith3 ⟨.bl _, H, I, rfl, q⟩
theorem mth_starts {X : Cx} : Mth X "str" "startswith" "str.startswith" isStr rStarts where
  pa := PySem.F.plainAttrs_str
  slot := PySem.F.slot_str_startswith
  ty := PySem.F.type_str_startswith
  ex := ⟨_, mt_starts, fun o ws v vs G H Q tv tvs r q => by
    obtain ⟨x, y, rfl, h⟩ := rStarts_of q
    cases tv
    rcases h with ⟨rfl, q⟩ | ⟨i, rfl, q⟩
    · cases tvs with
      | cons t1 tvs => cases tvs; cases t1; exact ⟨x, y, rfl, .inl ⟨rfl, q _ H .refl (.bl _) r⟩⟩
    · cases tvs with
      | cons t1 tvs =>
        cases tvs with
        | cons t2 tvs => cases tvs; cases t1; cases t2; exact ⟨x, y, rfl, .inr ⟨i, rfl, q _ H .refl (.bl _) r⟩⟩⟩
  pr := fun o v G H t r h => isStr_ty t h
  m := fun o ws G Q Q' h q => by
    obtain ⟨x, y, rfl, z⟩ := rStarts_of q
    rcases z with ⟨rfl, z⟩ | ⟨i, rfl, z⟩
    · exact h _ _ z
    · exact h _ _ z
/-- sep.join(xs), a list of texts -/
noncomputable def strsOf : List W → Option (List Str)
  | [] => some []
  | .str x :: ws => (strsOf ws).map (x :: ·)
  | _ :: _ => none
theorem strsOf_tr {s : Shared} : ∀ {vs : List V} {ws : List W} {ys : List Str} {us : List Value}, TrL K H vs ws → strsOf ws = some ys → Vals vs us → StrsAre us ys
  | _, _, _, _, .nil, e, .nil => by cases e; exact .nil
  | _, _, _, _, .cons (w := w) r t, e, .cons rv rvs => by
    cases w with
    | str x =>
      unfold strsOf at e
      obtain ⟨zs, e1, rfl⟩ := Option.map_eq_some_iff.mp e
      cases r
      obtain ⟨tk, rfl⟩ := rv
      exact .cons x tk (strsOf_tr (s := s) t e1 rvs)
    | _ => cases e
theorem strsOf_map (f : α → Str) : ∀ l : List α, strsOf (l.map fun a => .str (f a)) = some (l.map f)
  | [] => rfl
  | a :: l => by
    show (strsOf (l.map fun a => .str (f a))).map (f a :: ·) = _
    rw [strsOf_map f l]; rfl
noncomputable def rJoin (o : W) (ws : List W) (G : Hw) (Q : Kw) : Prop := ∃ x w xs ys, o = .str x ∧ ws = [w] ∧ rdL G w = some xs ∧ strsOf xs = some ys ∧ (ys.map (·.length)).sum + ys.length * x.length ≤ 16777216 ∧ Q (.str (Txt.join x ys)) G
noncomputable def rJoinV (K : PySem.W.Frag) : V → List V → Hp → VK → Prop := fun v vs H Q => ∃ x a us ws ys, v = .str x ∧ vs = [.ref a] ∧ SqL K H a us ∧ TrL K H us ws ∧ strsOf ws = some ys ∧ (ys.map (·.length)).sum + ys.length * x.length ≤ 16777216 ∧ Q (.str (Txt.join x ys)) H
theorem mt_join {X : Cx} : MtR X "str.join" (rJoinV X.K) := by
  intro pins s σ H x vs v us Q I rx rv h
  obtain ⟨x, a, us', ws, ys, rfl, rfl, sq, t, e, hw, q⟩ := h
  obtain ⟨tk, rfl⟩ := rx
  obtain ⟨u, rfl, ru⟩ := rv.one
  cases ru
  obtain ⟨its, r, pl, _⟩ := I.list sq
  refine join_list pl.isList ?_ hw fun t' k => ⟨.str _, H, I.tok k, ⟨t', rfl⟩, q⟩
  have := strsOf_tr (s := s) t e r
  simpa using this
theorem mth_join {X : Cx} : Mth X "str" "join" "str.join" isStr rJoin where
  pa := PySem.F.plainAttrs_str
  slot := PySem.F.slot_str_join
  ty := PySem.F.type_str_join
  ex := ⟨_, mt_join, fun o ws v vs G H Q tv tvs r q => by
    obtain ⟨x, w, xs, ys, rfl, rfl, e1, e2, hw, q⟩ := q
    cases tv
    cases tvs with
    | cons t1 tvs =>
      cases tvs
      obtain ⟨a, us, rfl, sq, tl⟩ := rdL_tr r t1 e1
      exact ⟨x, a, us, xs, ys, rfl, rfl, sq, tl, e2, hw, q _ H .refl (.str _) r⟩⟩
  pr := fun o v G H t r h => isStr_ty t h
  m := (by rintro o ws G Q Q' h ⟨x, w, xs, ys, h1, h2, h3, h4, h5, q⟩; exact ⟨x, w, xs, ys, h1, h2, h3, h4, h5, h _ _ q⟩)
end L3
namespace HT
open PySem PySem.Spec PyProof.Rows
section
variable {prog : Program} {w : World} {A : Around} {E : Value → Shared → Prop} {s : Shared}
theorem getItem_tuple_whole {t sl : Addr} {items : Array Value} {vl vu : Value} {lo hi : Option Int} {Q : Value → Shared → Prop} (ht : IsTup s.heap t items) (hs : s.heap.IsSliceOf sl vl vu .none) (pl : IsPart vl lo) (pu : IsPart vu hi)
    (hw : sIx items.size 0 lo = 0 ∧ sIx items.size items.size hi = items.size) (h : Q (.ref t) s) : wpAny (model prog w) A (getItem (.ref t) (.ref sl)) Q E s := by
  obtain ⟨os, hos, hcs, hds⟩ := id hs
  have hTs : s.TypeIs (.ref sl) "slice" := ⟨os, hos, hcs⟩
  unfold getItem
  try with_reducible refine wpAny_holding ?_
  first | refine wpAny_bind (wpAny_pure ?_) | skip
  refine wpAny_bind (wpAny_sequenceKey ht.typeIs (by decide) ?_)
  refine wpAny_bind (wpAny_callSpecial?_slot (name := Str.ofString "__getitem__") ht.typeIs PyProof.Rows.slot_tuple_getitem
    (wpAny_call_entry PyProof.Rows.slot_tuple_getitem ht.typeIs entry_tuple_getitem ?_ (args_tuple_getitem _ _)))
  show wpAny _ _ (Builtin.Tuple.tupleItemsOf (.ref t) >>= _) _ _ s
  refine wpAny_bind (tupleItemsOf_ ht ?_)
  refine wpAny_bind (wpAny_typeOf hTs ?_)
  rw [if_pos (by decide)]
  refine wpAny_bind (sliceApplied_gen hs pl pu ?_)
  have hyes : (((sIx items.size 0 lo : Nat) : Int) == 0 && (1 : Int) == 1 && (sIx items.size items.size hi - sIx items.size 0 lo) == items.size) = true := by
    rw [hw.1, hw.2]
    simp
  show wpAny _ _ (if (((sIx items.size 0 lo : Nat) : Int) == 0 && (1 : Int) == 1 && (sIx items.size items.size hi - sIx items.size 0 lo) == items.size) = true then _ else _) _ _ s
  rw [if_pos hyes]
  have hT := ht.typeIs
  unfold Builtin.Tuple.tupleIsExact
  repeat (any_goals (first | assumption | wp_step))
  exact ⟨_, rfl, wpAny_pure h⟩
end
end HT
namespace L3
open PySem PySem.Spec PyProof.Rows L2
variable {K : PySem.W.Frag} {H H' H2 : Hp}
noncomputable def rSlW (K : PySem.W.Frag) : V → Option Int → Option Int → Hp → VK → Prop := fun x lo hi H Q => ∃ a xs, x = .ref a ∧ SqT K H a xs ∧ (HT.sIx xs.length 0 lo = 0 ∧ HT.sIx xs.length xs.length hi = xs.length) ∧ Q (.ref a) H
theorem sl_tupW {X : Cx} : SlR X (rSlW X.K) := by
  intro pins s σ H x v vl vu lo hi sl Q I rx hs pl pu h
  obtain ⟨a, xs, rfl, hx, hw, q⟩ := h
  cases rx
  obtain ⟨its, r, ht, hz⟩ := I.tuple hx
  have hlen : its.toArray.size = xs.length := by rw [List.size_toArray]; exact r.length.symm
  refine ⟨"tuple", _, PyProof.Rows.slot_tuple_getitem.lookup, ht.typeIs, ?_⟩
  exact HT.getItem_tuple_whole ht hs pl pu (by rw [hlen]; exact hw) ⟨.ref a, H, I, rfl, q⟩
noncomputable def rSlS : V → Option Int → Option Int → Hp → VK → Prop := fun x lo hi H Q => ∃ z, x = .str z ∧ z.length ≤ sizeLine ∧ Q (.str (Txt.slice z lo hi)) H
theorem sl_str {X : Cx} : SlR X rSlS := by
  intro pins s σ H x v vl vu lo hi sl Q I rx hs pl pu h
  obtain ⟨z, rfl, hz, q⟩ := h
  obtain ⟨t, rfl⟩ := rx
  obtain ⟨os, hos, hcs, hds⟩ := id hs
  refine ⟨"str", _, F.slot_str_getitem.lookup, typeIs_str _ _ _, ?_⟩
  have fin : ∀ t' k, EP X pins σ Q (.str (Txt.slice z lo hi) t') { s with toks := k } := fun t' k => ⟨.str _, H, I.tok k, ⟨t', rfl⟩, q⟩
  cases pl with
  | none =>
    cases pu with
    | none => exact wpAny_getItem_str_slice (l := none) (u := none) (st := none) ⟨os, hos, hcs, hds⟩ rfl (post_val_or_str ⟨Nat.le_trans (Txt.slice_le z _ _) hz, fin⟩)
    | int j u => exact wpAny_getItem_str_slice (l := none) (u := some (j, u)) (st := none) ⟨os, hos, hcs, hds⟩ rfl (post_val_or_str ⟨Nat.le_trans (Txt.slice_le z _ _) hz, fin⟩)
  | int i u =>
    cases pu with
    | none => exact wpAny_getItem_str_slice (l := some (i, u)) (u := none) (st := none) ⟨os, hos, hcs, hds⟩ rfl (post_val_or_str ⟨Nat.le_trans (Txt.slice_le z _ _) hz, fin⟩)
    | int j u2 => exact wpAny_getItem_str_slice (l := some (i, u)) (u := some (j, u2)) (st := none) ⟨os, hos, hcs, hds⟩ rfl (post_val_or_str ⟨Nat.le_trans (Txt.slice_le z _ _) hz, fin⟩)
/-- w[lo:hi], the whole too, of texts too -/
noncomputable def slA (w : W) (lo hi : Option Int) (G : Hw) (Q : Kw) : Prop := match w with
  | .tup xs => Q (.tup (cutW xs lo hi)) G
  | .str z => z.length ≤ sizeLine ∧ Q (.str (Txt.slice z lo hi)) G
  | w => slW w lo hi G Q
theorem slA_M {w : W} {lo hi : Option Int} {G : Hw} {Q Q' : Kw} (h : ∀ w G', Q w G' → Q' w G') (q : slA w lo hi G Q) : slA w lo hi G Q' := by
  cases w with
  | tup xs => exact h _ _ q
  | str z => exact ⟨q.1, h _ _ q.2⟩
  | non => exact False.elim q
  | bl b => exact False.elim q
  | int i => exact False.elim q
  | rol xs => exact slW_M (w := .rol xs) (lo := lo) (hi := hi) (G := G) h q
  | ref a => exact slW_M (w := .ref a) (lo := lo) (hi := hi) (G := G) h q
theorem slA_up {w : W} {v : V} {lo hi : Option Int} {G : Hw} {Q : VK} (t : Tr K H v w) (r : RelH K H G) (q : slA w lo hi G (dn K H Q)) : ((rSlT K v lo hi H Q ∨ rSlL K v lo hi H Q) ∨ rSlW K v lo hi H Q) ∨ rSlS v lo hi H Q := by
  cases t with
  | tup h l =>
    rename_i a vs ws
    by_cases hw : HT.sIx ws.length 0 lo = 0 ∧ HT.sIx ws.length ws.length hi = ws.length
    · refine .inl (.inr ⟨a, vs, rfl, h, by rw [l.length]; exact hw, ?_⟩)
      refine q _ H .refl ?_ r
      have e : cutW ws lo hi = ws := by unfold cutW; rw [hw.1, hw.2]; simp
      rw [e]
      exact .tup h l
    · exact .inl (.inl (slW_up (.tup h l) r ⟨hw, q⟩))
  | str z => exact .inr ⟨z, rfl, q.1, q.2 _ H .refl (.str _) r⟩
  | non => exact False.elim q
  | bl b => exact False.elim q
  | int i => exact False.elim q
  | rol h l => exact .inl (.inl (slW_up (.rol h l) r q))
  | ref a => exact .inl (.inl (slW_up (.ref a) r q))
section
variable {X : Cx} {a b e : Expr} {ga gb : GE} {pos : Pos}
noncomputable def gSlA (ga : GE) (gl gh : GO) : GE := fun ω G Q => ga ω G fun w G1 => gl ω G1 fun lo G2 => gh ω G2 fun hi G3 => slA w lo hi G3 Q
theorem em_slA {lo hi : Option Expr} {gl gh : GO} {p2 : Pos} (ha : Em X e ga) (hl : Om X lo gl) (hh : Om X hi gh) : Em X (.Subscript e (.Slice lo hi none p2) pos) (gSlA ga gl gh) :=
  ⟨pe_sub (pe_slice (SlR.or (SlR.or (SlR.or sl_tup sl_list) sl_tupW) sl_str) ha.p hl.p hh.p) fun σ H Q ⟨ω, G, ts, r, q⟩ => ⟨ω, G, ts, r, ha.m _ _ _ _ (fun w G1 z v H1 m1 t r1 => ⟨ω, G1, ts.mono m1, r1, hl.m _ _ _ _ (fun l G2 z2 H2 m2 r2 =>
      ⟨ω, G2, (ts.mono m1).mono m2, r2, hh.m _ _ _ _ (fun h G3 z3 H3 m3 r3 => slA_up ((t.mono m2).mono m3) r3 (slA_M (fun w G' z => dn_mono ((m1.trans m2).trans m3) z) z3)) z2⟩) z⟩) q⟩,
    fun ω G Q Q' h q => ha.m _ _ _ _ (fun w G1 z => hl.m _ _ _ _ (fun l G2 z2 => hh.m _ _ _ _ (fun u G3 z3 => slA_M h z3) z2) z) q⟩
end
end L3
namespace L3
open PySem PySem.Spec PyProof.Rows L2
variable {K : PySem.W.Frag} {H H' H2 : Hp}
theorem isStrOf_at (k : Str) : ∀ {vs : List Value} {ys : List Str}, StrsAre vs ys → ∀ (j : Nat) (h1 : j < vs.length) (y : Str), ys[j]? = some y → isStrOf k vs[j] = (y == k)
  | _, _, .cons n t _, 0, _, y, e => by cases e; rfl
  | _, _, .cons n t r, j + 1, h1, y, e => isStrOf_at k r j (Nat.lt_of_succ_lt_succ h1) y (by simpa using e)
theorem StrsAre.len : ∀ {vs : List Value} {ys : List Str}, StrsAre vs ys → vs.length = ys.length
  | _, _, .nil => rfl
  | _, _, .cons _ _ r => congrArg (· + 1) (StrsAre.len r)
section
variable {prog : Program} {w : World} {A : Around} {E : Value → Shared → Prop} {s : Shared}
theorem index_list_strs {l : Addr} {vs : List Value} {ys : List Str} {k : Str} {t : Tok} {j : Nat} {Q : Value → Shared → Prop} (hl : s.heap.IsList l vs.toArray) (hi : StrsAre vs ys) (hz : ys.length ≤ sizeLine)
    (hj : ys[j]? = some k) (hno : ∀ m, m < j → ys[m]? ≠ some k) (h : Q (.int (j : Nat) s.toks) { s with toks := s.toks + 1 }) : wpAny (model prog w) A (call (.builtin "list.index") [.ref l, .str k t]) Q E s := by
  obtain ⟨⟨cls, dd, data, sl⟩, ho, hc, n, hd⟩ := id hl
  simp only at hc hd
  subst hc hd
  have hlen := StrsAre.len hi
  have hlt : j < ys.length := (List.getElem?_eq_some_iff.mp hj).1
  have hs : (sizeLine : Nat) < 2 ^ 63 - 1 := by decide
  refine call_meets PySem.F.slot_list_index ⟨_, ho, rfl⟩ PySem.F.entry_list_index (PySem.F.args_list_index_2 _ _)
    (PySem.SeqAt.list_indexAt l vs.toArray n dd sl (.str k t) (isStrOf k) j (by simpa [hlen] using hlt) (by omega) ?_ ?_) ⟨ho, fun y hy => (eq_isStrOf k t hi y (by simpa using hy)).at _ _, h⟩
  · show isStrOf k vs[j] = true
    rw [isStrOf_at k hi _ (by omega) k hj]
    simp
  · intro m hm hlt2
    have hm' : m < vs.length := by simpa using hm
    show isStrOf k vs[m] = false
    have e : ys[m]? = some ys[m] := by simp [show m < ys.length by omega]
    rw [isStrOf_at k hi m hm' _ e]
    have := hno m hlt2
    rw [e] at this
    simpa using fun q => this (by rw [q])
end
noncomputable def rIndex (o : W) (ws : List W) (G : Hw) (Q : Kw) : Prop := ∃ xs ys k j, rdL G o = some xs ∧ strsOf xs = some ys ∧ ws = [.str k] ∧ ys[j]? = some k ∧ (∀ m, m < j → ys[m]? ≠ some k) ∧ Q (.int (j : Nat)) G
noncomputable def rIndexV (K : PySem.W.Frag) : V → List V → Hp → VK → Prop := fun v vs H Q => ∃ a us ws ys k j, v = .ref a ∧ SqL K H a us ∧ TrL K H us ws ∧ strsOf ws = some ys ∧ vs = [.str k] ∧ ys[j]? = some k ∧ (∀ m, m < j → ys[m]? ≠ some k) ∧ Q (.int (j : Nat)) H
theorem strsOf_len : ∀ {ws : List W} {ys : List Str}, strsOf ws = some ys → ys.length = ws.length
  | [], _, e => by cases e; rfl
  | w :: ws, ys, e => by
    cases w with
    | str x =>
      unfold strsOf at e
      obtain ⟨zs, e1, rfl⟩ := Option.map_eq_some_iff.mp e
      exact congrArg (· + 1) (strsOf_len e1)
    | _ => cases e
theorem mt_index {X : Cx} : MtR X "list.index" (rIndexV X.K) := by
  intro pins s σ H x vs v us Q I rx rv h
  obtain ⟨a, us', ws, ys, k, j, rfl, sq, t, e, rfl, hj, hno, q⟩ := h
  cases rx
  obtain ⟨u, rfl, ru⟩ := rv.one
  obtain ⟨tk, rfl⟩ := ru
  obtain ⟨its, r, pl, hz⟩ := I.list sq
  have hs := strsOf_tr (s := s) t e r
  refine index_list_strs pl.isList hs (by rw [strsOf_len e, ← t.length]; exact hz) hj hno ⟨.int _, H, I.tok _, ⟨_, rfl⟩, q⟩
theorem mth_index {X : Cx} : Mth X "list" "index" "list.index" isLst rIndex where
  pa := PySem.F.plainAttrs_list
  slot := PySem.F.slot_list_index
  ty := PySem.F.type_list_index
  ex := ⟨_, mt_index, fun o ws v vs G H Q tv tvs r q => by
    obtain ⟨xs, ys, k, j, e1, e2, rfl, e3, e4, q⟩ := q
    obtain ⟨a, us, rfl, sq, tl⟩ := rdL_tr r tv e1
    cases tvs with
    | cons t1 tvs => cases tvs; cases t1; exact ⟨a, us, xs, ys, k, j, rfl, sq, tl, e2, rfl, e3, e4, q _ H .refl (.int _) r⟩⟩
  pr := fun o v G H t r h => isLst_ty t r h
  m := (by rintro o ws G Q Q' h ⟨xs, ys, k, j, h1, h2, h3, h4, h5, q⟩; exact ⟨xs, ys, k, j, h1, h2, h3, h4, h5, h _ _ q⟩)
noncomputable def rMulA : RW2 := fun x y G Q => match x, y with
  | .int i, .int j => CMul i j ∧ Q (.int (i * j)) G
  | .str x, .int n => MulOk x n ∧ Q (.str (Txt.mul x n)) G
  | .ref a, .int k => (match G a with
    | some (.lst xs) => -(2 ^ 63) ≤ k ∧ k < 2 ^ 63 ∧ xs.length * k.toNat ≤ sizeLine ∧ ∀ p, G p = none → Q (.ref p) (put G p (.lst (List.replicate k.toNat xs).flatten))
    | _ => False)
  | _, _ => False
theorem rMulA_M : RW2.M rMulA := fun x y G Q Q' h q => by
  cases x <;> cases y <;> first | exact q | exact ⟨q.1, h _ _ q.2⟩ | skip
  rename_i a k
  unfold rMulA at q ⊢
  dsimp only at q ⊢
  cases e : G a with
  | none => rw [e] at q; exact q
  | some o =>
    rw [e] at q
    cases o <;> first | exact q | exact ⟨q.1, q.2.1, q.2.2.1, fun p hp => h _ _ (q.2.2.2 p hp)⟩
noncomputable def rMulS : R2 := fun x y H Q => ∃ z n, x = .str z ∧ y = .int n ∧ MulOk z n ∧ Q (.str (Txt.mul z n)) H
theorem op_mulS {X : Cx} : OpR X (binaryOp .Mult) rMulS := by
  intro pins s σ H x y v u Q I rx ry h
  obtain ⟨z, n, rfl, rfl, ok, q⟩ := h
  obtain ⟨t, rfl⟩ := rx
  obtain ⟨t2, rfl⟩ := ry
  exact SB.mul ok fun t' k => ⟨.str _, H, I.tok k, ⟨t', rfl⟩, q⟩
theorem TrL.rep {vs : List V} {ws : List W} (t : TrL K H vs ws) : ∀ k : Nat, TrL K H (List.replicate k vs).flatten (List.replicate k ws).flatten
  | 0 => .nil
  | k + 1 => by
    rw [List.replicate_succ, List.replicate_succ, List.flatten_cons, List.flatten_cons]
    exact t.append (t.rep k)
theorem rMulA_up (x y : W) (v u : V) (G : Hw) (H : Hp) (Q : VK) (tx : Tr K H v x) (ty : Tr K H u y) (r : RelH K H G) (q : rMulA x y G (dn K H Q)) : (rI CMul fun i j => .int (i * j)) v u H Q ∨ rMulS v u H Q ∨ rRep v u H Q := by
  cases tx with
  | int i => cases ty <;> first | exact q.elim | exact .inl ⟨_, _, rfl, rfl, q.1, q.2 _ H .refl (.int _) r⟩
  | str z => cases ty <;> first | exact q.elim | exact .inr (.inl ⟨_, _, rfl, rfl, q.1, q.2 _ H .refl (.str _) r⟩)
  | ref a =>
    cases ty <;> try exact q.elim
    unfold rMulA at q
    dsimp only at q
    cases ea : G a with
    | none => rw [ea] at q; exact q.elim
    | some oa =>
      rw [ea] at q
      cases oa <;> try exact q.elim
      obtain ⟨vs, e1, t1⟩ := r a _ ea
      exact .inr (.inr ⟨a, _, vs, rfl, rfl, e1, q.1, q.2.1, by rw [t1.length]; exact q.2.2.1, fun p hp => q.2.2.2 p (r.no hp) _ _ (Mono.new hp _) (.ref p) (r.new hp (t1.rep _))⟩)
  | _ => exact q.elim
theorem em_mulA {X : Cx} {a b : Expr} {ga gb : GE} {pos : Pos} (ha : Em X a ga) (hb : Em X b gb) : Em X (.BinOp a .Mult b pos) (gBin rMulA ga gb) := ⟨ew_bin (OpR.or op_mul (OpR.or op_mulS op_rep)) rMulA_M ha.m hb.m rMulA_up ha.p hb.p, gBin_M rMulA_M ha.m hb.m⟩
end L3
set_option Elab.async false
set_option linter.all false
set_option maxRecDepth 100000
set_option maxHeartbeats 4000000
namespace L3
open PySem PySem.Spec PyProof.Rows L2
variable {K : PySem.W.Frag} {H H' H2 : Hp}
noncomputable def iSeq (K : PySem.W.Frag) (tl : TE) : TI := fun σ H R => tl σ H fun x H1 => (∃ a, x = .ref a ∧ (∃ xs, SqL K H1 a xs) ∧ R (Itl K a) H1) ∨ (∃ a, x = .ref a ∧ (∃ xs, SqT K H1 a xs) ∧ R (Itt K a) H1)
theorem pi_seq {X : Cx} {tg l : Expr} {tl : TE} (hl : PE X l tl) : PI X tg l (iSeq X.K tl) := by
  intro pins s σ H R I h
  refine thn (hl pins s σ H _ I h) fun v s1 zz1 => ?_
  obtain ⟨x, H1, I1, r1, q1⟩ := zz1
  rcases q1 with ⟨a, e, ⟨xs, hq⟩, q⟩ | ⟨a, e, ⟨xs, hq⟩, q⟩
  · subst e
    cases r1
    obtain ⟨its, rv, p, hz⟩ := I1.list hq
    refine wpAny_pyIter_list p.isList ?_
    refine ⟨s1.heap.objs.size, [s1.heap.objs.size], _, _, H1, rfl, I1.kept (t' := s1.toks) fun b o e => Heap.get?_push_of_some _ e, turn_list a _, ⟨_, Heap.get?_push_size _ rfl, rfl, rfl⟩, fun b hb => ?_, q⟩
    have e : b = s1.heap.objs.size := by simpa using hb
    subst e
    exact I1.fpOk (Nat.le_refl _) (I1.hok.fresh (Nat.le_refl _))
  · subst e
    cases r1
    obtain ⟨its, rv, p, hz⟩ := I1.tuple hq
    refine wpAny_pyIter_tuple (show s1.heap.IsTuple a its.toArray from p) ?_
    refine ⟨s1.heap.objs.size, [s1.heap.objs.size], _, _, H1, rfl, I1.kept (t' := s1.toks) fun b o e => Heap.get?_push_of_some _ e, turn_tuple a _, ⟨_, Heap.get?_push_size _ rfl, rfl, rfl⟩, fun b hb => ?_, q⟩
    have e : b = s1.heap.objs.size := by simpa using hb
    subst e
    exact I1.fpOk (Nat.le_refl _) (I1.hok.fresh (Nat.le_refl _))
noncomputable def gIterS (ga : GE) : GI := fun ω G R => ga ω G fun w G1 => match w with
  | .tup ws => R ws yes G1
  | .rol ws => R ws yes G1
  | .ref a => match G1 a with | some (.lst ws) => R ws (holds a ws) G1 | _ => False
  | _ => False
theorem gIterS_M {ga : GE} (m : ga.M) : GI.M (gIterS ga) := fun ω G R R' h q => m _ _ _ _ (fun w G1 z => by
  cases w with
  | tup ws => exact h _ _ _ z
  | rol ws => exact h _ _ _ z
  | ref a =>
    dsimp only at z ⊢
    cases e : G1 a with
    | none => rw [e] at z; exact z
    | some o =>
      rw [e] at z
      cases o <;> first | exact h _ _ _ z | exact z
  | _ => exact z) q
theorem im_seq {X : Cx} {tg l : Expr} {ga : GE} (hl : Em X l ga) : Im X tg l (gIterS ga) := by
  refine ⟨⟨_, pi_seq hl.p, fun σ H ω G R R0 ts r q k => ⟨ω, G, ts, r, hl.m _ _ _ _ (fun w G1 z v H1 m t r1 => ?_) q⟩⟩, gIterS_M hl.m⟩
  cases t with
  | tup h l => exact .inr ⟨_, rfl, ⟨_, h⟩, k _ _ _ H1 _ z m r1 trivial (walk_sqT h l)⟩
  | rol h l => exact .inl ⟨_, rfl, ⟨_, h.sq⟩, k _ _ _ H1 _ z m r1 trivial (walk_sqL fun H2 G2 m2 _ _ => ⟨_, (m2.rol _ _ h).sq, l.mono m2⟩)⟩
  | ref a =>
    dsimp only at z
    cases e : G1 a with
    | none => rw [e] at z; exact z.elim
    | some o =>
      rw [e] at z
      cases o with
      | lst ws =>
        obtain ⟨vs, e1, t1⟩ := r1 a _ e
        exact .inl ⟨a, rfl, ⟨vs, SqL.of e1⟩, k _ _ _ H1 _ z m r1 e (walk_sqL fun H2 G2 m2 r2 g2 => let ⟨vs, e2, t2⟩ := r2 a _ g2; ⟨vs, SqL.of e2, t2⟩)⟩
      | _ => exact z.elim
  | _ => exact z.elim
/-- x = [.. for ..] -/
theorem sm_compC {X : Cx} {P : Hp → Prop} {elt tg iter : Expr} {ifs : List Expr} {scope : Scope} {pos pos' spos : Pos} {i : Nat} {x : Str} {Nc : List Str} {n : Nat} {js : List Nat} {cl : List (Str × Addr)} {gi : GI} {gg : GG} {gt : GT} {ge : GE} (hN : X.N.Nodup) (hix : X.N[i]? = some x) (hx : local? X.env.scope x = true)
    (hsw : swapsWith (.ListComp elt [⟨tg, iter, ifs, 0⟩] scope pos) (some (.Name x pos')) spos.line X.env = pure true) (hc : X.calm = true) (B : Blk X Nc scope cl (capO n js)) (hs : ∀ x, foldedSetIterable iter X.env x = pure x) (hi : Im X tg iter gi)
    (hu : TgC X Nc scope cl tg gg) (ht : ∀ C fp s H, Fm (cxB X Nc scope cl C fp s H) ifs gt) (he : ∀ C fp s H, Em (cxB X Nc scope cl C fp s H) elt ge) :
    Sm X P (.Assign [.Name x pos'] (.ListComp elt [⟨tg, iter, ifs, 0⟩] scope pos) spos) (gSet i (gCompC gi n js gg gt ge)) := by
  have mt : gt.M := (ht 0 [] X.s₀ X.H₀).m
  have me : ge.M := (he 0 [] X.s₀ X.H₀).m
  refine ⟨fun B0 hB => ?_, gSet_M (gCompC_M hi.m hu.mono mt me)⟩
  obtain ⟨wi, hwi, hi'⟩ := hi.p
  obtain ⟨g, hpg, hgg⟩ := hu.ex
  refine ps_sub (ps_setComp (tt := upT X.K gt) (te := up X.K ge) hN hix (local_of hx) hsw hc hwi B hpg (fun C fp s H => (ht C fp s H).p) (fun C fp s H => (he C fp s H).p) hs) fun D σ H zz2 => ?_
  obtain ⟨ω, G, ts, r, mb, q⟩ := zz2
  refine comp_upC hi' hgg hu.mono mt me σ H _ ⟨ω, G, ts, r, gCompC_M hi.m hu.mono mt me _ _ _ _ (fun w G1 z v H1 m t r1 => ?_) q⟩
  exact z _ H1 (mb.trans m) ((ts.mono m).set i t) r1
end L3
namespace L3
open PySem PySem.Spec PyProof.Rows L2
variable {K : PySem.W.Frag} {H H' H2 : Hp}
section
variable {X : Cx} {CX : CXT} {k : Nat} {f : Addr} {fd : FuncData} {ps : List Str} {sp : Sp} {Eσ : St → XK} {x : Str} {p pos : Pos} {e : Expr} {es : List Expr} {t : TA}
theorem ld_var {E : Value → Shared → Prop} {pins : List (Addr × Obj)} {s : Shared} {σ : St} {H : Hp} {i : Nat} {x : Str} {v : V} {pos : Pos} {Q : Value → Shared → Prop} (I : Inv X pins σ H s) (hN : X.N[i]? = some x) (hv : Vis X.env.scope x) (e : σ[i]? = some (some v)) (hd : (x == ("__debug__" : Str)) = false) (hcd : (x == ("__classdict__" : Str)) = false)
    (fin : ∀ u, RelV v u → Q u s) : wpAny (model X.prog X.w) X.A (eval (.Name x pos) X.env) Q E s := by
  obtain ⟨m, hn, hl⟩ := I.loc
  obtain ⟨u, r, l⟩ := hl i x v hN e hv
  rcases l with ⟨hk, hm⟩ | ⟨hk, c, hc, hcell⟩
  · exact wpAny_Name (wpAny_loadName_local I.ok.kind hk hn hm (fin u r)) hd
  · rcases hk with hk | hk
    · exact wpAny_Name (wpAny_loadName_cell I.ok.kind hk hc hcell (fin u r)) hd
    · exact wpAny_Name (wpAny_loadName_free I.ok.kind hk hc hcell (fin u r) hcd) hd
theorem pe_callV {i : Nat} (F : FnOk X.prog X.w X.K X.mg X.base CX k f fd ps sp) (hr : Room k X.A) (hN : X.N[i]? = some x) (hv : Vis X.env.scope x) (hk : PySem.W.keepIn X.K (.ref f) = true) (hb : Binds X.K fd ps []) (hx : PassesS CX X Eσ)
    (ha : PA X (e :: es) t) (hdb : (x == ("__debug__" : Str)) = false) (hcd : (x == ("__classdict__" : Str)) = false) (he : starEach (e :: es) X.env = (false, eval e X.env) :: starEach es X.env) (hpl : (backTo pos (starEach es X.env)).any (·.1) = false) :
    PE X (.Call (.Name x p) (e :: es) [] pos) (fun σ H Q => σ[i]? = some (some (.ref f)) ∧ tCallS sp [] Eσ t σ H Q) := by
  intro pins s σ H Q I ⟨hi, h⟩
  refine wpAny_Call_Name_kw (ld_var I hN hv hi hdb hcd fun u hu => ?_)
  cases hu
  refine PySem.W.callWith_K (h₀ := X.base) I.ok.mod.kin hk (thn (ha pos pins s σ H _ I h) fun us s1 ⟨vs, H1, I1, r, q⟩ => ⟨I1.kIn, ?_⟩) he hpl
  have r2 : Vals (vs ++ []) (us ++ []) := r.append .nil
  have hl : (us ++ []).length = ps.length := by rw [← r2.length]; exact F.len _ _ _ _ q
  refine wpAny_call (codeAny_mono (F.run X.A X.stack s1 H1 ⟨us, []⟩ (us ++ []) (vs ++ []) Q (Eσ σ) hr I1.env0 (hb s1 us I1.kIn hl) r2 q) fun r s' hq => ?_)
  cases r with
  | error e => exact hx pins σ H1 s1 e s' I1 hq
  | ok fl =>
    cases fl with
    | ret u => exact I1.after hq
    | next => exact False.elim hq
    | brk => exact False.elim hq
    | cont => exact False.elim hq
end
/-- where a def of the text lies -/
noncomputable def fAt (mg : Str → Option Value) (x : Str) : Addr := match mg x with | some (.ref f) => f | _ => 0
theorem fAt_of {mg : Str → Option Value} {x : Str} {f : Addr} (h : mg x = some (.ref f)) : fAt mg x = f := by unfold fAt; rw [h]
section
variable {X : Cx} {e : Expr} {es : List Expr} {pos p : Pos} {ga gb : GE} {gs : GA} {ex : Xw}
/-- f(..), f a name of the def's own that stands for a def of the text -/
noncomputable def gCallV (i : Nat) (f : Addr) (sp : Spw) (ex : Xw) (gs : GA) : GE := fun ω G Q => ω[i]? = some (some (.ref f)) ∧ gs ω G fun ws G1 => sp ws G1 Q (ex ω)
theorem gCallV_M {i : Nat} {f : Addr} {sp : Spw} (m : sp.M) (ms : gs.M) : GE.M (gCallV i f sp ex gs) := fun ω G Q Q' h q => ⟨q.1, ms _ _ _ _ (fun ws G1 q1 => m _ _ _ _ _ _ h (fun _ _ z => z) q1) q.2⟩
theorem ew_callV {i : Nat} {x y : Str} {k n : Nat} {sp : Spw} (D : Df X.prog X.w X.K X.mg X.base y k n sp) (hr : Room k X.A) (hN : X.N[i]? = some x) (hv : Vis X.env.scope x) (hp : PassW X ex) (ms : gs.M) (ha : PAw X (e :: es) gs)
    (hdb : (x == ("__debug__" : Str)) = false) (hcd : (x == ("__classdict__" : Str)) = false) (he : starEach (e :: es) X.env = (false, eval e X.env) :: starEach es X.env) (hpl : (backTo pos (starEach es X.env)).any (·.1) = false) :
    PEw X (.Call (.Name x p) (e :: es) [] pos) (gCallV i (fAt X.mg y) sp ex gs) := by
  obtain ⟨f, fd, ps, hm, hk, hb, _, F⟩ := D.ex
  rw [fAt_of hm]
  refine pe_sub (pe_callV F hr hN hv hk hb hp ha hdb hcd he hpl) fun σ H Q zz1 => ?_
  obtain ⟨ω, G, ts, r, q0, q⟩ := zz1
  obtain ⟨v, ev, tv⟩ := ts.get i _ q0
  cases tv
  refine ⟨ev, ω, G, ts, r, ms _ _ _ _ (fun ws G1 q1 vs H1 m1 tvs r1 => ?_) q⟩
  refine ⟨ws, G1, by rw [List.append_nil]; exact tvs, r1, D.mono _ _ _ _ _ _ (fun w G' z => dn_mono m1 z) (fun C G' z H2 m2 r2 => ?_) q1⟩
  exact ⟨C, ω, G', rfl, (ts.mono m1).mono m2, r2, z⟩
theorem em_callV {i : Nat} {x y : Str} {k n : Nat} {sp : Spw} (D : Df X.prog X.w X.K X.mg X.base y k n sp) (hr : Room k X.A) (hi : place X.N x = some i) (hv : seen X.env.scope x = true) (hp : PassW X ex) (hdb : (x == ("__debug__" : Str)) = false) (hcd : (x == ("__classdict__" : Str)) = false) (he : starEach (e :: es) X.env = (false, eval e X.env) :: starEach es X.env) (hpl : (backTo pos (starEach es X.env)).any (·.1) = false)
    (ha : Am X (e :: es) gs) : Em X (.Call (.Name x p) (e :: es) [] pos) (gCallV i (fAt X.mg y) sp ex gs) := ⟨ew_callV D hr (place_at hi) (seen_vis hv) hp ha.m ha.p hdb hcd he hpl, gCallV_M D.mono ha.m⟩
/-- the name of a def of the text as a value -/
theorem em_dv {x : Str} {k n : Nat} {sp : Spw} (D : Df X.prog X.w X.K X.mg X.base x k n sp) (hg : Gl X x) (hd : (x == ("__debug__" : Str)) = false) : Em X (.Name x pos) (gC (.ref (fAt X.mg x))) := by
  obtain ⟨f, fd, ps, hm, hk, hb, _, F⟩ := D.ex
  rw [fAt_of hm]
  exact ⟨ew_glob (v := .ref f) hg hm rfl (fun H => .ref f) hd, gC_M⟩
end
end L3
set_option maxHeartbeats 1000000
namespace L3
open PySem PySem.Spec PyProof.Rows L2
section
variable {α : Type} {x y z : α} {xs : List α}
theorem atI_0 : atI (x :: xs) 0 = some x := atI_nat (j := 0) (xs := x :: xs) rfl
theorem atI_1 : atI (x :: y :: xs) 1 = some y := atI_nat (j := 1) (xs := x :: y :: xs) rfl
theorem atI_2 : atI (x :: y :: z :: xs) 2 = some z := atI_nat (j := 2) (xs := x :: y :: z :: xs) rfl
end
theorem opt_some {w : W} {f : W → Prop} : opt (some w) f = f w := rfl
theorem sub_put {G : Hw} {p : Addr} {o : HW} (h : G p = none) : Sub G (put G p o) := Sub.refl.put h
theorem sub_put2 {G G' : Hw} {p : Addr} {o : HW} (s : Sub G G') (h : G' p = none) : Sub G (put G' p o) := s.trans (sub_put h)
theorem put_put {G : Hw} {p : Addr} {o o' : HW} : put (put G p o) p o' = put G p o' := by
  funext b; unfold put; split <;> rfl
theorem lst_ref {G : Hw} {p : Addr} {xs : List W} (h : G p = some (.lst xs)) : lstAt G (.ref p) = some xs := by unfold lstAt; dsimp only; rw [h]
theorem seq_ref {G : Hw} {p : Addr} {xs : List W} (h : G p = some (.lst xs)) : seqAt G (.ref p) = some xs := by unfold seqAt; dsimp only; rw [h]
theorem rd_ref {G : Hw} {p : Addr} {xs : List W} (h : G p = some (.lst xs)) : rdL G (.ref p) = some xs := by unfold rdL; dsimp only; rw [h]
theorem ix_ref {G : Hw} {p : Addr} {xs : List W} {i : Int} (h : G p = some (.lst xs)) : ixW (.ref p) (.int i) G = atI xs i := by unfold ixW; dsimp only; rw [h]
theorem bools_map : ∀ bs : List Bool, bools (bs.map W.bl) = some bs
  | [] => rfl
  | b :: bs => by show (bools (bs.map W.bl)).map (b :: ·) = _; rw [bools_map bs]; rfl
theorem comp1 {gd : Hw → Prop} {ge : GE} {R : List W → Hw → Prop} {f : W → W} {G : Hw} (hgd : gd G) : ∀ (ws : List W) (o : Option W) (ys : List W), (∀ x ∈ ws, ∀ Q : Kw, Q (f x) G → ge [some x] G Q) →
    ys.length + ws.length ≤ sizeLine → R (ys ++ ws.map f) G → goComp gd (gNm 0) gYes ge R ws [o] G ys
  | [], o, ys, _, _, r => ⟨hgd, by simpa using r⟩
  | x :: ws, o, ys, h, hl, r => by
    refine ⟨hgd, by simp only [List.length_cons] at hl; omega, ?_⟩
    show ge [some x] G fun y G3 => goComp gd (gNm 0) gYes ge R ws [some x] G3 (ys ++ [y])
    refine h x List.mem_cons_self _ (comp1 hgd ws (some x) (ys ++ [f x]) (fun y hy => h y (List.mem_cons_of_mem _ hy)) ?_ ?_)
    · simp only [List.length_append, List.length_cons, List.length_nil] at hl ⊢; omega
    · simpa [List.append_assoc] using r
theorem comp2 {gd : Hw → Prop} {ge : GE} {R : List W → Hw → Prop} {f : W → W → W} {G : Hw} (hgd : gd G) : ∀ (ws : List (W × W)) (o o' : Option W) (ys : List W), (∀ x ∈ ws, ∀ Q : Kw, Q (f x.1 x.2) G → ge [some x.1, some x.2] G Q) →
    ys.length + ws.length ≤ sizeLine → R (ys ++ ws.map fun x => f x.1 x.2) G → goComp gd (gNm2 0 1) gYes ge R (ws.map fun x => W.tup [x.1, x.2]) [o, o'] G ys
  | [], o, o', ys, _, _, r => ⟨hgd, by simpa using r⟩
  | x :: ws, o, o', ys, h, hl, r => by
    refine ⟨hgd, by simp only [List.length_cons] at hl; omega, ?_⟩
    show ge [some x.1, some x.2] G fun y G3 => goComp gd (gNm2 0 1) gYes ge R (ws.map fun x => W.tup [x.1, x.2]) [some x.1, some x.2] G3 (ys ++ [y])
    refine h x List.mem_cons_self _ (comp2 hgd ws (some x.1) (some x.2) (ys ++ [f x.1 x.2]) (fun y hy => h y (List.mem_cons_of_mem _ hy)) ?_ ?_)
    · simp only [List.length_append, List.length_cons, List.length_nil] at hl ⊢; omega
    · simpa [List.append_assoc] using r
theorem zipW_map : ∀ (xs ys : List W), zipW xs ys = (xs.zip ys).map fun x => W.tup [x.1, x.2]
  | [], _ => by simp [zipW]
  | _ :: _, [] => by simp [zipW]
  | x :: xs, y :: ys => by simp [zipW, zipW_map xs ys]
/-- what a def promises that leaves the heap: for arguments as A says, a value -/
noncomputable def spR {α : Type} (A : α → List W → Hw → Prop) (f : α → W) : Spw := fun ws G Q _ => ∃ x, A x ws G ∧ Q (f x) G
theorem spR_M {α : Type} {A : α → List W → Hw → Prop} {f : α → W} : Spw.M (spR A f) := (by rintro ws G Q Q' E E' h _ ⟨x, h1, q⟩; exact ⟨x, h1, h _ _ q⟩)
/-- .. a new list -/
noncomputable def spL {α : Type} (A : α → List W → Hw → Prop) (f : α → List W) : Spw := fun ws G Q _ => ∃ x, A x ws G ∧ ∀ p, G p = none → Q (.ref p) (put G p (.lst (f x)))
theorem spL_M {α : Type} {A : α → List W → Hw → Prop} {f : α → List W} : Spw.M (spL A f) := (by rintro ws G Q Q' E E' h _ ⟨x, h1, q⟩; exact ⟨x, h1, fun p hp => h _ _ (q p hp)⟩)
theorem cut_1 {α : Type} (xs : List α) : cutW xs (some 1) none = xs.drop 1 := by
  have e : HT.sIx xs.length 0 (some 1) = min 1 xs.length := HT.sIx_nat xs.length 0 1
  unfold cutW
  rw [e, HT.sIx_none]
  cases xs with
  | nil => rfl
  | cons x xs =>
    have e1 : min 1 (x :: xs).length = 1 := by simp only [List.length_cons]; omega
    rw [e1]
    show (xs.take ((xs.length + 1) - 1)) = xs
    rw [Nat.add_sub_cancel, List.take_length]
theorem not_whole {α : Type} (x : α) (xs : List α) : ¬ (HT.sIx (x :: xs).length 0 (some 1) = 0 ∧ HT.sIx (x :: xs).length (x :: xs).length none = (x :: xs).length) := by
  have e : HT.sIx (x :: xs).length 0 (some 1) = min 1 (x :: xs).length := HT.sIx_nat (x :: xs).length 0 1
  intro h
  have := h.1
  rw [e] at this
  simp only [List.length_cons] at this
  omega
theorem sl_ref {G : Hw} {p : Addr} {xs : List W} {lo hi : Option Int} {Q : Kw} (h : G p = some (.lst xs)) (q : ∀ p1, G p1 = none → Q (.ref p1) (put G p1 (.lst (cutW xs lo hi)))) : slW (.ref p) lo hi G Q := by
  unfold slW
  dsimp only
  rw [h]
  exact q
theorem ne_none {G : Hw} {p q : Addr} {o : HW} (h : G p = some o) (h' : G q = none) : p ≠ q := by intro e; rw [e, h'] at h; cases h
theorem small_le {n : Nat} (h : n ≤ 100000) : n ≤ sizeLine := Nat.le_trans h (by decide)
theorem small_lt {n : Nat} (h : n ≤ 100000) : n < sizeLine := Nat.lt_of_le_of_lt h (by decide)
end L3
namespace L3
open PySem PySem.Spec PyProof.Rows L2
section
variable {P : Program} {w : World} {K : PySem.W.Frag} {mg : Str → Option Value} {base : Heap}
/-- the law's own def: at its own address -/
theorem ok0 {x : Str} {st : Stmt} {f : Addr} {fd : FuncData} {N ps : List Str} {k : Nat} {sp : Spw} {g : GS} (F : Fun K x x st f fd) (S : FnScope N ps (defScope st)) (len : ∀ ws G Q E, sp ws G Q E → ws.length = ps.length)
    (hg : ∀ {f : Addr} {cdv : Value} {A : Around} {outer : List Env} {s : Shared} {H : Hp} {E : XK}, Room k (A.deeper (envOfC x (defScope st) s.heap.objs.size f cdv)) → Ssm (cxW P w K mg base N x (defScope st) f cdv A outer s H E).nox (fun B => B = H) (defBody st) g)
    (ok : ∀ ws G (Q : Kw) (E : Addr → Hw → Prop), Kw.C Q → sp ws G Q E → g (endsW Q) (startW N ws) G) : FnOk P w K mg base (CXe P w) (k + 1) f fd ps (upSp K sp) := by
  obtain ⟨oc, od, kV, doc, pm, an, cdv, ct, osl, rfl, lk, hcd⟩ := F.ex
  refine fn_of lk hcd S ((by rintro vs H Q E ⟨ws, G, t, r, q⟩; rw [t.length]; exact len ws G _ _ q)) fun A outer s H vs Q E hr hsp => ?_
  obtain ⟨ws, G, t, r, q⟩ := hsp
  have D := hg (cdv := cdv) (outer := outer) (H := H) (E := E) hr
  refine ⟨_, (D.p H rfl).nox, startW N ws, G, trSt_start t, r, .refl, ?_⟩
  exact D.m _ _ (endsW (dn K H Q)) _ (fun a b z σ H2 m ts r2 => z _ H2 m Tr.non r2) (fun a b z => z) (fun a b z => z.elim) (fun a b z => z.elim) (ok ws G _ _ dn_C q)
end
/-- what the law is asked: its script, a list of ints that is only read; the answer is True -/
noncomputable def spLaw : Spw := fun ws _ Q _ => ∃ ns : List Int, ws = [.rol (ns.map W.int)] ∧ ns.length ≤ 63 ∧ ∀ G', Q (.bl true) G'
theorem trL_ints {K : PySem.W.Frag} {H : Hp} : ∀ ns : List Int, TrL K H (ns.map V.int) (ns.map W.int)
  | [] => .nil
  | n :: ns => .cons (.int n) (trL_ints ns)
theorem law_asked {K : PySem.W.Frag} {H : Hp} {a : Addr} {ns : List Int} (hl : ns.length ≤ 63) (hO : Only H) (hS : SqL K H a (ns.map V.int)) : upSp K spLaw [.ref a] H (fun v _ => v = .bl true) (fun _ _ _ => False) := by
  have ro : RoL K H a (ns.map V.int) := by
    rcases hS with (h | ⟨o, h⟩) | h
    · rcases hO a with z | ⟨o, xs, z⟩
      · rw [z] at h; cases h
      · rw [z] at h; cases h
    · exact .inl ⟨o, h⟩
    · exact .inr h
  exact ⟨[.rol (ns.map W.int)], fun _ => none, .cons (.rol ro (trL_ints ns)) .nil, (fun a o e => by cases e), ns, rfl, hl, fun G' v H' m t r => tr_bl t⟩
theorem no_raise {P : Program} {w : World} {H : Hp} {s : Shared} {e : Value} {s' : Shared} (h : CXe P w [] H s (fun _ _ _ => False) e s') : False := by
  obtain ⟨_, _, _, _, _, q⟩ := h
  exact q
section
variable {K : PySem.W.Frag} {h : Heap} {mg : Str → Option Value} (X : K.In h) (G : h.Ns mainGlobals mg)
include X G
theorem fn_mk {x : Str} {st : Stmt} {ps : List Str} {f : Addr} {oc : Value} {od an : Option Addr} {osl : Array (Option Value)} {kV doc pm cdv ct : Value} (e1 : PySem.W.nsIn K mainGlobals x = some (some (.ref f)))
    (l : K.lookup f = some ⟨oc, od, .func (PySem.W.fnOf x x (defArgs st) (defBody st) (defScope st) .none kV doc pm an cdv ct), osl⟩) (c : PySem.W.codeIn K cdv x = true) (k : PySem.W.keepIn K (.ref f) = true)
    (b : ∀ (kV doc pm : Value) (an : Option Addr) (cdv ct : Value) (us : List Value), us.length = ps.length → bindArgs (PySem.W.fnOf x x (defArgs st) (defBody st) (defScope st) .none kV doc pm an cdv ct) ⟨us, []⟩ = pure (ps.zip us)) : Fn K mg st x ps :=
  ⟨f, _, PySem.W.mg_of X G e1, fun_mk l c k, (fun_mk l c k).binds b⟩
theorem gint_mk {x : Str} {i : Int} {t : Tok} (e : PySem.W.nsIn K mainGlobals x = some (some (.int i t))) : Glb K mg x (.int i) := ⟨.int i, .int i t, PySem.W.mg_of X G e, ⟨t, rfl⟩, fun H => .int i⟩
/-- a tuple of texts of the module -/
theorem gtup_mk {x : Str} {d : Addr} {ts : List (Str × Tok)} {dd : Option Addr} {n : Nat} {sl : Array (Option Value)} (e : PySem.W.nsIn K mainGlobals x = some (some (.ref d))) (l : K.lookup d = some ⟨.type "tuple", dd, .seq ((ts.map fun p => Value.str p.1 p.2).toArray) n, sl⟩) (hz : ts.length ≤ 1000) :
    Glb K mg x (.tup (ts.map fun p => .str p.1)) := by
  have vs : ∀ ts : List (Str × Tok), Vals (ts.map fun p => V.str p.1) (ts.map fun p => Value.str p.1 p.2) := fun ts => by
    induction ts with
    | nil => exact .nil
    | cons p ts ih => exact .cons ⟨p.2, rfl⟩ ih
  have tr : ∀ (H : Hp) (ts : List (Str × Tok)), TrL K H (ts.map fun p => V.str p.1) (ts.map fun p => W.str p.1) := fun H ts => by
    induction ts with
    | nil => exact .nil
    | cons p ts ih => exact .cons (.str _) ih
  refine ⟨.ref d, .ref d, PySem.W.mg_of X G e, rfl, fun H => .tup (.inr ⟨_, _, n, l, rfl, rfl, ?_, by simpa using vs ts⟩) (tr H ts)⟩
  simp only [List.size_toArray, List.length_map]
  exact Nat.le_trans hz (by decide)
end
/-- a table of texts to ints of the module -/
theorem tab_mk {K : PySem.W.Frag} {h base : Heap} {mg : Str → Option Value} (X : K.In h) (G : h.Ns mainGlobals mg) (B : K.In base) {x : Str} {d : Addr} {o : Obj} {es : Array DictEntry} {ep : Nat} {D : List (Str × Int)} (e : PySem.W.nsIn K mainGlobals x = some (some (.ref d))) (l : K.lookup d = some o)
    (hd : (d == sysModules) = false) (hx : o.ExactDict) (ho : o.data = .dict es ep) (hr : KTD.Rows (KTD.Dat.At base) es.toList (D.map fun p => (p.1, KTD.Dat.flat (.int p.2)))) : TabK mg base x D :=
  ⟨d, PySem.W.mg_of X G e, hd, o, es, ep, B _ _ l, hx, ho, hr⟩
theorem walkL {l : PySem.W.OpenLaw} {q : Program} {loose : List Str} {XP : (Str → Option Value) → Heap → Prop} {YP : World → Heap → Prop} {d : DefRec} {K : Params → PySem.W.Frag} {k : Nat} (hr : Room k callerA) (hn : l.most = some 63) (hdf : d.params.defaults = [])
    (hY : ∀ (w : World) (h : Heap), YP w h → (K w.params).In h)
    (F : ∀ (w : World) (mg : Str → Option Value) (fa : Addr) (h : Heap), (K w.params).In h → h.Ns mainGlobals mg → mg d.name = some (.ref fa) →
      ∃ fd : FuncData, (∀ (s : Shared) (u : Value), BindsTo s fd ⟨[u], []⟩ [("script", u)]) ∧ ∀ base : Heap, (K w.params).In base → base.Ns mainGlobals mg → FnOk l.prog w (K w.params) mg base (CXe l.prog w) k fa fd ["script"] (upSp (K w.params) spLaw)) :
    PySem.W.WalkO q loose XP YP l.row.toRowW d [] (fun f vs => PySem.call f vs) :=
  L2.walk_of (n := 63) (k := k) (x := "script") (CX := fun w => CXe l.prog w) (sp := fun w => upSp (K w.params) spLaw) hn (by decide) hdf hr hY F (fun w H a ns hl hO hS => law_asked hl hO hS) fun w H s e s' z => no_raise z
/-- lists of so many things -/
theorem ln0 {us : List Value} (h : us.length = 0) : us = [] := List.length_eq_zero_iff.mp h
theorem ln1 {us : List Value} {n : Nat} (h : us.length = n + 1) : ∃ a r, us = a :: r ∧ r.length = n := by
  cases us with
  | nil => cases h
  | cons a r => exact ⟨a, r, rfl, Nat.succ.inj h⟩
end L3
namespace K3
open PySem L2 L3
mutual
inductive Kd where
  | any | num | truth
  | to (a b : Kd) | box (a : Kd) | row (fs : Fs) (o : Bool)
inductive Fs where
  | nil | cons (n : Str) (m : Bool) (k : Kd) (r : Fs)
end
noncomputable def mark (m : Bool) : Str := if m then "must" else "may"
mutual
noncomputable def Kd.enc : Kd → W
  | .any => .tup [.str "any"]
  | .num => .tup [.str "num"]
  | .truth => .tup [.str "truth"]
  | .to a b => .tup [.str "to", a.enc, b.enc]
  | .box a => .tup [.str "box", a.enc]
  | .row fs o => .tup [.str "row", .tup fs.enc, .bl o]
noncomputable def Fs.enc : Fs → List W
  | .nil => []
  | .cons n m k r => .tup [.str n, .str (mark m), k.enc] :: r.enc
end
noncomputable def Fs.kinds : Fs → List Kd
  | .nil => []
  | .cons _ _ k r => k :: r.kinds
noncomputable def Fs.names : Fs → List Str
  | .nil => []
  | .cons n _ _ r => n :: r.names
noncomputable def Kd.kids : Kd → List Kd
  | .to a b => [a, b]
  | .box a => [a]
  | .row fs _ => fs.kinds
  | _ => []
mutual
noncomputable def Kd.cnt : Kd → Nat
  | .to a b => 1 + (a.cnt + b.cnt)
  | .box a => 1 + a.cnt
  | .row fs _ => 1 + fs.cnt
  | _ => 1
noncomputable def Fs.cnt : Fs → Nat
  | .nil => 0
  | .cons _ _ k r => k.cnt + r.cnt
end
mutual
noncomputable def Kd.dp : Kd → Nat
  | .to a b => 1 + max a.dp b.dp
  | .box a => 1 + a.dp
  | .row fs _ => 1 + fs.dp
  | _ => 1
noncomputable def Fs.dp : Fs → Nat
  | .nil => 0
  | .cons _ _ k r => max k.dp r.dp
end
mutual
noncomputable def Kd.all : Kd → List Kd
  | .to a b => .to a b :: (a.all ++ b.all)
  | .box a => .box a :: a.all
  | .row fs o => .row fs o :: fs.all
  | .any => [.any]
  | .num => [.num]
  | .truth => [.truth]
noncomputable def Fs.all : Fs → List Kd
  | .nil => []
  | .cons _ _ k r => k.all ++ r.all
end
noncomputable def cntL : List Kd → Nat
  | [] => 0
  | k :: r => k.cnt + cntL r
noncomputable def dpL : List Kd → Nat
  | [] => 0
  | k :: r => max k.dp (dpL r)
theorem fs_cnt : ∀ fs : Fs, fs.cnt = cntL fs.kinds
  | .nil => rfl
  | .cons _ _ k r => by show k.cnt + r.cnt = k.cnt + cntL r.kinds; rw [fs_cnt r]
theorem fs_dp : ∀ fs : Fs, fs.dp = dpL fs.kinds
  | .nil => rfl
  | .cons _ _ k r => by show max k.dp r.dp = max k.dp (dpL r.kinds); rw [fs_dp r]
theorem cnt_kids (k : Kd) : k.cnt = 1 + cntL k.kids := by
  cases k with
  | to a b => show 1 + (a.cnt + b.cnt) = 1 + (a.cnt + (b.cnt + 0)); omega
  | box a => show 1 + a.cnt = 1 + (a.cnt + 0); omega
  | row fs o => show 1 + fs.cnt = 1 + cntL fs.kinds; rw [fs_cnt]
  | _ => rfl
theorem dp_kids (k : Kd) : k.dp = 1 + dpL k.kids := by
  cases k with
  | to a b => show 1 + max a.dp b.dp = 1 + max a.dp (max b.dp 0); omega
  | box a => show 1 + a.dp = 1 + max a.dp 0; omega
  | row fs o => show 1 + fs.dp = 1 + dpL fs.kinds; rw [fs_dp]
  | _ => rfl
theorem cntL_append : ∀ (l m : List Kd), cntL (l ++ m) = cntL l + cntL m
  | [], m => by simp [cntL]
  | k :: l, m => by show k.cnt + cntL (l ++ m) = k.cnt + cntL l + cntL m; rw [cntL_append l m]; omega
theorem dpL_append : ∀ (l m : List Kd), dpL (l ++ m) = max (dpL l) (dpL m)
  | [], m => by simp [dpL]
  | k :: l, m => by show max k.dp (dpL (l ++ m)) = max (max k.dp (dpL l)) (dpL m); rw [dpL_append l m]; omega
theorem cnt_pos (k : Kd) : 1 ≤ k.cnt := by rw [cnt_kids]; omega
theorem dp_pos (k : Kd) : 1 ≤ k.dp := by rw [dp_kids]; omega
theorem cntL_layer : ∀ l : List Kd, cntL l = l.length + cntL (l.flatMap Kd.kids)
  | [] => rfl
  | k :: l => by
    show k.cnt + cntL l = (l.length + 1) + cntL ((k :: l).flatMap Kd.kids)
    rw [List.flatMap_cons, cntL_append, cntL_layer l, cnt_kids k]; omega
theorem dpL_layer : ∀ l : List Kd, l ≠ [] → dpL l = 1 + dpL (l.flatMap Kd.kids)
  | [], h => absurd rfl h
  | [k], _ => by
    show max k.dp 0 = 1 + dpL ([k].flatMap Kd.kids)
    rw [List.flatMap_cons, List.flatMap_nil, List.append_nil, dp_kids]; omega
  | k :: k' :: l, _ => by
    have ih := dpL_layer (k' :: l) (by simp)
    show max k.dp (dpL (k' :: l)) = 1 + dpL ((k :: k' :: l).flatMap Kd.kids)
    rw [List.flatMap_cons, dpL_append, ih, dp_kids k]; omega
theorem cntL_len : ∀ l : List Kd, l.length ≤ cntL l
  | [] => Nat.le_refl _
  | k :: l => by have := cntL_len l; have := cnt_pos k; show l.length + 1 ≤ k.cnt + cntL l; omega
theorem cntL_mem : ∀ {l : List Kd} {k : Kd}, k ∈ l → k.cnt ≤ cntL l
  | k' :: l, k, h => by
    show k.cnt ≤ k'.cnt + cntL l
    rcases List.mem_cons.mp h with rfl | h
    · omega
    · have := cntL_mem h; omega
theorem dpL_mem : ∀ {l : List Kd} {k : Kd}, k ∈ l → k.dp ≤ dpL l
  | k' :: l, k, h => by
    show k.dp ≤ max k'.dp (dpL l)
    rcases List.mem_cons.mp h with rfl | h
    · omega
    · have := dpL_mem h; omega
theorem kids_dp {k c : Kd} (h : c ∈ k.kids) : c.dp + 1 ≤ k.dp := by rw [dp_kids k]; have := dpL_mem h; omega
theorem kids_cnt {k c : Kd} (h : c ∈ k.kids) : c.cnt + 1 ≤ k.cnt := by rw [cnt_kids k]; have := cntL_mem h; omega
theorem kids_len (k : Kd) : k.kids.length + 1 ≤ k.cnt := by rw [cnt_kids k]; have := cntL_len k.kids; omega
theorem fs_len : ∀ fs : Fs, fs.enc.length = fs.kinds.length
  | .nil => rfl
  | .cons _ _ k r => by show r.enc.length + 1 = r.kinds.length + 1; rw [fs_len r]
noncomputable def Kd.unk : Kd → Bool
  | .any => true
  | .row _ o => o
  | _ => false
noncomputable def Kd.fb : Kd → Bool
  | .to _ _ => true
  | .box _ => true
  | _ => false
noncomputable def Kd.known (k : Kd) : Bool := !(k.all.any Kd.unk)
noncomputable def Kd.data (k : Kd) : Bool := !(k.all.any Kd.fb)
noncomputable def Kd.hd : Kd → Str
  | .any => "any"
  | .num => "num"
  | .truth => "truth"
  | .to _ _ => "to"
  | .box _ => "box"
  | .row _ _ => "row"
noncomputable def Kd.own : Kd → List Str
  | .row _ o => if o then ["row", "open"] else ["row"]
  | k => [k.hd]
noncomputable def isLetter (z : Str) : Bool := !strLt z "a" && !strLt "z" z
noncomputable def okName (n : Str) : Bool := decide (1 ≤ n.length) && decide (n.length ≤ 8) && n.cps.toList.all fun c => isLetter ⟨#[c]⟩
noncomputable def rise : List Str → Bool
  | a :: b :: r => strLt a b && rise (b :: r)
  | _ => true
mutual
noncomputable def Kd.ok : Kd → Bool
  | .to a b => a.ok && b.ok
  | .box a => a.ok
  | .row fs _ => rise fs.names && fs.ok
  | _ => true
noncomputable def Fs.ok : Fs → Bool
  | .nil => true
  | .cons n _ k r => okName n && k.ok && r.ok
end
theorem fs_ok_kinds : ∀ {fs : Fs}, fs.ok = true → ∀ c ∈ fs.kinds, c.ok = true
  | .nil, _, c, hc => by cases hc
  | .cons n m k r, h, c, hc => by
    have h' : (okName n && k.ok && r.ok) = true := h
    simp only [Bool.and_eq_true] at h'
    rcases List.mem_cons.mp hc with rfl | hc
    · exact h'.1.2
    · exact fs_ok_kinds h'.2 c hc
theorem ok_kids {k : Kd} (h : k.ok = true) : ∀ c ∈ k.kids, c.ok = true := by
  intro c hc
  cases k with
  | to a b =>
    have h' : (a.ok && b.ok) = true := h
    simp only [Bool.and_eq_true] at h'
    have hc' : c = a ∨ c = b := by simpa [Kd.kids] using hc
    rcases hc' with rfl | rfl
    · exact h'.1
    · exact h'.2
  | box a => have hc' : c = a := by simpa [Kd.kids] using hc
             subst hc'; exact h
  | row fs o =>
    have h' : (rise fs.names && fs.ok) = true := h
    simp only [Bool.and_eq_true] at h'
    exact fs_ok_kinds h'.2 c hc
  | _ => cases hc
set_option Elab.async false
set_option linter.all false
set_option maxRecDepth 100000
set_option maxHeartbeats 4000000
open PySem PySem.Spec PyProof.Rows L2 L3
noncomputable abbrev s_is_small_letter : Stmt := top 20
noncomputable abbrev s_names_rise : Stmt := top 21
noncomputable abbrev s_is_name : Stmt := top 19
noncomputable abbrev s_is_field : Stmt := top 18
noncomputable abbrev s_are_fields : Stmt := top 17
noncomputable abbrev s_has_form : Stmt := top 16
noncomputable abbrev s_kinds_within : Stmt := top 15
noncomputable abbrev s_layer_within : Stmt := top 14
noncomputable abbrev s_is_made_of : Stmt := top 13
noncomputable abbrev s_is_kind : Stmt := top 12
noncomputable abbrev s_check_kind : Stmt := top 11
noncomputable abbrev s_Reader___init__ : Stmt := inClass (top 23) 0
noncomputable abbrev s_Reader_sees : Stmt := inClass (top 23) 1
noncomputable abbrev s_Reader_takes : Stmt := inClass (top 23) 2
noncomputable abbrev s_Reader_wants : Stmt := inClass (top 23) 3
noncomputable abbrev s_Reader_wants_end : Stmt := inClass (top 23) 4
noncomputable abbrev s_Reader_word : Stmt := inClass (top 23) 5
noncomputable abbrev s_kind_shown : Stmt := top 25
noncomputable abbrev s_kind_read : Stmt := top 26
noncomputable abbrev s_written : Stmt := top 27
noncomputable abbrev s_row_written : Stmt := top 28
noncomputable abbrev s_field_written : Stmt := top 29
noncomputable abbrev s_kind_from : Stmt := top 30
noncomputable abbrev s_function_from : Stmt := top 31
noncomputable abbrev s_box_from : Stmt := top 32
noncomputable abbrev s_row_from : Stmt := top 33
noncomputable abbrev s_field_from : Stmt := top 34
noncomputable abbrev s__law_state : Stmt := top 36
noncomputable abbrev s__law_take : Stmt := top 37
noncomputable abbrev s__law_kind : Stmt := top 38
noncomputable abbrev s__law_renamed : Stmt := top 39
noncomputable abbrev s__law_some_names : Stmt := top 40
noncomputable abbrev s__law_text : Stmt := top 41
noncomputable abbrev s__law_is_kind : Stmt := top 42
noncomputable abbrev s_law : Stmt := top 43
noncomputable def tab_LENGTHS : List (Str × Int) := [("any", 1), ("num", 1), ("truth", 1), ("to", 3), ("box", 2), ("row", 3)]
structure Adr where
  CastError : Addr
  NoKind : Addr
  BadNote : Addr
  Reader : Addr
structure Tx (K : PySem.W.Frag) (mg : Str → Option Value) (base : Heap) (a : Adr) : Prop where
  n_all : mg "all" = none
  n_bool : mg "bool" = none
  n_int : mg "int" = none
  n_isinstance : mg "isinstance" = none
  n_len : mg "len" = none
  n_list : mg "list" = none
  n_range : mg "range" = none
  n_str : mg "str" = none
  n_tuple : mg "tuple" = none
  n_zip : mg "zip" = none
  m_CastError : mg "CastError" = some (.ref a.CastError)
  m_NoKind : mg "NoKind" = some (.ref a.NoKind)
  m_BadNote : mg "BadNote" = some (.ref a.BadNote)
  m_Reader : mg "Reader" = some (.ref a.Reader)
  v_MARKS : Glb K mg "MARKS" (.tup [(.str "must"), (.str "may")])
  v_MOST_DEPTH : Glb K mg "MOST_DEPTH" (.int 8)
  v_MOST_KINDS : Glb K mg "MOST_KINDS" (.int 40)
  v_MOST_LETTERS : Glb K mg "MOST_LETTERS" (.int 8)
  t_LENGTHS : TabK mg base "LENGTHS" tab_LENGTHS
  f_is_small_letter : Fn K mg s_is_small_letter "is_small_letter" ["sign"]
  f_names_rise : Fn K mg s_names_rise "names_rise" ["names"]
  f_is_name : Fn K mg s_is_name "is_name" ["thing"]
  f_is_field : Fn K mg s_is_field "is_field" ["thing"]
  f_are_fields : Fn K mg s_are_fields "are_fields" ["thing"]
  f_has_form : Fn K mg s_has_form "has_form" ["thing"]
  f_kinds_within : Fn K mg s_kinds_within "kinds_within" ["kind"]
  f_layer_within : Fn K mg s_layer_within "layer_within" ["layer", "things_within"]
  f_is_made_of : Fn K mg s_is_made_of "is_made_of" ["thing", "is_formed", "things_within", "most", "deepest"]
  f_is_kind : Fn K mg s_is_kind "is_kind" ["thing"]
  f_check_kind : Fn K mg s_check_kind "check_kind" ["thing"]
  f_kind_shown : Fn K mg s_kind_shown "kind_shown" ["kind"]
  f_kind_read : Fn K mg s_kind_read "kind_read" ["text"]
  f_written : Fn K mg s_written "written" ["kind"]
  f_row_written : Fn K mg s_row_written "row_written" ["row"]
  f_field_written : Fn K mg s_field_written "field_written" ["field"]
  f_kind_from : Fn K mg s_kind_from "kind_from" ["reader", "depth"]
  f_function_from : Fn K mg s_function_from "function_from" ["reader", "depth"]
  f_box_from : Fn K mg s_box_from "box_from" ["reader", "depth"]
  f_row_from : Fn K mg s_row_from "row_from" ["reader", "depth"]
  f_field_from : Fn K mg s_field_from "field_from" ["reader", "depth"]
  f__law_state : Fn K mg s__law_state "_law_state" ["script", "k"]
  f__law_take : Fn K mg s__law_take "_law_take" ["state", "many"]
  f__law_kind : Fn K mg s__law_kind "_law_kind" ["state", "deep"]
  f__law_renamed : Fn K mg s__law_renamed "_law_renamed" ["kind", "names"]
  f__law_some_names : Fn K mg s__law_some_names "_law_some_names" ["state"]
  f__law_text : Fn K mg s__law_text "_law_text" ["kind"]
  f__law_is_kind : Fn K mg s__law_is_kind "_law_is_kind" ["found"]
  f_law : Fn K mg s_law "law" ["script"]
  cl_Reader : Cls K a.Reader
  na_Reader_place : NoAttr K a.Reader "place"
  na_Reader_text : NoAttr K a.Reader "text"
  f_Reader___init__ : FnI K mg "Reader" a.Reader s_Reader___init__ "Reader.__init__" ["self", "text"]
  f_Reader_sees : FnM K a.Reader s_Reader_sees "sees" "Reader.sees" ["self", "piece"]
  f_Reader_takes : FnM K a.Reader s_Reader_takes "takes" "Reader.takes" ["self", "piece"]
  f_Reader_wants : FnM K a.Reader s_Reader_wants "wants" "Reader.wants" ["self", "piece"]
  f_Reader_wants_end : FnM K a.Reader s_Reader_wants_end "wants_end" "Reader.wants_end" ["self"]
  f_Reader_word : FnM K a.Reader s_Reader_word "word" "Reader.word" ["self"]

section
variable {P : Program} {w : World} {K : PySem.W.Frag} {mg : Str → Option Value} {base : Heap} {a : Adr}
noncomputable abbrev n_is_small_letter : List Str := ["sign"]
theorem c_is_small_letter : FnScope n_is_small_letter ["sign"] (defScope s_is_small_letter) := ⟨rfl, rfl, rfl, by decide +kernel, rfl, by decide +kernel, by decide +kernel⟩
noncomputable def g_is_small_letter : GS := (gRet (gChain (rOrd (fun i j => decide (i ≤ j)) (fun a b => !strLt b a)) (rOrd (fun i j => decide (i ≤ j)) (fun a b => !strLt b a)) (gC (.str "a")) (gVar 0) (gC (.str "z"))))
theorem d_is_small_letter {k : Nat} (T : Tx K mg base a) {f : Addr} {cdv : Value} {A : Around} {outer : List Env} {s : Shared} {H : Hp} {E : XK} (hr : Room k (A.deeper (envOfC "is_small_letter" (defScope s_is_small_letter) s.heap.objs.size f cdv))) : Ssm (cxW P w K mg base n_is_small_letter "is_small_letter" (defScope s_is_small_letter) f cdv A outer s H E).nox (fun B => B = H) (defBody s_is_small_letter) (g_is_small_letter) :=
  have hu := u100 hr
  (ssm_one (sm_ret (em_chain cop_le cop_le rfl em_str (em_v (i := 0) rfl rfl rfl rfl) em_str)))
noncomputable abbrev n_names_rise : List Str := ["names"]
theorem c_names_rise : FnScope n_names_rise ["names"] (defScope s_names_rise) := ⟨rfl, rfl, rfl, by decide +kernel, rfl, by decide +kernel, by decide +kernel⟩
noncomputable def g_names_rise : GS := (gRet (gB (rF allF) (gCons (gComp (gZip (gCons (gVar 0) (gCons (gSl (gVar 0) (gPart (gC (.int 1))) gNoPart) gNil))) 2 (gNm2 0 1) gYes (gBin (rOrd (fun i j => decide (i < j)) strLt) (gVar 0) (gVar 1))) gNil)))
theorem d_names_rise {k : Nat} (T : Tx K mg base a) {f : Addr} {cdv : Value} {A : Around} {outer : List Env} {s : Shared} {H : Hp} {E : XK} (hr : Room k (A.deeper (envOfC "names_rise" (defScope s_names_rise) s.heap.objs.size f cdv))) : Ssm (cxW P w K mg base n_names_rise "names_rise" (defScope s_names_rise) f cdv A outer s H E).nox (fun B => B = H) (defBody s_names_rise) (g_names_rise) :=
  have hu := u100 hr
  (ssm_one (sm_ret (em_fn bt_all (blt_all rfl) rfl T.n_all (by decide) rfl rfl rfl (am_cons rfl (em_comp (Nc := ["one", "other"]) rfl (blk0 rfl (by decide +kernel) (by decide +kernel)) (fun _ => rfl) (im_zip T.n_zip rfl rfl rfl (am_cons rfl (em_v (i := 0) rfl rfl rfl rfl) (am_cons rfl (em_sl (em_v (i := 0) rfl rfl rfl rfl) (om_some em_int) om_none) am_nil))) (tgu_two (i := 0) (j := 1) rfl (by decide) rfl rfl rfl rfl) (fun C fp s1 H1 => fm_nil) (fun C fp s1 H1 => (em_cmp cop_lt rfl (em_v (i := 0) rfl rfl rfl rfl) (em_v (i := 1) rfl rfl rfl rfl)))) am_nil))))
noncomputable abbrev n_is_name : List Str := ["thing"]
theorem c_is_name : FnScope n_is_name ["thing"] (defScope s_is_name) := ⟨rfl, rfl, rfl, by decide +kernel, rfl, by decide +kernel, by decide +kernel⟩
noncomputable def g_is_name (sp_is_small_letter : Spw) : GS := (gSeq (gIf (gOr (gNt (gTru (gIsiT "str" (gVar 0)))) (gNt (gTB (gChain (rOrd (fun i j => decide (i ≤ j)) (fun a b => !strLt b a)) (rOrd (fun i j => decide (i ≤ j)) (fun a b => !strLt b a)) (gC (.int 1)) (gB (rF lenF) (gCons (gVar 0) gNil)) (gC (.int 8)))))) (gRet (gC (.bl false))) gNext) (gRet (gB (rF allF) (gCons (gComp (gIter (gVar 0)) 1 (gNm 0) gYes (gCall sp_is_small_letter (fun _ _ _ => False) (gCons (gVar 0) gNil))) gNil))))
theorem d_is_name {k : Nat} (T : Tx K mg base a) {k_is_small_letter : Nat} {sp_is_small_letter : Spw} (D_is_small_letter : Df P w K mg base "is_small_letter" k_is_small_letter 1 sp_is_small_letter) (h_is_small_letter : k_is_small_letter ≤ k) {f : Addr} {cdv : Value} {A : Around} {outer : List Env} {s : Shared} {H : Hp} {E : XK} (hr : Room k (A.deeper (envOfC "is_name" (defScope s_is_name) s.heap.objs.size f cdv))) : Ssm (cxW P w K mg base n_is_name "is_name" (defScope s_is_name) f cdv A outer s H E).nox (fun B => B = H) (defBody s_is_name) (g_is_name sp_is_small_letter) :=
  have hu := u100 hr
  (ssm_cons (sm_if (tm_bool (wm_or (tm_not (tm_tru (fun _ => rfl) (em_isiT (T := "str") (by decide) bt_str T.n_str T.n_isinstance rfl rfl (by decide) rfl rfl rfl (em_v (i := 0) rfl rfl rfl rfl)))) (wm_or1 (tm_not (tm_chain cop_le cop_le rfl em_int (em_fn bt_len (blt_len) rfl T.n_len (by decide) rfl rfl rfl (am_cons rfl (em_v (i := 0) rfl rfl rfl rfl) am_nil)) (em_glob T.v_MOST_LETTERS rfl rfl)))))) (ssm_one (sm_ret em_bl)) ssm_nil) (ssm_one (sm_ret (em_fn bt_all (blt_all rfl) rfl T.n_all (by decide) rfl rfl rfl (am_cons rfl (em_comp (Nc := ["sign"]) rfl (blk0 rfl (by decide +kernel) (by decide +kernel)) (fun _ => rfl) (im_any (fun _ _ => rfl) (em_v (i := 0) rfl rfl rfl rfl)) (tgu_name (i := 0) (by decide) rfl rfl) (fun C fp s1 H1 => fm_nil) (fun C fp s1 H1 => (em_call D_is_small_letter (hr.mono h_is_small_letter) rfl passF rfl rfl rfl (am_cons rfl (em_v (i := 0) rfl rfl rfl rfl) am_nil)))) am_nil)))))
noncomputable abbrev n_is_field : List Str := ["thing"]
theorem c_is_field : FnScope n_is_field ["thing"] (defScope s_is_field) := ⟨rfl, rfl, rfl, by decide +kernel, rfl, by decide +kernel, by decide +kernel⟩
noncomputable def g_is_field (sp_is_name : Spw) : GS := (gSeq (gIf (gOr (gNt (gTru (gIsiT "tuple" (gVar 0)))) (gTB (gBin (rFun (eqF true)) (gB (rF lenF) (gCons (gVar 0) gNil)) (gC (.int 3))))) (gRet (gC (.bl false))) gNext) (gRet (gAndV (gCall sp_is_name (fun _ _ _ => False) (gCons (gBin (rFun ixW) (gVar 0) (gC (.int 0))) gNil)) (gBin (rFun (inF false)) (gBin (rFun ixW) (gVar 0) (gC (.int 1))) (gC (.tup [(.str "must"), (.str "may")]))))))
theorem d_is_field {k : Nat} (T : Tx K mg base a) {k_is_name : Nat} {sp_is_name : Spw} (D_is_name : Df P w K mg base "is_name" k_is_name 1 sp_is_name) (h_is_name : k_is_name ≤ k) {f : Addr} {cdv : Value} {A : Around} {outer : List Env} {s : Shared} {H : Hp} {E : XK} (hr : Room k (A.deeper (envOfC "is_field" (defScope s_is_field) s.heap.objs.size f cdv))) : Ssm (cxW P w K mg base n_is_field "is_field" (defScope s_is_field) f cdv A outer s H E).nox (fun B => B = H) (defBody s_is_field) (g_is_field sp_is_name) :=
  have hu := u100 hr
  (ssm_cons (sm_if (tm_bool (wm_or (tm_not (tm_tru (fun _ => rfl) (em_isiT (T := "tuple") (by decide) bt_tuple T.n_tuple T.n_isinstance rfl rfl (by decide) rfl rfl rfl (em_v (i := 0) rfl rfl rfl rfl)))) (wm_or1 (tm_cmp (cop_ne hu) rfl (em_fn bt_len (blt_len) rfl T.n_len (by decide) rfl rfl rfl (am_cons rfl (em_v (i := 0) rfl rfl rfl rfl) am_nil)) em_int)))) (ssm_one (sm_ret em_bl)) ssm_nil) (ssm_one (sm_ret (em_and (em_call D_is_name (hr.mono h_is_name) rfl passF rfl rfl rfl (am_cons rfl (em_ix (fun _ _ => rfl) (em_v (i := 0) rfl rfl rfl rfl) em_int) am_nil)) (em_one (em_cmp cop_in rfl (em_ix (fun _ _ => rfl) (em_v (i := 0) rfl rfl rfl rfl) em_int) (em_glob T.v_MARKS rfl rfl)))))))
noncomputable abbrev n_are_fields : List Str := ["thing"]
theorem c_are_fields : FnScope n_are_fields ["thing"] (defScope s_are_fields) := ⟨rfl, rfl, rfl, by decide +kernel, rfl, by decide +kernel, by decide +kernel⟩
noncomputable def g_are_fields (sp_is_field : Spw) (sp_names_rise : Spw) : GS := (gSeq (gIf (gNt (gTru (gIsiT "tuple" (gVar 0)))) (gRet (gC (.bl false))) gNext) (gRet (gAndV (gB (rF allF) (gCons (gComp (gIter (gVar 0)) 1 (gNm 0) gYes (gCall sp_is_field (fun _ _ _ => False) (gCons (gVar 0) gNil))) gNil)) (gCall sp_names_rise (fun _ _ _ => False) (gCons (gComp (gIter (gVar 0)) 1 (gNm 0) gYes (gBin (rFun ixW) (gVar 0) (gC (.int 0)))) gNil)))))
theorem d_are_fields {k : Nat} (T : Tx K mg base a) {k_is_field : Nat} {sp_is_field : Spw} (D_is_field : Df P w K mg base "is_field" k_is_field 1 sp_is_field) (h_is_field : k_is_field ≤ k) {k_names_rise : Nat} {sp_names_rise : Spw} (D_names_rise : Df P w K mg base "names_rise" k_names_rise 1 sp_names_rise) (h_names_rise : k_names_rise ≤ k) {f : Addr} {cdv : Value} {A : Around} {outer : List Env} {s : Shared} {H : Hp} {E : XK} (hr : Room k (A.deeper (envOfC "are_fields" (defScope s_are_fields) s.heap.objs.size f cdv))) : Ssm (cxW P w K mg base n_are_fields "are_fields" (defScope s_are_fields) f cdv A outer s H E).nox (fun B => B = H) (defBody s_are_fields) (g_are_fields sp_is_field sp_names_rise) :=
  have hu := u100 hr
  (ssm_cons (sm_if (tm_not (tm_tru (fun _ => rfl) (em_isiT (T := "tuple") (by decide) bt_tuple T.n_tuple T.n_isinstance rfl rfl (by decide) rfl rfl rfl (em_v (i := 0) rfl rfl rfl rfl)))) (ssm_one (sm_ret em_bl)) ssm_nil) (ssm_one (sm_ret (em_and (em_fn bt_all (blt_all rfl) rfl T.n_all (by decide) rfl rfl rfl (am_cons rfl (em_comp (Nc := ["part"]) rfl (blk0 rfl (by decide +kernel) (by decide +kernel)) (fun _ => rfl) (im_any (fun _ _ => rfl) (em_v (i := 0) rfl rfl rfl rfl)) (tgu_name (i := 0) (by decide) rfl rfl) (fun C fp s1 H1 => fm_nil) (fun C fp s1 H1 => (em_call D_is_field (hr.mono h_is_field) rfl passF rfl rfl rfl (am_cons rfl (em_v (i := 0) rfl rfl rfl rfl) am_nil)))) am_nil)) (em_one (em_call D_names_rise (hr.mono h_names_rise) rfl passF rfl rfl rfl (am_cons rfl (em_comp (Nc := ["part"]) rfl (blk0 rfl (by decide +kernel) (by decide +kernel)) (fun _ => rfl) (im_any (fun _ _ => rfl) (em_v (i := 0) rfl rfl rfl rfl)) (tgu_name (i := 0) (by decide) rfl rfl) (fun C fp s1 H1 => fm_nil) (fun C fp s1 H1 => (em_ix (fun _ _ => rfl) (em_v (i := 0) rfl rfl rfl rfl) em_int))) am_nil)))))))
end
set_option maxHeartbeats 1000000
variable {P : Program} {w : World} {K : PySem.W.Frag} {mg : Str → Option Value} {base : Heap} {a : Adr}
local macro_rules | `(tactic| walk_at "rd") => `(tactic| ((try dsimp only [gSeq, gIf, gRet, gSet, gDrop, gNext, gVar, gC, gBin, gTB, gTru, gNt, gAnd, gOr, gAndV, gOrV, gIte, L3.gTup, gLst, L3.gCons, L3.gNil, gCall, gB, rF, rFun, gIsiT, gMt, gAug, gChain, rOrd, rCmp, rInt, L3.rAdd, rIAdd, gSl, gPart, gNoPart, gComp, gIter, gZip, endsW, startW, List.map_cons, List.map_nil, List.length_cons, List.length_nil, List.cons_append, List.nil_append, List.getElem?_cons_zero, List.getElem?_cons_succ, List.set_cons_zero, List.set_cons_succ, List.replicate, truW, tyN, opt_some, atI_0, atI_1, atI_2, ixW, eqF, eqW, lenF, lenW, allF, List.getElem?_nil]); (try simp only [gSeq, gIf, gRet, gSet, gDrop, gNext, gVar, gC, gBin, gTB, gTru, gNt, gAnd, gOr, gAndV, gOrV, gIte, L3.gTup, gLst, L3.gCons, L3.gNil, gCall, gB, rF, rFun, gIsiT, gMt, gAug, gChain, rOrd, rCmp, rInt, L3.rAdd, rIAdd, gSl, gPart, gNoPart, gComp, gIter, gZip, endsW, startW, List.map_cons, List.map_nil, List.length_cons, List.length_nil, List.cons_append, List.nil_append, List.getElem?_cons_zero, List.getElem?_cons_succ, List.set_cons_zero, List.set_cons_succ, List.replicate, truW, tyN, opt_some, atI_0, atI_1, atI_2, ixW, eqF, eqW, lenF, lenW, allF, List.getElem?_nil])))
noncomputable abbrev spLetter : Spw := spR (fun (z : Str) ws _ => ws = [.str z]) fun z => .bl (isLetter z)
theorem k_is_small_letter (T : Tx K mg base a) : Df P w K mg base "is_small_letter" 1 1 spLetter := by
  refine mk0 T.f_is_small_letter rfl c_is_small_letter spR_M ((by rintro ws G Q E ⟨z, e, _⟩; rw [e]; rfl)) (d_is_small_letter T) fun ws G Q E hC q => ?_
  obtain ⟨z, rfl, q⟩ := q
  unfold g_is_small_letter
  walk_at "rd"
  dsimp only at q
  unfold isLetter at q
  refine ite2 (fun h => ?_) (fun h => ?_)
  · rw [h] at q; simpa using q
  · rw [Bool.eq_false_iff.mpr h] at q; simpa using q
theorem rise_zip : ∀ ns : List Str, rise ns = ((ns.zip (ns.drop 1)).map fun x => strLt x.1 x.2).all id
  | [] => rfl
  | [_] => rfl
  | a :: b :: r => by
    show (strLt a b && rise (b :: r)) = _
    rw [rise_zip (b :: r)]; rfl
noncomputable abbrev spRise : Spw := spR (fun (ns : List Str) ws G => ∃ p, ws = [.ref p] ∧ G p = some (.lst (ns.map W.str)) ∧ ns.length ≤ 1000) fun ns => .bl (rise ns)
noncomputable def ltW (x y : W) : W := match x, y with | .str a, .str b => .bl (strLt a b) | _, _ => .non
theorem k_names_rise (T : Tx K mg base a) : Df P w K mg base "names_rise" 1 1 spRise := by
  refine mk0 T.f_names_rise rfl c_names_rise spR_M ((by rintro ws G Q E ⟨ns, ⟨p, e, _⟩, _⟩; rw [e]; rfl)) (d_names_rise T) fun ws G Q E hC q => ?_
  obtain ⟨ns, ⟨p, rfl, hp, hl⟩, q⟩ := q
  unfold g_names_rise
  walk_at "rd"
  refine sl_ref hp fun p1 h1 => ?_
  have hne := ne_none hp h1
  have e1 : rdL (put G p1 (.lst (cutW (ns.map W.str) (some 1) none))) (.ref p) = some (ns.map W.str) := rd_ref (by rw [put_ne hne]; exact hp)
  have e2 : rdL (put G p1 (.lst (cutW (ns.map W.str) (some 1) none))) (.ref p1) = some (cutW (ns.map W.str) (some 1) none) := rd_ref put_same
  simp only [e1, e2]
  rw [cut_1, ← List.map_drop, zipW_map, List.zip_map, List.map_map]
  have e3 : ((fun x : W × W => W.tup [x.1, x.2]) ∘ Prod.map W.str W.str) = (fun x : W × W => W.tup [x.1, x.2]) ∘ fun x : Str × Str => (W.str x.1, W.str x.2) := rfl
  rw [e3, ← List.map_map]
  refine comp2 (f := ltW) ⟨by rw [cut_1, ← List.map_drop] at e1; exact e1, by rw [cut_1, ← List.map_drop] at e2; exact e2⟩ _ none none [] (fun x hx Q' q' => ?_) ?_ ?_
  · obtain ⟨y, hy, rfl⟩ := List.mem_map.mp hx
    exact q'
  · rw [List.length_map, List.length_zip]
    exact small_le (by simp only [List.length_nil]; omega)
  · intro p2 h2
    rw [List.map_map]
    have e4 : ((fun x : W × W => ltW x.1 x.2) ∘ fun x : Str × Str => (W.str x.1, W.str x.2)) = W.bl ∘ fun x : Str × Str => strLt x.1 x.2 := rfl
    rw [e4, ← List.map_map, List.nil_append]
    simp only [lst_ref put_same, Option.bind_some, bools_map, Option.map_some, opt_some]
    rw [← rise_zip]
    exact hC _ _ _ (sub_put2 (sub_put h1) h2) q
noncomputable abbrev spName : Spw := spR (fun (z : Str) ws _ => ws = [.str z] ∧ z.length ≤ 100000) fun z => .bl (okName z)
noncomputable def letW (x : W) : W := match x with | .str z => .bl (isLetter z) | _ => .non
theorem k_is_name (T : Tx K mg base a) : Df P w K mg base "is_name" 2 1 spName := by
  refine mk0 T.f_is_name rfl c_is_name spR_M ((by rintro ws G Q E ⟨z, ⟨e, _⟩, _⟩; rw [e]; rfl)) (d_is_name T (k_is_small_letter T) (Nat.le_refl _)) fun ws G Q E hC q => ?_
  obtain ⟨z, ⟨rfl, hz⟩, q⟩ := q
  unfold g_is_name
  walk_at "rd"
  have hz' : z.length ≤ sizeLine := small_le hz
  have b1 : isiB "str" "str" = true := by decide
  simp only [b1, hz', if_true, opt_some, Bool.not_true, Bool.false_eq_true, if_false]
  unfold okName at q
  by_cases h1 : 1 ≤ z.length
  · by_cases h8 : z.length ≤ 8
    · have d1 : (1 : Int) ≤ (z.length : Int) := by omega
      have d8 : (z.length : Int) ≤ 8 := by omega
      simp only [d1, d8, decide_true, if_true, Bool.not_true, Bool.false_eq_true, if_false]
      refine comp1 (f := letW) trivial (signsW z) none [] (fun x hx Q' q' => ?_) ?_ ?_
      · obtain ⟨c, hc, rfl⟩ := List.mem_map.mp hx
        exact ⟨_, rfl, q'⟩
      · rw [signsW, List.length_map]
        exact small_le (by show 0 + z.cps.toList.length ≤ 100000; rw [Nat.zero_add]; simpa [Str.length] using hz)
      · intro p hp
        have e5 : (signsW z).map letW = (z.cps.toList.map fun c => isLetter ⟨#[c]⟩).map W.bl := by
          unfold signsW; rw [List.map_map, List.map_map]; rfl
        rw [List.nil_append, e5]
        simp only [lst_ref put_same, Option.bind_some, bools_map, Option.map_some, opt_some]
        rw [List.all_map]
        simp only [h1, h8, decide_true, Bool.true_and] at q
        exact hC _ _ _ (sub_put hp) q
    · have d1 : (1 : Int) ≤ (z.length : Int) := by omega
      have d8 : ¬ (z.length : Int) ≤ 8 := by omega
      simp only [h1, h8, decide_true, decide_false, Bool.true_and, Bool.false_and] at q
      simp only [d1, d8, decide_true, decide_false, if_true, Bool.not_false, Bool.false_eq_true, if_false]
      exact q
  · have d1 : ¬ (1 : Int) ≤ (z.length : Int) := by omega
    simp only [h1, decide_false, Bool.false_and] at q
    simp only [d1, decide_false, if_true, Bool.not_false, Bool.false_eq_true, if_false]
    exact q
section
variable {P : Program} {w : World} {K : PySem.W.Frag} {mg : Str → Option Value} {base : Heap} {a : Adr}
noncomputable abbrev n_has_form : List Str := ["thing"]
theorem c_has_form : FnScope n_has_form ["thing"] (defScope s_has_form) := ⟨rfl, rfl, rfl, by decide +kernel, rfl, by decide +kernel, by decide +kernel⟩
noncomputable def g_has_form (sp_are_fields : Spw) : GS := (gSeq (gIf (gOr (gNt (gTru (gIsiT "tuple" (gVar 0)))) (gOr (gTB (gBin (rFun (eqF false)) (gB (rF lenF) (gCons (gVar 0) gNil)) (gC (.int 0)))) (gNt (gTru (gIsiT "str" (gBin (rFun ixW) (gVar 0) (gC (.int 0)))))))) (gRet (gC (.bl false))) gNext) (gSeq (gIf (gTB (gBin (rFun (eqF true)) (gB (rF lenF) (gCons (gVar 0) gNil)) (gTabGet tab_LENGTHS (gBin (rFun ixW) (gVar 0) (gC (.int 0)))))) (gRet (gC (.bl false))) gNext) (gRet (gOrV (gBin (rFun (eqF true)) (gBin (rFun ixW) (gVar 0) (gC (.int 0))) (gC (.str "row"))) (gAndV (gCall sp_are_fields (fun _ _ _ => False) (gCons (gBin (rFun ixW) (gVar 0) (gC (.int 1))) gNil)) (gIsiT "bool" (gBin (rFun ixW) (gVar 0) (gC (.int 2)))))))))
theorem d_has_form {k : Nat} (T : Tx K mg base a) {k_are_fields : Nat} {sp_are_fields : Spw} (D_are_fields : Df P w K mg base "are_fields" k_are_fields 1 sp_are_fields) (h_are_fields : k_are_fields ≤ k) {f : Addr} {cdv : Value} {A : Around} {outer : List Env} {s : Shared} {H : Hp} {E : XK} (hr : Room k (A.deeper (envOfC "has_form" (defScope s_has_form) s.heap.objs.size f cdv))) : Ssm (cxW P w K mg base n_has_form "has_form" (defScope s_has_form) f cdv A outer s H E).nox (fun B => B = H) (defBody s_has_form) (g_has_form sp_are_fields) :=
  have hu := u100 hr
  (ssm_cons (sm_if (tm_bool (wm_or (tm_not (tm_tru (fun _ => rfl) (em_isiT (T := "tuple") (by decide) bt_tuple T.n_tuple T.n_isinstance rfl rfl (by decide) rfl rfl rfl (em_v (i := 0) rfl rfl rfl rfl)))) (wm_or (tm_cmp (cop_eq hu) rfl (em_fn bt_len (blt_len) rfl T.n_len (by decide) rfl rfl rfl (am_cons rfl (em_v (i := 0) rfl rfl rfl rfl) am_nil)) em_int) (wm_or1 (tm_not (tm_tru (fun _ => rfl) (em_isiT (T := "str") (by decide) bt_str T.n_str T.n_isinstance rfl rfl (by decide) rfl rfl rfl (em_ix (fun _ _ => rfl) (em_v (i := 0) rfl rfl rfl rfl) em_int)))))))) (ssm_one (sm_ret em_bl)) ssm_nil) (ssm_cons (sm_if (tm_cmp (cop_ne hu) rfl (em_fn bt_len (blt_len) rfl T.n_len (by decide) rfl rfl rfl (am_cons rfl (em_v (i := 0) rfl rfl rfl rfl) am_nil)) (em_tabGet T.t_LENGTHS rfl rfl rfl rfl rfl rfl rfl (em_ix (fun _ _ => rfl) (em_v (i := 0) rfl rfl rfl rfl) em_int))) (ssm_one (sm_ret em_bl)) ssm_nil) (ssm_one (sm_ret (em_or (em_cmp (cop_ne hu) rfl (em_ix (fun _ _ => rfl) (em_v (i := 0) rfl rfl rfl rfl) em_int) em_str) (em_one (em_and (em_call D_are_fields (hr.mono h_are_fields) rfl passF rfl rfl rfl (am_cons rfl (em_ix (fun _ _ => rfl) (em_v (i := 0) rfl rfl rfl rfl) em_int) am_nil)) (em_one (em_isiT (T := "bool") (by decide) bt_bool T.n_bool T.n_isinstance rfl rfl (by decide) rfl rfl rfl (em_ix (fun _ _ => rfl) (em_v (i := 0) rfl rfl rfl rfl) em_int))))))))))
noncomputable abbrev n_kinds_within : List Str := ["kind"]
theorem c_kinds_within : FnScope n_kinds_within ["kind"] (defScope s_kinds_within) := ⟨rfl, rfl, rfl, by decide +kernel, rfl, by decide +kernel, by decide +kernel⟩
noncomputable def g_kinds_within : GS := (gSeq (gIf (gTB (gBin (rFun (eqF false)) (gBin (rFun ixW) (gVar 0) (gC (.int 0))) (gC (.str "row")))) (gRet (gComp (gIter (gBin (rFun ixW) (gVar 0) (gC (.int 1)))) 1 (gNm 0) gYes (gBin (rFun ixW) (gVar 0) (gC (.int 2))))) gNext) (gRet (gB (rList) (gCons (gSl (gVar 0) (gPart (gC (.int 1))) gNoPart) gNil))))
theorem d_kinds_within {k : Nat} (T : Tx K mg base a) {f : Addr} {cdv : Value} {A : Around} {outer : List Env} {s : Shared} {H : Hp} {E : XK} (hr : Room k (A.deeper (envOfC "kinds_within" (defScope s_kinds_within) s.heap.objs.size f cdv))) : Ssm (cxW P w K mg base n_kinds_within "kinds_within" (defScope s_kinds_within) f cdv A outer s H E).nox (fun B => B = H) (defBody s_kinds_within) (g_kinds_within) :=
  have hu := u100 hr
  (ssm_cons (sm_if (tm_cmp (cop_eq hu) rfl (em_ix (fun _ _ => rfl) (em_v (i := 0) rfl rfl rfl rfl) em_int) em_str) (ssm_one (sm_ret (em_comp (Nc := ["field"]) rfl (blk0 rfl (by decide +kernel) (by decide +kernel)) (fun _ => rfl) (im_any (fun _ _ => rfl) (em_ix (fun _ _ => rfl) (em_v (i := 0) rfl rfl rfl rfl) em_int)) (tgu_name (i := 0) (by decide) rfl rfl) (fun C fp s1 H1 => fm_nil) (fun C fp s1 H1 => (em_ix (fun _ _ => rfl) (em_v (i := 0) rfl rfl rfl rfl) em_int))))) ssm_nil) (ssm_one (sm_ret (em_ty bt_list (blt_list) rfl T.n_list (by decide) rfl rfl rfl (am_cons rfl (em_sl (em_v (i := 0) rfl rfl rfl rfl) (om_some em_int) om_none) am_nil)))))
noncomputable abbrev n_layer_within : List Str := ["layer", "things_within", "found", "thing"]
theorem c_layer_within : FnScope n_layer_within ["layer", "things_within"] (defScope s_layer_within) := ⟨rfl, rfl, rfl, by decide +kernel, rfl, by decide +kernel, by decide +kernel⟩
noncomputable def g_layer_within (mg : Str → Option Value) (sp_kinds_within : Spw) : GS := (gSeq (gSet 2 (gLst gNil)) (gSeq (gFor (gIter (gVar 0)) (gNm 3) (gDrop (gMt isLst rExt (gVar 2) (gCons (gCallV 1 (fAt mg "kinds_within") sp_kinds_within (fun _ _ _ => False) (gCons (gVar 3) gNil)) gNil)))) (gRet (gVar 2))))
theorem d_layer_within {k : Nat} (T : Tx K mg base a) {k_kinds_within : Nat} {sp_kinds_within : Spw} (D_kinds_within : Df P w K mg base "kinds_within" k_kinds_within 1 sp_kinds_within) (h_kinds_within : k_kinds_within ≤ k) {f : Addr} {cdv : Value} {A : Around} {outer : List Env} {s : Shared} {H : Hp} {E : XK} (hr : Room k (A.deeper (envOfC "layer_within" (defScope s_layer_within) s.heap.objs.size f cdv))) : Ssm (cxW P w K mg base n_layer_within "layer_within" (defScope s_layer_within) f cdv A outer s H E).nox (fun B => B = H) (defBody s_layer_within) (g_layer_within mg sp_kinds_within) :=
  have hu := u100 hr
  (ssm_cons (sm_s (i := 2) c_layer_within.nd rfl rfl rfl (em_lst am_nil)) (ssm_cons (sm_for PassesOwn.never rfl (fun _ => rfl) (im_any (fun _ _ => rfl) (em_v (i := 0) rfl rfl rfl rfl)) (tg_name (i := 3) c_layer_within.nd rfl (.inl rfl) (.inr rfl)) (ssm_one (sm_expr rfl (em_mth mth_extend rfl rfl rfl rfl rfl (em_v (i := 2) rfl rfl rfl rfl) (am_cons rfl (em_callV (i := 1) D_kinds_within (hr.mono h_kinds_within) rfl rfl passF rfl rfl rfl rfl (am_cons rfl (em_v (i := 3) rfl rfl rfl rfl) am_nil)) am_nil))))) (ssm_one (sm_ret (em_v (i := 2) rfl rfl rfl rfl)))))
noncomputable abbrev n_is_made_of : List Str := ["thing", "is_formed", "things_within", "most", "deepest", "layer", "count", "depth"]
theorem c_is_made_of : FnScope n_is_made_of ["thing", "is_formed", "things_within", "most", "deepest"] (defScope s_is_made_of) := ⟨rfl, rfl, rfl, by decide +kernel, rfl, by decide +kernel, by decide +kernel⟩
noncomputable def g_is_made_of (mg : Str → Option Value) (sp_has_form : Spw) (sp_layer_within : Spw) : GS := (gSeq (gSet 5 (gLst (gCons (gVar 0) gNil))) (gSeq (gSet 6 (gC (.int 0))) (gSeq (gSet 7 (gC (.int 0))) (gSeq (gWhile (gTB (gBin (rCmp fun i j => decide (j < i)) (gB (rF lenF) (gCons (gVar 5) gNil)) (gC (.int 0)))) (gSeq (gAug 6 rIAdd (gB (rF lenF) (gCons (gVar 5) gNil))) (gSeq (gAug 7 rIAdd (gC (.int 1))) (gSeq (gIf (gOr (gTB (gBin (rCmp fun i j => decide (j < i)) (gVar 6) (gVar 3))) (gTB (gBin (rCmp fun i j => decide (j < i)) (gVar 7) (gVar 4)))) (gRet (gC (.bl false))) gNext) (gSeq (gIf (gNt (gTru (gB (rF allF) (gCons (gCompC (gIter (gVar 5)) 1 [1] (gNm 0) gYes (gCallV 1 (fAt mg "has_form") sp_has_form (fun _ _ _ => False) (gCons (gVar 0) gNil))) gNil)))) (gRet (gC (.bl false))) gNext) (gSet 5 (gCall sp_layer_within (fun _ _ _ => False) (gCons (gVar 5) (gCons (gVar 2) gNil))))))))) (gRet (gC (.bl true)))))))
theorem d_is_made_of {k : Nat} (T : Tx K mg base a) {k_has_form : Nat} {sp_has_form : Spw} (D_has_form : Df P w K mg base "has_form" k_has_form 1 sp_has_form) (h_has_form : k_has_form ≤ k) {k_layer_within : Nat} {sp_layer_within : Spw} (D_layer_within : Df P w K mg base "layer_within" k_layer_within 2 sp_layer_within) (h_layer_within : k_layer_within ≤ k) {f : Addr} {cdv : Value} {A : Around} {outer : List Env} {s : Shared} {H : Hp} {E : XK} (hr : Room k (A.deeper (envOfC "is_made_of" (defScope s_is_made_of) s.heap.objs.size f cdv))) : Ssm (cxW P w K mg base n_is_made_of "is_made_of" (defScope s_is_made_of) f cdv A outer s H E).nox (fun B => B = H) (defBody s_is_made_of) (g_is_made_of mg sp_has_form sp_layer_within) :=
  have hu := u100 hr
  (ssm_cons (sm_s (i := 5) c_is_made_of.nd rfl rfl rfl (em_lst (am_cons rfl (em_v (i := 0) rfl rfl rfl rfl) am_nil))) (ssm_cons (sm_s (i := 6) c_is_made_of.nd rfl rfl rfl em_int) (ssm_cons (sm_s (i := 7) c_is_made_of.nd rfl rfl rfl em_int) (ssm_cons (sm_while PassesOwn.never (tm_cmp cop_gt rfl (em_fn bt_len (blt_len) rfl T.n_len (by decide) rfl rfl rfl (am_cons rfl (em_v (i := 5) rfl rfl rfl rfl) am_nil)) em_int) (ssm_cons (sm_a (n := 6) c_is_made_of.nd rfl rfl (em_fn bt_len (blt_len) rfl T.n_len (by decide) rfl rfl rfl (am_cons rfl (em_v (i := 5) rfl rfl rfl rfl) am_nil))) (ssm_cons (sm_a (n := 7) c_is_made_of.nd rfl rfl em_int) (ssm_cons (sm_if (tm_bool (wm_or (tm_cmp cop_gt rfl (em_v (i := 6) rfl rfl rfl rfl) (em_v (i := 3) rfl rfl rfl rfl)) (wm_or1 (tm_cmp cop_gt rfl (em_v (i := 7) rfl rfl rfl rfl) (em_v (i := 4) rfl rfl rfl rfl))))) (ssm_one (sm_ret em_bl)) ssm_nil) (ssm_cons (sm_if (tm_not (tm_tru (fun _ => rfl) (em_fn bt_all (blt_all rfl) rfl T.n_all (by decide) rfl rfl rfl (am_cons rfl (em_compC rfl (blkC (own := ["part"]) (fr := ["is_formed"]) (js := [1]) (scX := defScope s_is_made_of) (n := s.heap.objs.size + 1) rfl (by decide +kernel) (by decide +kernel) (by decide +kernel) (by decide +kernel) rfl rfl rfl (by decide +kernel) rfl) (fun _ => rfl) (im_any (fun _ _ => rfl) (em_v (i := 5) rfl rfl rfl rfl)) (tgc_name (i := 0) (by decide) rfl rfl) (fun C fp s1 H1 => fm_nil) (fun C fp s1 H1 => (em_callV (i := 1) D_has_form (hr.mono h_has_form) rfl rfl passF rfl rfl rfl rfl (am_cons rfl (em_v (i := 0) rfl rfl rfl rfl) am_nil)))) am_nil)))) (ssm_one (sm_ret em_bl)) ssm_nil) (ssm_one (sm_s (i := 5) c_is_made_of.nd rfl rfl rfl (em_call D_layer_within (hr.mono h_layer_within) rfl passF rfl rfl rfl (am_cons rfl (em_v (i := 5) rfl rfl rfl rfl) (am_cons rfl (em_v (i := 2) rfl rfl rfl rfl) am_nil)))))))))) (ssm_one (sm_ret em_bl))))))
noncomputable abbrev n_is_kind : List Str := ["thing"]
theorem c_is_kind : FnScope n_is_kind ["thing"] (defScope s_is_kind) := ⟨rfl, rfl, rfl, by decide +kernel, rfl, by decide +kernel, by decide +kernel⟩
noncomputable def g_is_kind (mg : Str → Option Value) (sp_has_form : Spw) (sp_kinds_within : Spw) (sp_is_made_of : Spw) : GS := (gRet (gCall sp_is_made_of (fun _ _ _ => False) (gCons (gVar 0) (gCons (gC (.ref (fAt mg "has_form"))) (gCons (gC (.ref (fAt mg "kinds_within"))) (gCons (gC (.int 40)) (gCons (gC (.int 8)) gNil)))))))
theorem d_is_kind {k : Nat} (T : Tx K mg base a) {k_has_form : Nat} {sp_has_form : Spw} (D_has_form : Df P w K mg base "has_form" k_has_form 1 sp_has_form) (h_has_form : k_has_form ≤ k) {k_kinds_within : Nat} {sp_kinds_within : Spw} (D_kinds_within : Df P w K mg base "kinds_within" k_kinds_within 1 sp_kinds_within) (h_kinds_within : k_kinds_within ≤ k) {k_is_made_of : Nat} {sp_is_made_of : Spw} (D_is_made_of : Df P w K mg base "is_made_of" k_is_made_of 5 sp_is_made_of) (h_is_made_of : k_is_made_of ≤ k) {f : Addr} {cdv : Value} {A : Around} {outer : List Env} {s : Shared} {H : Hp} {E : XK} (hr : Room k (A.deeper (envOfC "is_kind" (defScope s_is_kind) s.heap.objs.size f cdv))) : Ssm (cxW P w K mg base n_is_kind "is_kind" (defScope s_is_kind) f cdv A outer s H E).nox (fun B => B = H) (defBody s_is_kind) (g_is_kind mg sp_has_form sp_kinds_within sp_is_made_of) :=
  have hu := u100 hr
  (ssm_one (sm_ret (em_call D_is_made_of (hr.mono h_is_made_of) rfl passF rfl rfl rfl (am_cons rfl (em_v (i := 0) rfl rfl rfl rfl) (am_cons rfl (em_dv D_has_form rfl rfl) (am_cons rfl (em_dv D_kinds_within rfl rfl) (am_cons rfl (em_glob T.v_MOST_KINDS rfl rfl) (am_cons rfl (em_glob T.v_MOST_DEPTH rfl rfl) am_nil))))))))
noncomputable abbrev n_check_kind : List Str := ["thing"]
theorem c_check_kind : FnScope n_check_kind ["thing"] (defScope s_check_kind) := ⟨rfl, rfl, rfl, by decide +kernel, rfl, by decide +kernel, by decide +kernel⟩
noncomputable def g_check_kind (sp_is_kind : Spw) : GS := (gIf (gNt (gTru (gCall sp_is_kind (fun _ _ _ => False) (gCons (gVar 0) gNil)))) gNever gNext)
theorem d_check_kind {k : Nat} (T : Tx K mg base a) {k_is_kind : Nat} {sp_is_kind : Spw} (D_is_kind : Df P w K mg base "is_kind" k_is_kind 1 sp_is_kind) (h_is_kind : k_is_kind ≤ k) {f : Addr} {cdv : Value} {A : Around} {outer : List Env} {s : Shared} {H : Hp} {E : XK} (hr : Room k (A.deeper (envOfC "check_kind" (defScope s_check_kind) s.heap.objs.size f cdv))) : Ssm (cxW P w K mg base n_check_kind "check_kind" (defScope s_check_kind) f cdv A outer s H E).nox (fun B => B = H) (defBody s_check_kind) (g_check_kind sp_is_kind) :=
  have hu := u100 hr
  (ssm_one (sm_if (tm_not (tm_tru (fun _ => rfl) (em_call D_is_kind (hr.mono h_is_kind) rfl passF rfl rfl rfl (am_cons rfl (em_v (i := 0) rfl rfl rfl rfl) am_nil)))) (ssm_one sm_never) ssm_nil))
end
set_option Elab.async false
set_option linter.all false
set_option maxRecDepth 100000
local macro_rules | `(tactic| walk_at "rd") => `(tactic| ((try dsimp only [gSeq, gIf, gRet, gSet, gDrop, gNext, gVar, gC, gBin, gTB, gTru, gNt, gAnd, gOr, gAndV, gOrV, gIte, L3.gTup, gLst, L3.gCons, L3.gNil, gCall, gB, rF, rFun, gIsiT, gMt, gAug, getW, gChain, rOrd, rCmp, rInt, L3.rAdd, rIAdd, gSl, gPart, gNoPart, gComp, gIter, gZip, gRange, gFor, gTabGet, gSetIx, endsW, startW, List.map_cons, List.map_nil, List.length_cons, List.length_nil, List.cons_append, List.nil_append, List.getElem?_cons_zero, List.getElem?_cons_succ, List.set_cons_zero, List.set_cons_succ, List.replicate, truW, tyN, opt_some, atI_0, atI_1, atI_2, ixW, eqF, eqW, lenF, lenW, allF, tupF, intF, List.getElem?_nil]); (try simp only [gSeq, gIf, gRet, gSet, gDrop, gNext, gVar, gC, gBin, gTB, gTru, gNt, gAnd, gOr, gAndV, gOrV, gIte, L3.gTup, gLst, L3.gCons, L3.gNil, gCall, gB, rF, rFun, gIsiT, gMt, gAug, getW, gChain, rOrd, rCmp, rInt, L3.rAdd, rIAdd, gSl, gPart, gNoPart, gComp, gIter, gZip, gRange, gFor, gTabGet, gSetIx, endsW, startW, List.map_cons, List.map_nil, List.length_cons, List.length_nil, List.cons_append, List.nil_append, List.getElem?_cons_zero, List.getElem?_cons_succ, List.set_cons_zero, List.set_cons_succ, List.replicate, truW, tyN, opt_some, atI_0, atI_1, atI_2, ixW, eqF, eqW, lenF, lenW, allF, tupF, intF, List.getElem?_nil])))
noncomputable abbrev spField : Spw := spR (fun (x : Str × Bool × W) ws _ => ws = [.tup [.str x.1, .str (mark x.2.1), x.2.2]] ∧ okName x.1 = true) fun _ => .bl true
theorem okName_len {n : Str} (h : okName n = true) : n.length ≤ 8 := by
  unfold okName at h
  simp only [Bool.and_eq_true, decide_eq_true_eq] at h
  exact h.1.2
theorem mark_in (b : Bool) (G : Hw) : inF false (.str (mark b)) (.tup [.str "must", .str "may"]) G = some (.bl true) := by cases b <;> kernel_rfl
theorem k_is_field (T : Tx K mg base a) : Df P w K mg base "is_field" 3 1 spField := by
  refine mk0 T.f_is_field rfl c_is_field spR_M ((by rintro ws G Q E ⟨x, ⟨e, _⟩, _⟩; rw [e]; rfl)) (d_is_field T (k_is_name T) (Nat.le_refl _)) fun ws G Q E hC q => ?_
  obtain ⟨⟨n, b, k⟩, ⟨rfl, hn⟩, q⟩ := q
  have hl : n.length ≤ 8 := okName_len hn
  dsimp only at q hn
  unfold g_is_field
  walk_at "rd"
  have b1 : isiB "tuple" "tuple" = true := by decide
  simp only [b1, Bool.not_true, Bool.false_eq_true, if_false]
  refine ⟨n, ⟨rfl, by omega⟩, ?_⟩
  dsimp only
  rw [hn]
  simp only [if_true, mark_in, opt_some]
  exact q
theorem enc_tup (k : Kd) : ∃ xs, k.enc = .tup (.str k.hd :: xs) := by cases k <;> exact ⟨_, rfl⟩
noncomputable abbrev spFields : Spw := spR (fun (fs : Fs) ws _ => ws = [.tup fs.enc] ∧ fs.ok = true ∧ rise fs.names = true ∧ fs.cnt ≤ 1000) fun _ => .bl true
noncomputable def nameOf (x : W) : W := match x with | .tup (n :: _) => n | _ => .non
theorem fs_mem : ∀ {fs : Fs} {x : W}, fs.ok = true → x ∈ fs.enc → ∃ n b k, x = .tup [.str n, .str (mark b), k] ∧ okName n = true
  | .nil, x, _, h => by cases h
  | .cons n m k r, x, ho, h => by
    have h' : (okName n && k.ok && r.ok) = true := ho
    simp only [Bool.and_eq_true] at h'
    rcases List.mem_cons.mp h with rfl | h
    · exact ⟨n, m, k.enc, rfl, h'.1.1⟩
    · exact fs_mem h'.2 h
theorem fs_nameOf : ∀ fs : Fs, fs.enc.map nameOf = fs.names.map W.str
  | .nil => rfl
  | .cons n m k r => by show W.str n :: r.enc.map nameOf = W.str n :: r.names.map W.str; rw [fs_nameOf r]
theorem fs_names_len : ∀ fs : Fs, fs.names.length = fs.enc.length
  | .nil => rfl
  | .cons n m k r => by show r.names.length + 1 = r.enc.length + 1; rw [fs_names_len r]
theorem fs_enc_len (fs : Fs) : fs.enc.length ≤ fs.cnt := by rw [fs_len, fs_cnt]; exact cntL_len _
theorem k_are_fields (T : Tx K mg base a) : Df P w K mg base "are_fields" 4 1 spFields := by
  refine mk0 T.f_are_fields rfl c_are_fields spR_M ((by rintro ws G Q E ⟨x, ⟨e, _⟩, _⟩; rw [e]; rfl)) (d_are_fields T (k_is_field T) (Nat.le_refl _) (k_names_rise T) (by omega)) fun ws G Q E hC q => ?_
  obtain ⟨fs, ⟨rfl, ho, hr, hc⟩, q⟩ := q
  have hl := fs_enc_len fs
  unfold g_are_fields
  walk_at "rd"
  have b1 : isiB "tuple" "tuple" = true := by decide
  simp only [b1, Bool.not_true, Bool.false_eq_true, if_false]
  refine comp1 (f := fun _ => .bl true) trivial fs.enc none [] (fun x hx Q' q' => ?_) (by simp only [List.length_nil]; exact small_le (by omega)) ?_
  · obtain ⟨n, b, k, rfl, hn⟩ := fs_mem ho hx
    exact ⟨⟨n, b, k⟩, ⟨rfl, hn⟩, q'⟩
  · intro p hp
    rw [List.nil_append, show (fun _ : W => W.bl true) = W.bl ∘ (fun _ => true) from rfl, ← List.map_map]
    simp only [lst_ref put_same, Option.bind_some, bools_map, Option.map_some, opt_some]
    have hall : (fs.enc.map fun _ => true).all id = true := by simp
    rw [hall]
    simp only [if_true]
    refine comp1 (f := nameOf) trivial fs.enc none [] (fun x hx Q' q' => ?_) (by simp only [List.length_nil]; exact small_le (by omega)) ?_
    · obtain ⟨n, b, k, rfl, hn⟩ := fs_mem ho hx
      show gBin (rFun ixW) (gVar 0) (gC (.int 0)) [some (W.tup [.str n, .str (mark b), k])] _ Q'
      walk_at "rd"
      exact q'
    · intro p2 hp2
      rw [List.nil_append, fs_nameOf]
      refine ⟨fs.names, ⟨p2, rfl, put_same, by rw [fs_names_len]; omega⟩, ?_⟩
      dsimp only
      rw [hr]
      exact hC _ _ _ (sub_put2 (sub_put hp) hp2) q
noncomputable abbrev spForm : Spw := spR (fun (k : Kd) ws _ => ws = [k.enc] ∧ k.ok = true ∧ k.cnt ≤ 1000) fun _ => .bl true
theorem k_has_form (T : Tx K mg base a) : Df P w K mg base "has_form" 5 1 spForm := by
  refine mk0 T.f_has_form rfl c_has_form spR_M ((by rintro ws G Q E ⟨x, ⟨e, _⟩, _⟩; rw [e]; rfl)) (d_has_form T (k_are_fields T) (Nat.le_refl _)) fun ws G Q E hC q => ?_
  obtain ⟨k, ⟨rfl, ho, hc⟩, q⟩ := q
  have b1 : isiB "tuple" "tuple" = true := by decide
  have b2 : isiB "bool" "bool" = true := by decide
  have b3 : isiB "str" "str" = true := by decide
  unfold g_has_form
  cases k with
  | any =>
    simp only [Kd.enc]; walk_at "rd"
    simp only [b1, b3, Bool.not_true, Bool.false_eq_true, if_false]
    exact q
  | num =>
    simp only [Kd.enc]; walk_at "rd"
    simp only [b1, b3, Bool.not_true, Bool.false_eq_true, if_false]
    exact q
  | truth =>
    simp only [Kd.enc]; walk_at "rd"
    simp only [b1, b3, Bool.not_true, Bool.false_eq_true, if_false]
    exact q
  | to x y =>
    simp only [Kd.enc]; walk_at "rd"
    simp only [b1, b3, Bool.not_true, Bool.false_eq_true, if_false]
    exact q
  | box x =>
    simp only [Kd.enc]; walk_at "rd"
    simp only [b1, b3, Bool.not_true, Bool.false_eq_true, if_false]
    exact q
  | row fs o =>
    have h' : (rise fs.names && fs.ok) = true := ho
    simp only [Bool.and_eq_true] at h'
    have hc' : 1 + fs.cnt ≤ 1000 := hc
    simp only [Kd.enc]; walk_at "rd"
    simp only [b1, b3, Bool.not_true, Bool.false_eq_true, if_false]
    refine ⟨fs, ⟨rfl, h'.2, h'.1, by omega⟩, ?_⟩
    simp only [if_true, b2]
    exact q
noncomputable def thirdOf (x : W) : W := match x with | .tup [_, _, k] => k | _ => .non
theorem fs_third : ∀ fs : Fs, fs.enc.map thirdOf = fs.kinds.map Kd.enc
  | .nil => rfl
  | .cons n m k r => by show k.enc :: r.enc.map thirdOf = k.enc :: r.kinds.map Kd.enc; rw [fs_third r]
theorem fs_mem3 : ∀ {fs : Fs} {x : W}, x ∈ fs.enc → ∃ n b k, x = .tup [.str n, .str (mark b), k]
  | .nil, x, h => by cases h
  | .cons n m k r, x, h => by
    rcases List.mem_cons.mp h with rfl | h
    · exact ⟨n, m, k.enc, rfl⟩
    · exact fs_mem3 h
noncomputable abbrev spWithin : Spw := spL (fun (k : Kd) ws _ => ws = [k.enc] ∧ k.cnt ≤ 20000) fun k => k.kids.map Kd.enc
theorem k_kinds_within (T : Tx K mg base a) : Df P w K mg base "kinds_within" 1 1 spWithin := by
  refine mk0 T.f_kinds_within rfl c_kinds_within spL_M ((by rintro ws G Q E ⟨x, ⟨e, _⟩, _⟩; rw [e]; rfl)) (d_kinds_within T) fun ws G Q E hC q => ?_
  obtain ⟨k, ⟨rfl, hc⟩, q⟩ := q
  unfold g_kinds_within
  cases k with
  | row fs o =>
    have hc' : 1 + fs.cnt ≤ 20000 := hc
    have hl := fs_enc_len fs
    simp only [Kd.enc]; walk_at "rd"
    refine comp1 (f := thirdOf) trivial fs.enc none [] (fun x hx Q' q' => ?_) (by simp only [List.length_nil]; exact small_le (by omega)) ?_
    · obtain ⟨n, b, k, rfl⟩ := fs_mem3 hx
      show gBin (rFun ixW) (gVar 0) (gC (.int 2)) [some (W.tup [.str n, .str (mark b), k])] _ Q'
      walk_at "rd"
      exact q'
    · rw [List.nil_append, fs_third]
      exact q
  | any => simp only [Kd.enc]; walk_at "rd"; exact ⟨not_whole _ _, q⟩
  | num => simp only [Kd.enc]; walk_at "rd"; exact ⟨not_whole _ _, q⟩
  | truth => simp only [Kd.enc]; walk_at "rd"; exact ⟨not_whole _ _, q⟩
  | to x y => simp only [Kd.enc]; walk_at "rd"; exact ⟨not_whole _ _, q⟩
  | box x => simp only [Kd.enc]; walk_at "rd"; exact ⟨not_whole _ _, q⟩
/-- a list that grows by what each item brings -/
theorem ext_mk {G : Hw} {p r : Addr} {xs zs : List W} {Q : Kw} (hp : G p = some (.lst xs)) (hr : G r = some (.lst zs)) (hl : xs.length + zs.length ≤ sizeLine) (q : Q .non (put G p (.lst (xs ++ zs)))) : rExt (.ref p) [.ref r] G Q := by
  unfold rExt
  refine chgL_mk hp ?_ q
  rw [lst_ref hr, Option.bind_some, if_pos hl]
theorem isLst_mk {G : Hw} {p : Addr} {xs : List W} (h : G p = some (.lst xs)) : isLst (.ref p) G := ⟨xs, lst_ref h⟩
local macro_rules | `(tactic| walk_at "rd") => `(tactic| ((try dsimp only [gSeq, gIf, gRet, gSet, gDrop, gNext, gVar, gC, gBin, gTB, gTru, gNt, gAnd, gOr, gAndV, gOrV, gIte, L3.gTup, gLst, L3.gCons, L3.gNil, gCall, gB, rF, rFun, gIsiT, gMt, gAug, getW, gChain, rOrd, rCmp, rInt, L3.rAdd, rIAdd, gSl, gPart, gNoPart, gComp, gIter, gZip, gRange, gFor, gTabGet, gSetIx, gCallV, gCompC, capO, endsW, startW, List.map_cons, List.map_nil, List.length_cons, List.length_nil, List.cons_append, List.nil_append, List.getElem?_cons_zero, List.getElem?_cons_succ, List.set_cons_zero, List.set_cons_succ, List.replicate, truW, tyN, opt_some, atI_0, atI_1, atI_2, ixW, eqF, eqW, lenF, lenW, allF, tupF, intF, List.getElem?_nil]); (try simp only [gSeq, gIf, gRet, gSet, gDrop, gNext, gVar, gC, gBin, gTB, gTru, gNt, gAnd, gOr, gAndV, gOrV, gIte, L3.gTup, gLst, L3.gCons, L3.gNil, gCall, gB, rF, rFun, gIsiT, gMt, gAug, getW, gChain, rOrd, rCmp, rInt, L3.rAdd, rIAdd, gSl, gPart, gNoPart, gComp, gIter, gZip, gRange, gFor, gTabGet, gSetIx, gCallV, gCompC, capO, endsW, startW, List.map_cons, List.map_nil, List.length_cons, List.length_nil, List.cons_append, List.nil_append, List.getElem?_cons_zero, List.getElem?_cons_succ, List.set_cons_zero, List.set_cons_succ, List.replicate, truW, tyN, opt_some, atI_0, atI_1, atI_2, ixW, eqF, eqW, lenF, lenW, allF, tupF, intF, List.getElem?_nil])))
noncomputable abbrev spLayer (mg : Str → Option Value) : Spw := spL (fun (l : List Kd) ws G => ∃ p, ws = [.ref p, .ref (fAt mg "kinds_within")] ∧ G p = some (.lst (l.map Kd.enc)) ∧ cntL l ≤ 10000) fun l => (l.flatMap Kd.kids).map Kd.enc
theorem lay_loop {D : Ew} {p q0 fw : Addr} {items : List W} : ∀ (l : List Kd) (o : Option W) (k0 : W) (G : Hw) (acc : List W), acc.length + cntL l ≤ 20000 → p ≠ q0 → G p = some (.lst acc) → G q0 = some (.lst items) →
    (∀ ω G', (∃ o', ω = [some k0, some (.ref fw), some (.ref p), o']) → G' p = some (.lst (acc ++ (l.flatMap Kd.kids).map Kd.enc)) → (∀ b, b ≠ p → ∀ u, G b = some u → G' b = some u) → D.nx ω G') →
    goFor (holds q0 items) (gNm 3) (gDrop (gMt isLst rExt (gVar 2) (L3.gCons (gCallV 1 fw spWithin (fun _ _ _ => False) (L3.gCons (gVar 3) L3.gNil)) L3.gNil))) D (l.map Kd.enc) [some k0, some (.ref fw), some (.ref p), o] G
  | [], o, k0, G, acc, _, hne, hp, hq, fin => ⟨hq, fin _ G ⟨o, rfl⟩ (by simpa using hp) fun _ _ _ h => h⟩
  | c :: l, o, k0, G, acc, hl, hne, hp, hq, fin => by
    have hll : acc.length + (c.cnt + cntL l) ≤ 20000 := hl
    have hk := kids_len c
    refine ⟨hq, ?_⟩
    show gDrop _ _ [some k0, some (.ref fw), some (.ref p), some c.enc] G
    walk_at "rd"
    refine ⟨isLst_mk hp, trivial, c, ⟨rfl, by omega⟩, fun r hr => ?_⟩
    have hpr := ne_none hp hr
    have hqr := ne_none hq hr
    refine ext_mk (by rw [put_ne hpr]; exact hp) put_same (by rw [List.length_map]; exact small_le (by omega)) ?_
    refine lay_loop l (some c.enc) k0 _ (acc ++ c.kids.map Kd.enc) (by rw [List.length_append, List.length_map]; omega) hne put_same ?_ ?_
    · rw [put_ne (Ne.symm hne), put_ne hqr]; exact hq
    · intro ω G' hω h1 h2
      refine fin ω G' hω (by rw [h1, List.flatMap_cons, List.map_append, List.append_assoc]) fun b hb u hu => h2 b hb u ?_
      rw [put_ne hb, put_ne (ne_none hu hr)]; exact hu
theorem k_layer_within (T : Tx K mg base a) : Df P w K mg base "layer_within" 2 2 (spLayer mg) := by
  refine mk0 T.f_layer_within rfl c_layer_within spL_M ((by rintro ws G Q E ⟨x, ⟨p, e, _⟩, _⟩; rw [e]; rfl)) (d_layer_within T (k_kinds_within T) (by omega)) fun ws G Q E hC q => ?_
  obtain ⟨l, ⟨q0, rfl, hq, hl⟩, q⟩ := q
  unfold g_layer_within
  walk_at "rd"
  refine ⟨by decide, fun p hp => ?_⟩
  have hne : p ≠ q0 := Ne.symm (ne_none hq hp)
  have hq' : put G p (.lst []) q0 = some (.lst (l.map Kd.enc)) := by rw [put_ne (Ne.symm hne)]; exact hq
  simp only [hq']
  refine lay_loop l none (.ref q0) _ [] (by simp only [List.length_nil]; omega) hne put_same hq' ?_
  intro ω G' hω h1 h2
  obtain ⟨o', rfl⟩ := hω
  simp only [List.getElem?_cons_zero, List.getElem?_cons_succ]
  rw [List.nil_append] at h1
  have hs : Sub (put G p (.lst ((l.flatMap Kd.kids).map Kd.enc))) G' := fun b u hu => by
    by_cases hb : b = p
    · subst hb
      rw [put_same] at hu; cases hu
      exact h1
    · rw [put_ne hb] at hu
      exact h2 b hb u (by rw [put_ne hb]; exact hu)
  exact hC _ _ _ hs (q p hp)
/-- a comprehension over things that reads names from around -/
theorem compC {α : Type} {enc f : α → W} {gd : Hw → Prop} {ge : GE} {R : List W → Hw → Prop} {G : Hw} {cst : Sw} (hgd : gd G) : ∀ (l : List α) (o : Option W) (ys : List W), (∀ x ∈ l, ∀ Q : Kw, Q (f x) G → ge (some (enc x) :: cst) G Q) →
    ys.length + l.length ≤ sizeLine → R (ys ++ l.map f) G → goComp gd (gNm 0) gYes ge R (l.map enc) (o :: cst) G ys
  | [], o, ys, _, _, r => ⟨hgd, by simpa using r⟩
  | x :: l, o, ys, h, hl, r => by
    refine ⟨hgd, by simp only [List.length_cons] at hl; omega, ?_⟩
    show ge (some (enc x) :: cst) G fun y G3 => goComp gd (gNm 0) gYes ge R (l.map enc) (some (enc x) :: cst) G3 (ys ++ [y])
    refine h x List.mem_cons_self _ (compC hgd l (some (enc x)) (ys ++ [f x]) (fun y hy => h y (List.mem_cons_of_mem _ hy)) ?_ ?_)
    · simp only [List.length_append, List.length_cons, List.length_nil] at hl ⊢; omega
    · simpa [List.append_assoc] using r
noncomputable def good (k : Kd) : Bool := decide (k.cnt ≤ 40 ∧ k.dp ≤ 8)
noncomputable abbrev spMade (mg : Str → Option Value) : Spw := spR (fun (k : Kd) ws _ => ws = [k.enc, .ref (fAt mg "has_form"), .ref (fAt mg "kinds_within"), .int 40, .int 8] ∧ k.ok = true ∧ k.cnt ≤ 1000) fun k => .bl (good k)
theorem k_is_made_of (T : Tx K mg base a) : Df P w K mg base "is_made_of" 6 5 (spMade mg) := by
  refine mk0 T.f_is_made_of rfl c_is_made_of spR_M ((by rintro ws G Q E ⟨x, ⟨e, _⟩, _⟩; rw [e]; rfl)) (d_is_made_of T (k_has_form T) (Nat.le_refl _) (k_layer_within T) (by omega)) fun ws G Q E hC q => ?_
  obtain ⟨k, ⟨rfl, ho, hc⟩, q⟩ := q
  unfold g_is_made_of
  walk_at "rd"
  refine ⟨by decide, fun p hp => ?_⟩
  refine ⟨fun m ω G' => ∃ (l : List Kd) (p : Addr) (c d : Nat), ω = [some k.enc, some (.ref (fAt mg "has_form")), some (.ref (fAt mg "kinds_within")), some (.int 40), some (.int 8), some (.ref p), some (.int c), some (.int d)] ∧ G' p = some (.lst (l.map Kd.enc)) ∧ Sub G G' ∧ c + cntL l = k.cnt ∧ d + dpL l = k.dp ∧ (∀ x ∈ l, x.ok = true) ∧ c ≤ 40 ∧ d ≤ 8 ∧ m = 9 - d, ⟨9, [k], p, 0, 0, rfl, put_same, sub_put hp, ?_, ?_, ?_, by omega, by omega, rfl⟩, ?_⟩
  · show 0 + (k.cnt + 0) = k.cnt; omega
  · show 0 + max k.dp 0 = k.dp; omega
  · intro x hx; rw [List.mem_singleton.mp hx]; exact ho
  rintro m ω G1 ⟨l, p, c, d, rfl, hl, hs, e1, e2, hok, h40, h8, rfl⟩
  have hlen : (l.map Kd.enc).length = l.length := List.length_map _
  walk_at "rd"
  simp only [hl, opt_some, hlen]
  cases l with
  | nil =>
    have d0 : ¬ ((0 : Int) < ((([] : List Kd).length : Nat) : Int)) := by simp
    simp only [d0, decide_false, Bool.false_eq_true, if_false]
    have hg : good k = true := by
      unfold good
      have z1 : c + 0 = k.cnt := e1
      have z2 : d + 0 = k.dp := e2
      simp only [decide_eq_true_eq]
      omega
    dsimp only at q
    rw [hg] at q
    exact hC _ _ _ hs q
  | cons x l =>
    have hx1 := cntL_layer (x :: l)
    have hx2 := dpL_layer (x :: l) (by simp)
    have d0 : (0 : Int) < (((x :: l).length : Nat) : Int) := by simp only [List.length_cons]; omega
    simp only [d0, decide_true, if_true, hl, opt_some, hlen]
    have b40 : decide ((40 : Int) < (c : Int) + (((x :: l).length : Nat) : Int)) = decide (40 < c + (x :: l).length) := by
      rw [decide_eq_decide]; omega
    have b8 : decide ((8 : Int) < (d : Int) + 1) = decide (8 < d + 1) := by
      rw [decide_eq_decide]; omega
    rw [b40, b8]
    by_cases g40 : 40 < c + (x :: l).length
    · have hg : good k = false := by
        unfold good
        simp only [decide_eq_false_iff_not]
        omega
      dsimp only at q
      rw [hg] at q
      simp only [g40, decide_true, if_true]
      exact hC _ _ _ hs q
    · by_cases g8 : 8 < d + 1
      · have hg : good k = false := by
          unfold good
          simp only [decide_eq_false_iff_not]
          omega
        dsimp only at q
        rw [hg] at q
        simp only [g40, g8, decide_true, decide_false, if_true, Bool.false_eq_true, if_false]
        exact hC _ _ _ hs q
      · simp only [g40, g8, decide_false, Bool.false_eq_true, if_false]
        refine compC (f := fun _ => .bl true) (cst := [some (.ref (fAt mg "has_form"))]) hl (x :: l) none [] (fun z hz Q' q' => ?_) (by exact small_le (by simp only [List.length_nil]; omega)) ?_
        · have hz2 := cntL_mem hz
          exact ⟨rfl, z, ⟨rfl, hok z hz, by omega⟩, q'⟩
        · intro p1 hp1
          rw [List.nil_append, show (fun _ : Kd => W.bl true) = W.bl ∘ (fun _ => true) from rfl, ← List.map_map]
          simp only [lst_ref put_same, Option.bind_some, bools_map, Option.map_some, opt_some]
          have hall : ((x :: l).map fun _ => true).all id = true := by simp
          rw [hall]
          simp only [Bool.not_true, Bool.false_eq_true, if_false]
          refine ⟨x :: l, ⟨p, rfl, by rw [put_ne (ne_none hl hp1)]; exact hl, by omega⟩, fun p2 hp2 => ?_⟩
          refine ⟨9 - (d + 1), by omega, (x :: l).flatMap Kd.kids, p2, c + (x :: l).length, d + 1, ?_, put_same, ?_, by omega, by omega, ?_, by omega, by omega, rfl⟩
          · simp only [Int.natCast_add, Int.natCast_one]
          · exact sub_put2 (sub_put2 hs hp1) hp2
          · intro y hy
            obtain ⟨z, hz, hy⟩ := List.mem_flatMap.mp hy
            exact ok_kids (hok z hz) y hy
noncomputable abbrev spKind : Spw := spR (fun (k : Kd) ws _ => ws = [k.enc] ∧ k.ok = true ∧ k.cnt ≤ 1000) fun k => .bl (good k)
theorem k_is_kind (T : Tx K mg base a) : Df P w K mg base "is_kind" 7 1 spKind := by
  refine mk0 T.f_is_kind rfl c_is_kind spR_M ((by rintro ws G Q E ⟨x, ⟨e, _⟩, _⟩; rw [e]; rfl)) (d_is_kind T (k_has_form T) (by omega) (k_kinds_within T) (by omega) (k_is_made_of T) (Nat.le_refl _)) fun ws G Q E hC q => ?_
  obtain ⟨k, ⟨rfl, ho, hc⟩, q⟩ := q
  unfold g_is_kind
  walk_at "rd"
  exact ⟨k, ⟨rfl, ho, hc⟩, q⟩
noncomputable abbrev spChk : Spw := spR (fun (k : Kd) ws _ => ws = [k.enc] ∧ k.ok = true ∧ k.cnt ≤ 1000 ∧ good k = true) fun _ => .non
theorem k_check_kind (T : Tx K mg base a) : Df P w K mg base "check_kind" 8 1 spChk := by
  refine mk0 T.f_check_kind rfl c_check_kind spR_M ((by rintro ws G Q E ⟨x, ⟨e, _⟩, _⟩; rw [e]; rfl)) (d_check_kind T (k_is_kind T) (Nat.le_refl _)) fun ws G Q E hC q => ?_
  obtain ⟨k, ⟨rfl, ho, hc, hg⟩, q⟩ := q
  unfold g_check_kind
  walk_at "rd"
  refine ⟨k, ⟨rfl, ho, hc⟩, ?_⟩
  simp only [hg, Bool.not_true, Bool.false_eq_true, if_false]
  exact q
set_option maxHeartbeats 4000000
section
variable {P : Program} {w : World} {K : PySem.W.Frag} {mg : Str → Option Value} {base : Heap} {a : Adr}
noncomputable abbrev n__law_state : List Str := ["script", "k", "cell"]
theorem c__law_state : FnScope n__law_state ["script", "k"] (defScope s__law_state) := ⟨rfl, rfl, rfl, by decide +kernel, rfl, by decide +kernel, by decide +kernel⟩
noncomputable def g__law_state : GS := (gSeq (gSet 2 (gC (.int 0))) (gSeq (gIf (gTB (gBin (rOrd (fun i j => decide (i < j)) strLt) (gVar 1) (gB (rF lenF) (gCons (gVar 0) gNil)))) (gSet 2 (gBin (rFun ixW) (gVar 0) (gVar 1))) gNext) (gSeq (gIf (gTB (gBin (rCmp fun i j => decide (j ≤ i)) (gVar 2) (gBin (rInt CPow fun i j => i ^ j.toNat) (gC (.int 10)) (gC (.int 18))))) (gRet (gLst (gCons (gBin (rInt (fun _ _ => True) fun i j => i - j) (gVar 2) (gBin (rInt CPow fun i j => i ^ j.toNat) (gC (.int 10)) (gC (.int 18)))) (gCons (gC (.int 1)) gNil)))) gNext) (gRet (gLst (gCons (gBin (rInt (fun _ j => 0 < j) fun i j => i % j) (gBin (rAdd) (gVar 2) (gBin (rInt CMul fun i j => i * j) (gC (.int 7919)) (gVar 1))) (gC (.int 2147483647))) (gCons (gC (.int 0)) gNil)))))))
theorem d__law_state {k : Nat} (T : Tx K mg base a) {f : Addr} {cdv : Value} {A : Around} {outer : List Env} {s : Shared} {H : Hp} {E : XK} (hr : Room k (A.deeper (envOfC "_law_state" (defScope s__law_state) s.heap.objs.size f cdv))) : Ssm (cxW P w K mg base n__law_state "_law_state" (defScope s__law_state) f cdv A outer s H E).nox (fun B => B = H) (defBody s__law_state) (g__law_state) :=
  have hu := u100 hr
  (ssm_cons (sm_s (i := 2) c__law_state.nd rfl rfl rfl em_int) (ssm_cons (sm_if (tm_cmp cop_lt rfl (em_v (i := 1) rfl rfl rfl rfl) (em_fn bt_len (blt_len) rfl T.n_len (by decide) rfl rfl rfl (am_cons rfl (em_v (i := 0) rfl rfl rfl rfl) am_nil))) (ssm_one (sm_s (i := 2) c__law_state.nd rfl rfl rfl (em_ix (fun _ _ => rfl) (em_v (i := 0) rfl rfl rfl rfl) (em_v (i := 1) rfl rfl rfl rfl)))) ssm_nil) (ssm_cons (sm_if (tm_cmp cop_ge rfl (em_v (i := 2) rfl rfl rfl rfl) (em_pow em_int em_int)) (ssm_one (sm_ret (em_lst (am_cons rfl (em_sub (em_v (i := 2) rfl rfl rfl rfl) (em_pow em_int em_int)) (am_cons rfl em_int am_nil))))) ssm_nil) (ssm_one (sm_ret (em_lst (am_cons rfl (em_mod (em_add (em_v (i := 2) rfl rfl rfl rfl) (em_mul em_int (em_v (i := 1) rfl rfl rfl rfl))) em_int) (am_cons rfl em_int am_nil))))))))
noncomputable abbrev n__law_take : List Str := ["state", "many", "mixed", "found"]
theorem c__law_take : FnScope n__law_take ["state", "many"] (defScope s__law_take) := ⟨rfl, rfl, rfl, by decide +kernel, rfl, by decide +kernel, by decide +kernel⟩
noncomputable def g__law_take : GS := (gSeq (gIf (gAnd (gTB (gBin (rFun (eqF false)) (gBin (rFun ixW) (gVar 0) (gC (.int 1))) (gC (.int 1)))) (gTB (gBin (rCmp fun i j => decide (j < i)) (gBin (rFun ixW) (gVar 0) (gC (.int 0))) (gC (.int 0))))) (gSeq (gSet 3 (gBin (rInt (fun _ j => 0 < j) fun i j => i % j) (gBin (rFun ixW) (gVar 0) (gC (.int 0))) (gVar 1))) (gSeq (gSetIx (gBin (rInt CDiv fun i j => i / j) (gBin (rFun ixW) (gVar 0) (gC (.int 0))) (gVar 1)) (gVar 0) (gC (.int 0))) (gRet (gVar 3)))) gNext) (gSeq (gSetIx (gC (.int 0)) (gVar 0) (gC (.int 1))) (gSeq (gSetIx (gBin (rInt (fun _ j => 0 < j) fun i j => i % j) (gBin (rAdd) (gBin (rInt CMul fun i j => i * j) (gBin (rFun ixW) (gVar 0) (gC (.int 0))) (gC (.int 48271))) (gC (.int 69621))) (gC (.int 2147483647))) (gVar 0) (gC (.int 0))) (gSeq (gSet 2 (gBin (rInt (fun _ j => 0 < j) fun i j => i % j) (gBin (rAdd) (gBin (rInt CMul fun i j => i * j) (gBin (rFun ixW) (gVar 0) (gC (.int 0))) (gBin (rFun ixW) (gVar 0) (gC (.int 0)))) (gBin (rInt CMul fun i j => i * j) (gC (.int 16807)) (gBin (rFun ixW) (gVar 0) (gC (.int 0))))) (gC (.int 2147483629)))) (gSeq (gSet 2 (gBin (rInt (fun _ j => 0 < j) fun i j => i % j) (gBin (rAdd) (gBin (rInt CMul fun i j => i * j) (gVar 2) (gVar 2)) (gBin (rInt CMul fun i j => i * j) (gC (.int 39373)) (gVar 2))) (gC (.int 2147483587)))) (gRet (gBin (rInt (fun _ j => 0 < j) fun i j => i % j) (gBin (rInt CDiv fun i j => i / j) (gVar 2) (gC (.int 8))) (gVar 1))))))))
theorem d__law_take {k : Nat} (T : Tx K mg base a) {f : Addr} {cdv : Value} {A : Around} {outer : List Env} {s : Shared} {H : Hp} {E : XK} (hr : Room k (A.deeper (envOfC "_law_take" (defScope s__law_take) s.heap.objs.size f cdv))) : Ssm (cxW P w K mg base n__law_take "_law_take" (defScope s__law_take) f cdv A outer s H E).nox (fun B => B = H) (defBody s__law_take) (g__law_take) :=
  have hu := u100 hr
  (ssm_cons (sm_if (tm_bool (wm_and (tm_cmp (cop_eq hu) rfl (em_ix (fun _ _ => rfl) (em_v (i := 0) rfl rfl rfl rfl) em_int) em_int) (wm_and1 (tm_cmp cop_gt rfl (em_ix (fun _ _ => rfl) (em_v (i := 0) rfl rfl rfl rfl) em_int) em_int)))) (ssm_cons (sm_s (i := 3) c__law_take.nd rfl rfl rfl (em_mod (em_ix (fun _ _ => rfl) (em_v (i := 0) rfl rfl rfl rfl) em_int) (em_v (i := 1) rfl rfl rfl rfl))) (ssm_cons (sm_setIx (fun _ => rfl) rfl rfl rfl (em_fdiv (em_ix (fun _ _ => rfl) (em_v (i := 0) rfl rfl rfl rfl) em_int) (em_v (i := 1) rfl rfl rfl rfl)) (em_v (i := 0) rfl rfl rfl rfl) em_int) (ssm_one (sm_ret (em_v (i := 3) rfl rfl rfl rfl))))) ssm_nil) (ssm_cons (sm_setIx (fun _ => rfl) rfl rfl rfl em_int (em_v (i := 0) rfl rfl rfl rfl) em_int) (ssm_cons (sm_setIx (fun _ => rfl) rfl rfl rfl (em_mod (em_add (em_mul (em_ix (fun _ _ => rfl) (em_v (i := 0) rfl rfl rfl rfl) em_int) em_int) em_int) em_int) (em_v (i := 0) rfl rfl rfl rfl) em_int) (ssm_cons (sm_s (i := 2) c__law_take.nd rfl rfl rfl (em_mod (em_add (em_mul (em_ix (fun _ _ => rfl) (em_v (i := 0) rfl rfl rfl rfl) em_int) (em_ix (fun _ _ => rfl) (em_v (i := 0) rfl rfl rfl rfl) em_int)) (em_mul em_int (em_ix (fun _ _ => rfl) (em_v (i := 0) rfl rfl rfl rfl) em_int))) em_int)) (ssm_cons (sm_s (i := 2) c__law_take.nd rfl rfl rfl (em_mod (em_add (em_mul (em_v (i := 2) rfl rfl rfl rfl) (em_v (i := 2) rfl rfl rfl rfl)) (em_mul em_int (em_v (i := 2) rfl rfl rfl rfl))) em_int)) (ssm_one (sm_ret (em_mod (em_fdiv (em_v (i := 2) rfl rfl rfl rfl) em_int) (em_v (i := 1) rfl rfl rfl rfl)))))))))
noncomputable abbrev n__law_kind : List Str := ["state", "deep", "way", "fields", "name", "pick"]
theorem c__law_kind : FnScope n__law_kind ["state", "deep"] (defScope s__law_kind) := ⟨rfl, rfl, rfl, by decide +kernel, rfl, by decide +kernel, by decide +kernel⟩
noncomputable def g__law_kind (sp__law_take : Spw) (sp__law_kind : Spw) : GS := (gSeq (gSet 2 (gCall sp__law_take (fun _ _ _ => False) (gCons (gVar 0) (gCons (gBin (rAdd) (gC (.int 6)) (gBin (rInt CMul fun i j => i * j) (gC (.int 4)) (gB (rF intF) (gCons (gBin (rCmp fun i j => decide (j < i)) (gVar 1) (gC (.int 0))) gNil)))) gNil)))) (gSeq (gIf (gTB (gBin (rOrd (fun i j => decide (i < j)) strLt) (gVar 2) (gC (.int 6)))) (gRet (gBin (rFun ixW) (gLst (gCons (gTup (gCons (gC (.str "any")) gNil)) (gCons (gTup (gCons (gC (.str "num")) gNil)) (gCons (gTup (gCons (gC (.str "truth")) gNil)) gNil)))) (gBin (rInt CDiv fun i j => i / j) (gVar 2) (gC (.int 2))))) gNext) (gSeq (gIf (gTB (gBin (rFun (eqF false)) (gVar 2) (gC (.int 6)))) (gRet (gTup (gCons (gC (.str "to")) (gCons (gCall sp__law_kind (fun _ _ _ => False) (gCons (gVar 0) (gCons (gBin (rInt (fun _ _ => True) fun i j => i - j) (gVar 1) (gC (.int 1))) gNil))) (gCons (gCall sp__law_kind (fun _ _ _ => False) (gCons (gVar 0) (gCons (gBin (rInt (fun _ _ => True) fun i j => i - j) (gVar 1) (gC (.int 1))) gNil))) gNil))))) gNext) (gSeq (gIf (gTB (gBin (rFun (eqF false)) (gVar 2) (gC (.int 7)))) (gRet (gTup (gCons (gC (.str "box")) (gCons (gCall sp__law_kind (fun _ _ _ => False) (gCons (gVar 0) (gCons (gBin (rInt (fun _ _ => True) fun i j => i - j) (gVar 1) (gC (.int 1))) gNil))) gNil)))) gNext) (gSeq (gSet 3 (gLst gNil)) (gSeq (gFor (gIter (gLst (gCons (gC (.str "a")) (gCons (gC (.str "b")) (gCons (gC (.str "cc")) gNil))))) (gNm 4) (gSeq (gSet 5 (gCall sp__law_take (fun _ _ _ => False) (gCons (gVar 0) (gCons (gC (.int 4)) gNil)))) (gIf (gTB (gBin (rCmp fun i j => decide (j < i)) (gVar 5) (gC (.int 1)))) (gDrop (gMt isLst rApp (gVar 3) (gCons (gTup (gCons (gVar 4) (gCons (gBin (rFun ixW) (gLst (gCons (gC (.str "must")) (gCons (gC (.str "may")) gNil))) (gBin (rInt (fun _ _ => True) fun i j => i - j) (gVar 5) (gC (.int 2)))) (gCons (gCall sp__law_kind (fun _ _ _ => False) (gCons (gVar 0) (gCons (gBin (rInt (fun _ _ => True) fun i j => i - j) (gVar 1) (gC (.int 1))) gNil))) gNil)))) gNil))) gNext))) (gRet (gTup (gCons (gC (.str "row")) (gCons (gB (rF tupF) (gCons (gVar 3) gNil)) (gCons (gBin (rFun (eqF false)) (gCall sp__law_take (fun _ _ _ => False) (gCons (gVar 0) (gCons (gC (.int 3)) gNil))) (gC (.int 0))) gNil)))))))))))
theorem d__law_kind {k : Nat} (T : Tx K mg base a) {k__law_take : Nat} {sp__law_take : Spw} (D__law_take : Df P w K mg base "_law_take" k__law_take 2 sp__law_take) (h__law_take : k__law_take ≤ k) {k__law_kind : Nat} {sp__law_kind : Spw} (D__law_kind : Df P w K mg base "_law_kind" k__law_kind 2 sp__law_kind) (h__law_kind : k__law_kind ≤ k) {f : Addr} {cdv : Value} {A : Around} {outer : List Env} {s : Shared} {H : Hp} {E : XK} (hr : Room k (A.deeper (envOfC "_law_kind" (defScope s__law_kind) s.heap.objs.size f cdv))) : Ssm (cxW P w K mg base n__law_kind "_law_kind" (defScope s__law_kind) f cdv A outer s H E).nox (fun B => B = H) (defBody s__law_kind) (g__law_kind sp__law_take sp__law_kind) :=
  have hu := u100 hr
  (ssm_cons (sm_s (i := 2) c__law_kind.nd rfl rfl rfl (em_call D__law_take (hr.mono h__law_take) rfl passF rfl rfl rfl (am_cons rfl (em_v (i := 0) rfl rfl rfl rfl) (am_cons rfl (em_add em_int (em_mul em_int (em_ty bt_int (blt_int) rfl T.n_int (by decide) rfl rfl rfl (am_cons rfl (em_cmp cop_gt rfl (em_v (i := 1) rfl rfl rfl rfl) em_int) am_nil)))) am_nil)))) (ssm_cons (sm_if (tm_cmp cop_lt rfl (em_v (i := 2) rfl rfl rfl rfl) em_int) (ssm_one (sm_ret (em_ix (fun _ _ => rfl) (em_lst (am_cons rfl (em_tup (am_cons rfl em_str am_nil)) (am_cons rfl (em_tup (am_cons rfl em_str am_nil)) (am_cons rfl (em_tup (am_cons rfl em_str am_nil)) am_nil)))) (em_fdiv (em_v (i := 2) rfl rfl rfl rfl) em_int)))) ssm_nil) (ssm_cons (sm_if (tm_cmp (cop_eq hu) rfl (em_v (i := 2) rfl rfl rfl rfl) em_int) (ssm_one (sm_ret (em_tup (am_cons rfl em_str (am_cons rfl (em_call D__law_kind (hr.mono h__law_kind) rfl passF rfl rfl rfl (am_cons rfl (em_v (i := 0) rfl rfl rfl rfl) (am_cons rfl (em_sub (em_v (i := 1) rfl rfl rfl rfl) em_int) am_nil))) (am_cons rfl (em_call D__law_kind (hr.mono h__law_kind) rfl passF rfl rfl rfl (am_cons rfl (em_v (i := 0) rfl rfl rfl rfl) (am_cons rfl (em_sub (em_v (i := 1) rfl rfl rfl rfl) em_int) am_nil))) am_nil)))))) ssm_nil) (ssm_cons (sm_if (tm_cmp (cop_eq hu) rfl (em_v (i := 2) rfl rfl rfl rfl) em_int) (ssm_one (sm_ret (em_tup (am_cons rfl em_str (am_cons rfl (em_call D__law_kind (hr.mono h__law_kind) rfl passF rfl rfl rfl (am_cons rfl (em_v (i := 0) rfl rfl rfl rfl) (am_cons rfl (em_sub (em_v (i := 1) rfl rfl rfl rfl) em_int) am_nil))) am_nil))))) ssm_nil) (ssm_cons (sm_s (i := 3) c__law_kind.nd rfl rfl rfl (em_lst am_nil)) (ssm_cons (sm_for PassesOwn.never rfl (fun _ => rfl) (im_any (fun _ _ => rfl) (em_lst (am_cons rfl em_str (am_cons rfl em_str (am_cons rfl em_str am_nil))))) (tg_name (i := 4) c__law_kind.nd rfl (.inl rfl) (.inr rfl)) (ssm_cons (sm_s (i := 5) c__law_kind.nd rfl rfl rfl (em_call D__law_take (hr.mono h__law_take) rfl passF rfl rfl rfl (am_cons rfl (em_v (i := 0) rfl rfl rfl rfl) (am_cons rfl em_int am_nil)))) (ssm_one (sm_if (tm_cmp cop_gt rfl (em_v (i := 5) rfl rfl rfl rfl) em_int) (ssm_one (sm_expr rfl (em_mth mth_append rfl rfl rfl rfl rfl (em_v (i := 3) rfl rfl rfl rfl) (am_cons rfl (em_tup (am_cons rfl (em_v (i := 4) rfl rfl rfl rfl) (am_cons rfl (em_ix (fun _ _ => rfl) (em_lst (am_cons rfl em_str (am_cons rfl em_str am_nil))) (em_sub (em_v (i := 5) rfl rfl rfl rfl) em_int)) (am_cons rfl (em_call D__law_kind (hr.mono h__law_kind) rfl passF rfl rfl rfl (am_cons rfl (em_v (i := 0) rfl rfl rfl rfl) (am_cons rfl (em_sub (em_v (i := 1) rfl rfl rfl rfl) em_int) am_nil))) am_nil)))) am_nil)))) ssm_nil)))) (ssm_one (sm_ret (em_tup (am_cons rfl em_str (am_cons rfl (em_ty bt_tuple (blt_tuple) rfl T.n_tuple (by decide) rfl rfl rfl (am_cons rfl (em_v (i := 3) rfl rfl rfl rfl) am_nil)) (am_cons rfl (em_cmp (cop_eq hu) rfl (em_call D__law_take (hr.mono h__law_take) rfl passF rfl rfl rfl (am_cons rfl (em_v (i := 0) rfl rfl rfl rfl) (am_cons rfl em_int am_nil))) em_int) am_nil))))))))))))
end
set_option maxHeartbeats 1000000
local macro_rules | `(tactic| walk_at "rd") => `(tactic| ((try dsimp only [gSeq, gIf, gRet, gSet, gDrop, gNext, gVar, gC, gBin, gTB, gTru, gNt, gAnd, gOr, gAndV, gOrV, gIte, L3.gTup, gLst, L3.gCons, L3.gNil, gCall, gB, rF, rFun, gIsiT, gMt, gAug, getW, gChain, rOrd, rCmp, rInt, L3.rAdd, rIAdd, gSl, gPart, gNoPart, gComp, gIter, gZip, gRange, gFor, gTabGet, gSetIx, endsW, startW, List.map_cons, List.map_nil, List.length_cons, List.length_nil, List.cons_append, List.nil_append, List.getElem?_cons_zero, List.getElem?_cons_succ, List.set_cons_zero, List.set_cons_succ, List.replicate, truW, tyN, opt_some, atI_0, atI_1, atI_2, ixW, eqF, eqW, lenF, lenW, allF, tupF, intF, List.getElem?_nil]); (try simp only [gSeq, gIf, gRet, gSet, gDrop, gNext, gVar, gC, gBin, gTB, gTru, gNt, gAnd, gOr, gAndV, gOrV, gIte, L3.gTup, gLst, L3.gCons, L3.gNil, gCall, gB, rF, rFun, gIsiT, gMt, gAug, getW, gChain, rOrd, rCmp, rInt, L3.rAdd, rIAdd, gSl, gPart, gNoPart, gComp, gIter, gZip, gRange, gFor, gTabGet, gSetIx, endsW, startW, List.map_cons, List.map_nil, List.length_cons, List.length_nil, List.cons_append, List.nil_append, List.getElem?_cons_zero, List.getElem?_cons_succ, List.set_cons_zero, List.set_cons_succ, List.replicate, truW, tyN, opt_some, atI_0, atI_1, atI_2, ixW, eqF, eqW, lenF, lenW, allF, tupF, intF, List.getElem?_nil])))
theorem atI_ints {ns : List Int} {k : Int} (h0 : 0 ≤ k) (h : k < (ns.length : Int)) : ∃ v : Int, atI (ns.map W.int) k = some (.int v) := by
  have hk : k.toNat < ns.length := by omega
  have ek : k = ((k.toNat : Nat) : Int) := by omega
  refine ⟨ns[k.toNat], ?_⟩
  have q : atI (ns.map W.int) ((k.toNat : Nat) : Int) = some (.int ns[k.toNat]) := atI_nat (by rw [List.getElem?_map, List.getElem?_eq_getElem hk] <;> rfl)
  rw [← ek] at q
  exact q
noncomputable def spState : Spw := fun ws G Q _ => ∃ (ns : List Int) (k : Int), ws = [.rol (ns.map W.int), .int k] ∧ 0 ≤ k ∧ k ≤ 1000 ∧ ∀ p (x y : Int), G p = none → Q (.ref p) (put G p (.lst [.int x, .int y]))
theorem spState_M : Spw.M spState := (by rintro ws G Q Q' E E' h _ ⟨ns, k, h1, h2, h3, q⟩; exact ⟨ns, k, h1, h2, h3, fun p x y hp => h _ _ (q p x y hp)⟩)
theorem pow_ok : CPow 10 18 := ⟨by decide, by decide, by decide⟩
theorem k__law_state (T : Tx K mg base a) : Df P w K mg base "_law_state" 1 2 spState := by
  refine mk0 T.f__law_state rfl c__law_state spState_M ((by rintro ws G Q E ⟨ns, k, e, _⟩; rw [e]; rfl)) (d__law_state T) fun ws G Q E hC q => ?_
  obtain ⟨ns, k, rfl, h0, h1, q⟩ := q
  unfold g__law_state
  have fin : ∀ x : Int, (gSeq (gIf (gTB (gBin (rCmp fun i j => decide (j ≤ i)) (gVar 2) (gBin (rInt CPow fun i j => i ^ j.toNat) (gC (.int 10)) (gC (.int 18))))) (gRet (gLst (L3.gCons (gBin (rInt (fun _ _ => True) fun i j => i - j) (gVar 2) (gBin (rInt CPow fun i j => i ^ j.toNat) (gC (.int 10)) (gC (.int 18)))) (L3.gCons (gC (.int 1)) L3.gNil)))) gNext) (gRet (gLst (L3.gCons (gBin (rInt (fun _ j => 0 < j) fun i j => i % j) (gBin (L3.rAdd) (gVar 2) (gBin (rInt CMul fun i j => i * j) (gC (.int 7919)) (gVar 1))) (gC (.int 2147483647))) (L3.gCons (gC (.int 0)) L3.gNil))))) (endsW Q) [some (.rol (ns.map W.int)), some (.int k), some (.int x)] G := fun x => by
    walk_at "rd"
    refine ⟨pow_ok, ?_⟩
    refine ite2 (fun h => ?_) (fun h => ?_)
    · exact ⟨pow_ok, trivial, by decide, fun p hp => q p _ _ hp⟩
    · exact ⟨.inl ⟨by decide, by decide⟩, by decide, by decide, fun p hp => q p _ _ hp⟩
  show gSeq (gSet 2 (gC (.int 0))) (gSeq _ _) (endsW Q) [some (.rol (ns.map W.int)), some (.int k), none] G
  by_cases hk : k < ((ns.map W.int).length : Int)
  · obtain ⟨v, e⟩ := atI_ints h0 (by simpa using hk)
    have z := fin v
    simp only [gSeq, gSet, gC, gIf, gTB, gBin, rOrd, gB, rF, lenF, lenW, L3.gCons, L3.gNil, gVar, List.getElem?_cons_zero, List.getElem?_cons_succ, List.set_cons_zero, List.set_cons_succ, opt_some, hk, decide_true, if_true, rFun, ixW, e] at z ⊢
    exact z
  · have z := fin 0
    simp only [gSeq, gSet, gC, gIf, gTB, gBin, rOrd, gB, rF, lenF, lenW, L3.gCons, L3.gNil, gVar, List.getElem?_cons_zero, List.getElem?_cons_succ, List.set_cons_zero, List.set_cons_succ, opt_some, hk, decide_false, Bool.false_eq_true, if_false, gNext] at z ⊢
    exact z
/-- a draw: any number below, the state changed -/
noncomputable def spTake : Spw := fun ws G Q _ => ∃ (s : Addr) (m x y : Int), ws = [.ref s, .int m] ∧ 0 < m ∧ m < 1073741824 ∧ G s = some (.lst [.int x, .int y]) ∧ ∀ r x' y' : Int, 0 ≤ r → r < m → Q (.int r) (put G s (.lst [.int x', .int y']))
theorem spTake_M : Spw.M spTake := (by rintro ws G Q Q' E E' h _ ⟨s, m, x, y, h1, h2, h3, h4, q⟩; exact ⟨s, m, x, y, h1, h2, h3, h4, fun r x' y' a b => h _ _ (q r x' y' a b)⟩)
theorem ixN_0 (n : Nat) : ixN (n + 1) 0 = some 0 := by unfold ixN; rw [if_pos (Int.le_refl 0), if_pos (by omega)]; rfl
theorem ixN_1 (n : Nat) : ixN (n + 2) 1 = some 1 := by unfold ixN; rw [if_pos (by decide), if_pos (by omega)]; rfl
theorem set0_mk {G : Hw} {s : Addr} {x y v : W} {Q : Hw → Prop} (h : G s = some (.lst [x, y])) (q : Q (put G s (.lst [v, y]))) : setAt (.ref s) (.int 0) v G Q := setAt_mk h (ixN_0 1) q
theorem set1_mk {G : Hw} {s : Addr} {x y v : W} {Q : Hw → Prop} (h : G s = some (.lst [x, y])) (q : Q (put G s (.lst [x, v]))) : setAt (.ref s) (.int 1) v G Q := setAt_mk h (ixN_1 0) q
theorem ix0 {G : Hw} {s : Addr} {x y : W} (h : G s = some (.lst [x, y])) : ixW (.ref s) (.int 0) G = some x := by rw [ix_ref h]; exact atI_0
theorem ix1 {G : Hw} {s : Addr} {x y : W} (h : G s = some (.lst [x, y])) : ixW (.ref s) (.int 1) G = some y := by rw [ix_ref h]; exact atI_1
theorem small64 {x m : Int} (h0 : 0 ≤ x) (h1 : x < m) (hm : m ≤ 2147483647) : -(2 ^ 64) < x ∧ x < 2 ^ 64 := by
  have : (2 : Int) ^ 64 = 18446744073709551616 := by decide
  rw [this]; omega
theorem k__law_take (T : Tx K mg base a) : Df P w K mg base "_law_take" 1 2 spTake := by
  refine mk0 T.f__law_take rfl c__law_take spTake_M ((by rintro ws G Q E ⟨s, m, x, y, e, _⟩; rw [e]; rfl)) (d__law_take T) fun ws G Q E hC q => ?_
  obtain ⟨s, m, x, y, rfl, hm0, hm1, hs, q⟩ := q
  unfold g__law_take
  have tail : (gSeq (gSetIx (gC (.int 0)) (gVar 0) (gC (.int 1))) (gSeq (gSetIx (gBin (rInt (fun _ j => 0 < j) fun i j => i % j) (gBin (L3.rAdd) (gBin (rInt CMul fun i j => i * j) (gBin (rFun ixW) (gVar 0) (gC (.int 0))) (gC (.int 48271))) (gC (.int 69621))) (gC (.int 2147483647))) (gVar 0) (gC (.int 0))) (gSeq (gSet 2 (gBin (rInt (fun _ j => 0 < j) fun i j => i % j) (gBin (L3.rAdd) (gBin (rInt CMul fun i j => i * j) (gBin (rFun ixW) (gVar 0) (gC (.int 0))) (gBin (rFun ixW) (gVar 0) (gC (.int 0)))) (gBin (rInt CMul fun i j => i * j) (gC (.int 16807)) (gBin (rFun ixW) (gVar 0) (gC (.int 0))))) (gC (.int 2147483629)))) (gSeq (gSet 2 (gBin (rInt (fun _ j => 0 < j) fun i j => i % j) (gBin (L3.rAdd) (gBin (rInt CMul fun i j => i * j) (gVar 2) (gVar 2)) (gBin (rInt CMul fun i j => i * j) (gC (.int 39373)) (gVar 2))) (gC (.int 2147483587)))) (gRet (gBin (rInt (fun _ j => 0 < j) fun i j => i % j) (gBin (rInt CDiv fun i j => i / j) (gVar 2) (gC (.int 8))) (gVar 1))))))) (endsW Q) [some (.ref s), some (.int m), none, none] G := by
    simp only [gSeq, gSetIx, gC, gVar, List.getElem?_cons_zero, List.getElem?_cons_succ]
    refine set1_mk hs ?_
    have h1 : put G s (.lst [.int x, .int 0]) s = some (.lst [.int x, .int 0]) := put_same
    simp only [gBin, rInt, L3.rAdd, rFun, gC, gVar, List.getElem?_cons_zero, List.getElem?_cons_succ, ix0 h1, opt_some]
    refine ⟨.inr ⟨by decide, by decide⟩, by decide, ?_⟩
    refine set0_mk h1 ?_
    rw [put_put]
    generalize hx2 : (x * 48271 + 69621) % 2147483647 = x2
    have b0 : 0 ≤ x2 := by rw [← hx2]; exact Int.emod_nonneg _ (by decide)
    have b1 : x2 < 2147483647 := by rw [← hx2]; exact Int.emod_lt_of_pos _ (by decide)
    have h2 : put G s (.lst [.int x2, .int 0]) s = some (.lst [.int x2, .int 0]) := put_same
    simp only [gSet, gBin, rInt, L3.rAdd, rFun, gC, gVar, List.getElem?_cons_zero, List.getElem?_cons_succ, List.set_cons_zero, List.set_cons_succ, ix0 h2, opt_some, gRet, endsW]
    refine ⟨.inl (small64 b0 b1 (by decide)), .inl ⟨by decide, by decide⟩, by decide, ?_⟩
    generalize hx3 : (x2 * x2 + 16807 * x2) % 2147483629 = x3
    have c0 : 0 ≤ x3 := by rw [← hx3]; exact Int.emod_nonneg _ (by decide)
    have c1 : x3 < 2147483629 := by rw [← hx3]; exact Int.emod_lt_of_pos _ (by decide)
    refine ⟨.inl (small64 c0 c1 (by decide)), .inl ⟨by decide, by decide⟩, (show (0 : Int) < 2147483587 by decide), ?_⟩
    refine ⟨⟨by decide, by decide⟩, hm0, ?_⟩
    exact q _ _ _ (Int.emod_nonneg _ (by omega)) (Int.emod_lt_of_pos _ hm0)
  show gSeq (gIf _ _ gNext) _ (endsW Q) [some (.ref s), some (.int m), none, none] G
  simp only [gSeq, gIf, gAnd, gTB, gBin, rFun, rCmp, gVar, gC, List.getElem?_cons_zero, List.getElem?_cons_succ, ix1 hs, ix0 hs, opt_some, eqF, eqW, Option.map_some] at tail ⊢
  refine ite2 (fun h => ?_) (fun h => ?_)
  · refine ite2 (fun h2 => ?_) (fun h2 => ?_)
    · simp only [gSet, gSetIx, gBin, rInt, rFun, gVar, gC, gRet, endsW, List.getElem?_cons_zero, List.getElem?_cons_succ, List.set_cons_zero, List.set_cons_succ, ix0 hs, opt_some]
      refine ⟨hm0, ?_⟩
      simp only [gSeq, gSetIx, gBin, rInt, rFun, gVar, gC, gRet, List.getElem?_cons_zero, List.getElem?_cons_succ, List.set_cons_zero, List.set_cons_succ, ix0 hs, opt_some]
      refine ⟨⟨hm0, hm1⟩, ?_⟩
      refine set0_mk hs ?_
      exact q _ _ _ (Int.emod_nonneg _ (by omega)) (Int.emod_lt_of_pos _ hm0)
    · exact tail
  · simp only [Bool.false_eq_true, if_false]
    exact tail
set_option Elab.async false
set_option linter.all false
set_option maxRecDepth 100000
/-- a def that nothing can be asked of -/
theorem no_df {x : Str} {st : Stmt} {ps : List Str} {k : Nat} {sp : Spw} (Fx : Fn K mg st x ps) (m : sp.M) (no : ∀ ws G Q E, ¬ sp ws G Q E) : Df P w K mg base x k ps.length sp := by
  obtain ⟨f, fd, h1, F, h3⟩ := Fx
  exact ⟨⟨f, fd, _, h1, F.kp, h3, rfl, ⟨(by rintro vs H Q E ⟨ws, G, t, r, q⟩; exact absurd q (no _ _ _ _)), (by rintro A outer s H args us vs Q E _ _ _ _ ⟨ws, G, t, r, q⟩; exact absurd q (no _ _ _ _))⟩⟩, m⟩
theorem app_mk {G : Hw} {p : Addr} {xs : List W} {y : W} {Q : Kw} (hp : G p = some (.lst xs)) (hl : xs.length < sizeLine) (q : Q .non (put G p (.lst (xs ++ [y])))) : rApp (.ref p) [y] G Q := by
  unfold rApp
  refine chgL_mk hp ?_ q
  rw [if_pos hl]
noncomputable def Nn : Nat → Nat
  | 0 => 1
  | n + 1 => 1 + 3 * Nn n
noncomputable def abc : List Str := ["a", "b", "cc"]
mutual
noncomputable def Kd.abc : Kd → Bool
  | .to x y => x.abc && y.abc
  | .box x => x.abc
  | .row fs _ => fs.abc
  | _ => true
noncomputable def Fs.abc : Fs → Bool
  | .nil => true
  | .cons n _ k r => K3.abc.contains n && k.abc && r.abc
end
noncomputable def gen (n : Nat) (k : Kd) : Prop := k.ok = true ∧ k.dp ≤ n + 1 ∧ k.cnt ≤ Nn n ∧ k.abc = true
theorem Nn_pos : ∀ n, 1 ≤ Nn n
  | 0 => Nat.le_refl _
  | n + 1 => by show 1 ≤ 1 + 3 * Nn n; omega
noncomputable def encF (x : Str × Bool × Kd) : W := .tup [.str x.1, .str (mark x.2.1), x.2.2.enc]
noncomputable def ofL : List (Str × Bool × Kd) → Fs
  | [] => .nil
  | x :: l => .cons x.1 x.2.1 x.2.2 (ofL l)
theorem ofL_enc : ∀ l, (ofL l).enc = l.map encF
  | [] => rfl
  | x :: l => by show encF x :: (ofL l).enc = encF x :: l.map encF; rw [ofL_enc l]
theorem ofL_names : ∀ l, (ofL l).names = l.map (·.1)
  | [] => rfl
  | x :: l => by show x.1 :: (ofL l).names = x.1 :: l.map (·.1); rw [ofL_names l]
theorem ofL_dp {n : Nat} : ∀ l : List (Str × Bool × Kd), (∀ y ∈ l, gen n y.2.2) → (ofL l).dp ≤ n + 1
  | [], _ => Nat.zero_le _
  | x :: l, h => by
    have h1 := (h x List.mem_cons_self).2.1
    have h2 := ofL_dp l fun y hy => h y (List.mem_cons_of_mem _ hy)
    show max x.2.2.dp (ofL l).dp ≤ n + 1; omega
theorem ofL_cnt {n : Nat} : ∀ l : List (Str × Bool × Kd), (∀ y ∈ l, gen n y.2.2) → (ofL l).cnt ≤ l.length * Nn n
  | [], _ => Nat.zero_le _
  | x :: l, h => by
    have h1 := (h x List.mem_cons_self).2.2.1
    have h2 := ofL_cnt l fun y hy => h y (List.mem_cons_of_mem _ hy)
    show x.2.2.cnt + (ofL l).cnt ≤ (l.length + 1) * Nn n
    rw [Nat.add_mul]; omega
theorem ofL_ok {n : Nat} : ∀ l : List (Str × Bool × Kd), (∀ y ∈ l, gen n y.2.2) → (∀ y ∈ l, okName y.1 = true) → (ofL l).ok = true
  | [], _, _ => rfl
  | x :: l, h, h' => by
    show (okName x.1 && x.2.2.ok && (ofL l).ok) = true
    rw [h' x List.mem_cons_self, (h x List.mem_cons_self).1, ofL_ok l (fun y hy => h y (List.mem_cons_of_mem _ hy)) (fun y hy => h' y (List.mem_cons_of_mem _ hy))]; rfl
theorem rise_pw : ∀ {ns : List Str}, ns.Pairwise (fun x y => strLt x y = true) → rise ns = true
  | [], _ => rfl
  | [_], _ => rfl
  | x :: y :: r, h => by
    show (strLt x y && rise (y :: r)) = true
    cases h with
    | cons h1 h2 => rw [h1 y List.mem_cons_self, rise_pw h2]; rfl
theorem abc_pw : abc.Pairwise (fun x y => strLt x y = true) := by decide +kernel
theorem abc_ok : ∀ n ∈ abc, okName n = true := by decide +kernel
theorem ofL_abc {n : Nat} : ∀ l : List (Str × Bool × Kd), (∀ y ∈ l, gen n y.2.2) → (∀ y ∈ l, y.1 ∈ abc) → (ofL l).abc = true
  | [], _, _ => rfl
  | x :: l, h, h' => by
    show (abc.contains x.1 && x.2.2.abc && (ofL l).abc) = true
    rw [List.contains_iff_mem.mpr (h' x List.mem_cons_self), (h x List.mem_cons_self).2.2.2, ofL_abc l (fun y hy => h y (List.mem_cons_of_mem _ hy)) (fun y hy => h' y (List.mem_cons_of_mem _ hy))]; rfl
theorem row_gen {n : Nat} {l : List (Str × Bool × Kd)} {o : Bool} (h : (l.map (·.1)).Sublist abc) (hg : ∀ y ∈ l, gen n y.2.2) : gen (n + 1) (.row (ofL l) o) := by
  have hl : l.length ≤ 3 := by have := h.length_le; rw [List.length_map] at this; exact this
  refine ⟨?_, ?_, ?_, ofL_abc l hg fun y hy => h.subset (List.mem_map_of_mem hy)⟩
  · show (rise (ofL l).names && (ofL l).ok) = true
    rw [ofL_names, rise_pw (abc_pw.sublist h), ofL_ok l hg fun y hy => abc_ok _ (h.subset (List.mem_map_of_mem hy))]; rfl
  · have := ofL_dp l hg; show 1 + (ofL l).dp ≤ n + 1 + 1; omega
  · have h1 := ofL_cnt l hg
    have h2 : l.length * Nn n ≤ 3 * Nn n := Nat.mul_le_mul_right _ hl
    show 1 + (ofL l).cnt ≤ 1 + 3 * Nn n; omega
theorem to_gen {n : Nat} {x y : Kd} (hx : gen n x) (hy : gen n y) : gen (n + 1) (.to x y) := by
  refine ⟨?_, ?_, ?_, by show (x.abc && y.abc) = true; rw [hx.2.2.2, hy.2.2.2]; rfl⟩
  · show (x.ok && y.ok) = true; rw [hx.1, hy.1]; rfl
  · have := hx.2.1; have := hy.2.1; show 1 + max x.dp y.dp ≤ n + 1 + 1; omega
  · have := hx.2.2.1; have := hy.2.2.1; show 1 + (x.cnt + y.cnt) ≤ 1 + 3 * Nn n; omega
theorem box_gen {n : Nat} {x : Kd} (hx : gen n x) : gen (n + 1) (.box x) := by
  refine ⟨hx.1, ?_, ?_, hx.2.2.2⟩
  · have := hx.2.1; show 1 + x.dp ≤ n + 1 + 1; omega
  · have := hx.2.2.1; show 1 + x.cnt ≤ 1 + 3 * Nn n; omega
theorem leaf_gen {n : Nat} {k : Kd} (h : k = .any ∨ k = .num ∨ k = .truth) : gen n k := by
  have := Nn_pos n
  rcases h with rfl | rfl | rfl <;> exact ⟨rfl, Nat.succ_le_succ (Nat.zero_le _), this, rfl⟩
noncomputable def spGen (n : Nat) : Spw := fun ws G Q _ => ∃ (s : Addr) (x y : Int), ws = [.ref s, .int n] ∧ G s = some (.lst [.int x, .int y]) ∧ ∀ k x' y', gen n k → Q k.enc (put G s (.lst [.int x', .int y']))
theorem spGen_M {n : Nat} : Spw.M (spGen n) := (by rintro ws G Q Q' E E' h _ ⟨s, x, y, h1, h2, q⟩; exact ⟨s, x, y, h1, h2, fun k x' y' g => h _ _ (q k x' y' g)⟩)
/-- the loop over the names -/
theorem gen_loop {n : Nat} {D : Ew} {s p q0 : Addr} {d : Int} {way : W} {items : List W} (hd : d - 1 = (n : Int)) : ∀ (xs : List Str) (o4 o5 : Option W) (G : Hw) (l : List (Str × Bool × Kd)) (x y : Int), G s = some (.lst [.int x, .int y]) → G p = some (.lst (l.map encF)) → G q0 = some (.lst items) → p ≠ s → q0 ≠ s → q0 ≠ p → l.length + xs.length ≤ 100 →
    (∀ ω G' l2 x' y', (∃ u v, ω = [some (.ref s), some (.int d), some way, some (.ref p), u, v]) → G' s = some (.lst [.int x', .int y']) → G' p = some (.lst ((l ++ l2).map encF)) → (∀ b, b ≠ s → b ≠ p → ∀ u, G b = some u → G' b = some u) → (l2.map (·.1)).Sublist xs → (∀ z ∈ l2, gen n z.2.2) → D.nx ω G') →
    goFor (holds q0 items) (gNm 4) (gSeq (gSet 5 (gCall spTake (fun _ _ _ => False) (L3.gCons (gVar 0) (L3.gCons (gC (.int 4)) L3.gNil)))) (gIf (gTB (gBin (rCmp fun i j => decide (j < i)) (gVar 5) (gC (.int 1)))) (gDrop (gMt isLst rApp (gVar 3) (L3.gCons (L3.gTup (L3.gCons (gVar 4) (L3.gCons (gBin (rFun ixW) (gLst (L3.gCons (gC (.str "must")) (L3.gCons (gC (.str "may")) L3.gNil))) (gBin (rInt (fun _ _ => True) fun i j => i - j) (gVar 5) (gC (.int 2)))) (L3.gCons (gCall (spGen n) (fun _ _ _ => False) (L3.gCons (gVar 0) (L3.gCons (gBin (rInt (fun _ _ => True) fun i j => i - j) (gVar 1) (gC (.int 1))) L3.gNil))) L3.gNil)))) L3.gNil))) gNext)) D (xs.map W.str) [some (.ref s), some (.int d), some way, some (.ref p), o4, o5] G
  | [], o4, o5, G, l, x, y, hs, hp, hq, _, _, _, _, fin => ⟨hq, fin _ G [] x y ⟨o4, o5, rfl⟩ hs (by rw [List.append_nil]; exact hp) (fun b _ _ u h => h) (.refl _) (by intro z hz; cases hz)⟩
  | nm :: xs, o4, o5, G, l, x, y, hs, hp, hq, nps, nqs, nqp, hl, fin => by
    refine ⟨hq, ?_⟩
    show gSeq _ _ _ [some (.ref s), some (.int d), some way, some (.ref p), some (.str nm), o5] G
    walk_at "rd"
    refine ⟨s, 4, x, y, rfl, by decide, by decide, hs, fun r x1 y1 r0 r1 => ?_⟩
    have g1s : put G s (.lst [.int x1, .int y1]) s = some (.lst [.int x1, .int y1]) := put_same
    have g1p : put G s (.lst [.int x1, .int y1]) p = some (.lst (l.map encF)) := by rw [put_ne nps]; exact hp
    have g1q : put G s (.lst [.int x1, .int y1]) q0 = some (.lst items) := by rw [put_ne nqs]; exact hq
    have hlx : l.length + (xs.length + 1) ≤ 100 := hl
    refine ite2 (fun h => ?_) (fun h => ?_)
    · have h1 : 1 < r := of_decide_eq_true h
      refine ⟨isLst_mk g1p, by decide, fun p2 hp2 => ?_⟩
      have n2 : s ≠ p2 := ne_none g1s hp2
      have n3 : p ≠ p2 := ne_none g1p hp2
      have n4 : q0 ≠ p2 := ne_none g1q hp2
      have mk : ∃ b : Bool, atI [W.str "must", W.str "may"] (r - 2) = some (.str (mark b)) := by
        have : r - 2 = 0 ∨ r - 2 = 1 := by omega
        rcases this with e | e
        · exact ⟨true, by rw [e]; exact atI_0⟩
        · exact ⟨false, by rw [e]; exact atI_1⟩
      obtain ⟨b, eb⟩ := mk
      refine ⟨trivial, ?_⟩
      simp only [put_same, eb, opt_some]
      refine ⟨trivial, s, x1, y1, by rw [hd], by rw [put_ne n2]; exact g1s, fun k x2 y2 hk => ?_⟩
      refine ⟨(show 3 ≤ sizeLine by decide), ?_⟩
      have g3p : put (put (put G s (.lst [.int x1, .int y1])) p2 (.lst [.str "must", .str "may"])) s (.lst [.int x2, .int y2]) p = some (.lst (l.map encF)) := by rw [put_ne nps, put_ne n3]; exact g1p
      refine app_mk g3p (by rw [List.length_map]; exact small_lt (by omega)) ?_
      have ee : l.map encF ++ [W.tup [.str nm, .str (mark b), k.enc]] = (l ++ [(nm, b, k)]).map encF := by rw [List.map_append]; rfl
      rw [ee]
      refine gen_loop hd xs _ _ _ (l ++ [(nm, b, k)]) x2 y2 (by rw [put_ne (Ne.symm nps)]; exact put_same) put_same ?_ nps nqs nqp (by rw [List.length_append]; simp only [List.length_cons, List.length_nil]; omega) ?_
      · rw [put_ne nqp, put_ne nqs, put_ne n4]; exact g1q
      · intro ω G' l2 x' y' hω f1 f2 f3 f4 f5
        refine fin ω G' ((nm, b, k) :: l2) x' y' hω f1 (by rw [f2, List.append_assoc]; rfl) (fun c c1 c2 u hu => f3 c c1 c2 u ?_) (f4.cons_cons nm) ?_
        · have hc : put G s (.lst [.int x1, .int y1]) c = some u := by rw [put_ne c1]; exact hu
          rw [put_ne c2, put_ne c1, put_ne (ne_none hc hp2)]; exact hc
        · intro z hz
          rcases List.mem_cons.mp hz with rfl | hz
          · exact hk
          · exact f5 z hz
    · refine gen_loop hd xs _ _ _ l x1 y1 g1s g1p g1q nps nqs nqp (by omega) ?_
      intro ω G' l2 x' y' hω f1 f2 f3 f4 f5
      exact fin ω G' l2 x' y' hω f1 f2 (fun c c1 c2 u hu => f3 c c1 c2 u (by rw [put_ne c1]; exact hu)) (f4.cons nm) f5
noncomputable def spNo : Spw := fun _ _ _ _ => False
theorem spNo_M : Spw.M spNo := fun _ _ _ _ _ _ _ _ q => q
/-- the leaves -/
theorem leaf_at {r : Int} (h0 : 0 ≤ r) (h6 : r < 6) : ∃ k : Kd, (k = .any ∨ k = .num ∨ k = .truth) ∧ atI [W.tup [.str "any"], W.tup [.str "num"], W.tup [.str "truth"]] (r / 2) = some k.enc := by
  have : r / 2 = 0 ∨ r / 2 = 1 ∨ r / 2 = 2 := by omega
  rcases this with e | e | e
  · exact ⟨.any, .inl rfl, by rw [e]; exact atI_0⟩
  · exact ⟨.num, .inr (.inl rfl), by rw [e]; exact atI_1⟩
  · exact ⟨.truth, .inr (.inr rfl), by rw [e]; exact atI_2⟩
theorem k__law_kind0 (T : Tx K mg base a) : Df P w K mg base "_law_kind" 2 2 (spGen 0) := by
  refine mk0 T.f__law_kind rfl c__law_kind spGen_M ((by rintro ws G Q E ⟨s, x, y, e, _⟩; rw [e]; rfl)) (d__law_kind T (k__law_take T) (Nat.le_refl _) (no_df (sp := spNo) (k := 0) T.f__law_kind spNo_M fun _ _ _ _ h => h) (by omega)) fun ws G Q E hC q => ?_
  obtain ⟨s, x, y, rfl, hs, q⟩ := q
  unfold g__law_kind
  walk_at "rd"
  refine ⟨.inl ⟨by decide, by decide⟩, s, _, x, y, rfl, by decide, by decide, hs, fun r x1 y1 r0 r1 => ?_⟩
  have r6 : r < 6 := r1
  simp only [r6, decide_true, if_true]
  obtain ⟨k, hk, ek⟩ := leaf_at r0 r6
  refine ⟨by decide, by decide, by decide, by decide, fun p hp => ⟨⟨by decide, by decide⟩, ?_⟩⟩
  simp only [put_same, ek, opt_some]
  exact hC _ _ _ (sub_put hp) (q k x1 y1 (leaf_gen hk))
theorem kind_ok {n : Nat} : ∀ ws G (Q : Kw) (E : Addr → Hw → Prop), Kw.C Q → spGen (n + 1) ws G Q E → g__law_kind spTake (spGen n) (endsW Q) (startW n__law_kind ws) G := by
    intro ws G Q E hC q
    obtain ⟨s, x, y, rfl, hs, q⟩ := q
    unfold g__law_kind
    walk_at "rd"
    have hd : ((n + 1 : Nat) : Int) - 1 = (n : Int) := by omega
    have d0 : (0 : Int) < ((n + 1 : Nat) : Int) := by omega
    simp only [d0, decide_true, if_true]
    refine ⟨.inl ⟨by decide, by decide⟩, s, _, x, y, rfl, by decide, by decide, hs, fun r x1 y1 r0 r1 => ?_⟩
    have g1s : put G s (.lst [.int x1, .int y1]) s = some (.lst [.int x1, .int y1]) := put_same
    by_cases r6 : r < 6
    · simp only [r6, decide_true, if_true]
      obtain ⟨k, hk, ek⟩ := leaf_at r0 r6
      refine ⟨by decide, by decide, by decide, by decide, fun p hp => ⟨⟨by decide, by decide⟩, ?_⟩⟩
      simp only [put_same, ek, opt_some]
      exact hC _ _ _ (sub_put hp) (q k x1 y1 (leaf_gen hk))
    · simp only [r6, decide_false, Bool.false_eq_true, if_false, Option.map_some, opt_some]
      by_cases e6 : r = 6
      · subst e6
        refine ⟨trivial, s, x1, y1, by rw [hd], g1s, fun k1 x2 y2 hk1 => ?_⟩
        refine ⟨trivial, s, x2, y2, by rw [hd], put_same, fun k2 x3 y3 hk2 => ⟨by decide, ?_⟩⟩
        rw [put_put, put_put]
        exact q (.to k1 k2) x3 y3 (to_gen hk1 hk2)
      · have b6 : (r == 6) = false := by simpa using e6
        simp only [b6, bne_self_eq_false, Bool.false_eq_true, if_false]
        by_cases e7 : r = 7
        · subst e7
          refine ⟨trivial, s, x1, y1, by rw [hd], g1s, fun k1 x2 y2 hk1 => ⟨by decide, ?_⟩⟩
          rw [put_put]
          exact q (.box k1) x2 y2 (box_gen hk1)
        · have b7 : (r == 7) = false := by simpa using e7
          simp only [b7, bne_self_eq_false, Bool.false_eq_true, if_false]
          refine ⟨by decide, fun p hp => ?_⟩
          have nps : p ≠ s := Ne.symm (ne_none g1s hp)
          refine ⟨by decide, fun q0 hq0 => ?_⟩
          have g2s : put (put G s (.lst [.int x1, .int y1])) p (.lst []) s = some (.lst [.int x1, .int y1]) := by rw [put_ne (Ne.symm nps)]; exact g1s
          have nqs : q0 ≠ s := Ne.symm (ne_none g2s hq0)
          have nqp : q0 ≠ p := Ne.symm (ne_none put_same hq0)
          simp only [put_same]
          refine gen_loop (n := n) hd abc none none _ [] x1 y1 (by rw [put_ne (Ne.symm nqs)]; exact g2s) (by rw [put_ne (Ne.symm nqp)]; exact put_same) put_same nps nqs nqp (by decide) ?_
          intro ω G' l2 x' y' hω f1 f2 f3 f4 f5
          obtain ⟨u, v, rfl⟩ := hω
          rw [List.nil_append] at f2
          have hseq : seqAt G' (.ref p) = some (l2.map encF) := seq_ref f2
          walk_at "rd"
          simp only [hseq, Option.map_some, opt_some]
          refine ⟨s, 3, x', y', rfl, by decide, by decide, f1, fun r2 x2 y2 _ _ => ?_⟩
          simp only [Option.map_some, opt_some]
          refine ⟨by decide, ?_⟩
          rw [← ofL_enc]
          refine hC _ _ _ (fun b u hu => ?_) (q (.row (ofL l2) ((r2 == 0) != false)) x2 y2 (row_gen f4 f5))
          by_cases hb : b = s
          · subst hb
            rw [put_same] at hu ⊢; exact hu
          · rw [put_ne hb] at hu ⊢
            have hbp : b ≠ p := by
              intro z; subst z
              rw [put_ne hb] at hp; rw [hp] at hu; cases hu
            have hbq : b ≠ q0 := by
              intro z; subst z
              rw [put_ne hbp, put_ne hb] at hq0; rw [hq0] at hu; cases hu
            exact f3 b hb hbp u (by rw [put_ne hbq, put_ne hbp, put_ne hb]; exact hu)
theorem k__law_kind (T : Tx K mg base a) : ∀ n : Nat, Df P w K mg base "_law_kind" (n + 2) 2 (spGen n)
  | 0 => k__law_kind0 T
  | n + 1 => mk0 T.f__law_kind rfl c__law_kind spGen_M ((by rintro ws G Q E ⟨s, x, y, e, _⟩; rw [e]; rfl)) (d__law_kind T (k__law_take T) (by omega) (k__law_kind T n) (Nat.le_refl _)) kind_ok
/-- at two depths -/
theorem k__law_kind2 (T : Tx K mg base a) (n : Nat) : Df P w K mg base "_law_kind" (n + 4) 2 (fun ws G Q E => spGen (n + 2) ws G Q E ∨ spGen (n + 1) ws G Q E) := by
  obtain ⟨f, fd, h1, F, h3⟩ := T.f__law_kind
  have A := ok_0 (P := P) (w := w) (base := base) F (n := 2) rfl c__law_kind (sp := spGen (n + 2)) ((by rintro ws G Q E ⟨s, x, y, e, _⟩; rw [e]; rfl)) (d__law_kind (k := n + 3) T (k__law_take T) (by omega) (k__law_kind T (n + 1)) (by omega)) kind_ok
  have B := ok_0 (P := P) (w := w) (base := base) F (n := 2) rfl c__law_kind (sp := spGen (n + 1)) ((by rintro ws G Q E ⟨s, x, y, e, _⟩; rw [e]; rfl)) (d__law_kind (k := n + 3) T (k__law_take T) (by omega) (k__law_kind T n) (by omega)) kind_ok
  refine ⟨⟨f, fd, _, h1, F.kp, h3, rfl, ⟨fun vs H Q E ⟨ws, G, t, r, q⟩ => ?_, fun A' outer s H args us vs Q E hr he hb hv ⟨ws, G, t, r, q⟩ => ?_⟩⟩, fun ws G Q Q' E E' h h' q => q.elim (fun q => .inl (spGen_M _ _ _ _ _ _ h h' q)) (fun q => .inr (spGen_M _ _ _ _ _ _ h h' q))⟩
  · rcases q with q | q
    · exact A.len vs H Q E ⟨ws, G, t, r, q⟩
    · exact B.len vs H Q E ⟨ws, G, t, r, q⟩
  · rcases q with q | q
    · exact A.run A' outer s H args us vs Q E hr he hb hv ⟨ws, G, t, r, q⟩
    · exact B.run A' outer s H args us vs Q E hr he hb hv ⟨ws, G, t, r, q⟩
section
variable {P : Program} {w : World} {K : PySem.W.Frag} {mg : Str → Option Value} {base : Heap} {a : Adr}
noncomputable abbrev n_Reader___init__ : List Str := ["self", "text"]
theorem c_Reader___init__ : FnScope n_Reader___init__ ["self", "text"] (defScope s_Reader___init__) := ⟨rfl, rfl, rfl, by decide +kernel, rfl, by decide +kernel, by decide +kernel⟩
noncomputable def g_Reader___init__ (K : PySem.W.Frag) (a : Adr) : GS := (gSeq (gSetF a.Reader "text" (gVar 1) (gVar 0)) (gSetF a.Reader "place" (gC (.int 0)) (gVar 0)))
theorem d_Reader___init__ {k : Nat} (T : Tx K mg base a) {f : Addr} {cdv : Value} {A : Around} {outer : List Env} {s : Shared} {H : Hp} {E : XK} (hr : Room k (A.deeper (envOfC "Reader.__init__" (defScope s_Reader___init__) s.heap.objs.size f cdv))) : Ssm (cxW P w K mg base n_Reader___init__ "Reader.__init__" (defScope s_Reader___init__) f cdv A outer s H E).nox (fun B => B = H) (defBody s_Reader___init__) (g_Reader___init__ K a) :=
  have hu := u100 hr
  (ssm_cons (sm_setF T.cl_Reader T.na_Reader_text rfl (em_v (i := 1) rfl rfl rfl rfl) (em_v (i := 0) rfl rfl rfl rfl)) (ssm_one (sm_setF T.cl_Reader T.na_Reader_place rfl em_int (em_v (i := 0) rfl rfl rfl rfl))))
noncomputable abbrev n_Reader_sees : List Str := ["self", "piece"]
theorem c_Reader_sees : FnScope n_Reader_sees ["self", "piece"] (defScope s_Reader_sees) := ⟨rfl, rfl, rfl, by decide +kernel, rfl, by decide +kernel, by decide +kernel⟩
noncomputable def g_Reader_sees (K : PySem.W.Frag) (a : Adr) : GS := (gRet (gMt isStr rStarts (gFld a.Reader "text" (gVar 0)) (gCons (gVar 1) (gCons (gFld a.Reader "place" (gVar 0)) gNil))))
theorem d_Reader_sees {k : Nat} (T : Tx K mg base a) {f : Addr} {cdv : Value} {A : Around} {outer : List Env} {s : Shared} {H : Hp} {E : XK} (hr : Room k (A.deeper (envOfC "Reader.sees" (defScope s_Reader_sees) s.heap.objs.size f cdv))) : Ssm (cxW P w K mg base n_Reader_sees "Reader.sees" (defScope s_Reader_sees) f cdv A outer s H E).nox (fun B => B = H) (defBody s_Reader_sees) (g_Reader_sees K a) :=
  have hu := u100 hr
  (ssm_one (sm_ret (em_mth mth_starts rfl rfl rfl rfl rfl (em_fld T.cl_Reader T.na_Reader_text rfl (em_v (i := 0) rfl rfl rfl rfl)) (am_cons rfl (em_v (i := 1) rfl rfl rfl rfl) (am_cons rfl (em_fld T.cl_Reader T.na_Reader_place rfl (em_v (i := 0) rfl rfl rfl rfl)) am_nil)))))
noncomputable abbrev n_Reader_takes : List Str := ["self", "piece"]
theorem c_Reader_takes : FnScope n_Reader_takes ["self", "piece"] (defScope s_Reader_takes) := ⟨rfl, rfl, rfl, by decide +kernel, rfl, by decide +kernel, by decide +kernel⟩
noncomputable def g_Reader_takes (K : PySem.W.Frag) (a : Adr) (sp_Reader_sees : Spw) : GS := (gSeq (gIf (gNt (gTru (gMeth a.Reader "sees" sp_Reader_sees (fun _ _ _ => False) (gVar 0) (gCons (gVar 1) gNil)))) (gRet (gC (.bl false))) gNext) (gSeq (gAugF a.Reader "place" (gVar 0) (gB (rF lenF) (gCons (gVar 1) gNil))) (gRet (gC (.bl true)))))
theorem d_Reader_takes {k : Nat} (T : Tx K mg base a) {k_Reader_sees : Nat} {sp_Reader_sees : Spw} (D_Reader_sees : DfM P w K mg base a.Reader "sees" k_Reader_sees 2 sp_Reader_sees) (h_Reader_sees : k_Reader_sees ≤ k) {f : Addr} {cdv : Value} {A : Around} {outer : List Env} {s : Shared} {H : Hp} {E : XK} (hr : Room k (A.deeper (envOfC "Reader.takes" (defScope s_Reader_takes) s.heap.objs.size f cdv))) : Ssm (cxW P w K mg base n_Reader_takes "Reader.takes" (defScope s_Reader_takes) f cdv A outer s H E).nox (fun B => B = H) (defBody s_Reader_takes) (g_Reader_takes K a sp_Reader_sees) :=
  have hu := u100 hr
  (ssm_cons (sm_if (tm_not (tm_tru (fun _ => rfl) (em_meth T.cl_Reader D_Reader_sees (hr.mono h_Reader_sees) passF rfl rfl rfl (em_v (i := 0) rfl rfl rfl rfl) (am_cons rfl (em_v (i := 1) rfl rfl rfl rfl) am_nil)))) (ssm_one (sm_ret em_bl)) ssm_nil) (ssm_cons (sm_augF T.cl_Reader T.na_Reader_place (em_v (i := 0) rfl rfl rfl rfl) (em_fn bt_len (blt_len) rfl T.n_len (by decide) rfl rfl rfl (am_cons rfl (em_v (i := 1) rfl rfl rfl rfl) am_nil))) (ssm_one (sm_ret em_bl))))
noncomputable abbrev n_Reader_wants : List Str := ["self", "piece"]
theorem c_Reader_wants : FnScope n_Reader_wants ["self", "piece"] (defScope s_Reader_wants) := ⟨rfl, rfl, rfl, by decide +kernel, rfl, by decide +kernel, by decide +kernel⟩
noncomputable def g_Reader_wants (K : PySem.W.Frag) (a : Adr) (sp_Reader_takes : Spw) : GS := (gIf (gNt (gTru (gMeth a.Reader "takes" sp_Reader_takes (fun _ _ _ => False) (gVar 0) (gCons (gVar 1) gNil)))) gNever gNext)
theorem d_Reader_wants {k : Nat} (T : Tx K mg base a) {k_Reader_takes : Nat} {sp_Reader_takes : Spw} (D_Reader_takes : DfM P w K mg base a.Reader "takes" k_Reader_takes 2 sp_Reader_takes) (h_Reader_takes : k_Reader_takes ≤ k) {f : Addr} {cdv : Value} {A : Around} {outer : List Env} {s : Shared} {H : Hp} {E : XK} (hr : Room k (A.deeper (envOfC "Reader.wants" (defScope s_Reader_wants) s.heap.objs.size f cdv))) : Ssm (cxW P w K mg base n_Reader_wants "Reader.wants" (defScope s_Reader_wants) f cdv A outer s H E).nox (fun B => B = H) (defBody s_Reader_wants) (g_Reader_wants K a sp_Reader_takes) :=
  have hu := u100 hr
  (ssm_one (sm_if (tm_not (tm_tru (fun _ => rfl) (em_meth T.cl_Reader D_Reader_takes (hr.mono h_Reader_takes) passF rfl rfl rfl (em_v (i := 0) rfl rfl rfl rfl) (am_cons rfl (em_v (i := 1) rfl rfl rfl rfl) am_nil)))) (ssm_one sm_never) ssm_nil))
noncomputable abbrev n_Reader_wants_end : List Str := ["self"]
theorem c_Reader_wants_end : FnScope n_Reader_wants_end ["self"] (defScope s_Reader_wants_end) := ⟨rfl, rfl, rfl, by decide +kernel, rfl, by decide +kernel, by decide +kernel⟩
noncomputable def g_Reader_wants_end (K : PySem.W.Frag) (a : Adr) : GS := (gIf (gTB (gBin (rOrd (fun i j => decide (i < j)) strLt) (gFld a.Reader "place" (gVar 0)) (gB (rF lenF) (gCons (gFld a.Reader "text" (gVar 0)) gNil)))) gNever gNext)
theorem d_Reader_wants_end {k : Nat} (T : Tx K mg base a) {f : Addr} {cdv : Value} {A : Around} {outer : List Env} {s : Shared} {H : Hp} {E : XK} (hr : Room k (A.deeper (envOfC "Reader.wants_end" (defScope s_Reader_wants_end) s.heap.objs.size f cdv))) : Ssm (cxW P w K mg base n_Reader_wants_end "Reader.wants_end" (defScope s_Reader_wants_end) f cdv A outer s H E).nox (fun B => B = H) (defBody s_Reader_wants_end) (g_Reader_wants_end K a) :=
  have hu := u100 hr
  (ssm_one (sm_if (tm_cmp cop_lt rfl (em_fld T.cl_Reader T.na_Reader_place rfl (em_v (i := 0) rfl rfl rfl rfl)) (em_fn bt_len (blt_len) rfl T.n_len (by decide) rfl rfl rfl (am_cons rfl (em_fld T.cl_Reader T.na_Reader_text rfl (em_v (i := 0) rfl rfl rfl rfl)) am_nil))) (ssm_one sm_never) ssm_nil))
noncomputable abbrev n_Reader_word : List Str := ["self", "start"]
theorem c_Reader_word : FnScope n_Reader_word ["self"] (defScope s_Reader_word) := ⟨rfl, rfl, rfl, by decide +kernel, rfl, by decide +kernel, by decide +kernel⟩
noncomputable def g_Reader_word (K : PySem.W.Frag) (a : Adr) (sp_is_small_letter : Spw) : GS := (gSeq (gSet 1 (gFld a.Reader "place" (gVar 0))) (gSeq (gWhile (gAnd (gTB (gBin (rOrd (fun i j => decide (i < j)) strLt) (gFld a.Reader "place" (gVar 0)) (gB (rF lenF) (gCons (gFld a.Reader "text" (gVar 0)) gNil)))) (gTru (gCall sp_is_small_letter (fun _ _ _ => False) (gCons (gBin (rFun ixW) (gFld a.Reader "text" (gVar 0)) (gFld a.Reader "place" (gVar 0))) gNil)))) (gAugF a.Reader "place" (gVar 0) (gC (.int 1)))) (gRet (gSlA (gFld a.Reader "text" (gVar 0)) (gPart (gVar 1)) (gPart (gFld a.Reader "place" (gVar 0)))))))
theorem d_Reader_word {k : Nat} (T : Tx K mg base a) {k_is_small_letter : Nat} {sp_is_small_letter : Spw} (D_is_small_letter : Df P w K mg base "is_small_letter" k_is_small_letter 1 sp_is_small_letter) (h_is_small_letter : k_is_small_letter ≤ k) {f : Addr} {cdv : Value} {A : Around} {outer : List Env} {s : Shared} {H : Hp} {E : XK} (hr : Room k (A.deeper (envOfC "Reader.word" (defScope s_Reader_word) s.heap.objs.size f cdv))) : Ssm (cxW P w K mg base n_Reader_word "Reader.word" (defScope s_Reader_word) f cdv A outer s H E).nox (fun B => B = H) (defBody s_Reader_word) (g_Reader_word K a sp_is_small_letter) :=
  have hu := u100 hr
  (ssm_cons (sm_s (i := 1) c_Reader_word.nd rfl rfl rfl (em_fld T.cl_Reader T.na_Reader_place rfl (em_v (i := 0) rfl rfl rfl rfl))) (ssm_cons (sm_while PassesOwn.never (tm_bool (wm_and (tm_cmp cop_lt rfl (em_fld T.cl_Reader T.na_Reader_place rfl (em_v (i := 0) rfl rfl rfl rfl)) (em_fn bt_len (blt_len) rfl T.n_len (by decide) rfl rfl rfl (am_cons rfl (em_fld T.cl_Reader T.na_Reader_text rfl (em_v (i := 0) rfl rfl rfl rfl)) am_nil))) (wm_and1 (tm_tru (fun _ => rfl) (em_call D_is_small_letter (hr.mono h_is_small_letter) rfl passF rfl rfl rfl (am_cons rfl (em_ix (fun _ _ => rfl) (em_fld T.cl_Reader T.na_Reader_text rfl (em_v (i := 0) rfl rfl rfl rfl)) (em_fld T.cl_Reader T.na_Reader_place rfl (em_v (i := 0) rfl rfl rfl rfl))) am_nil)))))) (ssm_one (sm_augF T.cl_Reader T.na_Reader_place (em_v (i := 0) rfl rfl rfl rfl) em_int))) (ssm_one (sm_ret (em_slA (em_fld T.cl_Reader T.na_Reader_text rfl (em_v (i := 0) rfl rfl rfl rfl)) (om_some (em_v (i := 1) rfl rfl rfl rfl)) (om_some (em_fld T.cl_Reader T.na_Reader_place rfl (em_v (i := 0) rfl rfl rfl rfl))))))))
end
section
variable {P : Program} {w : World} {K : PySem.W.Frag} {mg : Str → Option Value} {base : Heap} {a : Adr}
noncomputable abbrev n_kind_shown : List Str := ["kind"]
theorem c_kind_shown : FnScope n_kind_shown ["kind"] (defScope s_kind_shown) := ⟨rfl, rfl, rfl, by decide +kernel, rfl, by decide +kernel, by decide +kernel⟩
noncomputable def g_kind_shown (sp_check_kind : Spw) (sp_written : Spw) : GS := (gSeq (gDrop (gCall sp_check_kind (fun _ _ _ => False) (gCons (gVar 0) gNil))) (gRet (gCall sp_written (fun _ _ _ => False) (gCons (gVar 0) gNil))))
theorem d_kind_shown {k : Nat} (T : Tx K mg base a) {k_check_kind : Nat} {sp_check_kind : Spw} (D_check_kind : Df P w K mg base "check_kind" k_check_kind 1 sp_check_kind) (h_check_kind : k_check_kind ≤ k) {k_written : Nat} {sp_written : Spw} (D_written : Df P w K mg base "written" k_written 1 sp_written) (h_written : k_written ≤ k) {f : Addr} {cdv : Value} {A : Around} {outer : List Env} {s : Shared} {H : Hp} {E : XK} (hr : Room k (A.deeper (envOfC "kind_shown" (defScope s_kind_shown) s.heap.objs.size f cdv))) : Ssm (cxW P w K mg base n_kind_shown "kind_shown" (defScope s_kind_shown) f cdv A outer s H E).nox (fun B => B = H) (defBody s_kind_shown) (g_kind_shown sp_check_kind sp_written) :=
  have hu := u100 hr
  (ssm_cons (sm_expr rfl (em_call D_check_kind (hr.mono h_check_kind) rfl passF rfl rfl rfl (am_cons rfl (em_v (i := 0) rfl rfl rfl rfl) am_nil))) (ssm_one (sm_ret (em_call D_written (hr.mono h_written) rfl passF rfl rfl rfl (am_cons rfl (em_v (i := 0) rfl rfl rfl rfl) am_nil)))))
noncomputable abbrev n_kind_read : List Str := ["text", "reader", "kind"]
theorem c_kind_read : FnScope n_kind_read ["text"] (defScope s_kind_read) := ⟨rfl, rfl, rfl, by decide +kernel, rfl, by decide +kernel, by decide +kernel⟩
noncomputable def g_kind_read (K : PySem.W.Frag) (a : Adr) (sp_Reader___init__ : Spw) (sp_kind_from : Spw) (sp_Reader_wants_end : Spw) (sp_is_kind : Spw) : GS := (gSeq (gSet 1 (gMake a.Reader sp_Reader___init__ (fun _ _ _ => False) (gCons (gVar 0) gNil))) (gSeq (gSet 2 (gCall sp_kind_from (fun _ _ _ => False) (gCons (gVar 1) (gCons (gC (.int 1)) gNil)))) (gSeq (gDrop (gMeth a.Reader "wants_end" sp_Reader_wants_end (fun _ _ _ => False) (gVar 1) gNil)) (gSeq (gIf (gNt (gTru (gCall sp_is_kind (fun _ _ _ => False) (gCons (gVar 2) gNil)))) gNever gNext) (gRet (gVar 2))))))
theorem d_kind_read {k : Nat} (T : Tx K mg base a) {k_Reader___init__ : Nat} {sp_Reader___init__ : Spw} (D_Reader___init__ : DfI P w K mg base "Reader" a.Reader k_Reader___init__ 2 sp_Reader___init__) (h_Reader___init__ : k_Reader___init__ + 1 ≤ k) {k_kind_from : Nat} {sp_kind_from : Spw} (D_kind_from : Df P w K mg base "kind_from" k_kind_from 2 sp_kind_from) (h_kind_from : k_kind_from ≤ k) {k_Reader_wants_end : Nat} {sp_Reader_wants_end : Spw} (D_Reader_wants_end : DfM P w K mg base a.Reader "wants_end" k_Reader_wants_end 1 sp_Reader_wants_end) (h_Reader_wants_end : k_Reader_wants_end ≤ k) {k_is_kind : Nat} {sp_is_kind : Spw} (D_is_kind : Df P w K mg base "is_kind" k_is_kind 1 sp_is_kind) (h_is_kind : k_is_kind ≤ k) {f : Addr} {cdv : Value} {A : Around} {outer : List Env} {s : Shared} {H : Hp} {E : XK} (hr : Room k (A.deeper (envOfC "kind_read" (defScope s_kind_read) s.heap.objs.size f cdv))) : Ssm (cxW P w K mg base n_kind_read "kind_read" (defScope s_kind_read) f cdv A outer s H E).nox (fun B => B = H) (defBody s_kind_read) (g_kind_read K a sp_Reader___init__ sp_kind_from sp_Reader_wants_end sp_is_kind) :=
  have hu := u100 hr
  (ssm_cons (sm_s (i := 1) c_kind_read.nd rfl rfl rfl (em_make D_Reader___init__ (hr.mono h_Reader___init__) rfl passF rfl rfl rfl (am_cons rfl (em_v (i := 0) rfl rfl rfl rfl) am_nil))) (ssm_cons (sm_s (i := 2) c_kind_read.nd rfl rfl rfl (em_call D_kind_from (hr.mono h_kind_from) rfl passF rfl rfl rfl (am_cons rfl (em_v (i := 1) rfl rfl rfl rfl) (am_cons rfl em_int am_nil)))) (ssm_cons (sm_expr rfl (em_meth0 T.cl_Reader D_Reader_wants_end (hr.mono h_Reader_wants_end) passF rfl (em_v (i := 1) rfl rfl rfl rfl))) (ssm_cons (sm_if (tm_not (tm_tru (fun _ => rfl) (em_call D_is_kind (hr.mono h_is_kind) rfl passF rfl rfl rfl (am_cons rfl (em_v (i := 2) rfl rfl rfl rfl) am_nil)))) (ssm_one sm_never) ssm_nil) (ssm_one (sm_ret (em_v (i := 2) rfl rfl rfl rfl)))))))
noncomputable abbrev n_written : List Str := ["kind"]
theorem c_written : FnScope n_written ["kind"] (defScope s_written) := ⟨rfl, rfl, rfl, by decide +kernel, rfl, by decide +kernel, by decide +kernel⟩
noncomputable def g_written (sp_written : Spw) (sp_row_written : Spw) : GS := (gSeq (gIf (gTB (gBin (rFun (eqF false)) (gBin (rFun ixW) (gVar 0) (gC (.int 0))) (gC (.str "to")))) (gRet (gBin (rAddA) (gBin (rAddA) (gBin (rAddA) (gBin (rAddA) (gC (.str "(")) (gCall sp_written (fun _ _ _ => False) (gCons (gBin (rFun ixW) (gVar 0) (gC (.int 1))) gNil))) (gC (.str " > "))) (gCall sp_written (fun _ _ _ => False) (gCons (gBin (rFun ixW) (gVar 0) (gC (.int 2))) gNil))) (gC (.str ")")))) gNext) (gSeq (gIf (gTB (gBin (rFun (eqF false)) (gBin (rFun ixW) (gVar 0) (gC (.int 0))) (gC (.str "box")))) (gRet (gBin (rAddA) (gBin (rAddA) (gC (.str "[")) (gCall sp_written (fun _ _ _ => False) (gCons (gBin (rFun ixW) (gVar 0) (gC (.int 1))) gNil))) (gC (.str "]")))) gNext) (gSeq (gIf (gTB (gBin (rFun (eqF false)) (gBin (rFun ixW) (gVar 0) (gC (.int 0))) (gC (.str "row")))) (gRet (gCall sp_row_written (fun _ _ _ => False) (gCons (gVar 0) gNil))) gNext) (gRet (gBin (rFun ixW) (gVar 0) (gC (.int 0)))))))
theorem d_written {k : Nat} (T : Tx K mg base a) {k_written : Nat} {sp_written : Spw} (D_written : Df P w K mg base "written" k_written 1 sp_written) (h_written : k_written ≤ k) {k_row_written : Nat} {sp_row_written : Spw} (D_row_written : Df P w K mg base "row_written" k_row_written 1 sp_row_written) (h_row_written : k_row_written ≤ k) {f : Addr} {cdv : Value} {A : Around} {outer : List Env} {s : Shared} {H : Hp} {E : XK} (hr : Room k (A.deeper (envOfC "written" (defScope s_written) s.heap.objs.size f cdv))) : Ssm (cxW P w K mg base n_written "written" (defScope s_written) f cdv A outer s H E).nox (fun B => B = H) (defBody s_written) (g_written sp_written sp_row_written) :=
  have hu := u100 hr
  (ssm_cons (sm_if (tm_cmp (cop_eq hu) rfl (em_ix (fun _ _ => rfl) (em_v (i := 0) rfl rfl rfl rfl) em_int) em_str) (ssm_one (sm_ret (em_addA (em_addA (em_addA (em_addA em_str (em_call D_written (hr.mono h_written) rfl passF rfl rfl rfl (am_cons rfl (em_ix (fun _ _ => rfl) (em_v (i := 0) rfl rfl rfl rfl) em_int) am_nil))) em_str) (em_call D_written (hr.mono h_written) rfl passF rfl rfl rfl (am_cons rfl (em_ix (fun _ _ => rfl) (em_v (i := 0) rfl rfl rfl rfl) em_int) am_nil))) em_str))) ssm_nil) (ssm_cons (sm_if (tm_cmp (cop_eq hu) rfl (em_ix (fun _ _ => rfl) (em_v (i := 0) rfl rfl rfl rfl) em_int) em_str) (ssm_one (sm_ret (em_addA (em_addA em_str (em_call D_written (hr.mono h_written) rfl passF rfl rfl rfl (am_cons rfl (em_ix (fun _ _ => rfl) (em_v (i := 0) rfl rfl rfl rfl) em_int) am_nil))) em_str))) ssm_nil) (ssm_cons (sm_if (tm_cmp (cop_eq hu) rfl (em_ix (fun _ _ => rfl) (em_v (i := 0) rfl rfl rfl rfl) em_int) em_str) (ssm_one (sm_ret (em_call D_row_written (hr.mono h_row_written) rfl passF rfl rfl rfl (am_cons rfl (em_v (i := 0) rfl rfl rfl rfl) am_nil)))) ssm_nil) (ssm_one (sm_ret (em_ix (fun _ _ => rfl) (em_v (i := 0) rfl rfl rfl rfl) em_int))))))
noncomputable abbrev n_row_written : List Str := ["row", "pieces"]
theorem c_row_written : FnScope n_row_written ["row"] (defScope s_row_written) := ⟨rfl, rfl, rfl, by decide +kernel, rfl, by decide +kernel, by decide +kernel⟩
noncomputable def g_row_written (sp_field_written : Spw) : GS := (gSeq (gSet 1 (gCompC (gIter (gBin (rFun ixW) (gVar 0) (gC (.int 1)))) 1 [] (gNm 0) gYes (gCall sp_field_written (fun _ _ _ => False) (gCons (gVar 0) gNil)))) (gSeq (gIf (gTru (gBin (rFun ixW) (gVar 0) (gC (.int 2)))) (gDrop (gMt isLst rApp (gVar 1) (gCons (gC (.str "..")) gNil))) gNext) (gRet (gBin (rAddA) (gBin (rAddA) (gC (.str "{")) (gMt isStr rJoin (gC (.str ", ")) (gCons (gVar 1) gNil))) (gC (.str "}"))))))
theorem d_row_written {k : Nat} (T : Tx K mg base a) {k_field_written : Nat} {sp_field_written : Spw} (D_field_written : Df P w K mg base "field_written" k_field_written 1 sp_field_written) (h_field_written : k_field_written ≤ k) {f : Addr} {cdv : Value} {A : Around} {outer : List Env} {s : Shared} {H : Hp} {E : XK} (hr : Room k (A.deeper (envOfC "row_written" (defScope s_row_written) s.heap.objs.size f cdv))) : Ssm (cxW P w K mg base n_row_written "row_written" (defScope s_row_written) f cdv A outer s H E).nox (fun B => B = H) (defBody s_row_written) (g_row_written sp_field_written) :=
  have hu := u100 hr
  (ssm_cons (sm_compC (i := 1) c_row_written.nd rfl rfl rfl rfl (blkC (own := ["field"]) (fr := []) (js := []) (scX := defScope s_row_written) (n := s.heap.objs.size + 1) rfl (by decide +kernel) (by decide +kernel) (by decide +kernel) (by decide +kernel) rfl rfl rfl (by decide +kernel) rfl) (fun _ => rfl) (im_any (fun _ _ => rfl) (em_ix (fun _ _ => rfl) (em_v (i := 0) rfl rfl rfl rfl) em_int)) (tgc_name (i := 0) (by decide) rfl rfl) (fun C fp s1 H1 => fm_nil) (fun C fp s1 H1 => (em_call D_field_written (hr.mono h_field_written) rfl passF rfl rfl rfl (am_cons rfl (em_v (i := 0) rfl rfl rfl rfl) am_nil)))) (ssm_cons (sm_if (tm_tru (fun _ => rfl) (em_ix (fun _ _ => rfl) (em_v (i := 0) rfl rfl rfl rfl) em_int)) (ssm_one (sm_expr rfl (em_mth mth_append rfl rfl rfl rfl rfl (em_v (i := 1) rfl rfl rfl rfl) (am_cons rfl em_str am_nil)))) ssm_nil) (ssm_one (sm_ret (em_addA (em_addA em_str (em_mth mth_join rfl rfl rfl rfl rfl em_str (am_cons rfl (em_v (i := 1) rfl rfl rfl rfl) am_nil))) em_str)))))
noncomputable abbrev n_field_written : List Str := ["field", "sign"]
theorem c_field_written : FnScope n_field_written ["field"] (defScope s_field_written) := ⟨rfl, rfl, rfl, by decide +kernel, rfl, by decide +kernel, by decide +kernel⟩
noncomputable def g_field_written (sp_written : Spw) : GS := (gSeq (gSet 1 (gIte (gTB (gBin (rFun (eqF false)) (gBin (rFun ixW) (gVar 0) (gC (.int 1))) (gC (.str "must")))) (gC (.str "")) (gC (.str "?")))) (gRet (gBin (rAddA) (gBin (rAddA) (gBin (rAddA) (gBin (rFun ixW) (gVar 0) (gC (.int 0))) (gVar 1)) (gC (.str ": "))) (gCall sp_written (fun _ _ _ => False) (gCons (gBin (rFun ixW) (gVar 0) (gC (.int 2))) gNil)))))
theorem d_field_written {k : Nat} (T : Tx K mg base a) {k_written : Nat} {sp_written : Spw} (D_written : Df P w K mg base "written" k_written 1 sp_written) (h_written : k_written ≤ k) {f : Addr} {cdv : Value} {A : Around} {outer : List Env} {s : Shared} {H : Hp} {E : XK} (hr : Room k (A.deeper (envOfC "field_written" (defScope s_field_written) s.heap.objs.size f cdv))) : Ssm (cxW P w K mg base n_field_written "field_written" (defScope s_field_written) f cdv A outer s H E).nox (fun B => B = H) (defBody s_field_written) (g_field_written sp_written) :=
  have hu := u100 hr
  (ssm_cons (sm_s (i := 1) c_field_written.nd rfl rfl rfl (em_ite (tm_cmp (cop_eq hu) rfl (em_ix (fun _ _ => rfl) (em_v (i := 0) rfl rfl rfl rfl) em_int) em_str) em_str em_str)) (ssm_one (sm_ret (em_addA (em_addA (em_addA (em_ix (fun _ _ => rfl) (em_v (i := 0) rfl rfl rfl rfl) em_int) (em_v (i := 1) rfl rfl rfl rfl)) em_str) (em_call D_written (hr.mono h_written) rfl passF rfl rfl rfl (am_cons rfl (em_ix (fun _ _ => rfl) (em_v (i := 0) rfl rfl rfl rfl) em_int) am_nil))))))
end
set_option maxHeartbeats 4000000
section
variable {P : Program} {w : World} {K : PySem.W.Frag} {mg : Str → Option Value} {base : Heap} {a : Adr}
noncomputable abbrev n_kind_from : List Str := ["reader", "depth", "word"]
theorem c_kind_from : FnScope n_kind_from ["reader", "depth"] (defScope s_kind_from) := ⟨rfl, rfl, rfl, by decide +kernel, rfl, by decide +kernel, by decide +kernel⟩
noncomputable def g_kind_from (K : PySem.W.Frag) (a : Adr) (sp_Reader_takes : Spw) (sp_function_from : Spw) (sp_box_from : Spw) (sp_row_from : Spw) (sp_Reader_word : Spw) : GS := (gSeq (gIf (gTB (gBin (rCmp fun i j => decide (j < i)) (gVar 1) (gC (.int 8)))) gNever gNext) (gSeq (gIf (gTru (gMeth a.Reader "takes" sp_Reader_takes (fun _ _ _ => False) (gVar 0) (gCons (gC (.str "(")) gNil))) (gRet (gCall sp_function_from (fun _ _ _ => False) (gCons (gVar 0) (gCons (gVar 1) gNil)))) gNext) (gSeq (gIf (gTru (gMeth a.Reader "takes" sp_Reader_takes (fun _ _ _ => False) (gVar 0) (gCons (gC (.str "[")) gNil))) (gRet (gCall sp_box_from (fun _ _ _ => False) (gCons (gVar 0) (gCons (gVar 1) gNil)))) gNext) (gSeq (gIf (gTru (gMeth a.Reader "takes" sp_Reader_takes (fun _ _ _ => False) (gVar 0) (gCons (gC (.str "{")) gNil))) (gRet (gCall sp_row_from (fun _ _ _ => False) (gCons (gVar 0) (gCons (gVar 1) gNil)))) gNext) (gSeq (gSet 2 (gMeth a.Reader "word" sp_Reader_word (fun _ _ _ => False) (gVar 0) gNil)) (gSeq (gIf (gTB (gBin (rFun (inF true)) (gVar 2) (gTup (gCons (gC (.str "any")) (gCons (gC (.str "num")) (gCons (gC (.str "truth")) gNil)))))) gNever gNext) (gRet (gTup (gCons (gVar 2) gNil)))))))))
theorem d_kind_from {k : Nat} (T : Tx K mg base a) {k_Reader_takes : Nat} {sp_Reader_takes : Spw} (D_Reader_takes : DfM P w K mg base a.Reader "takes" k_Reader_takes 2 sp_Reader_takes) (h_Reader_takes : k_Reader_takes ≤ k) {k_function_from : Nat} {sp_function_from : Spw} (D_function_from : Df P w K mg base "function_from" k_function_from 2 sp_function_from) (h_function_from : k_function_from ≤ k) {k_box_from : Nat} {sp_box_from : Spw} (D_box_from : Df P w K mg base "box_from" k_box_from 2 sp_box_from) (h_box_from : k_box_from ≤ k) {k_row_from : Nat} {sp_row_from : Spw} (D_row_from : Df P w K mg base "row_from" k_row_from 2 sp_row_from) (h_row_from : k_row_from ≤ k) {k_Reader_word : Nat} {sp_Reader_word : Spw} (D_Reader_word : DfM P w K mg base a.Reader "word" k_Reader_word 1 sp_Reader_word) (h_Reader_word : k_Reader_word ≤ k) {f : Addr} {cdv : Value} {A : Around} {outer : List Env} {s : Shared} {H : Hp} {E : XK} (hr : Room k (A.deeper (envOfC "kind_from" (defScope s_kind_from) s.heap.objs.size f cdv))) : Ssm (cxW P w K mg base n_kind_from "kind_from" (defScope s_kind_from) f cdv A outer s H E).nox (fun B => B = H) (defBody s_kind_from) (g_kind_from K a sp_Reader_takes sp_function_from sp_box_from sp_row_from sp_Reader_word) :=
  have hu := u100 hr
  (ssm_cons (sm_if (tm_cmp cop_gt rfl (em_v (i := 1) rfl rfl rfl rfl) (em_glob T.v_MOST_DEPTH rfl rfl)) (ssm_one sm_never) ssm_nil) (ssm_cons (sm_if (tm_tru (fun _ => rfl) (em_meth T.cl_Reader D_Reader_takes (hr.mono h_Reader_takes) passF rfl rfl rfl (em_v (i := 0) rfl rfl rfl rfl) (am_cons rfl em_str am_nil))) (ssm_one (sm_ret (em_call D_function_from (hr.mono h_function_from) rfl passF rfl rfl rfl (am_cons rfl (em_v (i := 0) rfl rfl rfl rfl) (am_cons rfl (em_v (i := 1) rfl rfl rfl rfl) am_nil))))) ssm_nil) (ssm_cons (sm_if (tm_tru (fun _ => rfl) (em_meth T.cl_Reader D_Reader_takes (hr.mono h_Reader_takes) passF rfl rfl rfl (em_v (i := 0) rfl rfl rfl rfl) (am_cons rfl em_str am_nil))) (ssm_one (sm_ret (em_call D_box_from (hr.mono h_box_from) rfl passF rfl rfl rfl (am_cons rfl (em_v (i := 0) rfl rfl rfl rfl) (am_cons rfl (em_v (i := 1) rfl rfl rfl rfl) am_nil))))) ssm_nil) (ssm_cons (sm_if (tm_tru (fun _ => rfl) (em_meth T.cl_Reader D_Reader_takes (hr.mono h_Reader_takes) passF rfl rfl rfl (em_v (i := 0) rfl rfl rfl rfl) (am_cons rfl em_str am_nil))) (ssm_one (sm_ret (em_call D_row_from (hr.mono h_row_from) rfl passF rfl rfl rfl (am_cons rfl (em_v (i := 0) rfl rfl rfl rfl) (am_cons rfl (em_v (i := 1) rfl rfl rfl rfl) am_nil))))) ssm_nil) (ssm_cons (sm_s (i := 2) c_kind_from.nd rfl rfl rfl (em_meth0 T.cl_Reader D_Reader_word (hr.mono h_Reader_word) passF rfl (em_v (i := 0) rfl rfl rfl rfl))) (ssm_cons (sm_if (tm_cmp cop_nin rfl (em_v (i := 2) rfl rfl rfl rfl) (em_tup (am_cons rfl em_str (am_cons rfl em_str (am_cons rfl em_str am_nil))))) (ssm_one sm_never) ssm_nil) (ssm_one (sm_ret (em_tup (am_cons rfl (em_v (i := 2) rfl rfl rfl rfl) am_nil))))))))))
noncomputable abbrev n_function_from : List Str := ["reader", "depth", "taken", "given"]
theorem c_function_from : FnScope n_function_from ["reader", "depth"] (defScope s_function_from) := ⟨rfl, rfl, rfl, by decide +kernel, rfl, by decide +kernel, by decide +kernel⟩
noncomputable def g_function_from (K : PySem.W.Frag) (a : Adr) (sp_kind_from : Spw) (sp_Reader_wants : Spw) : GS := (gSeq (gSet 2 (gCall sp_kind_from (fun _ _ _ => False) (gCons (gVar 0) (gCons (gBin (rAddA) (gVar 1) (gC (.int 1))) gNil)))) (gSeq (gDrop (gMeth a.Reader "wants" sp_Reader_wants (fun _ _ _ => False) (gVar 0) (gCons (gC (.str " > ")) gNil))) (gSeq (gSet 3 (gCall sp_kind_from (fun _ _ _ => False) (gCons (gVar 0) (gCons (gBin (rAddA) (gVar 1) (gC (.int 1))) gNil)))) (gSeq (gDrop (gMeth a.Reader "wants" sp_Reader_wants (fun _ _ _ => False) (gVar 0) (gCons (gC (.str ")")) gNil))) (gRet (gTup (gCons (gC (.str "to")) (gCons (gVar 2) (gCons (gVar 3) gNil)))))))))
theorem d_function_from {k : Nat} (T : Tx K mg base a) {k_kind_from : Nat} {sp_kind_from : Spw} (D_kind_from : Df P w K mg base "kind_from" k_kind_from 2 sp_kind_from) (h_kind_from : k_kind_from ≤ k) {k_Reader_wants : Nat} {sp_Reader_wants : Spw} (D_Reader_wants : DfM P w K mg base a.Reader "wants" k_Reader_wants 2 sp_Reader_wants) (h_Reader_wants : k_Reader_wants ≤ k) {f : Addr} {cdv : Value} {A : Around} {outer : List Env} {s : Shared} {H : Hp} {E : XK} (hr : Room k (A.deeper (envOfC "function_from" (defScope s_function_from) s.heap.objs.size f cdv))) : Ssm (cxW P w K mg base n_function_from "function_from" (defScope s_function_from) f cdv A outer s H E).nox (fun B => B = H) (defBody s_function_from) (g_function_from K a sp_kind_from sp_Reader_wants) :=
  have hu := u100 hr
  (ssm_cons (sm_s (i := 2) c_function_from.nd rfl rfl rfl (em_call D_kind_from (hr.mono h_kind_from) rfl passF rfl rfl rfl (am_cons rfl (em_v (i := 0) rfl rfl rfl rfl) (am_cons rfl (em_addA (em_v (i := 1) rfl rfl rfl rfl) em_int) am_nil)))) (ssm_cons (sm_expr rfl (em_meth T.cl_Reader D_Reader_wants (hr.mono h_Reader_wants) passF rfl rfl rfl (em_v (i := 0) rfl rfl rfl rfl) (am_cons rfl em_str am_nil))) (ssm_cons (sm_s (i := 3) c_function_from.nd rfl rfl rfl (em_call D_kind_from (hr.mono h_kind_from) rfl passF rfl rfl rfl (am_cons rfl (em_v (i := 0) rfl rfl rfl rfl) (am_cons rfl (em_addA (em_v (i := 1) rfl rfl rfl rfl) em_int) am_nil)))) (ssm_cons (sm_expr rfl (em_meth T.cl_Reader D_Reader_wants (hr.mono h_Reader_wants) passF rfl rfl rfl (em_v (i := 0) rfl rfl rfl rfl) (am_cons rfl em_str am_nil))) (ssm_one (sm_ret (em_tup (am_cons rfl em_str (am_cons rfl (em_v (i := 2) rfl rfl rfl rfl) (am_cons rfl (em_v (i := 3) rfl rfl rfl rfl) am_nil))))))))))
noncomputable abbrev n_box_from : List Str := ["reader", "depth", "inside"]
theorem c_box_from : FnScope n_box_from ["reader", "depth"] (defScope s_box_from) := ⟨rfl, rfl, rfl, by decide +kernel, rfl, by decide +kernel, by decide +kernel⟩
noncomputable def g_box_from (K : PySem.W.Frag) (a : Adr) (sp_kind_from : Spw) (sp_Reader_wants : Spw) : GS := (gSeq (gSet 2 (gCall sp_kind_from (fun _ _ _ => False) (gCons (gVar 0) (gCons (gBin (rAddA) (gVar 1) (gC (.int 1))) gNil)))) (gSeq (gDrop (gMeth a.Reader "wants" sp_Reader_wants (fun _ _ _ => False) (gVar 0) (gCons (gC (.str "]")) gNil))) (gRet (gTup (gCons (gC (.str "box")) (gCons (gVar 2) gNil))))))
theorem d_box_from {k : Nat} (T : Tx K mg base a) {k_kind_from : Nat} {sp_kind_from : Spw} (D_kind_from : Df P w K mg base "kind_from" k_kind_from 2 sp_kind_from) (h_kind_from : k_kind_from ≤ k) {k_Reader_wants : Nat} {sp_Reader_wants : Spw} (D_Reader_wants : DfM P w K mg base a.Reader "wants" k_Reader_wants 2 sp_Reader_wants) (h_Reader_wants : k_Reader_wants ≤ k) {f : Addr} {cdv : Value} {A : Around} {outer : List Env} {s : Shared} {H : Hp} {E : XK} (hr : Room k (A.deeper (envOfC "box_from" (defScope s_box_from) s.heap.objs.size f cdv))) : Ssm (cxW P w K mg base n_box_from "box_from" (defScope s_box_from) f cdv A outer s H E).nox (fun B => B = H) (defBody s_box_from) (g_box_from K a sp_kind_from sp_Reader_wants) :=
  have hu := u100 hr
  (ssm_cons (sm_s (i := 2) c_box_from.nd rfl rfl rfl (em_call D_kind_from (hr.mono h_kind_from) rfl passF rfl rfl rfl (am_cons rfl (em_v (i := 0) rfl rfl rfl rfl) (am_cons rfl (em_addA (em_v (i := 1) rfl rfl rfl rfl) em_int) am_nil)))) (ssm_cons (sm_expr rfl (em_meth T.cl_Reader D_Reader_wants (hr.mono h_Reader_wants) passF rfl rfl rfl (em_v (i := 0) rfl rfl rfl rfl) (am_cons rfl em_str am_nil))) (ssm_one (sm_ret (em_tup (am_cons rfl em_str (am_cons rfl (em_v (i := 2) rfl rfl rfl rfl) am_nil)))))))
noncomputable abbrev n_row_from : List Str := ["reader", "depth", "fields"]
theorem c_row_from : FnScope n_row_from ["reader", "depth"] (defScope s_row_from) := ⟨rfl, rfl, rfl, by decide +kernel, rfl, by decide +kernel, by decide +kernel⟩
noncomputable def g_row_from (K : PySem.W.Frag) (a : Adr) (sp_Reader_takes : Spw) (sp_field_from : Spw) (sp_Reader_wants : Spw) : GS := (gSeq (gIf (gTru (gMeth a.Reader "takes" sp_Reader_takes (fun _ _ _ => False) (gVar 0) (gCons (gC (.str "}")) gNil))) (gRet (gTup (gCons (gC (.str "row")) (gCons (gTup gNil) (gCons (gC (.bl false)) gNil))))) gNext) (gSeq (gSet 2 (gLst gNil)) (gSeq (gWhile (gNt (gTru (gMeth a.Reader "takes" sp_Reader_takes (fun _ _ _ => False) (gVar 0) (gCons (gC (.str "..")) gNil)))) (gSeq (gDrop (gMt isLst rApp (gVar 2) (gCons (gCall sp_field_from (fun _ _ _ => False) (gCons (gVar 0) (gCons (gVar 1) gNil))) gNil))) (gSeq (gIf (gTru (gMeth a.Reader "takes" sp_Reader_takes (fun _ _ _ => False) (gVar 0) (gCons (gC (.str "}")) gNil))) (gRet (gTup (gCons (gC (.str "row")) (gCons (gB (rF tupF) (gCons (gVar 2) gNil)) (gCons (gC (.bl false)) gNil))))) gNext) (gDrop (gMeth a.Reader "wants" sp_Reader_wants (fun _ _ _ => False) (gVar 0) (gCons (gC (.str ", ")) gNil)))))) (gSeq (gDrop (gMeth a.Reader "wants" sp_Reader_wants (fun _ _ _ => False) (gVar 0) (gCons (gC (.str "}")) gNil))) (gRet (gTup (gCons (gC (.str "row")) (gCons (gB (rF tupF) (gCons (gVar 2) gNil)) (gCons (gC (.bl true)) gNil)))))))))
theorem d_row_from {k : Nat} (T : Tx K mg base a) {k_Reader_takes : Nat} {sp_Reader_takes : Spw} (D_Reader_takes : DfM P w K mg base a.Reader "takes" k_Reader_takes 2 sp_Reader_takes) (h_Reader_takes : k_Reader_takes ≤ k) {k_field_from : Nat} {sp_field_from : Spw} (D_field_from : Df P w K mg base "field_from" k_field_from 2 sp_field_from) (h_field_from : k_field_from ≤ k) {k_Reader_wants : Nat} {sp_Reader_wants : Spw} (D_Reader_wants : DfM P w K mg base a.Reader "wants" k_Reader_wants 2 sp_Reader_wants) (h_Reader_wants : k_Reader_wants ≤ k) {f : Addr} {cdv : Value} {A : Around} {outer : List Env} {s : Shared} {H : Hp} {E : XK} (hr : Room k (A.deeper (envOfC "row_from" (defScope s_row_from) s.heap.objs.size f cdv))) : Ssm (cxW P w K mg base n_row_from "row_from" (defScope s_row_from) f cdv A outer s H E).nox (fun B => B = H) (defBody s_row_from) (g_row_from K a sp_Reader_takes sp_field_from sp_Reader_wants) :=
  have hu := u100 hr
  (ssm_cons (sm_if (tm_tru (fun _ => rfl) (em_meth T.cl_Reader D_Reader_takes (hr.mono h_Reader_takes) passF rfl rfl rfl (em_v (i := 0) rfl rfl rfl rfl) (am_cons rfl em_str am_nil))) (ssm_one (sm_ret (em_tup (am_cons rfl em_str (am_cons rfl (em_tup am_nil) (am_cons rfl em_bl am_nil)))))) ssm_nil) (ssm_cons (sm_s (i := 2) c_row_from.nd rfl rfl rfl (em_lst am_nil)) (ssm_cons (sm_while PassesOwn.never (tm_not (tm_tru (fun _ => rfl) (em_meth T.cl_Reader D_Reader_takes (hr.mono h_Reader_takes) passF rfl rfl rfl (em_v (i := 0) rfl rfl rfl rfl) (am_cons rfl em_str am_nil)))) (ssm_cons (sm_expr rfl (em_mth mth_append rfl rfl rfl rfl rfl (em_v (i := 2) rfl rfl rfl rfl) (am_cons rfl (em_call D_field_from (hr.mono h_field_from) rfl passF rfl rfl rfl (am_cons rfl (em_v (i := 0) rfl rfl rfl rfl) (am_cons rfl (em_v (i := 1) rfl rfl rfl rfl) am_nil))) am_nil))) (ssm_cons (sm_if (tm_tru (fun _ => rfl) (em_meth T.cl_Reader D_Reader_takes (hr.mono h_Reader_takes) passF rfl rfl rfl (em_v (i := 0) rfl rfl rfl rfl) (am_cons rfl em_str am_nil))) (ssm_one (sm_ret (em_tup (am_cons rfl em_str (am_cons rfl (em_ty bt_tuple (blt_tuple) rfl T.n_tuple (by decide) rfl rfl rfl (am_cons rfl (em_v (i := 2) rfl rfl rfl rfl) am_nil)) (am_cons rfl em_bl am_nil)))))) ssm_nil) (ssm_one (sm_expr rfl (em_meth T.cl_Reader D_Reader_wants (hr.mono h_Reader_wants) passF rfl rfl rfl (em_v (i := 0) rfl rfl rfl rfl) (am_cons rfl em_str am_nil))))))) (ssm_cons (sm_expr rfl (em_meth T.cl_Reader D_Reader_wants (hr.mono h_Reader_wants) passF rfl rfl rfl (em_v (i := 0) rfl rfl rfl rfl) (am_cons rfl em_str am_nil))) (ssm_one (sm_ret (em_tup (am_cons rfl em_str (am_cons rfl (em_ty bt_tuple (blt_tuple) rfl T.n_tuple (by decide) rfl rfl rfl (am_cons rfl (em_v (i := 2) rfl rfl rfl rfl) am_nil)) (am_cons rfl em_bl am_nil))))))))))
noncomputable abbrev n_field_from : List Str := ["reader", "depth", "name", "mark"]
theorem c_field_from : FnScope n_field_from ["reader", "depth"] (defScope s_field_from) := ⟨rfl, rfl, rfl, by decide +kernel, rfl, by decide +kernel, by decide +kernel⟩
noncomputable def g_field_from (K : PySem.W.Frag) (a : Adr) (sp_Reader_word : Spw) (sp_Reader_takes : Spw) (sp_Reader_wants : Spw) (sp_kind_from : Spw) : GS := (gSeq (gSet 2 (gMeth a.Reader "word" sp_Reader_word (fun _ _ _ => False) (gVar 0) gNil)) (gSeq (gSet 3 (gIte (gTru (gMeth a.Reader "takes" sp_Reader_takes (fun _ _ _ => False) (gVar 0) (gCons (gC (.str "?")) gNil))) (gC (.str "may")) (gC (.str "must")))) (gSeq (gDrop (gMeth a.Reader "wants" sp_Reader_wants (fun _ _ _ => False) (gVar 0) (gCons (gC (.str ": ")) gNil))) (gRet (gTup (gCons (gVar 2) (gCons (gVar 3) (gCons (gCall sp_kind_from (fun _ _ _ => False) (gCons (gVar 0) (gCons (gBin (rAddA) (gVar 1) (gC (.int 1))) gNil))) gNil))))))))
theorem d_field_from {k : Nat} (T : Tx K mg base a) {k_Reader_word : Nat} {sp_Reader_word : Spw} (D_Reader_word : DfM P w K mg base a.Reader "word" k_Reader_word 1 sp_Reader_word) (h_Reader_word : k_Reader_word ≤ k) {k_Reader_takes : Nat} {sp_Reader_takes : Spw} (D_Reader_takes : DfM P w K mg base a.Reader "takes" k_Reader_takes 2 sp_Reader_takes) (h_Reader_takes : k_Reader_takes ≤ k) {k_Reader_wants : Nat} {sp_Reader_wants : Spw} (D_Reader_wants : DfM P w K mg base a.Reader "wants" k_Reader_wants 2 sp_Reader_wants) (h_Reader_wants : k_Reader_wants ≤ k) {k_kind_from : Nat} {sp_kind_from : Spw} (D_kind_from : Df P w K mg base "kind_from" k_kind_from 2 sp_kind_from) (h_kind_from : k_kind_from ≤ k) {f : Addr} {cdv : Value} {A : Around} {outer : List Env} {s : Shared} {H : Hp} {E : XK} (hr : Room k (A.deeper (envOfC "field_from" (defScope s_field_from) s.heap.objs.size f cdv))) : Ssm (cxW P w K mg base n_field_from "field_from" (defScope s_field_from) f cdv A outer s H E).nox (fun B => B = H) (defBody s_field_from) (g_field_from K a sp_Reader_word sp_Reader_takes sp_Reader_wants sp_kind_from) :=
  have hu := u100 hr
  (ssm_cons (sm_s (i := 2) c_field_from.nd rfl rfl rfl (em_meth0 T.cl_Reader D_Reader_word (hr.mono h_Reader_word) passF rfl (em_v (i := 0) rfl rfl rfl rfl))) (ssm_cons (sm_s (i := 3) c_field_from.nd rfl rfl rfl (em_ite (tm_tru (fun _ => rfl) (em_meth T.cl_Reader D_Reader_takes (hr.mono h_Reader_takes) passF rfl rfl rfl (em_v (i := 0) rfl rfl rfl rfl) (am_cons rfl em_str am_nil))) em_str em_str)) (ssm_cons (sm_expr rfl (em_meth T.cl_Reader D_Reader_wants (hr.mono h_Reader_wants) passF rfl rfl rfl (em_v (i := 0) rfl rfl rfl rfl) (am_cons rfl em_str am_nil))) (ssm_one (sm_ret (em_tup (am_cons rfl (em_v (i := 2) rfl rfl rfl rfl) (am_cons rfl (em_v (i := 3) rfl rfl rfl rfl) (am_cons rfl (em_call D_kind_from (hr.mono h_kind_from) rfl passF rfl rfl rfl (am_cons rfl (em_v (i := 0) rfl rfl rfl rfl) (am_cons rfl (em_addA (em_v (i := 1) rfl rfl rfl rfl) em_int) am_nil))) am_nil)))))))))
end
section
variable {P : Program} {w : World} {K : PySem.W.Frag} {mg : Str → Option Value} {base : Heap} {a : Adr}
noncomputable abbrev n__law_renamed : List Str := ["kind", "names", "fields", "name", "mark", "inner"]
theorem c__law_renamed : FnScope n__law_renamed ["kind", "names"] (defScope s__law_renamed) := ⟨rfl, rfl, rfl, by decide +kernel, rfl, by decide +kernel, by decide +kernel⟩
noncomputable def g__law_renamed (sp__law_renamed : Spw) : GS := (gSeq (gIf (gTB (gBin (rFun (eqF true)) (gBin (rFun ixW) (gVar 0) (gC (.int 0))) (gC (.str "row")))) (gRet (gBin (rAddA) (gSlA (gVar 0) gNoPart (gPart (gC (.int 1)))) (gB (rF tupF) (gCons (gCompC (gIter (gSlA (gVar 0) (gPart (gC (.int 1))) gNoPart)) 1 [1] (gNm 0) gYes (gCall sp__law_renamed (fun _ _ _ => False) (gCons (gVar 0) (gCons (gVar 1) gNil)))) gNil)))) gNext) (gSeq (gSet 2 (gLst gNil)) (gSeq (gFor (gIterS (gBin (rFun ixW) (gVar 0) (gC (.int 1)))) (gNm3 3 4 5) (gDrop (gMt isLst rApp (gVar 2) (gCons (gTup (gCons (gBin (rFun ixW) (gVar 1) (gMt isLst rIndex (gLst (gCons (gC (.str "a")) (gCons (gC (.str "b")) (gCons (gC (.str "cc")) gNil)))) (gCons (gVar 3) gNil))) (gCons (gVar 4) (gCons (gCall sp__law_renamed (fun _ _ _ => False) (gCons (gVar 5) (gCons (gVar 1) gNil))) gNil)))) gNil)))) (gRet (gTup (gCons (gC (.str "row")) (gCons (gB (rF tupF) (gCons (gVar 2) gNil)) (gCons (gBin (rFun ixW) (gVar 0) (gC (.int 2))) gNil))))))))
theorem d__law_renamed {k : Nat} (T : Tx K mg base a) {k__law_renamed : Nat} {sp__law_renamed : Spw} (D__law_renamed : Df P w K mg base "_law_renamed" k__law_renamed 2 sp__law_renamed) (h__law_renamed : k__law_renamed ≤ k) {f : Addr} {cdv : Value} {A : Around} {outer : List Env} {s : Shared} {H : Hp} {E : XK} (hr : Room k (A.deeper (envOfC "_law_renamed" (defScope s__law_renamed) s.heap.objs.size f cdv))) : Ssm (cxW P w K mg base n__law_renamed "_law_renamed" (defScope s__law_renamed) f cdv A outer s H E).nox (fun B => B = H) (defBody s__law_renamed) (g__law_renamed sp__law_renamed) :=
  have hu := u100 hr
  (ssm_cons (sm_if (tm_cmp (cop_ne hu) rfl (em_ix (fun _ _ => rfl) (em_v (i := 0) rfl rfl rfl rfl) em_int) em_str) (ssm_one (sm_ret (em_addA (em_slA (em_v (i := 0) rfl rfl rfl rfl) om_none (om_some em_int)) (em_ty bt_tuple (blt_tuple) rfl T.n_tuple (by decide) rfl rfl rfl (am_cons rfl (em_compC rfl (blkC (own := ["inner"]) (fr := ["names"]) (js := [1]) (scX := defScope s__law_renamed) (n := s.heap.objs.size + 1) rfl (by decide +kernel) (by decide +kernel) (by decide +kernel) (by decide +kernel) rfl rfl rfl (by decide +kernel) rfl) (fun _ => rfl) (im_any (fun _ _ => rfl) (em_slA (em_v (i := 0) rfl rfl rfl rfl) (om_some em_int) om_none)) (tgc_name (i := 0) (by decide) rfl rfl) (fun C fp s1 H1 => fm_nil) (fun C fp s1 H1 => (em_call D__law_renamed (hr.mono h__law_renamed) rfl passF rfl rfl rfl (am_cons rfl (em_v (i := 0) rfl rfl rfl rfl) (am_cons rfl (em_v (i := 1) rfl rfl rfl rfl) am_nil))))) am_nil))))) ssm_nil) (ssm_cons (sm_s (i := 2) c__law_renamed.nd rfl rfl rfl (em_lst am_nil)) (ssm_cons (sm_for PassesOwn.never rfl (fun _ => rfl) (im_seq (em_ix (fun _ _ => rfl) (em_v (i := 0) rfl rfl rfl rfl) em_int)) (tg_three (i := 3) (j := 4) (k := 5) rfl c__law_renamed.nd rfl (.inl rfl) (.inr rfl) rfl (.inl rfl) (.inr rfl) rfl (.inl rfl) (.inr rfl)) (ssm_one (sm_expr rfl (em_mth mth_append rfl rfl rfl rfl rfl (em_v (i := 2) rfl rfl rfl rfl) (am_cons rfl (em_tup (am_cons rfl (em_ix (fun _ _ => rfl) (em_v (i := 1) rfl rfl rfl rfl) (em_mth mth_index rfl rfl rfl rfl rfl (em_lst (am_cons rfl em_str (am_cons rfl em_str (am_cons rfl em_str am_nil)))) (am_cons rfl (em_v (i := 3) rfl rfl rfl rfl) am_nil))) (am_cons rfl (em_v (i := 4) rfl rfl rfl rfl) (am_cons rfl (em_call D__law_renamed (hr.mono h__law_renamed) rfl passF rfl rfl rfl (am_cons rfl (em_v (i := 5) rfl rfl rfl rfl) (am_cons rfl (em_v (i := 1) rfl rfl rfl rfl) am_nil))) am_nil)))) am_nil))))) (ssm_one (sm_ret (em_tup (am_cons rfl em_str (am_cons rfl (em_ty bt_tuple (blt_tuple) rfl T.n_tuple (by decide) rfl rfl rfl (am_cons rfl (em_v (i := 2) rfl rfl rfl rfl) am_nil)) (am_cons rfl (em_ix (fun _ _ => rfl) (em_v (i := 0) rfl rfl rfl rfl) em_int) am_nil)))))))))
noncomputable abbrev n__law_some_names : List Str := ["state", "some"]
theorem c__law_some_names : FnScope n__law_some_names ["state"] (defScope s__law_some_names) := ⟨rfl, rfl, rfl, by decide +kernel, rfl, by decide +kernel, by decide +kernel⟩
noncomputable def g__law_some_names (sp__law_take : Spw) : GS := (gSeq (gSet 1 (gLst (gCons (gLst (gCons (gC (.str "a")) (gCons (gC (.str "b")) (gCons (gC (.str "cc")) gNil)))) (gCons (gLst (gCons (gC (.str "any")) (gCons (gC (.str "num")) (gCons (gC (.str "truth")) gNil)))) (gCons (gLst (gCons (gC (.str "in")) (gCons (gC (.str "inside")) (gCons (gC (.str "out")) gNil)))) (gCons (gLst (gCons (gC (.str "may")) (gCons (gC (.str "row")) (gCons (gC (.str "zzzzzzzz")) gNil)))) gNil)))))) (gRet (gBin (rFun ixW) (gVar 1) (gCall sp__law_take (fun _ _ _ => False) (gCons (gVar 0) (gCons (gC (.int 4)) gNil))))))
theorem d__law_some_names {k : Nat} (T : Tx K mg base a) {k__law_take : Nat} {sp__law_take : Spw} (D__law_take : Df P w K mg base "_law_take" k__law_take 2 sp__law_take) (h__law_take : k__law_take ≤ k) {f : Addr} {cdv : Value} {A : Around} {outer : List Env} {s : Shared} {H : Hp} {E : XK} (hr : Room k (A.deeper (envOfC "_law_some_names" (defScope s__law_some_names) s.heap.objs.size f cdv))) : Ssm (cxW P w K mg base n__law_some_names "_law_some_names" (defScope s__law_some_names) f cdv A outer s H E).nox (fun B => B = H) (defBody s__law_some_names) (g__law_some_names sp__law_take) :=
  have hu := u100 hr
  (ssm_cons (sm_s (i := 1) c__law_some_names.nd rfl rfl rfl (em_lst (am_cons rfl (em_lst (am_cons rfl em_str (am_cons rfl em_str (am_cons rfl em_str am_nil)))) (am_cons rfl (em_lst (am_cons rfl em_str (am_cons rfl em_str (am_cons rfl em_str am_nil)))) (am_cons rfl (em_lst (am_cons rfl em_str (am_cons rfl em_str (am_cons rfl em_str am_nil)))) (am_cons rfl (em_lst (am_cons rfl em_str (am_cons rfl em_str (am_cons rfl em_str am_nil)))) am_nil)))))) (ssm_one (sm_ret (em_ix (fun _ _ => rfl) (em_v (i := 1) rfl rfl rfl rfl) (em_call D__law_take (hr.mono h__law_take) rfl passF rfl rfl rfl (am_cons rfl (em_v (i := 0) rfl rfl rfl rfl) (am_cons rfl em_int am_nil)))))))
noncomputable abbrev n__law_text : List Str := ["kind", "parts"]
theorem c__law_text : FnScope n__law_text ["kind"] (defScope s__law_text) := ⟨rfl, rfl, rfl, by decide +kernel, rfl, by decide +kernel, by decide +kernel⟩
noncomputable def g__law_text (sp__law_text : Spw) : GS := (gSeq (gIf (gTB (gBin (rFun (eqF false)) (gBin (rFun ixW) (gVar 0) (gC (.int 0))) (gC (.str "to")))) (gRet (gBin (rAddA) (gBin (rAddA) (gBin (rAddA) (gBin (rAddA) (gC (.str "(")) (gCall sp__law_text (fun _ _ _ => False) (gCons (gBin (rFun ixW) (gVar 0) (gC (.int 1))) gNil))) (gC (.str " > "))) (gCall sp__law_text (fun _ _ _ => False) (gCons (gBin (rFun ixW) (gVar 0) (gC (.int 2))) gNil))) (gC (.str ")")))) gNext) (gSeq (gIf (gTB (gBin (rFun (eqF false)) (gBin (rFun ixW) (gVar 0) (gC (.int 0))) (gC (.str "box")))) (gRet (gBin (rAddA) (gBin (rAddA) (gC (.str "[")) (gCall sp__law_text (fun _ _ _ => False) (gCons (gBin (rFun ixW) (gVar 0) (gC (.int 1))) gNil))) (gC (.str "]")))) gNext) (gSeq (gIf (gTB (gBin (rFun (eqF true)) (gBin (rFun ixW) (gVar 0) (gC (.int 0))) (gC (.str "row")))) (gRet (gBin (rFun ixW) (gVar 0) (gC (.int 0)))) gNext) (gSeq (gSet 1 (gCompC (gIterS (gBin (rFun ixW) (gVar 0) (gC (.int 1)))) 3 [] (gNm3 0 1 2) gYes (gBin (rAddA) (gBin (rAddA) (gBin (rAddA) (gVar 0) (gBin (rMulA) (gC (.str "?")) (gB (rF intF) (gCons (gBin (rFun (eqF false)) (gVar 1) (gC (.str "may"))) gNil)))) (gC (.str ": "))) (gCall sp__law_text (fun _ _ _ => False) (gCons (gVar 2) gNil))))) (gRet (gBin (rAddA) (gBin (rAddA) (gC (.str "{")) (gMt isStr rJoin (gC (.str ", ")) (gCons (gBin (rAddA) (gVar 1) (gBin (rMulA) (gLst (gCons (gC (.str "..")) gNil)) (gB (rF intF) (gCons (gBin (rFun ixW) (gVar 0) (gC (.int 2))) gNil)))) gNil))) (gC (.str "}"))))))))
theorem d__law_text {k : Nat} (T : Tx K mg base a) {k__law_text : Nat} {sp__law_text : Spw} (D__law_text : Df P w K mg base "_law_text" k__law_text 1 sp__law_text) (h__law_text : k__law_text ≤ k) {f : Addr} {cdv : Value} {A : Around} {outer : List Env} {s : Shared} {H : Hp} {E : XK} (hr : Room k (A.deeper (envOfC "_law_text" (defScope s__law_text) s.heap.objs.size f cdv))) : Ssm (cxW P w K mg base n__law_text "_law_text" (defScope s__law_text) f cdv A outer s H E).nox (fun B => B = H) (defBody s__law_text) (g__law_text sp__law_text) :=
  have hu := u100 hr
  (ssm_cons (sm_if (tm_cmp (cop_eq hu) rfl (em_ix (fun _ _ => rfl) (em_v (i := 0) rfl rfl rfl rfl) em_int) em_str) (ssm_one (sm_ret (em_addA (em_addA (em_addA (em_addA em_str (em_call D__law_text (hr.mono h__law_text) rfl passF rfl rfl rfl (am_cons rfl (em_ix (fun _ _ => rfl) (em_v (i := 0) rfl rfl rfl rfl) em_int) am_nil))) em_str) (em_call D__law_text (hr.mono h__law_text) rfl passF rfl rfl rfl (am_cons rfl (em_ix (fun _ _ => rfl) (em_v (i := 0) rfl rfl rfl rfl) em_int) am_nil))) em_str))) ssm_nil) (ssm_cons (sm_if (tm_cmp (cop_eq hu) rfl (em_ix (fun _ _ => rfl) (em_v (i := 0) rfl rfl rfl rfl) em_int) em_str) (ssm_one (sm_ret (em_addA (em_addA em_str (em_call D__law_text (hr.mono h__law_text) rfl passF rfl rfl rfl (am_cons rfl (em_ix (fun _ _ => rfl) (em_v (i := 0) rfl rfl rfl rfl) em_int) am_nil))) em_str))) ssm_nil) (ssm_cons (sm_if (tm_cmp (cop_ne hu) rfl (em_ix (fun _ _ => rfl) (em_v (i := 0) rfl rfl rfl rfl) em_int) em_str) (ssm_one (sm_ret (em_ix (fun _ _ => rfl) (em_v (i := 0) rfl rfl rfl rfl) em_int))) ssm_nil) (ssm_cons (sm_compC (i := 1) c__law_text.nd rfl rfl rfl rfl (blkC (own := ["name", "mark", "inner"]) (fr := []) (js := []) (scX := defScope s__law_text) (n := s.heap.objs.size + 1) rfl (by decide +kernel) (by decide +kernel) (by decide +kernel) (by decide +kernel) rfl rfl rfl (by decide +kernel) rfl) (fun _ => rfl) (im_seq (em_ix (fun _ _ => rfl) (em_v (i := 0) rfl rfl rfl rfl) em_int)) (tgc_three (i := 0) (j := 1) (k := 2) rfl (by decide) rfl rfl rfl rfl rfl rfl) (fun C fp s1 H1 => fm_nil) (fun C fp s1 H1 => (em_addA (em_addA (em_addA (em_v (i := 0) rfl rfl rfl rfl) (em_mulA em_str (em_ty bt_int (blt_int) rfl T.n_int (by decide) rfl rfl rfl (am_cons rfl (em_cmp (cop_eq hu) rfl (em_v (i := 1) rfl rfl rfl rfl) em_str) am_nil)))) em_str) (em_call D__law_text (hr.mono h__law_text) rfl passF rfl rfl rfl (am_cons rfl (em_v (i := 2) rfl rfl rfl rfl) am_nil))))) (ssm_one (sm_ret (em_addA (em_addA em_str (em_mth mth_join rfl rfl rfl rfl rfl em_str (am_cons rfl (em_addA (em_v (i := 1) rfl rfl rfl rfl) (em_mulA (em_lst (am_cons rfl em_str am_nil)) (em_ty bt_int (blt_int) rfl T.n_int (by decide) rfl rfl rfl (am_cons rfl (em_ix (fun _ _ => rfl) (em_v (i := 0) rfl rfl rfl rfl) em_int) am_nil)))) am_nil))) em_str)))))))
noncomputable abbrev n__law_is_kind : List Str := ["found"]
theorem c__law_is_kind : FnScope n__law_is_kind ["found"] (defScope s__law_is_kind) := ⟨rfl, rfl, rfl, by decide +kernel, rfl, by decide +kernel, by decide +kernel⟩
noncomputable def g__law_is_kind (sp__law_is_kind : Spw) : GS := (gSeq (gIf (gOr (gTru (gIsiT "str" (gVar 0))) (gTru (gIsiT "bool" (gVar 0)))) (gRet (gC (.bl true))) gNext) (gRet (gAndV (gIsiT "tuple" (gVar 0)) (gB (rF allF) (gCons (gComp (gIter (gVar 0)) 1 (gNm 0) gYes (gCall sp__law_is_kind (fun _ _ _ => False) (gCons (gVar 0) gNil))) gNil)))))
theorem d__law_is_kind {k : Nat} (T : Tx K mg base a) {k__law_is_kind : Nat} {sp__law_is_kind : Spw} (D__law_is_kind : Df P w K mg base "_law_is_kind" k__law_is_kind 1 sp__law_is_kind) (h__law_is_kind : k__law_is_kind ≤ k) {f : Addr} {cdv : Value} {A : Around} {outer : List Env} {s : Shared} {H : Hp} {E : XK} (hr : Room k (A.deeper (envOfC "_law_is_kind" (defScope s__law_is_kind) s.heap.objs.size f cdv))) : Ssm (cxW P w K mg base n__law_is_kind "_law_is_kind" (defScope s__law_is_kind) f cdv A outer s H E).nox (fun B => B = H) (defBody s__law_is_kind) (g__law_is_kind sp__law_is_kind) :=
  have hu := u100 hr
  (ssm_cons (sm_if (tm_bool (wm_or (tm_tru (fun _ => rfl) (em_isiT (T := "str") (by decide) bt_str T.n_str T.n_isinstance rfl rfl (by decide) rfl rfl rfl (em_v (i := 0) rfl rfl rfl rfl))) (wm_or1 (tm_tru (fun _ => rfl) (em_isiT (T := "bool") (by decide) bt_bool T.n_bool T.n_isinstance rfl rfl (by decide) rfl rfl rfl (em_v (i := 0) rfl rfl rfl rfl)))))) (ssm_one (sm_ret em_bl)) ssm_nil) (ssm_one (sm_ret (em_and (em_isiT (T := "tuple") (by decide) bt_tuple T.n_tuple T.n_isinstance rfl rfl (by decide) rfl rfl rfl (em_v (i := 0) rfl rfl rfl rfl)) (em_one (em_fn bt_all (blt_all rfl) rfl T.n_all (by decide) rfl rfl rfl (am_cons rfl (em_comp (Nc := ["part"]) rfl (blk0 rfl (by decide +kernel) (by decide +kernel)) (fun _ => rfl) (im_any (fun _ _ => rfl) (em_v (i := 0) rfl rfl rfl rfl)) (tgu_name (i := 0) (by decide) rfl rfl) (fun C fp s1 H1 => fm_nil) (fun C fp s1 H1 => (em_call D__law_is_kind (hr.mono h__law_is_kind) rfl passF rfl rfl rfl (am_cons rfl (em_v (i := 0) rfl rfl rfl rfl) am_nil)))) am_nil)))))))
end
set_option Elab.async false
set_option linter.all false
set_option maxRecDepth 100000
section
variable {P : Program} {w : World} {K : PySem.W.Frag} {mg : Str → Option Value} {base : Heap} {a : Adr}
noncomputable abbrev n_law : List Str := ["script", "state", "kind", "text", "found", "k"]
theorem c_law : FnScope n_law ["script"] (defScope s_law) := ⟨rfl, rfl, rfl, by decide +kernel, rfl, by decide +kernel, by decide +kernel⟩
noncomputable def g_law (sp__law_state : Spw) (sp__law_kind : Spw) (sp__law_take : Spw) (sp__law_some_names : Spw) (sp__law_renamed : Spw) (sp__law_text : Spw) (sp_kind_shown : Spw) (sp_kind_read : Spw) (sp__law_is_kind : Spw) : GS := (gSeq (gSet 1 (gCall sp__law_state (fun _ _ _ => False) (gCons (gVar 0) (gCons (gC (.int 0)) gNil)))) (gSeq (gSet 2 (gCall sp__law_kind (fun _ _ _ => False) (gCons (gVar 1) (gCons (gC (.int 3)) gNil)))) (gSeq (gIf (gTB (gBin (rFun (eqF false)) (gCall sp__law_take (fun _ _ _ => False) (gCons (gVar 1) (gCons (gC (.int 4)) gNil))) (gC (.int 0)))) (gSeq (gSet 2 (gCall sp__law_kind (fun _ _ _ => False) (gCons (gVar 1) (gCons (gC (.int 2)) gNil)))) (gFor (gRange (gCons (gCall sp__law_take (fun _ _ _ => False) (gCons (gVar 1) (gCons (gC (.int 6)) gNil))) gNil)) (gNm 5) (gSet 2 (gTup (gCons (gC (.str "box")) (gCons (gVar 2) gNil)))))) gNext) (gSeq (gSet 2 (gCall sp__law_renamed (fun _ _ _ => False) (gCons (gVar 2) (gCons (gCall sp__law_some_names (fun _ _ _ => False) (gCons (gVar 1) gNil)) gNil)))) (gSeq (gIf (gTB (gBin (rCmp fun i j => decide (j < i)) (gB (rF lenF) (gCons (gCall sp__law_text (fun _ _ _ => False) (gCons (gVar 2) gNil)) gNil)) (gC (.int 400)))) (gSet 2 (gTup (gCons (gC (.str "box")) (gCons (gTup (gCons (gC (.str "num")) gNil)) gNil)))) gNext) (gSeq (gSet 3 (gCall sp__law_text (fun _ _ _ => False) (gCons (gVar 2) gNil))) (gSeq (gIf (gOr (gTB (gBin (rFun (eqF true)) (gCall sp_kind_shown (fun _ _ _ => False) (gCons (gVar 2) gNil)) (gVar 3))) (gNt (gTru (gIsiT "str" (gCall sp_kind_shown (fun _ _ _ => False) (gCons (gVar 2) gNil)))))) (gRet (gC (.bl false))) gNext) (gSeq (gSet 4 (gCall sp_kind_read (fun _ _ _ => False) (gCons (gVar 3) gNil))) (gRet (gAndV (gBin (rFun (eqF false)) (gVar 4) (gVar 2)) (gAndV (gIsiT "tuple" (gVar 4)) (gCall sp__law_is_kind (fun _ _ _ => False) (gCons (gVar 4) gNil)))))))))))))
theorem d_law {k : Nat} (T : Tx K mg base a) {k__law_state : Nat} {sp__law_state : Spw} (D__law_state : Df P w K mg base "_law_state" k__law_state 2 sp__law_state) (h__law_state : k__law_state ≤ k) {k__law_kind : Nat} {sp__law_kind : Spw} (D__law_kind : Df P w K mg base "_law_kind" k__law_kind 2 sp__law_kind) (h__law_kind : k__law_kind ≤ k) {k__law_take : Nat} {sp__law_take : Spw} (D__law_take : Df P w K mg base "_law_take" k__law_take 2 sp__law_take) (h__law_take : k__law_take ≤ k) {k__law_some_names : Nat} {sp__law_some_names : Spw} (D__law_some_names : Df P w K mg base "_law_some_names" k__law_some_names 1 sp__law_some_names) (h__law_some_names : k__law_some_names ≤ k) {k__law_renamed : Nat} {sp__law_renamed : Spw} (D__law_renamed : Df P w K mg base "_law_renamed" k__law_renamed 2 sp__law_renamed) (h__law_renamed : k__law_renamed ≤ k) {k__law_text : Nat} {sp__law_text : Spw} (D__law_text : Df P w K mg base "_law_text" k__law_text 1 sp__law_text) (h__law_text : k__law_text ≤ k) {k_kind_shown : Nat} {sp_kind_shown : Spw} (D_kind_shown : Df P w K mg base "kind_shown" k_kind_shown 1 sp_kind_shown) (h_kind_shown : k_kind_shown ≤ k) {k_kind_read : Nat} {sp_kind_read : Spw} (D_kind_read : Df P w K mg base "kind_read" k_kind_read 1 sp_kind_read) (h_kind_read : k_kind_read ≤ k) {k__law_is_kind : Nat} {sp__law_is_kind : Spw} (D__law_is_kind : Df P w K mg base "_law_is_kind" k__law_is_kind 1 sp__law_is_kind) (h__law_is_kind : k__law_is_kind ≤ k) {f : Addr} {cdv : Value} {A : Around} {outer : List Env} {s : Shared} {H : Hp} {E : XK} (hr : Room k (A.deeper (envOfC "law" (defScope s_law) s.heap.objs.size f cdv))) : Ssm (cxW P w K mg base n_law "law" (defScope s_law) f cdv A outer s H E).nox (fun B => B = H) (defBody s_law) (g_law sp__law_state sp__law_kind sp__law_take sp__law_some_names sp__law_renamed sp__law_text sp_kind_shown sp_kind_read sp__law_is_kind) :=
  have hu := u100 hr
  (ssm_cons (sm_s (i := 1) c_law.nd rfl rfl rfl (em_call D__law_state (hr.mono h__law_state) rfl passF rfl rfl rfl (am_cons rfl (em_v (i := 0) rfl rfl rfl rfl) (am_cons rfl em_int am_nil)))) (ssm_cons (sm_s (i := 2) c_law.nd rfl rfl rfl (em_call D__law_kind (hr.mono h__law_kind) rfl passF rfl rfl rfl (am_cons rfl (em_v (i := 1) rfl rfl rfl rfl) (am_cons rfl em_int am_nil)))) (ssm_cons (sm_if (tm_cmp (cop_eq hu) rfl (em_call D__law_take (hr.mono h__law_take) rfl passF rfl rfl rfl (am_cons rfl (em_v (i := 1) rfl rfl rfl rfl) (am_cons rfl em_int am_nil))) em_int) (ssm_cons (sm_s (i := 2) c_law.nd rfl rfl rfl (em_call D__law_kind (hr.mono h__law_kind) rfl passF rfl rfl rfl (am_cons rfl (em_v (i := 1) rfl rfl rfl rfl) (am_cons rfl em_int am_nil)))) (ssm_one (sm_for PassesOwn.never rfl (fun _ => rfl) (im_range T.n_range rfl rfl (am_cons rfl (em_call D__law_take (hr.mono h__law_take) rfl passF rfl rfl rfl (am_cons rfl (em_v (i := 1) rfl rfl rfl rfl) (am_cons rfl em_int am_nil))) am_nil)) (tg_name (i := 5) c_law.nd rfl (.inl rfl) (.inr rfl)) (ssm_one (sm_s (i := 2) c_law.nd rfl rfl rfl (em_tup (am_cons rfl em_str (am_cons rfl (em_v (i := 2) rfl rfl rfl rfl) am_nil)))))))) ssm_nil) (ssm_cons (sm_s (i := 2) c_law.nd rfl rfl rfl (em_call D__law_renamed (hr.mono h__law_renamed) rfl passF rfl rfl rfl (am_cons rfl (em_v (i := 2) rfl rfl rfl rfl) (am_cons rfl (em_call D__law_some_names (hr.mono h__law_some_names) rfl passF rfl rfl rfl (am_cons rfl (em_v (i := 1) rfl rfl rfl rfl) am_nil)) am_nil)))) (ssm_cons (sm_if (tm_cmp cop_gt rfl (em_fn bt_len (blt_len) rfl T.n_len (by decide) rfl rfl rfl (am_cons rfl (em_call D__law_text (hr.mono h__law_text) rfl passF rfl rfl rfl (am_cons rfl (em_v (i := 2) rfl rfl rfl rfl) am_nil)) am_nil)) em_int) (ssm_one (sm_s (i := 2) c_law.nd rfl rfl rfl (em_tup (am_cons rfl em_str (am_cons rfl (em_tup (am_cons rfl em_str am_nil)) am_nil))))) ssm_nil) (ssm_cons (sm_s (i := 3) c_law.nd rfl rfl rfl (em_call D__law_text (hr.mono h__law_text) rfl passF rfl rfl rfl (am_cons rfl (em_v (i := 2) rfl rfl rfl rfl) am_nil))) (ssm_cons (sm_if (tm_bool (wm_or (tm_cmp (cop_ne hu) rfl (em_call D_kind_shown (hr.mono h_kind_shown) rfl passF rfl rfl rfl (am_cons rfl (em_v (i := 2) rfl rfl rfl rfl) am_nil)) (em_v (i := 3) rfl rfl rfl rfl)) (wm_or1 (tm_not (tm_tru (fun _ => rfl) (em_isiT (T := "str") (by decide) bt_str T.n_str T.n_isinstance rfl rfl (by decide) rfl rfl rfl (em_call D_kind_shown (hr.mono h_kind_shown) rfl passF rfl rfl rfl (am_cons rfl (em_v (i := 2) rfl rfl rfl rfl) am_nil)))))))) (ssm_one (sm_ret em_bl)) ssm_nil) (ssm_cons (sm_s (i := 4) c_law.nd rfl rfl rfl (em_call D_kind_read (hr.mono h_kind_read) rfl passF rfl rfl rfl (am_cons rfl (em_v (i := 3) rfl rfl rfl rfl) am_nil))) (ssm_one (sm_ret (em_and (em_cmp (cop_eq hu) rfl (em_v (i := 4) rfl rfl rfl rfl) (em_v (i := 2) rfl rfl rfl rfl)) (em_and (em_isiT (T := "tuple") (by decide) bt_tuple T.n_tuple T.n_isinstance rfl rfl (by decide) rfl rfl rfl (em_v (i := 4) rfl rfl rfl rfl)) (em_one (em_call D__law_is_kind (hr.mono h__law_is_kind) rfl passF rfl rfl rfl (am_cons rfl (em_v (i := 4) rfl rfl rfl rfl) am_nil)))))))))))))))
end
/-- a reader at a place of its text -/
noncomputable def rdr (C : Addr) (T : Str) (i : Nat) : HW := .ins C [("text", .str T), ("place", .int i)]
theorem ne_tp : (("place" : Str) == ("text" : Str)) = false := by decide +kernel
theorem ne_tp' : ¬ (("text" : Str) = ("place" : Str)) := by decide +kernel
theorem lk_text {x y : W} : List.lookup ("text" : Str) ([("text", x), ("place", y)] : List (Str × W)) = some x := by rw [List.lookup_cons, beq_self_eq_true]
theorem lk_place {x y : W} : List.lookup ("place" : Str) ([("text", x), ("place", y)] : List (Str × W)) = some y := by rw [List.lookup_cons, ne_tp, List.lookup_cons, beq_self_eq_true]
theorem pw_place {x y z : W} : putW "place" z [("text", x), ("place", y)] = ([("text", x), ("place", z)] : List (Str × W)) := by
  unfold putW; rw [if_neg ne_tp']; unfold putW; rw [if_pos rfl]
local macro_rules | `(tactic| walk_at "rd") => `(tactic| ((try dsimp only [gFld, gSetF, gAugF, gMeth, gMake, gSlA, gCompC, gIterS, rAddA_tup, capO, lk_text, lk_place, gSeq, gIf, gRet, gSet, gDrop, gNext, gVar, gC, gBin, gTB, gTru, gNt, gAnd, gOr, gAndV, gOrV, gIte, L3.gTup, gLst, L3.gCons, L3.gNil, gCall, gB, rF, rFun, gIsiT, gMt, gAug, gChain, rOrd, rCmp, rInt, L3.rAdd, rIAdd, gSl, gPart, gNoPart, gComp, gIter, gZip, endsW, startW, List.map_cons, List.map_nil, List.length_cons, List.length_nil, List.cons_append, List.nil_append, List.getElem?_cons_zero, List.getElem?_cons_succ, List.set_cons_zero, List.set_cons_succ, List.replicate, truW, tyN, opt_some, atI_0, atI_1, atI_2, ixW, eqF, eqW, lenF, lenW, allF, List.getElem?_nil]); (try simp only [gFld, gSetF, gAugF, gMeth, gMake, gSlA, gCompC, gIterS, rAddA_tup, capO, lk_text, lk_place, gSeq, gIf, gRet, gSet, gDrop, gNext, gVar, gC, gBin, gTB, gTru, gNt, gAnd, gOr, gAndV, gOrV, gIte, L3.gTup, gLst, L3.gCons, L3.gNil, gCall, gB, rF, rFun, gIsiT, gMt, gAug, gChain, rOrd, rCmp, rInt, L3.rAdd, rIAdd, gSl, gPart, gNoPart, gComp, gIter, gZip, endsW, startW, List.map_cons, List.map_nil, List.length_cons, List.length_nil, List.cons_append, List.nil_append, List.getElem?_cons_zero, List.getElem?_cons_succ, List.set_cons_zero, List.set_cons_succ, List.replicate, truW, tyN, opt_some, atI_0, atI_1, atI_2, ixW, eqF, eqW, lenF, lenW, allF, List.getElem?_nil])))
noncomputable def spInit (a : Adr) : Spw := fun ws G Q _ => ∃ (r : Addr) (T : Str), ws = [.ref r, .str T] ∧ G r = some (.ins a.Reader []) ∧ Q .non (put G r (rdr a.Reader T 0))
theorem spInit_M : Spw.M (spInit a) := (by rintro ws G Q Q' E E' h _ ⟨r, T, h1, h2, q⟩; exact ⟨r, T, h1, h2, h _ _ q⟩)
theorem k_init (T : Tx K mg base a) : DfI P w K mg base "Reader" a.Reader 1 2 (spInit a) := by
  refine mkI0 T.f_Reader___init__ rfl c_Reader___init__ spInit_M ((by rintro ws G Q E ⟨r, T, e, _⟩; rw [e]; rfl)) (d_Reader___init__ (k := 0) T) fun ws G Q E hC q => ?_
  obtain ⟨r, T, rfl, h, q⟩ := q
  unfold g_Reader___init__
  walk_at "rd"
  refine ⟨r, [], rfl, h, by decide, r, _, rfl, put_same, Nat.lt_of_lt_of_le (show 1 < 2 by decide) (by decide), ?_⟩
  rw [put_put]
  have e : putW "place" (.int 0) (putW "text" (.str T) []) = ([("text", .str T), ("place", .int 0)] : List (Str × W)) := by
    show putW "place" (.int 0) [("text", .str T)] = _
    unfold putW; rw [if_neg ne_tp']; rfl
  rw [e]
  exact q
/-- takes -/
noncomputable def starts (T : Str) (i : Nat) (p : Str) : Bool := Txt.startswith3 T p i
noncomputable def spTakes (a : Adr) : Spw := fun ws G Q _ => ∃ (r : Addr) (T : Str) (i : Nat) (p : Str), ws = [.ref r, .str p] ∧ G r = some (rdr a.Reader T i) ∧ T.length ≤ 1000 ∧ p.length ≤ 100 ∧
  (starts T i p = true → Q (.bl true) (put G r (rdr a.Reader T (i + p.length)))) ∧ (starts T i p = false → Q (.bl false) G)
theorem spTakes_M : Spw.M (spTakes a) := (by rintro ws G Q Q' E E' h _ ⟨r, T, i, p, h1, h2, h3, h4, q1, q2⟩; exact ⟨r, T, i, p, h1, h2, h3, h4, fun z => h _ _ (q1 z), fun z => h _ _ (q2 z)⟩)
theorem le_size {n : Nat} (h : n ≤ 1000) : n ≤ sizeLine := Nat.le_trans h (by decide)
noncomputable def spSees (a : Adr) : Spw := fun ws G Q _ => ∃ (r : Addr) (T : Str) (i : Nat) (p : Str), ws = [.ref r, .str p] ∧ G r = some (rdr a.Reader T i) ∧ Q (.bl (starts T i p)) G
theorem spSees_M : Spw.M (spSees a) := (by rintro ws G Q Q' E E' h _ ⟨r, T, i, p, h1, h2, q⟩; exact ⟨r, T, i, p, h1, h2, h _ _ q⟩)
theorem k_sees (T : Tx K mg base a) : DfM P w K mg base a.Reader "sees" 1 2 (spSees a) := by
  refine mkM0 T.f_Reader_sees rfl c_Reader_sees spSees_M ((by rintro ws G Q E ⟨r, T, i, p, e, _⟩; rw [e]; rfl)) (d_Reader_sees (k := 0) T) fun ws G Q E hC q => ?_
  obtain ⟨r, T, i, p, rfl, h, q⟩ := q
  unfold g_Reader_sees
  walk_at "rd"
  refine ⟨r, _, _, rfl, h, lk_text, ⟨T, rfl⟩, r, _, _, rfl, h, lk_place, ?_⟩
  unfold rStarts
  exact q
theorem nomth {C : Addr} {T : Str} {i : Nat} {m : Str} (h1 : (m == ("text" : Str)) = false) (h2 : (m == ("place" : Str)) = false) : List.lookup m ([("text", W.str T), ("place", W.int i)] : List (Str × W)) = none := by rw [List.lookup_cons, h1, List.lookup_cons, h2]; rfl
theorem k_takes (T : Tx K mg base a) : DfM P w K mg base a.Reader "takes" 2 2 (spTakes a) := by
  refine mkM0 T.f_Reader_takes rfl c_Reader_takes spTakes_M ((by rintro ws G Q E ⟨r, T, i, p, e, _⟩; rw [e]; rfl)) (d_Reader_takes (k := 1) T (k_sees T) (Nat.le_refl _)) fun ws G Q E hC q => ?_
  obtain ⟨r, T, i, p, rfl, h, hT, hp, q1, q2⟩ := q
  unfold g_Reader_takes
  walk_at "rd"
  refine ⟨r, _, rfl, h, nomth (C := r) (by decide +kernel) (by decide +kernel), r, T, i, p, rfl, h, ?_⟩
  dsimp only
  cases hs : starts T i p with
  | false => simp only [Bool.not_false, if_true]; exact q2 hs
  | true =>
    simp only [Bool.not_true, Bool.false_eq_true, if_false]
    refine ⟨r, _, i, rfl, h, lk_place, ?_⟩
    rw [if_pos (le_size (by omega))]
    simp only [opt_some]
    refine ⟨_, _, rfl, h, by simp, ?_⟩
    rw [pw_place]
    exact q1 hs
noncomputable def spWants (a : Adr) : Spw := fun ws G Q _ => ∃ (r : Addr) (T : Str) (i : Nat) (p : Str), ws = [.ref r, .str p] ∧ G r = some (rdr a.Reader T i) ∧ T.length ≤ 1000 ∧ p.length ≤ 100 ∧ starts T i p = true ∧ Q .non (put G r (rdr a.Reader T (i + p.length)))
theorem spWants_M : Spw.M (spWants a) := (by rintro ws G Q Q' E E' h _ ⟨r, T, i, p, h1, h2, h3, h4, h5, q⟩; exact ⟨r, T, i, p, h1, h2, h3, h4, h5, h _ _ q⟩)
theorem k_wants (T : Tx K mg base a) : DfM P w K mg base a.Reader "wants" 3 2 (spWants a) := by
  refine mkM0 T.f_Reader_wants rfl c_Reader_wants spWants_M ((by rintro ws G Q E ⟨r, T, i, p, e, _⟩; rw [e]; rfl)) (d_Reader_wants (k := 2) T (k_takes T) (Nat.le_refl _)) fun ws G Q E hC q => ?_
  obtain ⟨r, T, i, p, rfl, h, hT, hp, hs, q⟩ := q
  unfold g_Reader_wants
  walk_at "rd"
  refine ⟨r, _, rfl, h, nomth (C := r) (by decide +kernel) (by decide +kernel), r, T, i, p, rfl, h, hT, hp, fun _ => ?_, fun z => by rw [hs] at z; cases z⟩
  simp only [Bool.not_true, Bool.false_eq_true, if_false]
  exact q
noncomputable def spEnd (a : Adr) : Spw := fun ws G Q _ => ∃ (r : Addr) (T : Str) (i : Nat), ws = [.ref r] ∧ G r = some (rdr a.Reader T i) ∧ T.length ≤ 1000 ∧ T.length ≤ i ∧ Q .non G
theorem spEnd_M : Spw.M (spEnd a) := (by rintro ws G Q Q' E E' h _ ⟨r, T, i, h1, h2, h3, h4, q⟩; exact ⟨r, T, i, h1, h2, h3, h4, h _ _ q⟩)
theorem k_wants_end (T : Tx K mg base a) : DfM P w K mg base a.Reader "wants_end" 1 1 (spEnd a) := by
  refine mkM0 T.f_Reader_wants_end rfl c_Reader_wants_end spEnd_M ((by rintro ws G Q E ⟨r, T, i, e, _⟩; rw [e]; rfl)) (d_Reader_wants_end (k := 0) T) fun ws G Q E hC q => ?_
  obtain ⟨r, T, i, rfl, h, hT, hi, q⟩ := q
  unfold g_Reader_wants_end
  walk_at "rd"
  refine ⟨r, _, _, rfl, h, lk_place, r, _, _, rfl, h, lk_text, ?_⟩
  dsimp only
  rw [if_pos (le_size hT)]
  simp only [opt_some]
  rw [if_neg (by simp; omega)]
  exact q
noncomputable def isLet (c : Nat) : Bool := isLetter ⟨#[c]⟩
noncomputable def run (T : Str) (i : Nat) : List Nat := (T.cps.toList.drop i).takeWhile isLet
theorem str_len (T : Str) : T.length = T.cps.toList.length := by simp [Str.length]
theorem run_cons {T : Str} {j : Nat} {c : Nat} (h : T.cps.toList[j]? = some c) (hc : isLet c = true) : run T j = c :: run T (j + 1) := by
  obtain ⟨h1, h2⟩ := List.getElem?_eq_some_iff.mp h
  unfold run
  rw [List.drop_eq_getElem_cons h1, h2, List.takeWhile_cons, hc]; rfl
theorem run_nil {T : Str} {j : Nat} {c : Nat} (h : T.cps.toList[j]? = some c) (hc : isLet c = false) : run T j = [] := by
  obtain ⟨h1, h2⟩ := List.getElem?_eq_some_iff.mp h
  unfold run
  rw [List.drop_eq_getElem_cons h1, h2, List.takeWhile_cons, hc]; rfl
theorem run_end {T : Str} {j : Nat} (h : T.length ≤ j) : run T j = [] := by
  unfold run
  rw [List.drop_eq_nil_of_le (by rw [← str_len]; exact h)]; rfl
theorem put_id {G : Hw} {p : Addr} {o : HW} (h : G p = some o) : put G p o = G := by
  funext b
  by_cases e : b = p
  · subst e; rw [put_same, h]
  · rw [put_ne e]
theorem ixN_nat {n j : Nat} (h : j < n) : ixN n (j : Int) = some j := by
  unfold ixN; rw [if_pos (by omega), if_pos (by omega)]; rfl
theorem atI_nat {α : Type} {xs : List α} {j : Nat} (h : j < xs.length) : atI xs (j : Int) = xs[j]? := by
  unfold atI; rw [ixN_nat h]; rfl
theorem slice_nat {T : Str} {i j : Nat} (h : i ≤ j) (hj : j ≤ T.length) : Txt.slice T (some (i : Int)) (some (j : Int)) = ⟨((T.cps.toList.drop i).take (j - i)).toArray⟩ := PySem.StrLaws.sliceText_nat T h hj
noncomputable def spWord (a : Adr) : Spw := fun ws G Q _ => ∃ (r : Addr) (T : Str) (i : Nat), ws = [.ref r] ∧ G r = some (rdr a.Reader T i) ∧ T.length ≤ 1000 ∧ i ≤ T.length ∧ Q (.str ⟨(run T i).toArray⟩) (put G r (rdr a.Reader T (i + (run T i).length)))
theorem spWord_M : Spw.M (spWord a) := (by rintro ws G Q Q' E E' h _ ⟨r, T, i, h1, h2, h3, h4, q⟩; exact ⟨r, T, i, h1, h2, h3, h4, h _ _ q⟩)
theorem k_word (T : Tx K mg base a) : DfM P w K mg base a.Reader "word" 2 1 (spWord a) := by
  refine mkM0 T.f_Reader_word rfl c_Reader_word spWord_M ((by rintro ws G Q E ⟨r, T, i, e, _⟩; rw [e]; rfl)) (d_Reader_word (k := 1) T (k_is_small_letter T) (Nat.le_refl _)) fun ws G Q E hC q => ?_
  obtain ⟨r, T, i, rfl, h, hT, hi, q⟩ := q
  unfold g_Reader_word
  walk_at "rd"
  refine ⟨r, _, _, rfl, h, lk_place, ?_⟩
  refine ⟨fun m ω G' => ∃ j : Nat, m = T.length - j ∧ i ≤ j ∧ j ≤ T.length ∧ ω = [some (.ref r), some (.int i)] ∧ G' = put G r (rdr a.Reader T j) ∧ run T i = (T.cps.toList.drop i).take (j - i) ++ run T j,
    ⟨_, i, rfl, Nat.le_refl _, hi, rfl, (put_id h).symm, by simp⟩, ?_⟩
  rintro m ω G' ⟨j, rfl, hij, hj, rfl, rfl, hrun⟩
  have hG : (put G r (rdr a.Reader T j)) r = some (rdr a.Reader T j) := put_same
  have hlen : ∀ n : Nat, run T j = [] → n = j → i + (run T i).length = n := fun n e en => by
    rw [hrun, e, List.append_nil, List.length_take, List.length_drop, ← str_len]; omega
  have fin : run T j = [] → Q (.str (Txt.slice T (some (i : Int)) (some (j : Int)))) (put G r (rdr a.Reader T j)) := fun e => by
    rw [slice_nat hij hj]
    have e2 : (T.cps.toList.drop i).take (j - i) = run T i := by rw [hrun, e, List.append_nil]
    rw [e2, ← hlen j e rfl]
    exact q
  walk_at "rd"
  refine ⟨r, _, _, rfl, hG, lk_place, r, _, _, rfl, hG, lk_text, ?_⟩
  dsimp only
  rw [if_pos (le_size hT)]
  simp only [opt_some]
  by_cases hlt : j < T.length
  · rw [if_pos (by simpa using hlt)]
    refine ⟨r, _, _, rfl, hG, lk_text, r, _, _, rfl, hG, lk_place, ?_⟩
    have hl2 : j < T.cps.toList.length := by rw [← str_len]; exact hlt
    have hc : T.cps.toList[j]? = some T.cps.toList[j] := by simp [hl2]
    dsimp only
    rw [if_pos (le_size hT), atI_nat hl2, hc]
    simp only [Option.map_some, opt_some]
    refine ⟨_, rfl, ?_⟩
    change if isLet T.cps.toList[j] = true then _ else _
    cases hL : isLet T.cps.toList[j] with
    | true =>
      simp only [if_true]
      refine ⟨r, _, j, rfl, hG, lk_place, _, 1, rfl, hG, by simp, ?_⟩
      rw [pw_place, put_put]
      refine ⟨T.length - (j + 1), by omega, j + 1, (by first | rfl | trivial), by omega, by omega, (by first | rfl | trivial), (by first | rfl | trivial), ?_⟩
      rw [hrun, run_cons hc hL]
      have : j + 1 - i = (j - i) + 1 := by omega
      rw [this, List.take_add_one]
      have e3 : (T.cps.toList.drop i)[j - i]? = some T.cps.toList[j] := by rw [List.getElem?_drop, show i + (j - i) = j by omega, hc]
      rw [e3]
      simp
    | false =>
      simp only [Bool.false_eq_true, if_false]
      refine ⟨r, _, _, rfl, hG, lk_text, r, _, _, rfl, hG, lk_place, ?_⟩
      exact ⟨le_size hT, fin (run_nil hc hL)⟩
  · rw [if_neg (by simpa using hlt)]
    simp only [Bool.false_eq_true, if_false]
    refine ⟨r, _, _, rfl, hG, lk_text, r, _, _, rfl, hG, lk_place, ?_⟩
    exact ⟨le_size hT, fin (run_end (by omega))⟩
noncomputable def sign (m : Bool) : Str := if m then "" else "?"
noncomputable def dots (o : Bool) : List Str := if o then [".."] else []
mutual
noncomputable def Kd.txt : Kd → Str
  | .any => "any"
  | .num => "num"
  | .truth => "truth"
  | .to x y => "(" ++ x.txt ++ " > " ++ y.txt ++ ")"
  | .box x => "[" ++ x.txt ++ "]"
  | .row fs o => "{" ++ Txt.join ", " (fs.pcs ++ dots o) ++ "}"
noncomputable def Fs.pcs : Fs → List Str
  | .nil => []
  | .cons n m k r => (n ++ sign m ++ ": " ++ k.txt) :: r.pcs
end
noncomputable def Fs.toL : Fs → List (Str × Bool × Kd)
  | .nil => []
  | .cons n m k r => (n, m, k) :: r.toL
noncomputable def pc (x : Str × Bool × Kd) : Str := x.1 ++ sign x.2.1 ++ ": " ++ x.2.2.txt
theorem toL_enc : ∀ fs : Fs, fs.enc = fs.toL.map encF
  | .nil => rfl
  | .cons n m k r => by show _ :: r.enc = _ :: r.toL.map encF; rw [toL_enc r]; rfl
theorem toL_pcs : ∀ fs : Fs, fs.pcs = fs.toL.map pc
  | .nil => rfl
  | .cons n m k r => by show _ :: r.pcs = _ :: r.toL.map pc; rw [toL_pcs r]; rfl
theorem toL_ok : ∀ {fs : Fs}, fs.ok = true → ∀ x ∈ fs.toL, okName x.1 = true ∧ x.2.2.ok = true
  | .nil, _, x, hx => by cases hx
  | .cons n m k r, h, x, hx => by
    have h' : (okName n && k.ok && r.ok) = true := h
    simp only [Bool.and_eq_true] at h'
    rcases List.mem_cons.mp hx with rfl | hx
    · exact h'.1
    · exact toL_ok h'.2 x hx
theorem toL_dp : ∀ {fs : Fs} {n : Nat}, fs.dp ≤ n → ∀ x ∈ fs.toL, x.2.2.dp ≤ n
  | .nil, _, _, x, hx => by cases hx
  | .cons n m k r, j, h, x, hx => by
    have h' : max k.dp r.dp ≤ j := h
    rcases List.mem_cons.mp hx with rfl | hx
    · show k.dp ≤ j; omega
    · exact toL_dp (n := j) (by omega) x hx
theorem toL_cnt : ∀ {fs : Fs}, ∀ x ∈ fs.toL, x.2.2.cnt ≤ fs.cnt
  | .nil, x, hx => by cases hx
  | .cons n m k r, x, hx => by
    show x.2.2.cnt ≤ k.cnt + r.cnt
    rcases List.mem_cons.mp hx with rfl | hx
    · show k.cnt ≤ _; omega
    · have := toL_cnt x hx; omega
theorem toL_len : ∀ fs : Fs, fs.toL.length ≤ fs.cnt
  | .nil => Nat.le_refl _
  | .cons n m k r => by
    show r.toL.length + 1 ≤ k.cnt + r.cnt
    have := toL_len r
    have := cnt_pos k
    omega
theorem len_app (a b : Str) : (a ++ b).length = a.length + b.length := Str.length_append a b
theorem join_eq (sep : Str) (l : List Str) : Txt.join sep l = Str.join sep l := StrLaws.glued_eq_join sep l
theorem join_len (sep : Str) : ∀ l : List Str, (Str.join sep l).length ≤ (l.map (·.length)).sum + l.length * sep.length
  | [] => by simp [Str.join, Str.length, Str.empty]
  | [x] => by simp [Str.join]
  | x :: y :: r => by
    show (x ++ sep ++ Str.join sep (y :: r)).length ≤ _
    rw [len_app, len_app]
    have := join_len sep (y :: r)
    simp only [List.map_cons, List.sum_cons, List.length_cons, Nat.add_mul, Nat.one_mul] at this ⊢
    omega
theorem sign_len (m : Bool) : (sign m).length ≤ 1 := by cases m <;> decide
mutual
theorem txt_len : ∀ {k : Kd}, k.ok = true → k.txt.length + 13 ≤ 33 * k.cnt
  | .any, _ => by decide
  | .num, _ => by decide
  | .truth, _ => by decide
  | .to x y, h => by
    have h' : (x.ok && y.ok) = true := h
    simp only [Bool.and_eq_true] at h'
    have h1 := txt_len h'.1
    have h2 := txt_len h'.2
    show (("(" : Str) ++ x.txt ++ (" > " : Str) ++ y.txt ++ (")" : Str)).length + 13 ≤ 33 * (1 + (x.cnt + y.cnt))
    simp only [len_app]
    have e1 : ("(" : Str).length = 1 := rfl
    have e2 : (" > " : Str).length = 3 := rfl
    have e3 : (")" : Str).length = 1 := rfl
    omega
  | .box x, h => by
    have h1 := txt_len (k := x) h
    show (("[" : Str) ++ x.txt ++ ("]" : Str)).length + 13 ≤ 33 * (1 + x.cnt)
    simp only [len_app]
    have e1 : ("[" : Str).length = 1 := rfl
    have e3 : ("]" : Str).length = 1 := rfl
    omega
  | .row fs o, h => by
    have h' : (rise fs.names && fs.ok) = true := h
    simp only [Bool.and_eq_true] at h'
    have h1 := pcs_len h'.2
    show (("{" : Str) ++ Txt.join ", " (fs.pcs ++ dots o) ++ ("}" : Str)).length + 13 ≤ 33 * (1 + fs.cnt)
    rw [join_eq]
    simp only [len_app]
    have e1 : ("{" : Str).length = 1 := rfl
    have e3 : ("}" : Str).length = 1 := rfl
    have hj := join_len (", " : Str) (fs.pcs ++ dots o)
    have e4 : (", " : Str).length = 2 := rfl
    rw [List.map_append, List.sum_append, List.length_append, e4] at hj
    have hx : ((dots o).map (·.length)).sum + (dots o).length * 2 ≤ 4 := by cases o <;> decide
    omega
theorem pcs_len : ∀ {fs : Fs}, fs.ok = true → (fs.pcs.map (·.length)).sum + fs.pcs.length * 2 ≤ 33 * fs.cnt
  | .nil, _ => by decide
  | .cons n m k r, h => by
    have h' : (okName n && k.ok && r.ok) = true := h
    simp only [Bool.and_eq_true] at h'
    have h1 := txt_len h'.1.2
    have h2 := pcs_len h'.2
    have h3 := okName_len h'.1.1
    have h4 := sign_len m
    show (((n ++ sign m ++ (": " : Str) ++ k.txt) :: r.pcs).map (·.length)).sum + (r.pcs.length + 1) * 2 ≤ 33 * (k.cnt + r.cnt)
    rw [List.map_cons, List.sum_cons]
    simp only [len_app]
    have e1 : (": " : Str).length = 2 := rfl
    omega
end
theorem le_size3 {n : Nat} (h : n ≤ 100000) : n ≤ sizeLine := Nat.le_trans h (by decide)
theorem compA {α : Type} {enc f : α → W} {gd : Hw → Prop} {ge : GE} {R : List W → Hw → Prop} {G : Hw} (hgd : gd G) : ∀ (l : List α) (o : Option W) (ys : List W), (∀ x ∈ l, ∀ Q : Kw, Q (f x) G → ge [some (enc x)] G Q) →
    ys.length + l.length ≤ sizeLine → R (ys ++ l.map f) G → goComp gd (gNm 0) gYes ge R (l.map enc) [o] G ys
  | [], o, ys, _, _, r => ⟨hgd, by simpa using r⟩
  | x :: l, o, ys, h, hl, r => by
    refine ⟨hgd, by simp only [List.length_cons] at hl; omega, ?_⟩
    show ge [some (enc x)] G fun y G3 => goComp gd (gNm 0) gYes ge R (l.map enc) [some (enc x)] G3 (ys ++ [y])
    refine h x List.mem_cons_self _ (compA hgd l (some (enc x)) (ys ++ [f x]) (fun y hy => h y (List.mem_cons_of_mem _ hy)) ?_ ?_)
    · simp only [List.length_append, List.length_cons, List.length_nil] at hl ⊢; omega
    · simpa [List.append_assoc] using r
noncomputable abbrev spTxt (n : Nat) : Spw := spR (fun (k : Kd) ws _ => ws = [k.enc] ∧ k.ok = true ∧ k.dp ≤ n ∧ k.cnt ≤ 1000) fun k => .str k.txt
noncomputable abbrev spFldT (n : Nat) : Spw := spR (fun (x : Str × Bool × Kd) ws _ => ws = [encF x] ∧ okName x.1 = true ∧ x.2.2.ok = true ∧ x.2.2.dp ≤ n ∧ x.2.2.cnt ≤ 1000) fun x => .str (pc x)
noncomputable abbrev spRowT (n : Nat) : Spw := spR (fun (x : Fs × Bool) ws _ => ws = [(Kd.row x.1 x.2).enc] ∧ (Kd.row x.1 x.2).ok = true ∧ (Kd.row x.1 x.2).dp ≤ n + 1 ∧ (Kd.row x.1 x.2).cnt ≤ 1000) fun x => .str (Kd.row x.1 x.2).txt
theorem k_field_written (T : Tx K mg base a) {j n : Nat} (D : Df P w K mg base "written" j 1 (spTxt n)) : Df P w K mg base "field_written" (j + 1) 1 (spFldT n) := by
  refine mk0 T.f_field_written rfl c_field_written spR_M ((by rintro ws G Q E ⟨x, ⟨e, _⟩, _⟩; rw [e]; rfl)) (d_field_written T D (Nat.le_refl _)) fun ws G Q E hC q => ?_
  obtain ⟨⟨nm, m, k⟩, ⟨rfl, hn, ho, hd, hc⟩, q⟩ := q
  have h1 := txt_len ho
  have h2 := okName_len hn
  have h3 := sign_len m
  have e1 : (": " : Str).length = 2 := rfl
  unfold g_field_written encF
  walk_at "rd"
  have key : ∀ (z : Str), z.length ≤ 1 → Q (.str (nm ++ z ++ ": " ++ k.txt)) G → nm.length + z.length ≤ sizeLine ∧ (nm ++ z).length + (": " : Str).length ≤ sizeLine ∧ spTxt n [k.enc] G (fun y G2 => rAddA (W.str (nm ++ z ++ ": ")) y G2 Q) fun _ _ => False := fun z hz q => by
    dsimp only at h1 h2 hd ho hc
    refine ⟨le_size3 (by omega), le_size3 (by rw [len_app]; omega), k, ⟨rfl, ho, hd, hc⟩, ?_⟩
    exact ⟨le_size3 (by rw [len_app, len_app]; omega), q⟩
  cases m with
  | true =>
    have e : (mark true == ("must" : Str)) = true := by decide +kernel
    simp only [e, Option.map_some, opt_some, show (true != false) = true from rfl, if_true]
    exact key "" (by decide) q
  | false =>
    have e : (mark false == ("must" : Str)) = false := by decide +kernel
    simp only [e, Option.map_some, opt_some, bne_self_eq_false, Bool.false_eq_true, if_false]
    exact key "?" (by decide) q
theorem jn_mk {G : Hw} {p : Addr} {ys : List Str} {sep : Str} {Q : Kw} (h : G p = some (.lst (ys.map W.str))) (hw : (ys.map (·.length)).sum + ys.length * sep.length ≤ 16777216) (q : Q (.str (Txt.join sep ys)) G) : rJoin (.str sep) [.ref p] G Q :=
  ⟨sep, .ref p, _, ys, rfl, rfl, rd_ref h, strsOf_map id ys ▸ (by simp), hw, q⟩
theorem k_row_written (T : Tx K mg base a) {j n : Nat} (D : Df P w K mg base "field_written" j 1 (spFldT n)) : Df P w K mg base "row_written" (j + 1) 1 (spRowT n) := by
  refine mk0 T.f_row_written rfl c_row_written spR_M ((by rintro ws G Q E ⟨x, ⟨e, _⟩, _⟩; rw [e]; rfl)) (d_row_written T D (Nat.le_refl _)) fun ws G Q E hC q => ?_
  obtain ⟨⟨fs, o⟩, ⟨rfl, ho, hd, hc⟩, q⟩ := q
  dsimp only at ho hd hc q
  have ho' : (rise fs.names && fs.ok) = true := ho
  simp only [Bool.and_eq_true] at ho'
  have hd' : 1 + fs.dp ≤ n + 1 := hd
  have hc' : 1 + fs.cnt ≤ 1000 := hc
  have hp := pcs_len ho'.2
  have hl := toL_len fs
  unfold g_row_written
  simp only [Kd.enc]
  walk_at "rd"
  have fin : ∀ (G' : Hw) (p : Addr), G' p = some (.lst ((fs.pcs ++ dots o).map W.str)) → Sub G G' → isStr (W.str ", ") G' ∧ rJoin (W.str ", ") [W.ref p] G' fun y G2 => rAddA (W.str "{") y G2 fun x G1 => rAddA x (W.str "}") G1 Q := fun G' p h sb => by
    have e4 : (", " : Str).length = 2 := rfl
    have hx : ((dots o).map (·.length)).sum + (dots o).length * 2 ≤ 4 := by cases o <;> decide
    have hj := join_len (", " : Str) (fs.pcs ++ dots o)
    have hs : ((fs.pcs ++ dots o).map (·.length)).sum + (fs.pcs ++ dots o).length * (", " : Str).length ≤ 33 * fs.cnt + 4 := by
      rw [List.map_append, List.sum_append, List.length_append, e4]; omega
    have e1 : ("{" : Str).length = 1 := rfl
    have e3 : ("}" : Str).length = 1 := rfl
    refine ⟨⟨_, rfl⟩, jn_mk h (by omega) ?_⟩
    refine ⟨le_size3 (by rw [join_eq, e1]; omega), le_size3 (by rw [len_app, join_eq, e1, e3]; omega), ?_⟩
    exact hC _ _ _ sb q
  rw [toL_enc]
  refine compA (f := fun x => .str (pc x)) trivial fs.toL none [] (fun x hx Q' q' => ?_) (by simp only [List.length_nil]; exact le_size3 (by omega)) fun p hp1 => ?_
  · exact ⟨x, ⟨rfl, (toL_ok ho'.2 x hx).1, (toL_ok ho'.2 x hx).2, toL_dp (by omega) x hx, Nat.le_trans (toL_cnt x hx) (by omega)⟩, q'⟩
  · have e : [] ++ fs.toL.map (fun x => W.str (pc x)) = fs.pcs.map W.str := by rw [toL_pcs, List.map_map]; rfl
    rw [e]
    have hz : (fs.pcs.map W.str).length < sizeLine := Nat.lt_of_le_of_lt (m := 1000) (by rw [List.length_map, toL_pcs, List.length_map]; omega) (by decide)
    cases o with
    | true =>
      simp only [if_true]
      refine ⟨isLst_mk put_same, app_mk put_same hz ?_⟩
      rw [put_put]
      exact fin _ p (by rw [put_same]; simp [dots]) (Sub.refl.put hp1)
    | false =>
      simp only [Bool.false_eq_true, if_false]
      exact fin _ p (by rw [put_same]; simp [dots]) (Sub.refl.put hp1)
theorem n1 : (("box" : Str) == ("to" : Str)) = false := by decide +kernel
theorem n2 : (("row" : Str) == ("to" : Str)) = false := by decide +kernel
theorem n3 : (("row" : Str) == ("box" : Str)) = false := by decide +kernel
theorem b1 : (true != false) = true := rfl
theorem b2 : (false != false) = false := rfl
theorem k_written (T : Tx K mg base a) : ∀ n : Nat, Df P w K mg base "written" (3 * n + 1) 1 (spTxt n)
  | 0 => no_df T.f_written spR_M (by rintro ws G Q E ⟨k, ⟨_, _, h, _⟩, _⟩; have := dp_pos k; omega)
  | n + 1 => by
    have D := k_written T n
    have DF := k_field_written T D
    have DR := k_row_written T DF
    refine mk0 (k := 3 * n + 3) T.f_written rfl c_written spR_M ((by rintro ws G Q E ⟨x, ⟨e, _⟩, _⟩; rw [e]; rfl)) (d_written T D (by omega) DR (by omega)) fun ws G Q E hC q => ?_
    obtain ⟨k, ⟨rfl, ho, hd, hc⟩, q⟩ := q
    unfold g_written
    cases k with
    | any => simp only [Kd.enc]; walk_at "rd"; exact q
    | num => simp only [Kd.enc]; walk_at "rd"; exact q
    | truth => simp only [Kd.enc]; walk_at "rd"; exact q
    | to x y =>
      have ho' : (x.ok && y.ok) = true := ho
      simp only [Bool.and_eq_true] at ho'
      have hd' : 1 + max x.dp y.dp ≤ n + 1 := hd
      have hc' : 1 + (x.cnt + y.cnt) ≤ 1000 := hc
      have h1 := txt_len ho'.1
      have h2 := txt_len ho'.2
      have e1 : ("(" : Str).length = 1 := rfl
      have e2 : (" > " : Str).length = 3 := rfl
      have e3 : (")" : Str).length = 1 := rfl
      simp only [Kd.enc]; walk_at "rd"
      simp only [beq_self_eq_true, n1, n2, n3, b1, b2, Option.map_some, opt_some, if_true, Bool.false_eq_true, if_false]
      refine ⟨x, ⟨rfl, ho'.1, by omega, by omega⟩, le_size3 (by omega), le_size3 (by rw [len_app]; omega), y, ⟨rfl, ho'.2, by omega, by omega⟩, le_size3 (by rw [len_app, len_app]; omega), le_size3 (by rw [len_app, len_app, len_app]; omega), q⟩
    | box x =>
      have hd' : 1 + x.dp ≤ n + 1 := hd
      have hc' : 1 + x.cnt ≤ 1000 := hc
      have h1 := txt_len (k := x) ho
      have e1 : ("[" : Str).length = 1 := rfl
      have e3 : ("]" : Str).length = 1 := rfl
      simp only [Kd.enc]; walk_at "rd"
      simp only [beq_self_eq_true, n1, n2, n3, b1, b2, Option.map_some, opt_some, if_true, Bool.false_eq_true, if_false]
      exact ⟨x, ⟨rfl, ho, by omega, by omega⟩, le_size3 (by omega), le_size3 (by rw [len_app]; omega), q⟩
    | row fs o =>
      simp only [Kd.enc]; walk_at "rd"
      simp only [beq_self_eq_true, n1, n2, n3, b1, b2, Option.map_some, opt_some, if_true, Bool.false_eq_true, if_false]
      exact ⟨(fs, o), ⟨rfl, ho, hd, hc⟩, q⟩
theorem k_kind_shown (T : Tx K mg base a) : Df P w K mg base "kind_shown" 30 1 (spR (fun (k : Kd) ws _ => ws = [k.enc] ∧ k.ok = true ∧ good k = true) fun k => .str k.txt) := by
  refine mk0 (k := 29) T.f_kind_shown rfl c_kind_shown spR_M ((by rintro ws G Q E ⟨x, ⟨e, _⟩, _⟩; rw [e]; rfl)) (d_kind_shown T (k_check_kind T) (by omega) (k_written T 8) (by omega)) fun ws G Q E hC q => ?_
  obtain ⟨k, ⟨rfl, ho, hg⟩, q⟩ := q
  have hg' : k.cnt ≤ 40 ∧ k.dp ≤ 8 := of_decide_eq_true hg
  unfold g_kind_shown
  walk_at "rd"
  exact ⟨k, ⟨rfl, ho, by omega, hg⟩, k, ⟨rfl, ho, hg'.2, by omega⟩, q⟩
set_option Elab.async false
set_option linter.all false
set_option maxRecDepth 100000
set_option maxHeartbeats 4000000
noncomputable def cs (s : Str) : List Nat := s.cps.toList
theorem cs_app (x y : Str) : cs (x ++ y) = cs x ++ cs y := by unfold cs; rw [Str.cps_append]; simp
theorem cs_len (s : Str) : (cs s).length = s.length := (str_len s).symm
noncomputable def At (T : Str) (i : Nat) (s : List Nat) : Prop := (cs T).drop i = s ∧ i ≤ T.length
theorem At.next {T : Str} {i : Nat} {x s : List Nat} (h : At T i (x ++ s)) : At T (i + x.length) s := by
  obtain ⟨h1, h2⟩ := h
  have e : (cs T).length - i = x.length + s.length := by rw [← List.length_drop, h1, List.length_append]
  rw [cs_len] at e
  refine ⟨by rw [← List.drop_drop, h1, List.drop_left], by omega⟩
theorem At.nextS {T p : Str} {i : Nat} {s : List Nat} (h : At T i (cs p ++ s)) : At T (i + p.length) s := by rw [← cs_len]; exact h.next
theorem starts_take {T p : Str} {i : Nat} (hi : i ≤ T.length) : starts T i p = decide (((cs T).drop i).take p.length = cs p) := by
  have e : fromIndex T.length (i : Int) = i := by unfold fromIndex; rw [if_neg (by omega)]; omega
  unfold starts Txt.startswith3
  rw [e]
  unfold Builtin.Str.subAt
  rw [StrLaws.beq_toList, Array.toList_extract]
  have e2 : T.cps.toList.extract i (i + p.length) = ((cs T).drop i).take p.length := by
    rw [List.extract_eq_take_drop]; rw [show i + p.length - i = p.length by omega]; rfl
  rw [e2]
  by_cases h : ((cs T).drop i).take p.length = cs p
  · have hl : i + p.length ≤ T.length := by
      have := congrArg List.length h
      rw [List.length_take, List.length_drop, cs_len, cs_len] at this
      omega
    rw [decide_eq_true h, decide_eq_true hl, h]
    simp [cs]
  · rw [decide_eq_false h]
    have : (((cs T).drop i).take p.length == p.cps.toList) = false := by simpa [cs] using h
    rw [this, Bool.and_false]
theorem starts_yes {T p : Str} {i : Nat} {s : List Nat} (h : At T i (cs p ++ s)) : starts T i p = true := by
  rw [starts_take h.2, h.1, ← cs_len, List.take_left]
  simp
theorem starts_no {T p : Str} {i d : Nat} {s pr : List Nat} (h : At T i s) (hp : cs p = d :: pr) (hs : s.head? ≠ some d) : starts T i p = false := by
  rw [starts_take h.2, h.1, ← cs_len, hp]
  refine decide_eq_false fun e => hs ?_
  cases s with
  | nil => simp at e
  | cons c r =>
    rw [List.length_cons, List.take_succ_cons] at e
    exact congrArg some (List.cons.inj e).1
section
variable {G : Hw} {r : Addr} {T p : Str} {i : Nat} {Q : Kw} {E : Addr → Hw → Prop}
theorem takes_y (h : G r = some (rdr a.Reader T i)) (hT : T.length ≤ 1000) {s : List Nat} (hs : At T i (cs p ++ s)) (hp : p.length ≤ 100) (q : Q (.bl true) (put G r (rdr a.Reader T (i + p.length)))) :
    ∃ x fs, W.ref r = .ref x ∧ G x = some (.ins a.Reader fs) ∧ fs.lookup ("takes" : Str) = none ∧ spTakes a [.ref r, .str p] G Q E :=
  ⟨r, _, rfl, h, nomth (C := r) (by decide +kernel) (by decide +kernel), r, T, i, p, rfl, h, hT, hp, fun _ => q, (fun z => by rw [starts_yes hs] at z; cases z)⟩
theorem takes_n (h : G r = some (rdr a.Reader T i)) (hT : T.length ≤ 1000) {s pr : List Nat} {d : Nat} (hs : At T i s) (hd : cs p = d :: pr) (hn : s.head? ≠ some d) (hp : p.length ≤ 100) (q : Q (.bl false) G) :
    ∃ x fs, W.ref r = .ref x ∧ G x = some (.ins a.Reader fs) ∧ fs.lookup ("takes" : Str) = none ∧ spTakes a [.ref r, .str p] G Q E :=
  ⟨r, _, rfl, h, nomth (C := r) (by decide +kernel) (by decide +kernel), r, T, i, p, rfl, h, hT, hp, (fun z => by rw [starts_no hs hd hn] at z; cases z), fun _ => q⟩
theorem wants_y (h : G r = some (rdr a.Reader T i)) (hT : T.length ≤ 1000) {s : List Nat} (hs : At T i (cs p ++ s)) (hp : p.length ≤ 100) (q : Q .non (put G r (rdr a.Reader T (i + p.length)))) :
    ∃ x fs, W.ref r = .ref x ∧ G x = some (.ins a.Reader fs) ∧ fs.lookup ("wants" : Str) = none ∧ spWants a [.ref r, .str p] G Q E :=
  ⟨r, _, rfl, h, nomth (C := r) (by decide +kernel) (by decide +kernel), r, T, i, p, rfl, h, hT, hp, starts_yes hs, q⟩
noncomputable def stop (s : List Nat) : Prop := ∀ c, s.head? = some c → isLet c = false
theorem run_of {s x : List Nat} (h : At T i (x ++ s)) (hx : ∀ c ∈ x, isLet c = true) (hs : stop s) : K3.run T i = x := by
  unfold K3.run
  rw [show T.cps.toList.drop i = x ++ s from h.1, List.takeWhile_append_of_pos hx]
  cases s with
  | nil => simp
  | cons c r => rw [List.takeWhile_cons, hs c rfl]; simp
theorem word_y (h : G r = some (rdr a.Reader T i)) (hT : T.length ≤ 1000) {s : List Nat} (hs : At T i (cs p ++ s)) (hx : ∀ c ∈ cs p, isLet c = true) (hst : stop s) (q : Q (.str p) (put G r (rdr a.Reader T (i + p.length)))) :
    ∃ x fs, W.ref r = .ref x ∧ G x = some (.ins a.Reader fs) ∧ fs.lookup ("word" : Str) = none ∧ spWord a [.ref r] G Q E := by
  refine ⟨r, _, rfl, h, nomth (C := r) (by decide +kernel) (by decide +kernel), r, T, i, rfl, h, hT, hs.2, ?_⟩
  rw [run_of hs hx hst, cs_len]
  exact q
end
theorem stop_of {p : Str} {d : Nat} {pr s : List Nat} (h : cs p = d :: pr) (hl : isLet d = false) : stop (cs p ++ s) := fun c hc => by
  rw [h] at hc
  cases hc
  exact hl
theorem c_rb : cs "]" = [93] := by decide +kernel
theorem c_lb : cs "[" = [91] := by decide +kernel
theorem c_lp : cs "(" = [40] := by decide +kernel
theorem c_rp : cs ")" = [41] := by decide +kernel
theorem c_lc : cs "{" = [123] := by decide +kernel
theorem c_rc : cs "}" = [125] := by decide +kernel
theorem c_gt : cs " > " = [32, 62, 32] := by decide +kernel
theorem c_q : cs "?" = [63] := by decide +kernel
theorem c_co : cs ": " = [58, 32] := by decide +kernel
theorem c_cm : cs ", " = [44, 32] := by decide +kernel
theorem c_dd : cs ".." = [46, 46] := by decide +kernel
noncomputable abbrev spFrom (a : Adr) (n : Nat) : Spw := fun ws G Q _ => ∃ (r : Addr) (T : Str) (i : Nat) (k : Kd) (d : Nat) (s : List Nat), ws = [.ref r, .int d] ∧ G r = some (rdr a.Reader T i) ∧ T.length ≤ 1000 ∧ k.ok = true ∧ k.dp ≤ n ∧ d + k.dp ≤ 9 ∧ At T i (cs k.txt ++ s) ∧ stop s ∧
  Q k.enc (put G r (rdr a.Reader T (i + k.txt.length)))
theorem spFrom_M {n : Nat} : Spw.M (spFrom a n) := (by rintro ws G Q Q' E E' h _ ⟨r, T, i, k, d, s, h1, h2, h3, h4, h5, h6, h7, h8, q⟩; exact ⟨r, T, i, k, d, s, h1, h2, h3, h4, h5, h6, h7, h8, h _ _ q⟩)
theorem k_box_from (T : Tx K mg base a) {j n : Nat} (hj : 3 ≤ j) (D : Df P w K mg base "kind_from" j 2 (spFrom a n)) : Df P w K mg base "box_from" (j + 1) 2 (fun ws G Q _ => ∃ (r : Addr) (T : Str) (i : Nat) (k : Kd) (d : Nat) (s : List Nat), ws = [.ref r, .int d] ∧ G r = some (rdr a.Reader T i) ∧ T.length ≤ 1000 ∧ k.ok = true ∧ k.dp ≤ n ∧ d + k.dp ≤ 8 ∧
    At T i (cs k.txt ++ cs "]" ++ s) ∧ Q (Kd.box k).enc (put G r (rdr a.Reader T (i + k.txt.length + 1)))) := by
  refine mk0 T.f_box_from rfl c_box_from ((by rintro ws G Q Q' E E' h _ ⟨r, T, i, k, d, s, h1, h2, h3, h4, h5, h6, h7, q⟩; exact ⟨r, T, i, k, d, s, h1, h2, h3, h4, h5, h6, h7, h _ _ q⟩)) ((by rintro ws G Q E ⟨r, T, i, k, d, s, e, _⟩; rw [e]; rfl)) (d_box_from T D (Nat.le_refl _) (k_wants T) hj) fun ws G Q E hC q => ?_
  obtain ⟨r, T, i, k, d, s, rfl, h, hT, ho, hn, hd, hA, q⟩ := q
  rw [List.append_assoc] at hA
  unfold g_box_from
  walk_at "rd"
  refine ⟨r, T, i, k, d + 1, cs "]" ++ s, rfl, h, hT, ho, hn, by omega, hA, stop_of c_rb (by decide +kernel), ?_⟩
  walk_at "rd"
  refine wants_y (T := T) put_same hT hA.nextS (by decide) ?_
  rw [put_put]
  exact ⟨by decide, q⟩
theorem k_function_from (T : Tx K mg base a) {j n : Nat} (hj : 3 ≤ j) (D : Df P w K mg base "kind_from" j 2 (spFrom a n)) : Df P w K mg base "function_from" (j + 1) 2 (fun ws G Q _ => ∃ (r : Addr) (T : Str) (i : Nat) (k l : Kd) (d : Nat) (s : List Nat), ws = [.ref r, .int d] ∧ G r = some (rdr a.Reader T i) ∧ T.length ≤ 1000 ∧ k.ok = true ∧ l.ok = true ∧ k.dp ≤ n ∧ l.dp ≤ n ∧ d + k.dp ≤ 8 ∧ d + l.dp ≤ 8 ∧
    At T i (cs k.txt ++ (cs " > " ++ (cs l.txt ++ (cs ")" ++ s)))) ∧ Q (Kd.to k l).enc (put G r (rdr a.Reader T (i + k.txt.length + 3 + l.txt.length + 1)))) := by
  refine mk0 T.f_function_from rfl c_function_from ((by rintro ws G Q Q' E E' h _ ⟨r, T, i, k, l, d, s, h1, h2, h3, h4, h5, h6, h7, h8, h9, h10, q⟩; exact ⟨r, T, i, k, l, d, s, h1, h2, h3, h4, h5, h6, h7, h8, h9, h10, h _ _ q⟩)) ((by rintro ws G Q E ⟨r, T, i, k, l, d, s, e, _⟩; rw [e]; rfl)) (d_function_from T D (Nat.le_refl _) (k_wants T) hj) fun ws G Q E hC q => ?_
  obtain ⟨r, T, i, k, l, d, s, rfl, h, hT, ho, ho2, hn, hn2, hd, hd2, hA, q⟩ := q
  unfold g_function_from
  walk_at "rd"
  refine ⟨r, T, i, k, d + 1, _, rfl, h, hT, ho, hn, by omega, hA, stop_of c_gt (by decide +kernel), ?_⟩
  walk_at "rd"
  refine wants_y (T := T) put_same hT hA.nextS (by decide) ?_
  rw [put_put]
  refine ⟨r, T, _, l, d + 1, _, rfl, put_same, hT, ho2, hn2, by omega, hA.nextS.nextS, stop_of c_rp (by decide +kernel), ?_⟩
  walk_at "rd"
  rw [put_put]
  refine wants_y (T := T) put_same hT hA.nextS.nextS.nextS (by decide) ?_
  rw [put_put]
  exact ⟨by decide, q⟩
theorem letters_of {n : Str} (h : okName n = true) : ∀ c ∈ cs n, isLet c = true := by
  unfold okName at h
  simp only [Bool.and_eq_true] at h
  exact fun c hc => List.all_eq_true.mp h.2 c hc
theorem k_field_from (T : Tx K mg base a) {j n : Nat} (hj : 3 ≤ j) (D : Df P w K mg base "kind_from" j 2 (spFrom a n)) : Df P w K mg base "field_from" (j + 1) 2 (fun ws G Q _ => ∃ (r : Addr) (T : Str) (i : Nat) (x : Str × Bool × Kd) (d : Nat) (s : List Nat), ws = [.ref r, .int d] ∧ G r = some (rdr a.Reader T i) ∧ T.length ≤ 1000 ∧ okName x.1 = true ∧ x.2.2.ok = true ∧ x.2.2.dp ≤ n ∧ d + x.2.2.dp ≤ 8 ∧
    At T i (cs (pc x) ++ s) ∧ stop s ∧ Q (encF x) (put G r (rdr a.Reader T (i + (pc x).length)))) := by
  refine mk0 T.f_field_from rfl c_field_from ((by rintro ws G Q Q' E E' h _ ⟨r, T, i, x, d, s, h1, h2, h3, h4, h5, h6, h7, h8, h9, q⟩; exact ⟨r, T, i, x, d, s, h1, h2, h3, h4, h5, h6, h7, h8, h9, h _ _ q⟩)) ((by rintro ws G Q E ⟨r, T, i, x, d, s, e, _⟩; rw [e]; rfl)) (d_field_from T (k_word T) (by omega) (k_takes T) (by omega) (k_wants T) hj D (Nat.le_refl _)) fun ws G Q E hC q => ?_
  obtain ⟨r, T, i, ⟨nm, m, k⟩, d, s, rfl, h, hT, hno, ho, hn, hd, hA, hst, q⟩ := q
  dsimp only at hno ho hn hd
  unfold pc at hA q
  dsimp only at hA q
  rw [cs_app, cs_app, cs_app] at hA
  simp only [List.append_assoc] at hA
  simp only [len_app] at q
  have hl := letters_of hno
  unfold g_field_from
  walk_at "rd"
  cases m with
  | true =>
    have e0 : cs (sign true) = [] := by decide +kernel
    rw [e0, List.nil_append] at hA
    have el : (sign true).length = 0 := by decide +kernel
    rw [el] at q
    refine word_y h hT hA hl (stop_of c_co (by decide +kernel)) ?_
    refine takes_n (T := T) put_same hT hA.nextS c_q (by rw [c_co]; simp) (by decide) ?_
    simp only [Bool.false_eq_true, if_false]
    refine wants_y (T := T) put_same hT hA.nextS (by decide) ?_
    rw [put_put]
    refine ⟨r, T, _, k, d + 1, s, rfl, put_same, hT, ho, hn, by omega, hA.nextS.nextS, hst, ?_⟩
    rw [put_put, show i + nm.length + (": " : Str).length + k.txt.length = i + (nm.length + 0 + (": " : Str).length + k.txt.length) by omega]
    exact ⟨by decide, q⟩
  | false =>
    have el : (sign false).length = 1 := by decide +kernel
    rw [el] at q
    have es : sign false = "?" := rfl
    rw [es] at hA
    refine word_y h hT hA hl (stop_of c_q (by decide +kernel)) ?_
    refine takes_y (T := T) put_same hT hA.nextS (by decide) ?_
    simp only [if_true]
    rw [put_put]
    refine wants_y (T := T) put_same hT hA.nextS.nextS (by decide) ?_
    rw [put_put]
    refine ⟨r, T, _, k, d + 1, s, rfl, put_same, hT, ho, hn, by omega, hA.nextS.nextS.nextS, hst, ?_⟩
    rw [put_put, show i + nm.length + ("?" : Str).length + (": " : Str).length + k.txt.length = i + (nm.length + 1 + (": " : Str).length + k.txt.length) by rw [show ("?" : Str).length = 1 from rfl]; omega]
    exact ⟨by decide, q⟩
noncomputable def J (l : List Str) : List Nat := cs (Str.join ", " l)
theorem J_one (x : Str) : J [x] = cs x := rfl
theorem J_more (x : Str) {l : List Str} (h : l ≠ []) : J (x :: l) = cs x ++ (cs ", " ++ J l) := by
  cases l with
  | nil => exact absurd rfl h
  | cons y r =>
    show cs (x ++ (", " : Str) ++ Str.join ", " (y :: r)) = _
    rw [cs_app, cs_app, List.append_assoc]; rfl
theorem pc_head {x : Str × Bool × Kd} (h : okName x.1 = true) : ∃ c r, cs (pc x) = c :: r ∧ isLet c = true := by
  have hl := letters_of h
  have hn : 1 ≤ (cs x.1).length := by
    rw [cs_len]
    unfold okName at h
    simp only [Bool.and_eq_true] at h
    exact of_decide_eq_true h.1.1
  unfold pc
  rw [cs_app, cs_app, cs_app]
  cases e : cs x.1 with
  | nil => rw [e] at hn; simp at hn
  | cons c r => exact ⟨c, _, rfl, hl c (by rw [e]; exact List.mem_cons_self)⟩
theorem seqAt_ref {G : Hw} {p : Addr} {xs : List W} (h : G p = some (.lst xs)) : tupF [.ref p] G = some (.tup xs) := by
  unfold tupF; dsimp only; rw [seq_ref h]; rfl
theorem J_head {l : List (Str × Bool × Kd)} {o : Bool} {s : List Nat} (hne : l.map pc ++ dots o ≠ []) (hok : ∀ x ∈ l, okName x.1 = true) (d : Nat) (h1 : isLet d = false) (h2 : l = [] → d ≠ 46) : (J (l.map pc ++ dots o) ++ s).head? ≠ some d := by
  cases l with
  | nil =>
    cases o with
    | false => exact absurd rfl hne
    | true =>
      show (cs ".." ++ s).head? ≠ some d
      rw [c_dd]
      intro e
      exact h2 rfl (Option.some.inj e).symm
  | cons x l =>
    obtain ⟨c, r, e, hc⟩ := pc_head (hok x List.mem_cons_self)
    have : ∃ r', J ((x :: l).map pc ++ dots o) = c :: r' := by
      rw [List.map_cons, List.cons_append]
      by_cases hl : l.map pc ++ dots o = []
      · rw [hl, J_one, e]; exact ⟨_, rfl⟩
      · rw [J_more _ hl, e]; exact ⟨_, rfl⟩
    obtain ⟨r', e'⟩ := this
    rw [e']
    intro q
    have : c = d := Option.some.inj q
    subst this
    rw [hc] at h1; cases h1
theorem J_len : ∀ (L : List (Str × Bool × Kd)) (o : Bool), (∀ x ∈ L, okName x.1 = true) → L.length ≤ (J (L.map pc ++ dots o)).length
  | [], o, _ => Nat.zero_le _
  | x :: l, o, h => by
    obtain ⟨c, r, e, _⟩ := pc_head (h x List.mem_cons_self)
    have ih := J_len l o fun y hy => h y (List.mem_cons_of_mem _ hy)
    rw [List.map_cons, List.cons_append]
    by_cases hl : l.map pc ++ dots o = []
    · rw [hl, J_one, e]
      have : l = [] := List.map_eq_nil_iff.mp (List.append_eq_nil_iff.mp hl).1
      subst this
      simp
    · rw [J_more _ hl, e]
      simp only [List.length_cons, List.length_append]
      omega
noncomputable abbrev spFF (a : Adr) (n : Nat) : Spw := fun ws G Q _ => ∃ (r : Addr) (T : Str) (i : Nat) (x : Str × Bool × Kd) (d : Nat) (s : List Nat), ws = [.ref r, .int d] ∧ G r = some (rdr a.Reader T i) ∧ T.length ≤ 1000 ∧ okName x.1 = true ∧ x.2.2.ok = true ∧ x.2.2.dp ≤ n ∧ d + x.2.2.dp ≤ 8 ∧
    At T i (cs (pc x) ++ s) ∧ stop s ∧ Q (encF x) (put G r (rdr a.Reader T (i + (pc x).length)))
noncomputable abbrev spRF (a : Adr) (n : Nat) : Spw := fun ws G Q _ => ∃ (r : Addr) (T : Str) (i : Nat) (fs : Fs) (o : Bool) (d : Nat) (s : List Nat), ws = [.ref r, .int d] ∧ G r = some (rdr a.Reader T i) ∧ T.length ≤ 1000 ∧ fs.ok = true ∧ fs.dp ≤ n ∧ d + fs.dp ≤ 8 ∧
    At T i (J (fs.pcs ++ dots o) ++ (cs "}" ++ s)) ∧ Q (Kd.row fs o).enc (put G r (rdr a.Reader T (i + (J (fs.pcs ++ dots o)).length + 1)))
theorem k_row_from (T : Tx K mg base a) {j n : Nat} (hj : 3 ≤ j) (D : Df P w K mg base "field_from" j 2 (spFF a n)) : Df P w K mg base "row_from" (j + 1) 2 (spRF a n) := by
  refine mk0 T.f_row_from rfl c_row_from ((by rintro ws G Q Q' E E' h _ ⟨r, T, i, fs, o, d, s, h1, h2, h3, h4, h5, h6, h7, q⟩; exact ⟨r, T, i, fs, o, d, s, h1, h2, h3, h4, h5, h6, h7, h _ _ q⟩)) ((by rintro ws G Q E ⟨r, T, i, fs, o, d, s, e, _⟩; rw [e]; rfl)) (d_row_from T (k_takes T) (by omega) D (Nat.le_refl _) (k_wants T) hj) fun ws G Q E hC q => ?_
  obtain ⟨r, T, i, fs, o, d, s, rfl, h, hT, ho, hn, hd, hA, q⟩ := q
  have hok := fun x hx => toL_ok ho x hx
  have hdp := fun x hx => toL_dp hn x hx
  have hdp2 : ∀ x ∈ fs.toL, d + x.2.2.dp ≤ 8 := fun x hx => by have := toL_dp (Nat.le_refl _) x hx; omega
  have henc : (Kd.row fs o).enc = .tup [.str "row", .tup (fs.toL.map encF), .bl o] := by rw [← toL_enc]; rfl
  rw [toL_pcs] at hA q
  rw [henc] at q
  generalize hL : fs.toL = L at hA q hok hdp hdp2
  clear henc
  unfold g_row_from
  walk_at "rd"
  have e1 : ("}" : Str).length = 1 := rfl
  have e2 : (".." : Str).length = 2 := rfl
  have e3 : (", " : Str).length = 2 := rfl
  by_cases hne : L.map pc ++ dots o = []
  · -- {}
    rw [hne] at hA q
    obtain ⟨hl, hdo⟩ := List.append_eq_nil_iff.mp hne
    have hL0 : L = [] := List.map_eq_nil_iff.mp hl
    subst hL0
    have ho0 : o = false := by cases o <;> first | rfl | cases hdo
    subst ho0
    refine takes_y h hT (p := "}") (s := s) hA (by decide) ?_
    simp only [if_true]
    exact ⟨by decide, by decide, q⟩
  · refine takes_n h hT hA c_rc (J_head hne (fun x hx => (hok x hx).1) 125 (by decide +kernel) (fun _ => by decide)) (by decide) ?_
    simp only [Bool.false_eq_true, if_false]
    refine ⟨by decide, fun p hp => ?_⟩
    have npr : p ≠ r := Ne.symm (ne_none h hp)
    have fin : ∀ (F : Hw) (e : Nat), e = i + (J (L.map pc ++ dots o)).length + 1 → F r = some (rdr a.Reader T e) → (∀ b u, b ≠ r → G b = some u → F b = some u) → Q (.tup [.str "row", .tup (L.map encF), .bl o]) F := fun F e he hr hF => by
      subst he
      refine hC _ _ _ (fun b u hb => ?_) q
      by_cases hbr : b = r
      · subst hbr; rw [put_same] at hb; rw [← hb]; exact hr
      · rw [put_ne hbr] at hb; exact hF b u hbr hb
    refine ⟨fun m ω G' => ∃ (dn l : List (Str × Bool × Kd)) (i' : Nat), m = l.length ∧ dn ++ l = L ∧ l.map pc ++ dots o ≠ [] ∧ ω = [some (.ref r), some (.int d), some (.ref p)] ∧ G' p = some (.lst (dn.map encF)) ∧ G' r = some (rdr a.Reader T i') ∧ (∀ b u, b ≠ r → G b = some u → G' b = some u) ∧
      At T i' (J (l.map pc ++ dots o) ++ (cs "}" ++ s)) ∧ i' + (J (l.map pc ++ dots o)).length = i + (J (L.map pc ++ dots o)).length ∧ L.length ≤ 100000, ⟨_, [], L, i, rfl, rfl, hne, rfl, put_same, by rw [put_ne (Ne.symm npr)]; exact h, fun b u hb hu => by rw [put_ne (fun e => by subst e; rw [hp] at hu; cases hu)]; exact hu, hA, rfl, ?_⟩, ?_⟩
    · have h1 := J_len L o fun x hx => (hok x hx).1
      have h2 := congrArg List.length hA.1
      rw [List.length_drop, cs_len, List.length_append] at h2
      omega
    rintro m ω G' ⟨dn, l, i', rfl, hdl, hne', rfl, hp', hr', hF, hA', hi', hLl⟩
    walk_at "rd"
    have hdnl : dn.length ≤ 100000 := by rw [← hdl, List.length_append] at hLl; omega
    cases l with
    | nil =>
      have ho1 : o = true := by cases o <;> first | rfl | exact absurd rfl hne'
      subst ho1
      rw [List.append_nil] at hdl
      subst hdl
      have hA1 : At T i' (cs ".." ++ (cs "}" ++ s)) := hA'
      refine takes_y hr' hT hA1 (by decide) ?_
      simp only [Bool.not_true, Bool.false_eq_true, if_false]
      refine wants_y (T := T) put_same hT hA1.nextS (by decide) ?_
      have hp2 : put (put G' r (rdr a.Reader T (i' + (".." : Str).length))) r (rdr a.Reader T (i' + (".." : Str).length + ("}" : Str).length)) p = some (.lst (dn.map encF)) := by rw [put_ne npr, put_ne npr]; exact hp'
      rw [seqAt_ref hp2]
      refine ⟨by decide, fin _ _ ?_ put_same fun b u hb hu => by rw [put_ne hb, put_ne hb]; exact hF b u hb hu⟩
      have : (J (List.map pc [] ++ dots true)).length = 2 := by decide +kernel
      rw [this] at hi'
      rw [e1, e2]; omega
    | cons x l =>
      have hxL : x ∈ L := by rw [← hdl]; simp
      refine takes_n hr' hT hA' c_dd (J_head hne' (fun y hy => (hok y (by rw [← hdl]; exact List.mem_append_right _ hy)).1) 46 (by decide +kernel) (fun z => by cases z)) (by decide) ?_
      simp only [Bool.not_false, if_true]
      refine ⟨isLst_mk hp', ?_⟩
      by_cases hl : l.map pc ++ dots o = []
      · -- the last one
        rw [List.map_cons, List.cons_append, hl, J_one] at hA' hi'
        obtain ⟨hl1, hl2⟩ := List.append_eq_nil_iff.mp hl
        have hl0 : l = [] := List.map_eq_nil_iff.mp hl1
        subst hl0
        have ho0 : o = false := by cases o <;> first | rfl | cases hl2
        subst ho0
        refine ⟨r, T, i', x, d, _, rfl, hr', hT, (hok x hxL).1, (hok x hxL).2, hdp x hxL, hdp2 x hxL, hA', stop_of c_rc (by decide +kernel), ?_⟩
        refine app_mk (by rw [put_ne npr]; exact hp') (by rw [List.length_map]; exact Nat.lt_of_le_of_lt hdnl (by decide)) ?_
        refine takes_y (T := T) (i := i' + (pc x).length) (by rw [put_ne (Ne.symm npr)]; exact put_same) hT hA'.nextS (by decide) ?_
        simp only [if_true]
        have hp2 : put (put (put G' r (rdr a.Reader T (i' + (pc x).length))) p (.lst (dn.map encF ++ [encF x]))) r (rdr a.Reader T (i' + (pc x).length + ("}" : Str).length)) p = some (.lst (L.map encF)) := by
          rw [put_ne npr, put_same, ← hdl]; simp
        rw [seqAt_ref hp2]
        refine ⟨by decide, fin _ _ ?_ put_same fun b u hb hu => ?_⟩
        · rw [e1, ← cs_len]; omega
        · rw [put_ne hb, put_ne (fun z => by subst z; rw [hp] at hu; cases hu), put_ne hb]; exact hF b u hb hu
      · rw [List.map_cons, List.cons_append, J_more _ hl, List.append_assoc, List.append_assoc] at hA'
        rw [List.map_cons, List.cons_append, J_more _ hl, List.length_append, List.length_append, cs_len, cs_len, e3] at hi'
        refine ⟨r, T, i', x, d, _, rfl, hr', hT, (hok x hxL).1, (hok x hxL).2, hdp x hxL, hdp2 x hxL, hA', stop_of c_cm (by decide +kernel), ?_⟩
        refine app_mk (by rw [put_ne npr]; exact hp') (by rw [List.length_map]; exact Nat.lt_of_le_of_lt hdnl (by decide)) ?_
        refine takes_n (T := T) (i := i' + (pc x).length) (by rw [put_ne (Ne.symm npr)]; exact put_same) hT hA'.nextS c_rc (by rw [c_cm]; simp) (by decide) ?_
        simp only [Bool.false_eq_true, if_false]
        refine wants_y (T := T) (i := i' + (pc x).length) (by rw [put_ne (Ne.symm npr)]; exact put_same) hT hA'.nextS (by decide) ?_
        refine ⟨l.length, by simp, dn ++ [x], l, i' + (pc x).length + 2, rfl, by rw [← hdl]; simp, hl, (by first | rfl | trivial), by rw [put_ne npr, put_same]; simp, by rw [put_same, e3], fun b u hb hu => ?_, ?_, by omega, hLl⟩
        · rw [put_ne hb, put_ne (fun z => by subst z; rw [hp] at hu; cases hu), put_ne hb]; exact hF b u hb hu
        · have := hA'.nextS.nextS; rw [e3] at this; exact this
theorem leaf_word {p : Str} (h : p = "any" ∨ p = "num" ∨ p = "truth") : (∀ c ∈ cs p, isLet c = true) ∧ (∃ c r, cs p = c :: r ∧ isLet c = true) ∧ ∀ G, inF true (.str p) (.tup [.str "any", .str "num", .str "truth"]) G = some (.bl false) := by
  rcases h with rfl | rfl | rfl
  · exact ⟨by decide +kernel, ⟨97, [110, 121], by decide +kernel, by decide +kernel⟩, fun _ => by kernel_rfl⟩
  · exact ⟨by decide +kernel, ⟨110, [117, 109], by decide +kernel, by decide +kernel⟩, fun _ => by kernel_rfl⟩
  · exact ⟨by decide +kernel, ⟨116, [114, 117, 116, 104], by decide +kernel, by decide +kernel⟩, fun _ => by kernel_rfl⟩
theorem head_app {c : Nat} {r s : List Nat} {x : List Nat} {d : Nat} (e : x = c :: r) (h : c ≠ d) : (x ++ s).head? ≠ some d := by
  subst e
  intro q
  exact h (Option.some.inj q)
theorem k_kind_from (T : Tx K mg base a) : ∀ n : Nat, Df P w K mg base "kind_from" (3 * n + 3) 2 (spFrom a n)
  | 0 => no_df T.f_kind_from spFrom_M (by rintro ws G Q E ⟨r, T, i, k, d, s, _, _, _, _, h, _⟩; have := dp_pos k; omega)
  | n + 1 => by
    have D := k_kind_from T n
    have DF := k_field_from T (by omega) D
    have DR := k_row_from T (by omega) DF
    have DT := k_function_from T (by omega) D
    have DB := k_box_from T (by omega) D
    refine mk0 (k := 3 * n + 5) T.f_kind_from rfl c_kind_from spFrom_M ((by rintro ws G Q E ⟨r, T, i, k, d, s, e, _⟩; rw [e]; rfl)) (d_kind_from T (k_takes T) (by omega) DT (by omega) DB (by omega) DR (by omega) (k_word T) (by omega)) fun ws G Q E hC q => ?_
    obtain ⟨r, T, i, k, d, s, rfl, h, hT, ho, hn, hd, hA, hst, q⟩ := q
    have hdp := dp_pos k
    unfold g_kind_from
    walk_at "rd"
    have hd8 : decide ((8 : Int) < (d : Int)) = false := decide_eq_false (by omega)
    simp only [hd8, Bool.false_eq_true, if_false]
    by_cases hleaf : ∃ p : Str, (p = "any" ∨ p = "num" ∨ p = "truth") ∧ k.txt = p ∧ k.enc = .tup [.str p]
    · obtain ⟨p, hp, et, ee⟩ := hleaf
      rw [et] at hA q
      rw [ee] at q
      obtain ⟨h1, ⟨c, rr, e, hc⟩, h3⟩ := leaf_word hp
      have nn : ∀ d, isLet d = false → (cs p ++ s).head? ≠ some d := fun d hd => head_app e (fun z => by rw [z, hd] at hc; cases hc)
      refine takes_n h hT hA c_lp (nn 40 (by decide +kernel)) (by decide) ?_
      simp only [Bool.false_eq_true, if_false]
      refine takes_n h hT hA c_lb (nn 91 (by decide +kernel)) (by decide) ?_
      simp only [Bool.false_eq_true, if_false]
      refine takes_n h hT hA c_lc (nn 123 (by decide +kernel)) (by decide) ?_
      simp only [Bool.false_eq_true, if_false]
      refine word_y h hT hA h1 hst ⟨by decide, ?_⟩
      simp only [h3, opt_some, Bool.false_eq_true, if_false]
      exact ⟨by decide, q⟩
    cases k with
    | any => exact absurd ⟨"any", .inl rfl, rfl, rfl⟩ hleaf
    | num => exact absurd ⟨"num", .inr (.inl rfl), rfl, rfl⟩ hleaf
    | truth => exact absurd ⟨"truth", .inr (.inr rfl), rfl, rfl⟩ hleaf
    | to x y =>
      have ho' : (x.ok && y.ok) = true := ho
      simp only [Bool.and_eq_true] at ho'
      have hn' : 1 + max x.dp y.dp ≤ n + 1 := hn
      have hd' : d + (1 + max x.dp y.dp) ≤ 9 := hd
      have et : (Kd.to x y).txt = "(" ++ x.txt ++ " > " ++ y.txt ++ ")" := rfl
      rw [et] at hA q
      simp only [cs_app, List.append_assoc] at hA
      simp only [len_app] at q
      refine takes_y h hT hA (by decide) ?_
      simp only [if_true]
      refine ⟨r, T, _, x, y, d, s, rfl, put_same, hT, ho'.1, ho'.2, by omega, by omega, by omega, by omega, hA.nextS, ?_⟩
      rw [put_put]
      have : i + ("(" : Str).length + x.txt.length + 3 + y.txt.length + 1 = i + (("(" : Str).length + x.txt.length + (" > " : Str).length + y.txt.length + (")" : Str).length) := by
        rw [show (" > " : Str).length = 3 from rfl, show (")" : Str).length = 1 from rfl]; omega
      rw [this]
      exact q
    | box x =>
      have hn' : 1 + x.dp ≤ n + 1 := hn
      have hd' : d + (1 + x.dp) ≤ 9 := hd
      have et : (Kd.box x).txt = "[" ++ x.txt ++ "]" := rfl
      rw [et] at hA q
      simp only [cs_app, List.append_assoc] at hA
      simp only [len_app] at q
      refine takes_n h hT hA c_lp (head_app c_lb (by decide)) (by decide) ?_
      simp only [Bool.false_eq_true, if_false]
      refine takes_y h hT hA (by decide) ?_
      simp only [if_true]
      refine ⟨r, T, _, x, d, s, rfl, put_same, hT, ho, by omega, by omega, by rw [List.append_assoc]; exact hA.nextS, ?_⟩
      rw [put_put]
      have : i + ("[" : Str).length + x.txt.length + 1 = i + (("[" : Str).length + x.txt.length + ("]" : Str).length) := by
        rw [show ("]" : Str).length = 1 from rfl]; omega
      rw [this]
      exact q
    | row fs o =>
      have ho' : (rise fs.names && fs.ok) = true := ho
      simp only [Bool.and_eq_true] at ho'
      have hn' : 1 + fs.dp ≤ n + 1 := hn
      have hd' : d + (1 + fs.dp) ≤ 9 := hd
      have et : (Kd.row fs o).txt = "{" ++ Str.join ", " (fs.pcs ++ dots o) ++ "}" := by rw [← join_eq]; rfl
      rw [et] at hA q
      simp only [cs_app, List.append_assoc] at hA
      simp only [len_app] at q
      refine takes_n h hT hA c_lp (head_app c_lc (by decide)) (by decide) ?_
      simp only [Bool.false_eq_true, if_false]
      refine takes_n h hT hA c_lb (head_app c_lc (by decide)) (by decide) ?_
      simp only [Bool.false_eq_true, if_false]
      refine takes_y h hT hA (by decide) ?_
      simp only [if_true]
      refine ⟨r, T, _, fs, o, d, s, rfl, put_same, hT, ho'.2, by omega, by omega, hA.nextS, ?_⟩
      rw [put_put]
      have : i + ("{" : Str).length + (J (fs.pcs ++ dots o)).length + 1 = i + (("{" : Str).length + (Str.join ", " (fs.pcs ++ dots o)).length + ("}" : Str).length) := by
        rw [show ("}" : Str).length = 1 from rfl]; unfold J; rw [cs_len]; omega
      rw [this]
      exact q
noncomputable abbrev spRead (a : Adr) : Spw := fun ws G Q _ => ∃ k : Kd, ws = [.str k.txt] ∧ k.ok = true ∧ good k = true ∧ k.txt.length ≤ 1000 ∧ ∀ r T i, G r = none → Q k.enc (put G r (rdr a.Reader T i))
theorem k_kind_read (T : Tx K mg base a) : Df P w K mg base "kind_read" 30 1 (spRead a) := by
  refine mk0 (k := 29) T.f_kind_read rfl c_kind_read ((by rintro ws G Q Q' E E' h _ ⟨k, h1, h2, h3, h4, q⟩; exact ⟨k, h1, h2, h3, h4, fun r T i hr => h _ _ (q r T i hr)⟩)) ((by rintro ws G Q E ⟨k, e, _⟩; rw [e]; rfl)) (d_kind_read T (k_init T) (by omega) (k_kind_from T 8) (by omega) (k_wants_end T) (by omega) (k_is_kind T) (by omega)) fun ws G Q E hC q => ?_
  obtain ⟨k, rfl, ho, hg, hl, q⟩ := q
  have hg' : k.cnt ≤ 40 ∧ k.dp ≤ 8 := of_decide_eq_true hg
  unfold g_kind_read
  walk_at "rd"
  intro x hx
  have hA : At k.txt 0 (cs k.txt ++ []) := ⟨by simp, Nat.zero_le _⟩
  refine ⟨x, k.txt, rfl, put_same, rfl, ?_⟩
  rw [put_put]
  refine ⟨x, k.txt, 0, k, 1, [], rfl, put_same, hl, ho, hg'.2, by omega, hA, (fun c hc => by cases hc), ?_⟩
  rw [put_put]
  refine ⟨x, _, rfl, put_same, nomth (C := x) (by decide +kernel) (by decide +kernel), x, k.txt, _, rfl, put_same, hl, by omega, ?_⟩
  refine ⟨k, ⟨rfl, ho, by omega⟩, ?_⟩
  simp only [hg, Bool.not_true, Bool.false_eq_true, if_false]
  exact q x _ _ hx
set_option Elab.async false
set_option linter.all false
set_option maxRecDepth 100000
set_option maxHeartbeats 4000000
mutual
noncomputable def Kd.ren (f : Str → Str) : Kd → Kd
  | .to x y => .to (x.ren f) (y.ren f)
  | .box x => .box (x.ren f)
  | .row fs o => .row (fs.ren f) o
  | k => k
noncomputable def Fs.ren (f : Str → Str) : Fs → Fs
  | .nil => .nil
  | .cons n m k r => .cons (f n) m (k.ren f) (r.ren f)
end
noncomputable def nm3 (x y z n : Str) : Str := if n = "a" then x else if n = "b" then y else z
structure goodN (x y z : Str) : Prop where
  o1 : okName x = true
  o2 : okName y = true
  o3 : okName z = true
  xy : strLt x y = true
  yz : strLt y z = true
  xz : strLt x z = true
mutual
theorem ren_cnt (f : Str → Str) : ∀ k : Kd, (k.ren f).cnt = k.cnt
  | .any => rfl
  | .num => rfl
  | .truth => rfl
  | .to x y => by show 1 + ((x.ren f).cnt + (y.ren f).cnt) = 1 + (x.cnt + y.cnt); rw [ren_cnt f x, ren_cnt f y]
  | .box x => by show 1 + (x.ren f).cnt = 1 + x.cnt; rw [ren_cnt f x]
  | .row fs o => by show 1 + (fs.ren f).cnt = 1 + fs.cnt; rw [renF_cnt f fs]
theorem renF_cnt (f : Str → Str) : ∀ fs : Fs, (fs.ren f).cnt = fs.cnt
  | .nil => rfl
  | .cons n m k r => by show (k.ren f).cnt + (r.ren f).cnt = k.cnt + r.cnt; rw [ren_cnt f k, renF_cnt f r]
end
mutual
theorem ren_dp (f : Str → Str) : ∀ k : Kd, (k.ren f).dp = k.dp
  | .any => rfl
  | .num => rfl
  | .truth => rfl
  | .to x y => by show 1 + max (x.ren f).dp (y.ren f).dp = 1 + max x.dp y.dp; rw [ren_dp f x, ren_dp f y]
  | .box x => by show 1 + (x.ren f).dp = 1 + x.dp; rw [ren_dp f x]
  | .row fs o => by show 1 + (fs.ren f).dp = 1 + fs.dp; rw [renF_dp f fs]
theorem renF_dp (f : Str → Str) : ∀ fs : Fs, (fs.ren f).dp = fs.dp
  | .nil => rfl
  | .cons n m k r => by show max (k.ren f).dp (r.ren f).dp = max k.dp r.dp; rw [ren_dp f k, renF_dp f r]
end
theorem nm3_mono {x y z : Str} (g : goodN x y z) : ∀ n ∈ abc, ∀ m ∈ abc, strLt n m = true → strLt (nm3 x y z n) (nm3 x y z m) = true := by
  have f1 : strLt ("a" : Str) "a" = false := by decide +kernel
  have f2 : strLt ("b" : Str) "b" = false := by decide +kernel
  have f3 : strLt ("cc" : Str) "cc" = false := by decide +kernel
  have f4 : strLt ("b" : Str) "a" = false := by decide +kernel
  have f5 : strLt ("cc" : Str) "a" = false := by decide +kernel
  have f6 : strLt ("cc" : Str) "b" = false := by decide +kernel
  have a1 : nm3 x y z "a" = x := if_pos rfl
  have n1 : ¬ (("b" : Str) = "a") := by decide +kernel
  have n2 : ¬ (("cc" : Str) = "a") := by decide +kernel
  have n3 : ¬ (("cc" : Str) = "b") := by decide +kernel
  have a2 : nm3 x y z "b" = y := by unfold nm3; rw [if_neg n1, if_pos rfl]
  have a3 : nm3 x y z "cc" = z := by unfold nm3; rw [if_neg n2, if_neg n3]
  intro n hn m hm h
  simp only [abc, List.mem_cons, List.not_mem_nil, or_false] at hn hm
  rcases hn with rfl | rfl | rfl <;> rcases hm with rfl | rfl | rfl <;> simp only [a1, a2, a3] <;> first | exact g.xy | exact g.yz | exact g.xz | (rw [f1] at h; cases h) | (rw [f2] at h; cases h) | (rw [f3] at h; cases h) | (rw [f4] at h; cases h) | (rw [f5] at h; cases h) | (rw [f6] at h; cases h)
theorem nm3_ok {x y z : Str} (g : goodN x y z) (n : Str) : okName (nm3 x y z n) = true := by
  unfold nm3
  split
  · exact g.o1
  · split
    · exact g.o2
    · exact g.o3
theorem rise_map {f : Str → Str} (hf : ∀ n ∈ abc, ∀ m ∈ abc, strLt n m = true → strLt (f n) (f m) = true) : ∀ {ns : List Str}, (∀ n ∈ ns, n ∈ abc) → rise ns = true → rise (ns.map f) = true
  | [], _, _ => rfl
  | [_], _, _ => rfl
  | n :: m :: r, h, hr => by
    have hr' : (strLt n m && rise (m :: r)) = true := hr
    simp only [Bool.and_eq_true] at hr'
    show (strLt (f n) (f m) && rise ((m :: r).map f)) = true
    rw [hf n (h n List.mem_cons_self) m (h m (List.mem_cons_of_mem _ List.mem_cons_self)) hr'.1, rise_map hf (fun k hk => h k (List.mem_cons_of_mem _ hk)) hr'.2]; rfl
theorem ren_names (f : Str → Str) : ∀ fs : Fs, (fs.ren f).names = fs.names.map f
  | .nil => rfl
  | .cons n m k r => by show f n :: (r.ren f).names = f n :: r.names.map f; rw [ren_names f r]
theorem abc_names : ∀ {fs : Fs}, fs.abc = true → ∀ n ∈ fs.names, n ∈ abc
  | .nil, _, n, hn => by cases hn
  | .cons n0 m k r, h, n, hn => by
    have h' : (abc.contains n0 && k.abc && r.abc) = true := h
    simp only [Bool.and_eq_true] at h'
    rcases List.mem_cons.mp hn with rfl | hn
    · exact List.contains_iff_mem.mp h'.1.1
    · exact abc_names h'.2 n hn
mutual
theorem ren_ok {x y z : Str} (g : goodN x y z) : ∀ {k : Kd}, k.ok = true → k.abc = true → (k.ren (nm3 x y z)).ok = true
  | .any, _, _ => rfl
  | .num, _, _ => rfl
  | .truth, _, _ => rfl
  | .to c d, h, h2 => by
    have h' : (c.ok && d.ok) = true := h
    have h2' : (c.abc && d.abc) = true := h2
    simp only [Bool.and_eq_true] at h' h2'
    show ((c.ren _).ok && (d.ren _).ok) = true
    rw [ren_ok g h'.1 h2'.1, ren_ok g h'.2 h2'.2]; rfl
  | .box c, h, h2 => ren_ok (k := c) g h h2
  | .row fs o, h, h2 => by
    have h' : (rise fs.names && fs.ok) = true := h
    simp only [Bool.and_eq_true] at h'
    show (rise (fs.ren _).names && (fs.ren _).ok) = true
    rw [ren_names, rise_map (nm3_mono g) (abc_names h2) h'.1, renF_ok g h'.2 h2]; rfl
theorem renF_ok {x y z : Str} (g : goodN x y z) : ∀ {fs : Fs}, fs.ok = true → fs.abc = true → (fs.ren (nm3 x y z)).ok = true
  | .nil, _, _ => rfl
  | .cons n m k r, h, h2 => by
    have h' : (okName n && k.ok && r.ok) = true := h
    have h2' : (abc.contains n && k.abc && r.abc) = true := h2
    simp only [Bool.and_eq_true] at h' h2'
    show (okName (nm3 x y z n) && (k.ren _).ok && (r.ren _).ok) = true
    rw [nm3_ok g, ren_ok g h'.1.2 h2'.1.2, renF_ok g h'.2 h2'.2]; rfl
end
noncomputable def spRen (n : Nat) : Spw := fun ws G Q _ => ∃ (k : Kd) (p : Addr) (x y z : Str), ws = [k.enc, .ref p] ∧ G p = some (.lst [.str x, .str y, .str z]) ∧ k.abc = true ∧ k.dp ≤ n ∧ k.cnt ≤ 1000 ∧ Q (k.ren (nm3 x y z)).enc G
theorem spRen_M {n : Nat} : Spw.M (spRen n) := (by rintro ws G Q Q' E E' h _ ⟨k, p, x, y, z, h1, h2, h3, h4, h5, q⟩; exact ⟨k, p, x, y, z, h1, h2, h3, h4, h5, h _ _ q⟩)
theorem nonrow {k : Kd} (h : ∀ fs o, k ≠ .row fs o) (f : Str → Str) : k.enc = .tup (.str k.hd :: k.kids.map Kd.enc) ∧ (k.ren f).enc = .tup (.str k.hd :: k.kids.map fun c => (c.ren f).enc) ∧ (k.hd == ("row" : Str)) = false := by
  cases k with
  | row fs o => exact absurd rfl (h fs o)
  | any => exact ⟨rfl, rfl, by decide +kernel⟩
  | num => exact ⟨rfl, rfl, by decide +kernel⟩
  | truth => exact ⟨rfl, rfl, by decide +kernel⟩
  | to x y => exact ⟨rfl, rfl, (by decide +kernel : (("to" : Str) == ("row" : Str)) = false)⟩
  | box x => exact ⟨rfl, rfl, (by decide +kernel : (("box" : Str) == ("row" : Str)) = false)⟩
theorem abc_kids {k : Kd} (h : k.abc = true) : ∀ c ∈ k.kids, c.abc = true := by
  have hf : ∀ {fs : Fs}, fs.abc = true → ∀ c ∈ fs.kinds, c.abc = true := by
    intro fs
    induction fs using Fs.rec (motive_1 := fun _ => True) with
    | nil => intro _ c hc; cases hc
    | cons n m k r _ ih =>
      intro h c hc
      have h' : (abc.contains n && k.abc && r.abc) = true := h
      simp only [Bool.and_eq_true] at h'
      rcases List.mem_cons.mp hc with rfl | hc
      · exact h'.1.2
      · exact ih h'.2 c hc
    | _ => trivial
  intro c hc
  cases k with
  | to x y =>
    have h' : (x.abc && y.abc) = true := h
    simp only [Bool.and_eq_true] at h'
    have : c = x ∨ c = y := by simpa [Kd.kids] using hc
    rcases this with rfl | rfl
    · exact h'.1
    · exact h'.2
  | box x =>
    have : c = x := by simpa [Kd.kids] using hc
    subst this; exact h
  | row fs o => exact hf h c hc
  | any => cases hc
  | num => cases hc
  | truth => cases hc
noncomputable def renF (x y z : Str) (u : Str × Bool × Kd) : Str × Bool × Kd := (nm3 x y z u.1, u.2.1, u.2.2.ren (nm3 x y z))
theorem ren_toL (x y z : Str) : ∀ fs : Fs, (fs.ren (nm3 x y z)).toL = fs.toL.map (renF x y z)
  | .nil => rfl
  | .cons n m k r => by show _ :: (r.ren _).toL = _ :: r.toL.map _; rw [ren_toL x y z r]; rfl
theorem toL_abc : ∀ {fs : Fs}, fs.abc = true → ∀ u ∈ fs.toL, u.1 ∈ abc ∧ u.2.2.abc = true
  | .nil, _, u, hu => by cases hu
  | .cons n0 m k r, h, u, hu => by
    have h' : (abc.contains n0 && k.abc && r.abc) = true := h
    simp only [Bool.and_eq_true] at h'
    rcases List.mem_cons.mp hu with rfl | hu
    · exact ⟨List.contains_iff_mem.mp h'.1.1, h'.1.2⟩
    · exact toL_abc h'.2 u hu
theorem index_abc {n : Str} (h : n ∈ abc) : ∃ j : Nat, abc[j]? = some n ∧ (∀ m, m < j → abc[m]? ≠ some n) ∧ ∀ x y z : Str, atI [W.str x, .str y, .str z] (j : Int) = some (.str (nm3 x y z n)) := by
  have n1 : ¬ (("b" : Str) = "a") := by decide +kernel
  have n2 : ¬ (("cc" : Str) = "a") := by decide +kernel
  have n3 : ¬ (("cc" : Str) = "b") := by decide +kernel
  simp only [abc, List.mem_cons, List.not_mem_nil, or_false] at h
  rcases h with rfl | rfl | rfl
  · exact ⟨0, rfl, fun m hm => by omega, fun x y z => by rw [show ((0 : Nat) : Int) = 0 from rfl, atI_0]; unfold nm3; rw [if_pos rfl]⟩
  · refine ⟨1, rfl, fun m hm => ?_, fun x y z => by rw [show ((1 : Nat) : Int) = 1 from rfl, atI_1]; unfold nm3; rw [if_neg n1, if_pos rfl]⟩
    obtain rfl : m = 0 := by omega
    exact fun e => n1 (Option.some.inj e).symm
  · refine ⟨2, rfl, fun m hm => ?_, fun x y z => by rw [show ((2 : Nat) : Int) = 2 from rfl, atI_2]; unfold nm3; rw [if_neg n2, if_neg n3]⟩
    obtain rfl | rfl : m = 0 ∨ m = 1 := by omega
    · exact fun e => n2 (Option.some.inj e).symm
    · exact fun e => n3 (Option.some.inj e).symm
theorem ren_loop {n : Nat} {D : Ew} {pn p : Addr} {k0 : W} {x y z : Str} : ∀ (l dn : List (Str × Bool × Kd)) (o3 o4 o5 : Option W) (G : Hw), (∀ u ∈ l, u.1 ∈ abc ∧ u.2.2.abc = true) → (∀ u ∈ l, u.2.2.dp ≤ n) → (∀ u ∈ l, u.2.2.cnt ≤ 1000) → dn.length + l.length ≤ 1000 → p ≠ pn →
    G p = some (.lst (dn.map encF)) → G pn = some (.lst [.str x, .str y, .str z]) →
    (∀ ω G', (∃ u v t, ω = [some k0, some (.ref pn), some (.ref p), u, v, t]) → G' p = some (.lst ((dn ++ l.map (renF x y z)).map encF)) → (∀ b, b ≠ p → ∀ u, G b = some u → G' b = some u) → D.nx ω G') →
    goFor yes (gNm3 3 4 5) (gDrop (gMt isLst rApp (gVar 2) (L3.gCons (L3.gTup (L3.gCons (gBin (rFun ixW) (gVar 1) (gMt isLst rIndex (gLst (L3.gCons (gC (.str "a")) (L3.gCons (gC (.str "b")) (L3.gCons (gC (.str "cc")) L3.gNil)))) (L3.gCons (gVar 3) L3.gNil))) (L3.gCons (gVar 4) (L3.gCons (gCall (spRen n) (fun _ _ _ => False) (L3.gCons (gVar 5) (L3.gCons (gVar 1) L3.gNil))) L3.gNil)))) L3.gNil))) D (l.map encF) [some k0, some (.ref pn), some (.ref p), o3, o4, o5] G
  | [], dn, o3, o4, o5, G, _, _, _, _, _, hp, _, fin => ⟨trivial, fin _ G ⟨o3, o4, o5, rfl⟩ (by simpa using hp) fun _ _ _ h => h⟩
  | u :: l, dn, o3, o4, o5, G, h1, h2, h3, hl, hne, hp, hpn, fin => by
    refine ⟨trivial, ?_⟩
    have eu : encF u = .tup [.str u.1, .str (mark u.2.1), u.2.2.enc] := rfl
    rw [eu]
    simp only [gNm3]
    walk_at "rd"
    obtain ⟨j, hj, hno, hat⟩ := index_abc (h1 u List.mem_cons_self).1
    refine ⟨isLst_mk hp, by decide, fun q hq => ⟨isLst_mk put_same, ?_⟩⟩
    have hpq := ne_none hp hq
    have hnq := ne_none hpn hq
    refine ⟨_, abc, u.1, j, rd_ref put_same, rfl, rfl, hj, hno, ?_⟩
    have hpn' : put G q (.lst [.str "a", .str "b", .str "cc"]) pn = some (.lst [.str x, .str y, .str z]) := by rw [put_ne hnq]; exact hpn
    simp only [hpn', hat x y z, opt_some]
    refine ⟨u.2.2, pn, x, y, z, rfl, hpn', (h1 u List.mem_cons_self).2, h2 u List.mem_cons_self, h3 u List.mem_cons_self, by decide, ?_⟩
    rw [List.length_cons] at hl
    refine app_mk (by rw [put_ne hpq]; exact hp) (by rw [List.length_map]; exact Nat.lt_of_le_of_lt (m := 1000) (by omega) (by decide)) ?_
    refine ren_loop l (dn ++ [renF x y z u]) _ _ _ _ (fun v hv => h1 v (List.mem_cons_of_mem _ hv)) (fun v hv => h2 v (List.mem_cons_of_mem _ hv)) (fun v hv => h3 v (List.mem_cons_of_mem _ hv)) (by rw [List.length_append]; simp only [List.length_cons, List.length_nil]; omega) hne (by rw [put_same, List.map_append]; rfl) (by rw [put_ne (Ne.symm hne)]; exact hpn') fun ω G' hω h4 h5 => ?_
    refine fin ω G' hω (by rw [h4, List.map_cons]; simp) fun b hb v hv => h5 b hb v ?_
    rw [put_ne hb, put_ne (ne_none hv hq)]; exact hv
theorem cut_h {α : Type} (h : α) (t : List α) : cutW (h :: t) none (some 1) = [h] := by
  have e : HT.sIx (h :: t).length (h :: t).length (some 1) = min 1 (h :: t).length := HT.sIx_nat _ _ 1
  unfold cutW
  rw [HT.sIx_none, e]
  simp
theorem k__law_renamed (T : Tx K mg base a) : ∀ n : Nat, Df P w K mg base "_law_renamed" (n + 1) 2 (spRen n)
  | 0 => no_df T.f__law_renamed spRen_M (by rintro ws G Q E ⟨k, p, x, y, z, _, _, _, h, _⟩; have := dp_pos k; omega)
  | n + 1 => by
    have D := k__law_renamed T n
    refine mk0 (k := n + 1) T.f__law_renamed rfl c__law_renamed spRen_M ((by rintro ws G Q E ⟨k, p, x, y, z, e, _⟩; rw [e]; rfl)) (d__law_renamed T D (Nat.le_refl _)) fun ws G Q E hC q => ?_
    obtain ⟨k, p, x, y, z, rfl, hp, ha, hd, hc, q⟩ := q
    unfold g__law_renamed
    by_cases hrow : ∃ fs o, k = .row fs o
    · obtain ⟨fs, o, rfl⟩ := hrow
      have hd' : 1 + fs.dp ≤ n + 1 := hd
      have hc' : 1 + fs.cnt ≤ 1000 := hc
      simp only [Kd.enc]
      walk_at "rd"
      simp only [beq_self_eq_true, show (true != true) = false from rfl, Option.map_some, opt_some, Bool.false_eq_true, if_false]
      refine ⟨by decide, fun p2 hp2 => ?_⟩
      have hpp := ne_none hp hp2
      rw [toL_enc]
      have hll := toL_len fs
      refine ren_loop (n := n) (x := x) (y := y) (z := z) fs.toL [] none none none _ (toL_abc ha) (toL_dp (by omega)) (fun u hu => Nat.le_trans (toL_cnt u hu) (by omega)) (by simp only [List.length_nil]; omega) (Ne.symm hpp) put_same (by rw [put_ne hpp]; exact hp) ?_
      intro ω G' hω h1 h2
      obtain ⟨u, v, t, rfl⟩ := hω
      walk_at "rd"
      rw [seqAt_ref h1]
      simp only [opt_some, List.nil_append]
      refine ⟨by decide, hC _ _ _ (fun b u hu => h2 b (ne_none hu hp2) u (by rw [put_ne (ne_none hu hp2)]; exact hu)) ?_⟩
      have e : (Kd.ren (nm3 x y z) (.row fs o)).enc = .tup [.str "row", .tup ((fs.toL.map (renF x y z)).map encF), .bl o] := by rw [← ren_toL, ← toL_enc]; rfl
      rw [e] at q
      exact q
    · obtain ⟨e1, e2, e3⟩ := nonrow (fun fs o h => hrow ⟨fs, o, h⟩) (nm3 x y z) (k := k)
      rw [e1]
      walk_at "rd"
      simp only [e3, show (false != true) = true from rfl, Option.map_some, opt_some, if_true]
      simp only [slA, cut_h, cut_1, List.drop_succ_cons, List.drop_zero]
      have hkl := kids_len k
      refine compC (f := fun c => (c.ren (nm3 x y z)).enc) (cst := [some (.ref p)]) trivial k.kids none [] (fun c hcm Q' q' => ?_) (by simp only [List.length_nil]; exact le_size3 (by omega)) fun p1 hp1 => ?_
      · exact ⟨c, p, x, y, z, rfl, hp, abc_kids ha c hcm, by have := kids_dp hcm; omega, by have := kids_cnt hcm; omega, q'⟩
      · rw [seqAt_ref put_same]
        simp only [opt_some, List.nil_append]
        rw [rAddA_tup]
        refine ⟨le_size3 (by simp only [List.length_cons, List.length_nil, List.length_map]; omega), hC _ _ _ (sub_put hp1) ?_⟩
        rw [e2] at q
        exact q
local macro_rules | `(tactic| walk_at "rd") => `(tactic| ((try dsimp only [intF, gFld, gSetF, gAugF, gMeth, gMake, gSlA, gCompC, gIterS, rAddA_tup, capO, lk_text, lk_place, gSeq, gIf, gRet, gSet, gDrop, gNext, gVar, gC, gBin, gTB, gTru, gNt, gAnd, gOr, gAndV, gOrV, gIte, L3.gTup, gLst, L3.gCons, L3.gNil, gCall, gB, rF, rFun, gIsiT, gMt, gAug, gChain, rOrd, rCmp, rInt, L3.rAdd, rIAdd, gSl, gPart, gNoPart, gComp, gIter, gZip, endsW, startW, List.map_cons, List.map_nil, List.length_cons, List.length_nil, List.cons_append, List.nil_append, List.getElem?_cons_zero, List.getElem?_cons_succ, List.set_cons_zero, List.set_cons_succ, List.replicate, truW, tyN, opt_some, atI_0, atI_1, atI_2, ixW, eqF, eqW, lenF, lenW, allF, List.getElem?_nil]); (try simp only [intF, gFld, gSetF, gAugF, gMeth, gMake, gSlA, gCompC, gIterS, rAddA_tup, capO, lk_text, lk_place, gSeq, gIf, gRet, gSet, gDrop, gNext, gVar, gC, gBin, gTB, gTru, gNt, gAnd, gOr, gAndV, gOrV, gIte, L3.gTup, gLst, L3.gCons, L3.gNil, gCall, gB, rF, rFun, gIsiT, gMt, gAug, gChain, rOrd, rCmp, rInt, L3.rAdd, rIAdd, gSl, gPart, gNoPart, gComp, gIter, gZip, endsW, startW, List.map_cons, List.map_nil, List.length_cons, List.length_nil, List.cons_append, List.nil_append, List.getElem?_cons_zero, List.getElem?_cons_succ, List.set_cons_zero, List.set_cons_succ, List.replicate, truW, tyN, opt_some, atI_0, atI_1, atI_2, ixW, eqF, eqW, lenF, lenW, allF, List.getElem?_nil])))
theorem compA3 {f : Str × Bool × Kd → W} {gd : Hw → Prop} {ge : GE} {R : List W → Hw → Prop} {G : Hw} (hgd : gd G) : ∀ (l : List (Str × Bool × Kd)) (o1 o2 o3 : Option W) (ys : List W), (∀ x ∈ l, ∀ Q : Kw, Q (f x) G → ge [some (.str x.1), some (.str (mark x.2.1)), some x.2.2.enc] G Q) →
    ys.length + l.length ≤ sizeLine → R (ys ++ l.map f) G → goComp gd (gNm3 0 1 2) gYes ge R (l.map encF) [o1, o2, o3] G ys
  | [], o1, o2, o3, ys, _, _, r => ⟨hgd, by simpa using r⟩
  | x :: l, o1, o2, o3, ys, h, hl, r => by
    refine ⟨hgd, by simp only [List.length_cons] at hl; omega, ?_⟩
    have eu : encF x = .tup [.str x.1, .str (mark x.2.1), x.2.2.enc] := rfl
    rw [eu]
    simp only [gNm3]
    show ge [some (.str x.1), some (.str (mark x.2.1)), some x.2.2.enc] G fun y G3 => goComp gd (gNm3 0 1 2) gYes ge R (l.map encF) [some (.str x.1), some (.str (mark x.2.1)), some x.2.2.enc] G3 (ys ++ [y])
    refine h x List.mem_cons_self _ (compA3 hgd l _ _ _ (ys ++ [f x]) (fun y hy => h y (List.mem_cons_of_mem _ hy)) ?_ ?_)
    · simp only [List.length_append, List.length_cons, List.length_nil] at hl ⊢; omega
    · simpa [List.append_assoc] using r
theorem mulL_mk {G : Hw} {q : Addr} {xs : List W} {k : Int} {Q : Kw} (h : G q = some (.lst xs)) (h0 : 0 ≤ k) (h1 : k ≤ 1) (hl : xs.length ≤ 1000) (z : ∀ p, G p = none → Q (.ref p) (put G p (.lst (List.replicate k.toNat xs).flatten))) : rMulA (.ref q) (.int k) G Q := by
  unfold rMulA
  dsimp only
  rw [h]
  have e63 : (2 : Int) ^ 63 = 9223372036854775808 := by decide
  refine ⟨by rw [e63]; omega, by rw [e63]; omega, le_size3 ?_, z⟩
  have : k.toNat ≤ 1 := by omega
  calc xs.length * k.toNat ≤ xs.length * 1 := Nat.mul_le_mul_left _ this
    _ ≤ 100000 := by omega
theorem addL_mk {G : Hw} {p q : Addr} {xs ys : List W} {Q : Kw} (h : G p = some (.lst xs)) (h' : G q = some (.lst ys)) (hl : xs.length + ys.length ≤ 100000) (z : ∀ r, G r = none → Q (.ref r) (put G r (.lst (xs ++ ys)))) : rAddA (.ref p) (.ref q) G Q := by
  show rAdd (.ref p) (.ref q) G Q
  unfold L3.rAdd
  dsimp only
  rw [h, h']
  exact ⟨le_size3 hl, z⟩
theorem mul_q : MulOk "?" 1 ∧ MulOk "?" 0 ∧ Txt.mul "?" 1 = "?" ∧ Txt.mul "?" 0 = "" := by
  refine ⟨⟨by decide, fun _ h => ?_, fun _ h => ?_⟩, ⟨by decide, fun h => absurd (by decide) h, fun h => absurd (by decide) h⟩, by decide +kernel, by decide +kernel⟩
  · exact absurd h (by decide)
  · exact absurd h (by decide)
theorem k__law_text (T : Tx K mg base a) : ∀ n : Nat, Df P w K mg base "_law_text" (n + 1) 1 (spTxt n)
  | 0 => no_df T.f__law_text spR_M (by rintro ws G Q E ⟨k, ⟨_, _, h, _⟩, _⟩; have := dp_pos k; omega)
  | n + 1 => by
    have D := k__law_text T n
    refine mk0 (k := n + 1) T.f__law_text rfl c__law_text spR_M ((by rintro ws G Q E ⟨x, ⟨e, _⟩, _⟩; rw [e]; rfl)) (d__law_text T D (Nat.le_refl _)) fun ws G Q E hC q => ?_
    obtain ⟨k, ⟨rfl, ho, hd, hc⟩, q⟩ := q
    unfold g__law_text
    have nr : ∀ z : Str, (z == ("row" : Str)) = false → (z == ("row" : Str)) != true := fun z h => by rw [h]; rfl
    cases k with
    | any => simp only [Kd.enc]; walk_at "rd"; exact q
    | num => simp only [Kd.enc]; walk_at "rd"; exact q
    | truth => simp only [Kd.enc]; walk_at "rd"; exact q
    | to x y =>
      have ho' : (x.ok && y.ok) = true := ho
      simp only [Bool.and_eq_true] at ho'
      have hd' : 1 + max x.dp y.dp ≤ n + 1 := hd
      have hc' : 1 + (x.cnt + y.cnt) ≤ 1000 := hc
      have h1 := txt_len ho'.1
      have h2 := txt_len ho'.2
      have e1 : ("(" : Str).length = 1 := rfl
      have e2 : (" > " : Str).length = 3 := rfl
      have e3 : (")" : Str).length = 1 := rfl
      simp only [Kd.enc]; walk_at "rd"
      simp only [beq_self_eq_true, n1, n2, n3, b1, b2, Option.map_some, opt_some, if_true, Bool.false_eq_true, if_false]
      refine ⟨x, ⟨rfl, ho'.1, by omega, by omega⟩, le_size3 (by omega), le_size3 (by rw [len_app]; omega), y, ⟨rfl, ho'.2, by omega, by omega⟩, le_size3 (by rw [len_app, len_app]; omega), le_size3 (by rw [len_app, len_app, len_app]; omega), q⟩
    | box x =>
      have hd' : 1 + x.dp ≤ n + 1 := hd
      have hc' : 1 + x.cnt ≤ 1000 := hc
      have h1 := txt_len (k := x) ho
      have e1 : ("[" : Str).length = 1 := rfl
      have e3 : ("]" : Str).length = 1 := rfl
      simp only [Kd.enc]; walk_at "rd"
      simp only [beq_self_eq_true, n1, n2, n3, b1, b2, Option.map_some, opt_some, if_true, Bool.false_eq_true, if_false]
      exact ⟨x, ⟨rfl, ho, by omega, by omega⟩, le_size3 (by omega), le_size3 (by rw [len_app]; omega), q⟩
    | row fs o =>
      have ho' : (rise fs.names && fs.ok) = true := ho
      simp only [Bool.and_eq_true] at ho'
      have hd' : 1 + fs.dp ≤ n + 1 := hd
      have hc' : 1 + fs.cnt ≤ 1000 := hc
      have hp := pcs_len ho'.2
      have hl := toL_len fs
      simp only [Kd.enc]; walk_at "rd"
      simp only [beq_self_eq_true, n1, n2, n3, b1, b2, show (true != true) = false from rfl, Option.map_some, opt_some, if_true, Bool.false_eq_true, if_false]
      rw [toL_enc]
      refine compA3 (f := fun x => .str (pc x)) trivial fs.toL none none none [] (fun x hx Q' q' => ?_) (by simp only [List.length_nil]; exact le_size3 (by omega)) fun p hp1 => ?_
      · obtain ⟨nm, m, k⟩ := x
        have hxo := toL_ok ho'.2 _ hx
        have hxd := toL_dp (Nat.le_refl fs.dp) _ hx
        have hxc := toL_cnt _ hx
        dsimp only at hxo hxd hxc
        have h1 := txt_len hxo.2
        have h2 := okName_len hxo.1
        have e1 : (": " : Str).length = 2 := rfl
        obtain ⟨m1, m0, t1, t0⟩ := mul_q
        walk_at "rd"
        cases m with
        | true =>
          have e : (mark true == ("may" : Str)) = false := by decide +kernel
          simp only [e, Option.map_some, opt_some, b2, Bool.false_eq_true, if_false]
          have l0 : (Txt.mul "?" 0).length = 0 := by decide +kernel
          have qq : Q' (.str (nm ++ Txt.mul "?" 0 ++ ": " ++ k.txt)) G := by rw [t0]; exact q'
          refine ⟨m0, le_size3 (by omega), le_size3 (by rw [len_app]; omega), k, ⟨rfl, hxo.2, by omega, by omega⟩, ?_⟩
          exact ⟨le_size3 (by rw [len_app, len_app]; omega), qq⟩
        | false =>
          have e : (mark false == ("may" : Str)) = true := by decide +kernel
          simp only [e, Option.map_some, opt_some, b1, if_true]
          have l1 : (Txt.mul "?" 1).length = 1 := by decide +kernel
          have qq : Q' (.str (nm ++ Txt.mul "?" 1 ++ ": " ++ k.txt)) G := by rw [t1]; exact q'
          refine ⟨m1, le_size3 (by omega), le_size3 (by rw [len_app]; omega), k, ⟨rfl, hxo.2, by omega, by omega⟩, ?_⟩
          exact ⟨le_size3 (by rw [len_app, len_app]; omega), qq⟩
      · have e : [] ++ fs.toL.map (fun x => W.str (pc x)) = fs.pcs.map W.str := by rw [toL_pcs, List.map_map]; rfl
        rw [e]
        refine ⟨⟨_, rfl⟩, by decide, fun p1 hq1 => ?_⟩
        have hp1' : put G p (.lst (fs.pcs.map W.str)) p = some (.lst (fs.pcs.map W.str)) := put_same
        have n1 := ne_none hp1' hq1
        have g1 : G p1 = none := by rw [put_ne (Ne.symm n1)] at hq1; exact hq1
        have hz : fs.pcs.length ≤ 1000 := by rw [toL_pcs, List.length_map]; omega
        refine mulL_mk put_same (by cases o <;> decide) (by cases o <;> decide) (by decide) fun p2 hq2 => ?_
        have n2 := ne_none put_same hq2
        have hpp : put (put G p (.lst (fs.pcs.map W.str))) p1 (.lst [.str ".."]) p = some (.lst (fs.pcs.map W.str)) := by rw [put_ne n1]; exact put_same
        have n3 := ne_none hpp hq2
        have g2 : G p2 = none := by
          rw [put_ne (Ne.symm n2), put_ne (Ne.symm n3)] at hq2; exact hq2
        have ed : (List.replicate (if o = true then (1 : Int) else 0).toNat [W.str ".."]).flatten = (dots o).map W.str := by cases o <;> rfl
        rw [ed]
        refine addL_mk (by rw [put_ne n3]; exact hpp) put_same (by rw [List.length_map, List.length_map]; have : (dots o).length ≤ 1 := by cases o <;> decide
                                                                   omega) fun p3 hq3 => ?_
        have e4 : (", " : Str).length = 2 := rfl
        have hx : ((dots o).map (·.length)).sum + (dots o).length * 2 ≤ 4 := by cases o <;> decide
        have hj := join_len (", " : Str) (fs.pcs ++ dots o)
        have hs : ((fs.pcs ++ dots o).map (·.length)).sum + (fs.pcs ++ dots o).length * (", " : Str).length ≤ 33 * fs.cnt + 4 := by
          rw [List.map_append, List.sum_append, List.length_append, e4]; omega
        have e1 : ("{" : Str).length = 1 := rfl
        have e3 : ("}" : Str).length = 1 := rfl
        refine jn_mk (ys := fs.pcs ++ dots o) (by rw [put_same, List.map_append]) (by omega) ?_
        refine ⟨le_size3 (by rw [join_eq, e1]; omega), le_size3 (by rw [len_app, join_eq, e1, e3]; omega), ?_⟩
        refine hC _ _ _ ?_ q
        have g3 : G p3 = none := by
          have n4 := ne_none (p := p2) put_same hq3
          rw [put_ne (Ne.symm n4)] at hq3
          have n5 := ne_none (p := p1) put_same hq3
          rw [put_ne (Ne.symm n5)] at hq3
          have n6 := ne_none (p := p) put_same hq3
          rw [put_ne (Ne.symm n6)] at hq3
          exact hq3
        exact (((Sub.refl.put hp1).put g1).put g2).put g3
noncomputable def spNames : Spw := fun ws G Q _ => ∃ (s : Addr) (x y : Int), ws = [.ref s] ∧ G s = some (.lst [.int x, .int y]) ∧ ∀ (p : Addr) (n1 n2 n3 : Str) (x' y' : Int) (G' : Hw), goodN n1 n2 n3 → G' p = some (.lst [.str n1, .str n2, .str n3]) → Sub (put G s (.lst [.int x', .int y'])) G' → Q (.ref p) G'
theorem spNames_M : Spw.M spNames := (by rintro ws G Q Q' E E' h _ ⟨s, x, y, h1, h2, q⟩; exact ⟨s, x, y, h1, h2, fun p n1 n2 n3 x' y' G' g h3 h4 => h _ _ (q p n1 n2 n3 x' y' G' g h3 h4)⟩)
theorem k__law_some_names (T : Tx K mg base a) : Df P w K mg base "_law_some_names" 2 1 spNames := by
  refine mk0 (k := 1) T.f__law_some_names rfl c__law_some_names spNames_M ((by rintro ws G Q E ⟨s, x, y, e, _⟩; rw [e]; rfl)) (d__law_some_names T (k__law_take T) (Nat.le_refl _)) fun ws G Q E hC q => ?_
  obtain ⟨s, x, y, rfl, hs, q⟩ := q
  unfold g__law_some_names
  walk_at "rd"
  refine ⟨by decide, fun p0 h0 => ⟨by decide, fun p1 h1 => ⟨by decide, fun p2 h2 => ⟨by decide, fun p3 h3 => ⟨by decide, fun q0 hq => ?_⟩⟩⟩⟩⟩
  have s1 : Sub G (put G p0 (.lst [.str "a", .str "b", .str "cc"])) := Sub.refl.put h0
  have f0 : put G p0 (.lst [.str "a", .str "b", .str "cc"]) p0 = some (.lst [.str "a", .str "b", .str "cc"]) := put_same
  generalize put G p0 (.lst [.str "a", .str "b", .str "cc"]) = G1 at *
  have s2 : Sub G1 (put G1 p1 (.lst [.str "any", .str "num", .str "truth"])) := Sub.refl.put h1
  have f1 : put G1 p1 (.lst [.str "any", .str "num", .str "truth"]) p1 = some (.lst [.str "any", .str "num", .str "truth"]) := put_same
  generalize put G1 p1 (.lst [.str "any", .str "num", .str "truth"]) = G2 at *
  have s3 : Sub G2 (put G2 p2 (.lst [.str "in", .str "inside", .str "out"])) := Sub.refl.put h2
  have f2 : put G2 p2 (.lst [.str "in", .str "inside", .str "out"]) p2 = some (.lst [.str "in", .str "inside", .str "out"]) := put_same
  generalize put G2 p2 (.lst [.str "in", .str "inside", .str "out"]) = G3 at *
  have s4 : Sub G3 (put G3 p3 (.lst [.str "may", .str "row", .str "zzzzzzzz"])) := Sub.refl.put h3
  have f3 : put G3 p3 (.lst [.str "may", .str "row", .str "zzzzzzzz"]) p3 = some (.lst [.str "may", .str "row", .str "zzzzzzzz"]) := put_same
  generalize put G3 p3 (.lst [.str "may", .str "row", .str "zzzzzzzz"]) = G4 at *
  have s5 : Sub G4 (put G4 q0 (.lst [.ref p0, .ref p1, .ref p2, .ref p3])) := Sub.refl.put hq
  have f4 : put G4 q0 (.lst [.ref p0, .ref p1, .ref p2, .ref p3]) q0 = some (.lst [.ref p0, .ref p1, .ref p2, .ref p3]) := put_same
  generalize put G4 q0 (.lst [.ref p0, .ref p1, .ref p2, .ref p3]) = G5 at *
  have S := (((s1.trans s2).trans s3).trans s4).trans s5
  have hs5 := S _ _ hs
  have k0 := s5 _ _ (s4 _ _ (s3 _ _ (s2 _ _ f0)))
  have k1 := s5 _ _ (s4 _ _ (s3 _ _ f1))
  have k2 := s5 _ _ (s4 _ _ f2)
  have k3 := s5 _ _ f3
  have ns : ∀ {p : Addr} {L : List W} {v : W}, G5 p = some (.lst L) → L ≠ [.int x, .int y] → p ≠ s := fun h hne e => by
    subst e
    rw [hs5] at h
    exact hne (HW.lst.inj (Option.some.inj h)).symm
  refine ⟨s, 4, x, y, rfl, by decide, by decide, hs5, fun r x1 y1 r0 r1 => ?_⟩
  have m0 := ns (v := .non) k0 (by intro e; cases e)
  have m1 := ns (v := .non) k1 (by intro e; cases e)
  have m2 := ns (v := .non) k2 (by intro e; cases e)
  have m3 := ns (v := .non) k3 (by intro e; cases e)
  have m4 := ns (v := .non) f4 (by intro e; cases e)
  have F4 : put G5 s (.lst [.int x1, .int y1]) q0 = some (.lst [.ref p0, .ref p1, .ref p2, .ref p3]) := by rw [put_ne m4]; exact f4
  simp only [F4]
  have SS : Sub (put G s (.lst [.int x1, .int y1])) (put G5 s (.lst [.int x1, .int y1])) := S.put2
  have cases4 : r = 0 ∨ r = 1 ∨ r = 2 ∨ r = 3 := by omega
  rcases cases4 with rfl | rfl | rfl | rfl
  · rw [atI_0]
    exact q p0 "a" "b" "cc" x1 y1 _ ⟨by decide +kernel, by decide +kernel, by decide +kernel, by decide +kernel, by decide +kernel, by decide +kernel⟩ (by rw [put_ne m0]; exact k0) SS
  · rw [atI_1]
    exact q p1 "any" "num" "truth" x1 y1 _ ⟨by decide +kernel, by decide +kernel, by decide +kernel, by decide +kernel, by decide +kernel, by decide +kernel⟩ (by rw [put_ne m1]; exact k1) SS
  · rw [atI_2]
    exact q p2 "in" "inside" "out" x1 y1 _ ⟨by decide +kernel, by decide +kernel, by decide +kernel, by decide +kernel, by decide +kernel, by decide +kernel⟩ (by rw [put_ne m2]; exact k2) SS
  · have e3 : atI [W.ref p0, .ref p1, .ref p2, .ref p3] 3 = some (.ref p3) := rfl
    rw [e3]
    exact q p3 "may" "row" "zzzzzzzz" x1 y1 _ ⟨by decide +kernel, by decide +kernel, by decide +kernel, by decide +kernel, by decide +kernel, by decide +kernel⟩ (by rw [put_ne m3]; exact k3) SS
noncomputable def ptree : Nat → W → Prop
  | 0, _ => False
  | n + 1, w => (∃ z, w = .str z) ∨ (∃ b, w = .bl b) ∨ ∃ xs, w = .tup xs ∧ xs.length ≤ 1000 ∧ ∀ x ∈ xs, ptree n x
noncomputable abbrev spIsK (n : Nat) : Spw := spR (fun (v : W) ws _ => ws = [v] ∧ ptree n v) fun _ => .bl true
theorem k__law_is_kind (T : Tx K mg base a) : ∀ n : Nat, Df P w K mg base "_law_is_kind" (n + 1) 1 (spIsK n)
  | 0 => no_df T.f__law_is_kind spR_M (by rintro ws G Q E ⟨k, ⟨_, h⟩, _⟩; exact h)
  | n + 1 => by
    have D := k__law_is_kind T n
    refine mk0 (k := n + 1) T.f__law_is_kind rfl c__law_is_kind spR_M ((by rintro ws G Q E ⟨x, ⟨e, _⟩, _⟩; rw [e]; rfl)) (d__law_is_kind T D (Nat.le_refl _)) fun ws G Q E hC q => ?_
    obtain ⟨v, ⟨rfl, hv⟩, q⟩ := q
    unfold g__law_is_kind
    rcases hv with ⟨z, rfl⟩ | ⟨b, rfl⟩ | ⟨xs, rfl, hl, hx⟩
    · walk_at "rd"
      have t1 : isiB "str" "str" = true := by decide
      simp only [t1, if_true]
      exact q
    · walk_at "rd"
      have t1 : isiB "bool" "str" = false := by decide
      have t2 : isiB "bool" "bool" = true := by decide
      simp only [t1, t2, Bool.false_eq_true, if_true, if_false]
      exact q
    · walk_at "rd"
      have t1 : isiB "tuple" "str" = false := by decide
      have t2 : isiB "tuple" "bool" = false := by decide
      have t3 : isiB "tuple" "tuple" = true := by decide
      simp only [t1, t2, t3, Bool.false_eq_true, if_true, if_false]
      refine comp1 (f := fun _ => .bl true) trivial xs none [] (fun x hxm Q' q' => ⟨x, ⟨rfl, hx x hxm⟩, q'⟩) (by simp only [List.length_nil]; exact le_size3 (by omega)) fun p hp => ?_
      rw [lst_ref put_same, List.nil_append]
      have eb : bools (xs.map fun _ => W.bl true) = some (xs.map fun _ => true) := by
        clear hx hl q
        induction xs with
        | nil => rfl
        | cons x xs ih => show (bools (xs.map fun _ => W.bl true)).map (true :: ·) = _; rw [ih]; rfl
      simp only [Option.bind_some, eb, Option.map_some, opt_some]
      have ea : (xs.map fun _ => true).all id = true := by simp
      rw [ea]
      exact hC _ _ _ (sub_put hp) q
theorem ptree_s : ∀ {n : Nat} {w : W}, ptree n w → ptree (n + 1) w
  | 0, w, h => h.elim
  | n + 1, w, h => by
    rcases h with h | h | ⟨xs, e, hl, hx⟩
    · exact .inl h
    · exact .inr (.inl h)
    · exact .inr (.inr ⟨xs, e, hl, fun x hxm => ptree_s (hx x hxm)⟩)
theorem ptree_up {n : Nat} {w : W} (h : ptree (3 * n) w) : ptree (3 * n + 2) w := ptree_s (ptree_s h)
mutual
theorem enc_ptree : ∀ {k : Kd} {n : Nat}, k.dp ≤ n → k.cnt ≤ 1000 → ptree (3 * n) k.enc
  | k, 0, h, _ => by have := dp_pos k; omega
  | .any, n + 1, _, _ => .inr (.inr ⟨_, rfl, by decide, fun x hx => by rw [List.mem_singleton.mp hx]; exact .inl ⟨_, rfl⟩⟩)
  | .num, n + 1, _, _ => .inr (.inr ⟨_, rfl, by decide, fun x hx => by rw [List.mem_singleton.mp hx]; exact .inl ⟨_, rfl⟩⟩)
  | .truth, n + 1, _, _ => .inr (.inr ⟨_, rfl, by decide, fun x hx => by rw [List.mem_singleton.mp hx]; exact .inl ⟨_, rfl⟩⟩)
  | .to c d, n + 1, h, hc => by
    have h' : 1 + max c.dp d.dp ≤ n + 1 := h
    have hc' : 1 + (c.cnt + d.cnt) ≤ 1000 := hc
    refine .inr (.inr ⟨_, rfl, by simp, fun x hx => ?_⟩)
    have e : x = .str "to" ∨ x = c.enc ∨ x = d.enc := by simpa using hx
    rcases e with rfl | rfl | rfl
    · exact .inl ⟨_, rfl⟩
    · exact ptree_up (enc_ptree (n := n) (by omega) (by omega))
    · exact ptree_up (enc_ptree (n := n) (by omega) (by omega))
  | .box c, n + 1, h, hc => by
    have h' : 1 + c.dp ≤ n + 1 := h
    have hc' : 1 + c.cnt ≤ 1000 := hc
    refine .inr (.inr ⟨_, rfl, by simp, fun x hx => ?_⟩)
    have e : x = .str "box" ∨ x = c.enc := by simpa using hx
    rcases e with rfl | rfl
    · exact .inl ⟨_, rfl⟩
    · exact ptree_up (enc_ptree (n := n) (by omega) (by omega))
  | .row fs o, n + 1, h, hc => by
    have h' : 1 + fs.dp ≤ n + 1 := h
    have hc' : 1 + fs.cnt ≤ 1000 := hc
    refine .inr (.inr ⟨_, rfl, by simp, fun x hx => ?_⟩)
    have e : x = .str "row" ∨ x = .tup fs.enc ∨ x = .bl o := by simpa using hx
    rcases e with rfl | rfl | rfl
    · exact .inl ⟨_, rfl⟩
    · exact .inr (.inr ⟨_, rfl, by have := fs_enc_len fs; omega, fun x hx => encF_ptree (by omega) (by omega) x hx⟩)
    · exact .inr (.inl ⟨_, rfl⟩)
theorem encF_ptree : ∀ {fs : Fs} {n : Nat}, fs.dp ≤ n → fs.cnt ≤ 1000 → ∀ x ∈ fs.enc, ptree (3 * n + 1) x
  | .nil, n, _, _, x, hx => by cases hx
  | .cons nm m k r, n, h, hc, x, hx => by
    have h' : max k.dp r.dp ≤ n := h
    have hc' : k.cnt + r.cnt ≤ 1000 := hc
    rcases List.mem_cons.mp hx with rfl | hx
    · refine .inr (.inr ⟨_, rfl, by simp, fun y hy => ?_⟩)
      have hk : 3 * n ≠ 0 := by have := dp_pos k; omega
      obtain ⟨j, hj⟩ := Nat.exists_eq_succ_of_ne_zero hk
      have e : y = .str nm ∨ y = .str (mark m) ∨ y = k.enc := by simpa using hy
      rcases e with rfl | rfl | rfl
      · rw [hj]; exact .inl ⟨_, rfl⟩
      · rw [hj]; exact .inl ⟨_, rfl⟩
      · exact enc_ptree (by omega) (by omega)
    · exact encF_ptree (by omega) (by omega) x hx
end
set_option Elab.async false
set_option linter.all false
set_option maxRecDepth 100000
set_option maxHeartbeats 4000000
theorem box_loop {D : Ew} {G : Hw} {sc st : Option W} : ∀ (ws : List W) (k : Kd) (o5 : Option W), k.ok = true → k.abc = true →
    (∀ k' : Kd, ∀ o', k'.ok = true → k'.abc = true → k'.dp ≤ k.dp + ws.length → k'.cnt ≤ k.cnt + ws.length → D.nx [sc, st, some k'.enc, none, none, o'] G) →
    goFor yes (gNm 5) (gSet 2 (L3.gTup (L3.gCons (gC (.str "box")) (L3.gCons (gVar 2) L3.gNil)))) D ws [sc, st, some k.enc, none, none, o5] G
  | [], k, o5, ho, ha, fin => ⟨trivial, fin k o5 ho ha (Nat.le_refl _) (Nat.le_refl _)⟩
  | x :: ws, k, o5, ho, ha, fin => by
    refine ⟨trivial, ?_⟩
    show gSet 2 _ _ [sc, st, some k.enc, none, none, some x] G
    walk_at "rd"
    refine ⟨by decide, ?_⟩
    refine box_loop ws (.box k) (some x) ho ha fun k' o' h1 h0 h2 h3 => fin k' o' h1 h0 ?_ ?_
    · have : k'.dp ≤ (1 + k.dp) + ws.length := h2
      simp only [List.length_cons]; omega
    · have : k'.cnt ≤ (1 + k.cnt) + ws.length := h3
      simp only [List.length_cons]; omega
noncomputable def t_law (sp__law_some_names : Spw) (sp__law_renamed : Spw) (sp__law_text : Spw) (sp_kind_shown : Spw) (sp_kind_read : Spw) (sp__law_is_kind : Spw) : GS := (gSeq (gSet 2 (gCall sp__law_renamed (fun _ _ _ => False) (L3.gCons (gVar 2) (L3.gCons (gCall sp__law_some_names (fun _ _ _ => False) (L3.gCons (gVar 1) L3.gNil)) L3.gNil)))) (gSeq (gIf (gTB (gBin (rCmp fun i j => decide (j < i)) (gB (rF lenF) (L3.gCons (gCall sp__law_text (fun _ _ _ => False) (L3.gCons (gVar 2) L3.gNil)) L3.gNil)) (gC (.int 400)))) (gSet 2 (L3.gTup (L3.gCons (gC (.str "box")) (L3.gCons (L3.gTup (L3.gCons (gC (.str "num")) L3.gNil)) L3.gNil)))) gNext) (gSeq (gSet 3 (gCall sp__law_text (fun _ _ _ => False) (L3.gCons (gVar 2) L3.gNil))) (gSeq (gIf (gOr (gTB (gBin (rFun (eqF true)) (gCall sp_kind_shown (fun _ _ _ => False) (L3.gCons (gVar 2) L3.gNil)) (gVar 3))) (gNt (gTru (gIsiT "str" (gCall sp_kind_shown (fun _ _ _ => False) (L3.gCons (gVar 2) L3.gNil)))))) (gRet (gC (.bl false))) gNext) (gSeq (gSet 4 (gCall sp_kind_read (fun _ _ _ => False) (L3.gCons (gVar 3) L3.gNil))) (gRet (gAndV (gBin (rFun (eqF false)) (gVar 4) (gVar 2)) (gAndV (gIsiT "tuple" (gVar 4)) (gCall sp__law_is_kind (fun _ _ _ => False) (L3.gCons (gVar 4) L3.gNil))))))))))
theorem law_cut {sp__law_state : Spw} {sp__law_kind : Spw} {sp__law_take : Spw} {sp__law_some_names : Spw} {sp__law_renamed : Spw} {sp__law_text : Spw} {sp_kind_shown : Spw} {sp_kind_read : Spw} {sp__law_is_kind : Spw} : g_law sp__law_state sp__law_kind sp__law_take sp__law_some_names sp__law_renamed sp__law_text sp_kind_shown sp_kind_read sp__law_is_kind = gSeq (gSet 1 (gCall sp__law_state (fun _ _ _ => False) (L3.gCons (gVar 0) (L3.gCons (gC (.int 0)) L3.gNil)))) (gSeq (gSet 2 (gCall sp__law_kind (fun _ _ _ => False) (L3.gCons (gVar 1) (L3.gCons (gC (.int 3)) L3.gNil)))) (gSeq (gIf (gTB (gBin (rFun (eqF false)) (gCall sp__law_take (fun _ _ _ => False) (L3.gCons (gVar 1) (L3.gCons (gC (.int 4)) L3.gNil))) (gC (.int 0)))) (gSeq (gSet 2 (gCall sp__law_kind (fun _ _ _ => False) (L3.gCons (gVar 1) (L3.gCons (gC (.int 2)) L3.gNil)))) (gFor (gRange (L3.gCons (gCall sp__law_take (fun _ _ _ => False) (L3.gCons (gVar 1) (L3.gCons (gC (.int 6)) L3.gNil))) L3.gNil)) (gNm 5) (gSet 2 (L3.gTup (L3.gCons (gC (.str "box")) (L3.gCons (gVar 2) L3.gNil)))))) gNext) (t_law sp__law_some_names sp__law_renamed sp__law_text sp_kind_shown sp_kind_read sp__law_is_kind))) := rfl
theorem eqDL_cons {x : W} {xs : List W} (h : eqD x x = some true) (h2 : eqDL xs xs = some true) : eqDL (x :: xs) (x :: xs) = some true := by
  show (match eqD x x, eqDL xs xs with | some a, some b => some (a && b) | _, _ => none) = some true
  rw [h, h2]; rfl
theorem eqD_str (s : Str) : eqD (.str s) (.str s) = some true := by show some (s == s) = some true; simp
theorem eqD_bl (s : Bool) : eqD (.bl s) (.bl s) = some true := by show some (s == s) = some true; simp
mutual
theorem eq_enc : ∀ k : Kd, eqD k.enc k.enc = some true
  | .any => by show eqDL [.str "any"] [.str "any"] = some true; exact eqDL_cons (eqD_str _) rfl
  | .num => by show eqDL [.str "num"] [.str "num"] = some true; exact eqDL_cons (eqD_str _) rfl
  | .truth => by show eqDL [.str "truth"] [.str "truth"] = some true; exact eqDL_cons (eqD_str _) rfl
  | .to x y => by
    have h1 := eq_enc x
    have h2 := eq_enc y
    show eqDL [.str "to", x.enc, y.enc] [.str "to", x.enc, y.enc] = some true; exact eqDL_cons (eqD_str _) (eqDL_cons h1 (eqDL_cons h2 rfl))
  | .box x => by
    have h1 := eq_enc x
    show eqDL [.str "box", x.enc] [.str "box", x.enc] = some true; exact eqDL_cons (eqD_str _) (eqDL_cons h1 rfl)
  | .row fs o => by
    have h1 : eqD (.tup fs.enc) (.tup fs.enc) = some true := eq_encF fs
    show eqDL [.str "row", .tup fs.enc, .bl o] [.str "row", .tup fs.enc, .bl o] = some true; exact eqDL_cons (eqD_str _) (eqDL_cons h1 (eqDL_cons (eqD_bl o) rfl))
theorem eq_encF : ∀ fs : Fs, eqDL fs.enc fs.enc = some true
  | .nil => rfl
  | .cons n m k r => by
    have h1 := eq_enc k
    have h2 := eq_encF r
    have h3 : eqD (.tup [.str n, .str (mark m), k.enc]) (.tup [.str n, .str (mark m), k.enc]) = some true := (show eqDL [.str n, .str (mark m), k.enc] [.str n, .str (mark m), k.enc] = some true from eqDL_cons (eqD_str _) (eqDL_cons (eqD_str _) (eqDL_cons h1 rfl)))
    exact eqDL_cons h3 h2
end
mutual
theorem dp_enc : ∀ k : Kd, dpW k.enc ≤ 3 * k.dp
  | .any => by show 1 ≤ 3 * 1; omega
  | .num => by show 1 ≤ 3 * 1; omega
  | .truth => by show 1 ≤ 3 * 1; omega
  | .to x y => by have := dp_enc x; have := dp_enc y; show max 0 (max (dpW x.enc) (max (dpW y.enc) 0)) + 1 ≤ 3 * (1 + max x.dp y.dp); omega
  | .box x => by have := dp_enc x; show max 0 (max (dpW x.enc) 0) + 1 ≤ 3 * (1 + x.dp); omega
  | .row fs o => by have := dp_encF fs; show max 0 (max (L3.dpL fs.enc + 1) (max 0 0)) + 1 ≤ 3 * (1 + fs.dp); omega
theorem dp_encF : ∀ fs : Fs, L3.dpL fs.enc ≤ 3 * fs.dp + 1
  | .nil => Nat.zero_le _
  | .cons n m k r => by
    have := dp_enc k
    have := dp_encF r
    show max (max 0 (max 0 (max (dpW k.enc) 0)) + 1) (L3.dpL r.enc) ≤ 3 * max k.dp r.dp + 1; omega
end
noncomputable def u_law (sp__law_text : Spw) (sp_kind_shown : Spw) (sp_kind_read : Spw) (sp__law_is_kind : Spw) : GS := (gSeq (gSet 3 (gCall sp__law_text (fun _ _ _ => False) (L3.gCons (gVar 2) L3.gNil))) (gSeq (gIf (gOr (gTB (gBin (rFun (eqF true)) (gCall sp_kind_shown (fun _ _ _ => False) (L3.gCons (gVar 2) L3.gNil)) (gVar 3))) (gNt (gTru (gIsiT "str" (gCall sp_kind_shown (fun _ _ _ => False) (L3.gCons (gVar 2) L3.gNil)))))) (gRet (gC (.bl false))) gNext) (gSeq (gSet 4 (gCall sp_kind_read (fun _ _ _ => False) (L3.gCons (gVar 3) L3.gNil))) (gRet (gAndV (gBin (rFun (eqF false)) (gVar 4) (gVar 2)) (gAndV (gIsiT "tuple" (gVar 4)) (gCall sp__law_is_kind (fun _ _ _ => False) (L3.gCons (gVar 4) L3.gNil))))))))
theorem tail_cut {sp__law_some_names : Spw} {sp__law_renamed : Spw} {sp__law_text : Spw} {sp_kind_shown : Spw} {sp_kind_read : Spw} {sp__law_is_kind : Spw} : t_law sp__law_some_names sp__law_renamed sp__law_text sp_kind_shown sp_kind_read sp__law_is_kind = gSeq (gSet 2 (gCall sp__law_renamed (fun _ _ _ => False) (L3.gCons (gVar 2) (L3.gCons (gCall sp__law_some_names (fun _ _ _ => False) (L3.gCons (gVar 1) L3.gNil)) L3.gNil)))) (gSeq (gIf (gTB (gBin (rCmp fun i j => decide (j < i)) (gB (rF lenF) (L3.gCons (gCall sp__law_text (fun _ _ _ => False) (L3.gCons (gVar 2) L3.gNil)) L3.gNil)) (gC (.int 400)))) (gSet 2 (L3.gTup (L3.gCons (gC (.str "box")) (L3.gCons (L3.gTup (L3.gCons (gC (.str "num")) L3.gNil)) L3.gNil)))) gNext) (u_law sp__law_text sp_kind_shown sp_kind_read sp__law_is_kind)) := rfl
noncomputable abbrev spShown : Spw := spR (fun (k : Kd) ws _ => ws = [k.enc] ∧ k.ok = true ∧ good k = true) fun k => .str k.txt
theorem law_end {k : Kd} {G : Hw} {Q : Kw} {sc st o5 : Option W} (ho : k.ok = true) (hg : good k = true) (hl : k.txt.length ≤ 400) (q : ∀ G', Q (.bl true) G') :
    u_law (spTxt 8) spShown (spRead a) (spIsK 24) (endsW Q) [sc, st, some k.enc, none, none, o5] G := by
  have hg' : k.cnt ≤ 40 ∧ k.dp ≤ 8 := of_decide_eq_true hg
  obtain ⟨xs, ex⟩ := enc_tup k
  have e1 : eqW k.enc k.enc = fun _ => some true := by
    funext G
    have h1 := eq_enc k
    have h2 := dp_enc k
    rw [ex] at h1 h2 ⊢
    have h3 : L3.dpL (.str k.hd :: xs) + 1 ≤ 3 * k.dp := h2
    show (if L3.dpL (.str k.hd :: xs) < 90 then eqDL (.str k.hd :: xs) (.str k.hd :: xs) else none) = some true
    rw [if_pos (by omega)]
    exact h1
  have t1 : isiB "str" "str" = true := by decide
  have t2 : isiB "tuple" "tuple" = true := by decide
  unfold u_law
  simp only [gSeq, gIf, gRet, gSet, gVar, gC, gBin, gTB, gTru, gNt, gOr, gAndV, L3.gCons, L3.gNil, gCall, gIsiT, gNext, rFun, eqF, e1, endsW, List.getElem?_cons_zero, List.getElem?_cons_succ, List.set_cons_zero, List.set_cons_succ, Option.map_some, opt_some]
  refine ⟨k, ⟨rfl, ho, hg'.2, by omega⟩, ?_⟩
  refine ⟨k, ⟨rfl, ho, hg⟩, ?_⟩
  have e2 : ∀ G, eqW (.str k.txt) (.str k.txt) G = some true := fun G => by show some (k.txt == k.txt) = some true; simp
  simp only [e2, Option.map_some, opt_some, show (true != true) = false from rfl, Bool.false_eq_true, if_false]
  refine ⟨k, ⟨rfl, ho, hg⟩, ?_⟩
  simp only [tyN, truW, t1, Bool.not_true, Bool.false_eq_true, if_false]
  refine ⟨k, rfl, ho, hg, by omega, fun r T i hr => ?_⟩
  have e3 : ∀ G, tyN k.enc G = some "tuple" := fun G => by rw [ex]; rfl
  have e4 : ∀ G, eqW k.enc k.enc G = some true := fun G => by rw [e1]
  simp only [e4, Option.map_some, opt_some, show (true != false) = true from rfl, if_true]
  show (match tyN k.enc _ with | some n => if isiB n "tuple" = true then spIsK 24 [k.enc] _ Q _ else Q (W.bl false) _ | none => False)
  rw [e3]
  simp only [t2, if_true]
  exact ⟨k.enc, ⟨rfl, enc_ptree (n := 8) hg'.2 (by omega)⟩, q _⟩
theorem law_tail {k : Kd} {G : Hw} {Q : Kw} {s : Addr} {x y : Int} {sc o5 : Option W} (ho : k.ok = true) (ha : k.abc = true) (hg : good k = true) (hs : G s = some (.lst [.int x, .int y])) (q : ∀ G', Q (.bl true) G') :
    t_law spNames (spRen 8) (spTxt 8) spShown (spRead a) (spIsK 24) (endsW Q) [sc, some (.ref s), some k.enc, none, none, o5] G := by
  have hg' : k.cnt ≤ 40 ∧ k.dp ≤ 8 := of_decide_eq_true hg
  rw [tail_cut]
  walk_at "rd"
  refine ⟨s, x, y, rfl, hs, fun p n1 n2 n3 x' y' G1 gn hp sb => ?_⟩
  refine ⟨k, p, n1, n2, n3, rfl, hp, ha, hg'.2, by omega, ?_⟩
  have ho2 := ren_ok gn ho ha
  have hc2 : (k.ren (nm3 n1 n2 n3)).cnt ≤ 40 := by rw [ren_cnt]; exact hg'.1
  have hd2 : (k.ren (nm3 n1 n2 n3)).dp ≤ 8 := by rw [ren_dp]; exact hg'.2
  generalize k.ren (nm3 n1 n2 n3) = k2 at *
  have ht := txt_len ho2
  refine ⟨k2, ⟨rfl, ho2, hd2, by omega⟩, ?_⟩
  dsimp only
  rw [if_pos (le_size3 (by omega))]
  simp only [opt_some]
  have hfold : ∀ Q : Kw, ({ nx := fun _ G => Q W.non G, rt := Q, bk := fun _ _ => False, ct := fun _ _ => False } : Ew) = endsW Q := fun _ => rfl
  simp only [hfold]
  by_cases h4 : (400 : Int) < (k2.txt.length : Int)
  · simp only [h4, decide_true, if_true]
    exact ⟨by decide, by decide, law_end (k := .box .num) rfl (by decide +kernel) (by decide +kernel) q⟩
  · simp only [h4, decide_false, Bool.false_eq_true, if_false]
    exact law_end ho2 (decide_eq_true ⟨hc2, hd2⟩) (by omega) q
theorem k_law (T : Tx K mg base a) {f : Addr} {fd : FuncData} (F : Fun K "law" "law" s_law f fd) : FnOk P w K mg base (CXe P w) 31 f fd ["script"] (upSp K spLaw) := by
  refine ok0 F c_law ((by rintro ws G Q E ⟨ns, e, _⟩; rw [e]; rfl)) (d_law (k := 30) T (k__law_state T) (by omega) (k__law_kind2 T 1) (by omega) (k__law_take T) (by omega) (k__law_some_names T) (by omega) (k__law_renamed T 8) (by omega) (k__law_text T 8) (by omega) (k_kind_shown T) (by omega) (k_kind_read T) (by omega) (k__law_is_kind T 24) (by omega)) fun ws G Q E hC q => ?_
  obtain ⟨ns, rfl, hns, q⟩ := q
  rw [law_cut]
  walk_at "rd"
  have hfold : ∀ Q : Kw, ({ nx := fun _ G => Q W.non G, rt := Q, bk := fun _ _ => False, ct := fun _ _ => False } : Ew) = endsW Q := fun _ => rfl
  simp only [hfold]
  refine ⟨ns, 0, rfl, by decide, by decide, fun s x y hs => ?_⟩
  refine .inl ⟨s, x, y, rfl, put_same, fun k0 x1 y1 hk0 => ?_⟩
  refine ⟨s, 4, x1, y1, rfl, by decide, by decide, put_same, fun r x2 y2 r0 r1 => ?_⟩
  simp only [Option.map_some, opt_some]
  have good0 : ∀ {k : Kd}, k.cnt ≤ 40 → k.dp ≤ 8 → good k = true := fun h1 h2 => decide_eq_true ⟨h1, h2⟩
  have hN3 : Nn 3 = 40 := by decide
  have hN2 : Nn 2 = 13 := by decide
  cases hb : (r == 0) != false with
  | false =>
    simp only [Bool.false_eq_true, if_false]
    refine law_tail hk0.1 hk0.2.2.2 (good0 (show k0.cnt ≤ 40 from hk0.2.2.1) (by have := hk0.2.1; omega)) put_same q
  | true =>
    simp only [if_true]
    refine .inr ⟨s, x2, y2, rfl, put_same, fun k1 x3 y3 hk1 => ?_⟩
    unfold gFor gRange
    walk_at "rd"
    refine ⟨s, 6, x3, y3, rfl, by decide, by decide, put_same, fun m x4 y4 m0 m1 => ?_⟩
    have e62 : (2 : Int) ^ 62 = 4611686018427387904 := by decide
    refine ⟨by rw [e62]; omega, by rw [e62]; omega, ?_⟩
    refine box_loop _ k1 none hk1.1 hk1.2.2.2 fun k2 o5 ho2 ha2 hd2 hc2 => ?_
    rw [List.length_map, List.length_range] at hd2 hc2
    exact law_tail ho2 ha2 (good0 (by have h13 : k1.cnt ≤ 13 := hk1.2.2.1; omega) (by have := hk1.2.1; omega)) put_same q
theorem row_i {base : Heap} {e : DictEntry} {x : Str} {i : Int} {t u : Tok} {es : List DictEntry} {D : List (Str × KTD.Dat)} (h1 : e.key = .str x t) (h2 : e.val = .int i u) (r : KTD.Rows (KTD.Dat.At base) es D) : KTD.Rows (KTD.Dat.At base) (e :: es) ((x, KTD.Dat.flat (.int i)) :: D) :=
  .cons h1 (by rw [h2]; exact PyProof.V.Flat.int i u) r
theorem fun_mkQ {K : PySem.W.Frag} {m qual : Str} {st : Stmt} {f : Addr} {oc : Value} {od an : Option Addr} {osl : Array (Option Value)} {kV doc pm cdv ct : Value}
    (l : K.lookup f = some ⟨oc, od, .func (PySem.W.fnOf m qual (defArgs st) (defBody st) (defScope st) .none kV doc pm an cdv ct), osl⟩) (c : PySem.W.codeIn K cdv qual = true) (k : PySem.W.keepIn K (.ref f) = true) : Fun K m qual st f (PySem.W.fnOf m qual (defArgs st) (defBody st) (defScope st) .none kV doc pm an cdv ct) :=
  ⟨⟨oc, od, kV, doc, pm, an, cdv, ct, osl, rfl, l, c⟩, k⟩
theorem fnM_mk {K : PySem.W.Frag} {C : Addr} {m qual : Str} {st : Stmt} {ps : List Str} {f : Addr} {oc : Value} {od an : Option Addr} {osl : Array (Option Value)} {kV doc pm cdv ct : Value} (e1 : PySem.W.findIn K (.ref C) m = some (some (.ref f))) (g : PySem.W.isFn K (.ref f) = true)
    (l : K.lookup f = some ⟨oc, od, .func (PySem.W.fnOf m qual (defArgs st) (defBody st) (defScope st) .none kV doc pm an cdv ct), osl⟩) (c : PySem.W.codeIn K cdv qual = true) (k : PySem.W.keepIn K (.ref f) = true)
    (b : ∀ (kV doc pm : Value) (an : Option Addr) (cdv ct : Value) (us : List Value), us.length = ps.length → bindArgs (PySem.W.fnOf m qual (defArgs st) (defBody st) (defScope st) .none kV doc pm an cdv ct) ⟨us, []⟩ = pure (ps.zip us)) : FnM K C st m qual ps :=
  ⟨f, _, ⟨e1, g, k⟩, fun_mkQ l c k, Binds.all fun us hl => b _ _ _ _ _ _ us hl⟩
theorem fnI_mk {K : PySem.W.Frag} {h : Heap} {mg : Str → Option Value} (X : K.In h) (G : h.Ns mainGlobals mg) {x : Str} {C : Addr} {qual : Str} {st : Stmt} {ps : List Str} {f : Addr} {oc : Value} {od an : Option Addr} {osl : Array (Option Value)} {kV doc pm cdv ct : Value} (e0 : PySem.W.nsIn K mainGlobals x = some (some (.ref C)))
    (m : PySem.W.makesIn K C = true) (kc : PySem.W.keepIn K (.ref C) = true) (e1 : PySem.W.findIn K (.ref C) "__init__" = some (some (.ref f))) (g : PySem.W.isFn K (.ref f) = true)
    (l : K.lookup f = some ⟨oc, od, .func (PySem.W.fnOf "__init__" qual (defArgs st) (defBody st) (defScope st) .none kV doc pm an cdv ct), osl⟩) (c : PySem.W.codeIn K cdv qual = true) (k : PySem.W.keepIn K (.ref f) = true)
    (b : ∀ (kV doc pm : Value) (an : Option Addr) (cdv ct : Value) (us : List Value), us.length = ps.length → bindArgs (PySem.W.fnOf "__init__" qual (defArgs st) (defBody st) (defScope st) .none kV doc pm an cdv ct) ⟨us, []⟩ = pure (ps.zip us)) : FnI K mg x C st qual ps :=
  ⟨f, _, PySem.W.mg_of X G e0, ⟨m, e1, g, kc⟩, fun_mkQ l c k, Binds.all fun us hl => b _ _ _ _ _ _ us hl⟩
theorem tx_mk {K : PySem.W.Frag} {h : Heap} {mg : Str → Option Value} (X : K.In h) (G : h.Ns mainGlobals mg) (f_is_small_letter : Fn K mg s_is_small_letter "is_small_letter" ["sign"]) (f_names_rise : Fn K mg s_names_rise "names_rise" ["names"]) (f_is_name : Fn K mg s_is_name "is_name" ["thing"]) (f_is_field : Fn K mg s_is_field "is_field" ["thing"]) (f_are_fields : Fn K mg s_are_fields "are_fields" ["thing"]) (f_has_form : Fn K mg s_has_form "has_form" ["thing"]) (f_kinds_within : Fn K mg s_kinds_within "kinds_within" ["kind"]) (f_layer_within : Fn K mg s_layer_within "layer_within" ["layer", "things_within"]) (f_is_made_of : Fn K mg s_is_made_of "is_made_of" ["thing", "is_formed", "things_within", "most", "deepest"]) (f_is_kind : Fn K mg s_is_kind "is_kind" ["thing"]) (f_check_kind : Fn K mg s_check_kind "check_kind" ["thing"]) (f_kind_shown : Fn K mg s_kind_shown "kind_shown" ["kind"]) (f_kind_read : Fn K mg s_kind_read "kind_read" ["text"]) (f_written : Fn K mg s_written "written" ["kind"]) (f_row_written : Fn K mg s_row_written "row_written" ["row"]) (f_field_written : Fn K mg s_field_written "field_written" ["field"]) (f_kind_from : Fn K mg s_kind_from "kind_from" ["reader", "depth"]) (f_function_from : Fn K mg s_function_from "function_from" ["reader", "depth"]) (f_box_from : Fn K mg s_box_from "box_from" ["reader", "depth"]) (f_row_from : Fn K mg s_row_from "row_from" ["reader", "depth"]) (f_field_from : Fn K mg s_field_from "field_from" ["reader", "depth"]) (f__law_state : Fn K mg s__law_state "_law_state" ["script", "k"]) (f__law_take : Fn K mg s__law_take "_law_take" ["state", "many"]) (f__law_kind : Fn K mg s__law_kind "_law_kind" ["state", "deep"]) (f__law_renamed : Fn K mg s__law_renamed "_law_renamed" ["kind", "names"]) (f__law_some_names : Fn K mg s__law_some_names "_law_some_names" ["state"]) (f__law_text : Fn K mg s__law_text "_law_text" ["kind"]) (f__law_is_kind : Fn K mg s__law_is_kind "_law_is_kind" ["found"]) (f_law : Fn K mg s_law "law" ["script"]) {c_CastError c_NoKind c_BadNote c_Reader : Addr} {z_MARKS : Addr} {w0_MARKS w1_MARKS : Tok} {dd_MARKS : Option Addr} {nn_MARKS : Nat} {sl_MARKS : Array (Option Value)} {w_MOST_DEPTH : Tok} {w_MOST_KINDS : Tok} {w_MOST_LETTERS : Tok} {z_LENGTHS : Addr} {ep_LENGTHS : Nat} {e0_LENGTHS e1_LENGTHS e2_LENGTHS e3_LENGTHS e4_LENGTHS e5_LENGTHS : DictEntry} {a0_LENGTHS b0_LENGTHS : Tok} {a1_LENGTHS b1_LENGTHS : Tok} {a2_LENGTHS b2_LENGTHS : Tok} {a3_LENGTHS b3_LENGTHS : Tok} {a4_LENGTHS b4_LENGTHS : Tok} {a5_LENGTHS b5_LENGTHS : Tok}
    (e_CastError : PySem.W.nsIn K mainGlobals "CastError" = some (some (.ref c_CastError)))
    (e_NoKind : PySem.W.nsIn K mainGlobals "NoKind" = some (some (.ref c_NoKind)))
    (e_BadNote : PySem.W.nsIn K mainGlobals "BadNote" = some (some (.ref c_BadNote)))
    (e_Reader : PySem.W.nsIn K mainGlobals "Reader" = some (some (.ref c_Reader)))
    (n_all : PySem.W.nsIn K mainGlobals "all" = some none)
    (n_bool : PySem.W.nsIn K mainGlobals "bool" = some none)
    (n_int : PySem.W.nsIn K mainGlobals "int" = some none)
    (n_isinstance : PySem.W.nsIn K mainGlobals "isinstance" = some none)
    (n_len : PySem.W.nsIn K mainGlobals "len" = some none)
    (n_list : PySem.W.nsIn K mainGlobals "list" = some none)
    (n_range : PySem.W.nsIn K mainGlobals "range" = some none)
    (n_str : PySem.W.nsIn K mainGlobals "str" = some none)
    (n_tuple : PySem.W.nsIn K mainGlobals "tuple" = some none)
    (n_zip : PySem.W.nsIn K mainGlobals "zip" = some none)
    (v_MARKS : PySem.W.nsIn K mainGlobals "MARKS" = some (some (.ref z_MARKS)))
    (l_MARKS : K.lookup z_MARKS = some ⟨.type "tuple", dd_MARKS, .seq #[.str "must" w0_MARKS, .str "may" w1_MARKS] nn_MARKS, sl_MARKS⟩)
    (v_MOST_DEPTH : PySem.W.nsIn K mainGlobals "MOST_DEPTH" = some (some (.int 8 w_MOST_DEPTH)))
    (v_MOST_KINDS : PySem.W.nsIn K mainGlobals "MOST_KINDS" = some (some (.int 40 w_MOST_KINDS)))
    (v_MOST_LETTERS : PySem.W.nsIn K mainGlobals "MOST_LETTERS" = some (some (.int 8 w_MOST_LETTERS)))
    (v_LENGTHS : PySem.W.nsIn K mainGlobals "LENGTHS" = some (some (.ref z_LENGTHS)))
    (l_LENGTHS : K.lookup z_LENGTHS = some ⟨.type "dict", none, .dict #[e0_LENGTHS, e1_LENGTHS, e2_LENGTHS, e3_LENGTHS, e4_LENGTHS, e5_LENGTHS] ep_LENGTHS, #[]⟩)
    (u_LENGTHS : (z_LENGTHS == sysModules) = false)
    (a0_LENGTHS_ : e0_LENGTHS.key = .str "any" a0_LENGTHS)
    (b0_LENGTHS_ : e0_LENGTHS.val = .int 1 b0_LENGTHS)
    (a1_LENGTHS_ : e1_LENGTHS.key = .str "num" a1_LENGTHS)
    (b1_LENGTHS_ : e1_LENGTHS.val = .int 1 b1_LENGTHS)
    (a2_LENGTHS_ : e2_LENGTHS.key = .str "truth" a2_LENGTHS)
    (b2_LENGTHS_ : e2_LENGTHS.val = .int 1 b2_LENGTHS)
    (a3_LENGTHS_ : e3_LENGTHS.key = .str "to" a3_LENGTHS)
    (b3_LENGTHS_ : e3_LENGTHS.val = .int 3 b3_LENGTHS)
    (a4_LENGTHS_ : e4_LENGTHS.key = .str "box" a4_LENGTHS)
    (b4_LENGTHS_ : e4_LENGTHS.val = .int 2 b4_LENGTHS)
    (a5_LENGTHS_ : e5_LENGTHS.key = .str "row" a5_LENGTHS)
    (b5_LENGTHS_ : e5_LENGTHS.val = .int 3 b5_LENGTHS)
    (cl_Reader : Cls K c_Reader)
    (na_Reader_place : NoAttr K c_Reader "place")
    (na_Reader_text : NoAttr K c_Reader "text")
    (f_Reader___init__ : FnI K mg "Reader" c_Reader s_Reader___init__ "Reader.__init__" ["self", "text"])
    (f_Reader_sees : FnM K c_Reader s_Reader_sees "sees" "Reader.sees" ["self", "piece"])
    (f_Reader_takes : FnM K c_Reader s_Reader_takes "takes" "Reader.takes" ["self", "piece"])
    (f_Reader_wants : FnM K c_Reader s_Reader_wants "wants" "Reader.wants" ["self", "piece"])
    (f_Reader_wants_end : FnM K c_Reader s_Reader_wants_end "wants_end" "Reader.wants_end" ["self"])
    (f_Reader_word : FnM K c_Reader s_Reader_word "word" "Reader.word" ["self"]) :
    ∃ a : Adr, ∀ base : Heap, K.In base → Tx K mg base a := by
  refine ⟨⟨c_CastError, c_NoKind, c_BadNote, c_Reader⟩, fun base B => ?_⟩
  exact {
    n_all := PySem.W.mg_none_of X G n_all
    n_bool := PySem.W.mg_none_of X G n_bool
    n_int := PySem.W.mg_none_of X G n_int
    n_isinstance := PySem.W.mg_none_of X G n_isinstance
    n_len := PySem.W.mg_none_of X G n_len
    n_list := PySem.W.mg_none_of X G n_list
    n_range := PySem.W.mg_none_of X G n_range
    n_str := PySem.W.mg_none_of X G n_str
    n_tuple := PySem.W.mg_none_of X G n_tuple
    n_zip := PySem.W.mg_none_of X G n_zip
    m_CastError := PySem.W.mg_of X G e_CastError
    m_NoKind := PySem.W.mg_of X G e_NoKind
    m_BadNote := PySem.W.mg_of X G e_BadNote
    m_Reader := PySem.W.mg_of X G e_Reader
    v_MARKS := gtup_mk X G (ts := [("must", w0_MARKS), ("may", w1_MARKS)]) v_MARKS l_MARKS (by simp)
    v_MOST_DEPTH := gint_mk X G v_MOST_DEPTH
    v_MOST_KINDS := gint_mk X G v_MOST_KINDS
    v_MOST_LETTERS := gint_mk X G v_MOST_LETTERS
    t_LENGTHS := tab_mk X G B v_LENGTHS l_LENGTHS u_LENGTHS ⟨rfl, rfl, rfl⟩ rfl (row_i a0_LENGTHS_ b0_LENGTHS_ (row_i a1_LENGTHS_ b1_LENGTHS_ (row_i a2_LENGTHS_ b2_LENGTHS_ (row_i a3_LENGTHS_ b3_LENGTHS_ (row_i a4_LENGTHS_ b4_LENGTHS_ (row_i a5_LENGTHS_ b5_LENGTHS_ .nil))))))
    f_is_small_letter := f_is_small_letter
    f_names_rise := f_names_rise
    f_is_name := f_is_name
    f_is_field := f_is_field
    f_are_fields := f_are_fields
    f_has_form := f_has_form
    f_kinds_within := f_kinds_within
    f_layer_within := f_layer_within
    f_is_made_of := f_is_made_of
    f_is_kind := f_is_kind
    f_check_kind := f_check_kind
    f_kind_shown := f_kind_shown
    f_kind_read := f_kind_read
    f_written := f_written
    f_row_written := f_row_written
    f_field_written := f_field_written
    f_kind_from := f_kind_from
    f_function_from := f_function_from
    f_box_from := f_box_from
    f_row_from := f_row_from
    f_field_from := f_field_from
    f__law_state := f__law_state
    f__law_take := f__law_take
    f__law_kind := f__law_kind
    f__law_renamed := f__law_renamed
    f__law_some_names := f__law_some_names
    f__law_text := f__law_text
    f__law_is_kind := f__law_is_kind
    f_law := f_law
    cl_Reader := cl_Reader
    na_Reader_place := na_Reader_place
    na_Reader_text := na_Reader_text
    f_Reader___init__ := f_Reader___init__
    f_Reader_sees := f_Reader_sees
    f_Reader_takes := f_Reader_takes
    f_Reader_wants := f_Reader_wants
    f_Reader_wants_end := f_Reader_wants_end
    f_Reader_word := f_Reader_word }
end K3
open PySem PySem.W PyProof.Rows
set_option maxRecDepth 100000 in
set_option maxHeartbeats 0 in
theorem PySem.Challenge.cw_castwright_k03_kinds_written_holds : PySem.Challenge.rw_castwright_k03_kinds_written.Holds := by
  show K3.rwS.Holds
  w_on; o_law
  refine holds_open (r := K3.rwS.row) (q := K3.vwS) (loose := ["LENGTHS"]) (N := 4298)
    (Yf := (kHook K3.KF K3.KL K3.kfe).obs) (Ya := (kHook K3.KF K3.KL K3.kfe).val) (YP := (kHook K3.KF K3.KL K3.kfe).says)
    (Xt := fun s => xlAt K3.vwS [] s && recOk (RowW.records K3.rwS.row.toRowW) s)
    (XP := XL K3.vwS []) ?hl (kHook K3.KF K3.KL K3.kfe).of (kHook K3.KF K3.KL K3.kfe).keeps ?g1 XL.keeps rfl rfl rfl ?g2 rfl
    ?g3 (by decide +kernel) ?g4 ?hw ?hc
  case g1 => exact fun s e => xl_of s (Bool.and_eq_true_iff.mp e).1
  case g2 => exact fun s e => recFacts_of (Bool.and_eq_true_iff.mp e).2
  case g3 => first | assumption | decide +kernel
  case g4 => exact ⟨rfl, rfl, rfl, rfl, rfl, by decide +kernel⟩
  case hw => w_witness2
  case hl => exact byRow2 "special-get-raises" K3.lbf K3.lbt
  k_fill
  refine L3.walkL (l := K3.rwS) (k := 31) ⟨rfl, by decide, by decide⟩ rfl rfl (fun w h Y => PySem.W.kIn_of Y) ?F
  case F =>
    intro w mg fa h KX G hmg
    have F_is_small_letter : L3.Fn (L2.KOf KX) mg K3.s_is_small_letter "is_small_letter" ["sign"] := by
      dsimp only [L2.KOf]
      refine' L3.fn_mk KX G ?e ?l ?c ?k ?b
      (case e => k_is); (case l => k_is); (case c => k_is); (case k => k_is)
      (case b => exact fun _ _ _ _ _ _ us hl => by obtain ⟨_, _, rfl, g0⟩ := L3.ln1 hl; obtain rfl := L3.ln0 g0; rfl)
    have F_names_rise : L3.Fn (L2.KOf KX) mg K3.s_names_rise "names_rise" ["names"] := by
      dsimp only [L2.KOf]
      refine' L3.fn_mk KX G ?e ?l ?c ?k ?b
      (case e => k_is); (case l => k_is); (case c => k_is); (case k => k_is)
      (case b => exact fun _ _ _ _ _ _ us hl => by obtain ⟨_, _, rfl, g0⟩ := L3.ln1 hl; obtain rfl := L3.ln0 g0; rfl)
    have F_is_name : L3.Fn (L2.KOf KX) mg K3.s_is_name "is_name" ["thing"] := by
      dsimp only [L2.KOf]
      refine' L3.fn_mk KX G ?e ?l ?c ?k ?b
      (case e => k_is); (case l => k_is); (case c => k_is); (case k => k_is)
      (case b => exact fun _ _ _ _ _ _ us hl => by obtain ⟨_, _, rfl, g0⟩ := L3.ln1 hl; obtain rfl := L3.ln0 g0; rfl)
    have F_is_field : L3.Fn (L2.KOf KX) mg K3.s_is_field "is_field" ["thing"] := by
      dsimp only [L2.KOf]
      refine' L3.fn_mk KX G ?e ?l ?c ?k ?b
      (case e => k_is); (case l => k_is); (case c => k_is); (case k => k_is)
      (case b => exact fun _ _ _ _ _ _ us hl => by obtain ⟨_, _, rfl, g0⟩ := L3.ln1 hl; obtain rfl := L3.ln0 g0; rfl)
    have F_are_fields : L3.Fn (L2.KOf KX) mg K3.s_are_fields "are_fields" ["thing"] := by
      dsimp only [L2.KOf]
      refine' L3.fn_mk KX G ?e ?l ?c ?k ?b
      (case e => k_is); (case l => k_is); (case c => k_is); (case k => k_is)
      (case b => exact fun _ _ _ _ _ _ us hl => by obtain ⟨_, _, rfl, g0⟩ := L3.ln1 hl; obtain rfl := L3.ln0 g0; rfl)
    have F_has_form : L3.Fn (L2.KOf KX) mg K3.s_has_form "has_form" ["thing"] := by
      dsimp only [L2.KOf]
      refine' L3.fn_mk KX G ?e ?l ?c ?k ?b
      (case e => k_is); (case l => k_is); (case c => k_is); (case k => k_is)
      (case b => exact fun _ _ _ _ _ _ us hl => by obtain ⟨_, _, rfl, g0⟩ := L3.ln1 hl; obtain rfl := L3.ln0 g0; rfl)
    have F_kinds_within : L3.Fn (L2.KOf KX) mg K3.s_kinds_within "kinds_within" ["kind"] := by
      dsimp only [L2.KOf]
      refine' L3.fn_mk KX G ?e ?l ?c ?k ?b
      (case e => k_is); (case l => k_is); (case c => k_is); (case k => k_is)
      (case b => exact fun _ _ _ _ _ _ us hl => by obtain ⟨_, _, rfl, g0⟩ := L3.ln1 hl; obtain rfl := L3.ln0 g0; rfl)
    have F_layer_within : L3.Fn (L2.KOf KX) mg K3.s_layer_within "layer_within" ["layer", "things_within"] := by
      dsimp only [L2.KOf]
      refine' L3.fn_mk KX G ?e ?l ?c ?k ?b
      (case e => k_is); (case l => k_is); (case c => k_is); (case k => k_is)
      (case b => exact fun _ _ _ _ _ _ us hl => by obtain ⟨_, _, rfl, g0⟩ := L3.ln1 hl; obtain ⟨_, _, rfl, g1⟩ := L3.ln1 g0; obtain rfl := L3.ln0 g1; rfl)
    have F_is_made_of : L3.Fn (L2.KOf KX) mg K3.s_is_made_of "is_made_of" ["thing", "is_formed", "things_within", "most", "deepest"] := by
      dsimp only [L2.KOf]
      refine' L3.fn_mk KX G ?e ?l ?c ?k ?b
      (case e => k_is); (case l => k_is); (case c => k_is); (case k => k_is)
      (case b => exact fun _ _ _ _ _ _ us hl => by obtain ⟨_, _, rfl, g0⟩ := L3.ln1 hl; obtain ⟨_, _, rfl, g1⟩ := L3.ln1 g0; obtain ⟨_, _, rfl, g2⟩ := L3.ln1 g1; obtain ⟨_, _, rfl, g3⟩ := L3.ln1 g2; obtain ⟨_, _, rfl, g4⟩ := L3.ln1 g3; obtain rfl := L3.ln0 g4; rfl)
    have F_is_kind : L3.Fn (L2.KOf KX) mg K3.s_is_kind "is_kind" ["thing"] := by
      dsimp only [L2.KOf]
      refine' L3.fn_mk KX G ?e ?l ?c ?k ?b
      (case e => k_is); (case l => k_is); (case c => k_is); (case k => k_is)
      (case b => exact fun _ _ _ _ _ _ us hl => by obtain ⟨_, _, rfl, g0⟩ := L3.ln1 hl; obtain rfl := L3.ln0 g0; rfl)
    have F_check_kind : L3.Fn (L2.KOf KX) mg K3.s_check_kind "check_kind" ["thing"] := by
      dsimp only [L2.KOf]
      refine' L3.fn_mk KX G ?e ?l ?c ?k ?b
      (case e => k_is); (case l => k_is); (case c => k_is); (case k => k_is)
      (case b => exact fun _ _ _ _ _ _ us hl => by obtain ⟨_, _, rfl, g0⟩ := L3.ln1 hl; obtain rfl := L3.ln0 g0; rfl)
    have F_kind_shown : L3.Fn (L2.KOf KX) mg K3.s_kind_shown "kind_shown" ["kind"] := by
      dsimp only [L2.KOf]
      refine' L3.fn_mk KX G ?e ?l ?c ?k ?b
      (case e => k_is); (case l => k_is); (case c => k_is); (case k => k_is)
      (case b => exact fun _ _ _ _ _ _ us hl => by obtain ⟨_, _, rfl, g0⟩ := L3.ln1 hl; obtain rfl := L3.ln0 g0; rfl)
    have F_kind_read : L3.Fn (L2.KOf KX) mg K3.s_kind_read "kind_read" ["text"] := by
      dsimp only [L2.KOf]
      refine' L3.fn_mk KX G ?e ?l ?c ?k ?b
      (case e => k_is); (case l => k_is); (case c => k_is); (case k => k_is)
      (case b => exact fun _ _ _ _ _ _ us hl => by obtain ⟨_, _, rfl, g0⟩ := L3.ln1 hl; obtain rfl := L3.ln0 g0; rfl)
    have F_written : L3.Fn (L2.KOf KX) mg K3.s_written "written" ["kind"] := by
      dsimp only [L2.KOf]
      refine' L3.fn_mk KX G ?e ?l ?c ?k ?b
      (case e => k_is); (case l => k_is); (case c => k_is); (case k => k_is)
      (case b => exact fun _ _ _ _ _ _ us hl => by obtain ⟨_, _, rfl, g0⟩ := L3.ln1 hl; obtain rfl := L3.ln0 g0; rfl)
    have F_row_written : L3.Fn (L2.KOf KX) mg K3.s_row_written "row_written" ["row"] := by
      dsimp only [L2.KOf]
      refine' L3.fn_mk KX G ?e ?l ?c ?k ?b
      (case e => k_is); (case l => k_is); (case c => k_is); (case k => k_is)
      (case b => exact fun _ _ _ _ _ _ us hl => by obtain ⟨_, _, rfl, g0⟩ := L3.ln1 hl; obtain rfl := L3.ln0 g0; rfl)
    have F_field_written : L3.Fn (L2.KOf KX) mg K3.s_field_written "field_written" ["field"] := by
      dsimp only [L2.KOf]
      refine' L3.fn_mk KX G ?e ?l ?c ?k ?b
      (case e => k_is); (case l => k_is); (case c => k_is); (case k => k_is)
      (case b => exact fun _ _ _ _ _ _ us hl => by obtain ⟨_, _, rfl, g0⟩ := L3.ln1 hl; obtain rfl := L3.ln0 g0; rfl)
    have F_kind_from : L3.Fn (L2.KOf KX) mg K3.s_kind_from "kind_from" ["reader", "depth"] := by
      dsimp only [L2.KOf]
      refine' L3.fn_mk KX G ?e ?l ?c ?k ?b
      (case e => k_is); (case l => k_is); (case c => k_is); (case k => k_is)
      (case b => exact fun _ _ _ _ _ _ us hl => by obtain ⟨_, _, rfl, g0⟩ := L3.ln1 hl; obtain ⟨_, _, rfl, g1⟩ := L3.ln1 g0; obtain rfl := L3.ln0 g1; rfl)
    have F_function_from : L3.Fn (L2.KOf KX) mg K3.s_function_from "function_from" ["reader", "depth"] := by
      dsimp only [L2.KOf]
      refine' L3.fn_mk KX G ?e ?l ?c ?k ?b
      (case e => k_is); (case l => k_is); (case c => k_is); (case k => k_is)
      (case b => exact fun _ _ _ _ _ _ us hl => by obtain ⟨_, _, rfl, g0⟩ := L3.ln1 hl; obtain ⟨_, _, rfl, g1⟩ := L3.ln1 g0; obtain rfl := L3.ln0 g1; rfl)
    have F_box_from : L3.Fn (L2.KOf KX) mg K3.s_box_from "box_from" ["reader", "depth"] := by
      dsimp only [L2.KOf]
      refine' L3.fn_mk KX G ?e ?l ?c ?k ?b
      (case e => k_is); (case l => k_is); (case c => k_is); (case k => k_is)
      (case b => exact fun _ _ _ _ _ _ us hl => by obtain ⟨_, _, rfl, g0⟩ := L3.ln1 hl; obtain ⟨_, _, rfl, g1⟩ := L3.ln1 g0; obtain rfl := L3.ln0 g1; rfl)
    have F_row_from : L3.Fn (L2.KOf KX) mg K3.s_row_from "row_from" ["reader", "depth"] := by
      dsimp only [L2.KOf]
      refine' L3.fn_mk KX G ?e ?l ?c ?k ?b
      (case e => k_is); (case l => k_is); (case c => k_is); (case k => k_is)
      (case b => exact fun _ _ _ _ _ _ us hl => by obtain ⟨_, _, rfl, g0⟩ := L3.ln1 hl; obtain ⟨_, _, rfl, g1⟩ := L3.ln1 g0; obtain rfl := L3.ln0 g1; rfl)
    have F_field_from : L3.Fn (L2.KOf KX) mg K3.s_field_from "field_from" ["reader", "depth"] := by
      dsimp only [L2.KOf]
      refine' L3.fn_mk KX G ?e ?l ?c ?k ?b
      (case e => k_is); (case l => k_is); (case c => k_is); (case k => k_is)
      (case b => exact fun _ _ _ _ _ _ us hl => by obtain ⟨_, _, rfl, g0⟩ := L3.ln1 hl; obtain ⟨_, _, rfl, g1⟩ := L3.ln1 g0; obtain rfl := L3.ln0 g1; rfl)
    have F__law_state : L3.Fn (L2.KOf KX) mg K3.s__law_state "_law_state" ["script", "k"] := by
      dsimp only [L2.KOf]
      refine' L3.fn_mk KX G ?e ?l ?c ?k ?b
      (case e => k_is); (case l => k_is); (case c => k_is); (case k => k_is)
      (case b => exact fun _ _ _ _ _ _ us hl => by obtain ⟨_, _, rfl, g0⟩ := L3.ln1 hl; obtain ⟨_, _, rfl, g1⟩ := L3.ln1 g0; obtain rfl := L3.ln0 g1; rfl)
    have F__law_take : L3.Fn (L2.KOf KX) mg K3.s__law_take "_law_take" ["state", "many"] := by
      dsimp only [L2.KOf]
      refine' L3.fn_mk KX G ?e ?l ?c ?k ?b
      (case e => k_is); (case l => k_is); (case c => k_is); (case k => k_is)
      (case b => exact fun _ _ _ _ _ _ us hl => by obtain ⟨_, _, rfl, g0⟩ := L3.ln1 hl; obtain ⟨_, _, rfl, g1⟩ := L3.ln1 g0; obtain rfl := L3.ln0 g1; rfl)
    have F__law_kind : L3.Fn (L2.KOf KX) mg K3.s__law_kind "_law_kind" ["state", "deep"] := by
      dsimp only [L2.KOf]
      refine' L3.fn_mk KX G ?e ?l ?c ?k ?b
      (case e => k_is); (case l => k_is); (case c => k_is); (case k => k_is)
      (case b => exact fun _ _ _ _ _ _ us hl => by obtain ⟨_, _, rfl, g0⟩ := L3.ln1 hl; obtain ⟨_, _, rfl, g1⟩ := L3.ln1 g0; obtain rfl := L3.ln0 g1; rfl)
    have F__law_renamed : L3.Fn (L2.KOf KX) mg K3.s__law_renamed "_law_renamed" ["kind", "names"] := by
      dsimp only [L2.KOf]
      refine' L3.fn_mk KX G ?e ?l ?c ?k ?b
      (case e => k_is); (case l => k_is); (case c => k_is); (case k => k_is)
      (case b => exact fun _ _ _ _ _ _ us hl => by obtain ⟨_, _, rfl, g0⟩ := L3.ln1 hl; obtain ⟨_, _, rfl, g1⟩ := L3.ln1 g0; obtain rfl := L3.ln0 g1; rfl)
    have F__law_some_names : L3.Fn (L2.KOf KX) mg K3.s__law_some_names "_law_some_names" ["state"] := by
      dsimp only [L2.KOf]
      refine' L3.fn_mk KX G ?e ?l ?c ?k ?b
      (case e => k_is); (case l => k_is); (case c => k_is); (case k => k_is)
      (case b => exact fun _ _ _ _ _ _ us hl => by obtain ⟨_, _, rfl, g0⟩ := L3.ln1 hl; obtain rfl := L3.ln0 g0; rfl)
    have F__law_text : L3.Fn (L2.KOf KX) mg K3.s__law_text "_law_text" ["kind"] := by
      dsimp only [L2.KOf]
      refine' L3.fn_mk KX G ?e ?l ?c ?k ?b
      (case e => k_is); (case l => k_is); (case c => k_is); (case k => k_is)
      (case b => exact fun _ _ _ _ _ _ us hl => by obtain ⟨_, _, rfl, g0⟩ := L3.ln1 hl; obtain rfl := L3.ln0 g0; rfl)
    have F__law_is_kind : L3.Fn (L2.KOf KX) mg K3.s__law_is_kind "_law_is_kind" ["found"] := by
      dsimp only [L2.KOf]
      refine' L3.fn_mk KX G ?e ?l ?c ?k ?b
      (case e => k_is); (case l => k_is); (case c => k_is); (case k => k_is)
      (case b => exact fun _ _ _ _ _ _ us hl => by obtain ⟨_, _, rfl, g0⟩ := L3.ln1 hl; obtain rfl := L3.ln0 g0; rfl)
    have F_law : L3.Fn (L2.KOf KX) mg K3.s_law "law" ["script"] := by
      dsimp only [L2.KOf]
      refine' L3.fn_mk KX G ?e ?l ?c ?k ?b
      (case e => k_is); (case l => k_is); (case c => k_is); (case k => k_is)
      (case b => exact fun _ _ _ _ _ _ us hl => by obtain ⟨_, _, rfl, g0⟩ := L3.ln1 hl; obtain rfl := L3.ln0 g0; rfl)
    have HR : ∃ C : Addr, PySem.W.nsIn (L2.KOf KX) mainGlobals "Reader" = some (some (.ref C)) ∧ L2.Cls (L2.KOf KX) C ∧ L2.NoAttr (L2.KOf KX) C "place" ∧ L2.NoAttr (L2.KOf KX) C "text" ∧ L3.FnI (L2.KOf KX) mg "Reader" C K3.s_Reader___init__ "Reader.__init__" ["self", "text"] ∧ L3.FnM (L2.KOf KX) C K3.s_Reader_sees "sees" "Reader.sees" ["self", "piece"] ∧ L3.FnM (L2.KOf KX) C K3.s_Reader_takes "takes" "Reader.takes" ["self", "piece"] ∧ L3.FnM (L2.KOf KX) C K3.s_Reader_wants "wants" "Reader.wants" ["self", "piece"] ∧ L3.FnM (L2.KOf KX) C K3.s_Reader_wants_end "wants_end" "Reader.wants_end" ["self"] ∧ L3.FnM (L2.KOf KX) C K3.s_Reader_word "word" "Reader.word" ["self"] := by
      dsimp only [L2.KOf]
      refine' ⟨_, ?e, ⟨?p1, ?p2, ?p3, ?p4⟩, ?na_Reader_place, ?na_Reader_text, K3.fnI_mk KX G ?i0 ?i1 ?i2 ?i3 ?i4 ?i5 ?i6 ?i7 ?i8, K3.fnM_mk ?Reader_sees0 ?Reader_sees1 ?Reader_sees2 ?Reader_sees3 ?Reader_sees4 ?Reader_sees5, K3.fnM_mk ?Reader_takes0 ?Reader_takes1 ?Reader_takes2 ?Reader_takes3 ?Reader_takes4 ?Reader_takes5, K3.fnM_mk ?Reader_wants0 ?Reader_wants1 ?Reader_wants2 ?Reader_wants3 ?Reader_wants4 ?Reader_wants5, K3.fnM_mk ?Reader_wants_end0 ?Reader_wants_end1 ?Reader_wants_end2 ?Reader_wants_end3 ?Reader_wants_end4 ?Reader_wants_end5, K3.fnM_mk ?Reader_word0 ?Reader_word1 ?Reader_word2 ?Reader_word3 ?Reader_word4 ?Reader_word5⟩
      (case e => k_is)
      (case p1 => k_is)
      (case p2 => k_is)
      (case p3 => k_is)
      (case p4 => k_is)
      (case na_Reader_place => (show PySem.W.findIn _ _ _ = some none); k_is)
      (case na_Reader_text => (show PySem.W.findIn _ _ _ = some none); k_is)
      (case i0 => k_is)
      (case i1 => k_is)
      (case i2 => k_is)
      (case i3 => k_is)
      (case i4 => k_is)
      (case i5 => k_is)
      (case i6 => k_is)
      (case i7 => k_is)
      (case i8 => exact fun _ _ _ _ _ _ us hl => by obtain ⟨_, _, rfl, g0⟩ := L3.ln1 hl; obtain ⟨_, _, rfl, g1⟩ := L3.ln1 g0; obtain rfl := L3.ln0 g1; rfl)
      (case Reader_sees0 => k_is)
      (case Reader_sees1 => k_is)
      (case Reader_sees2 => k_is)
      (case Reader_sees3 => k_is)
      (case Reader_sees4 => k_is)
      (case Reader_sees5 => exact fun _ _ _ _ _ _ us hl => by obtain ⟨_, _, rfl, g0⟩ := L3.ln1 hl; obtain ⟨_, _, rfl, g1⟩ := L3.ln1 g0; obtain rfl := L3.ln0 g1; rfl)
      (case Reader_takes0 => k_is)
      (case Reader_takes1 => k_is)
      (case Reader_takes2 => k_is)
      (case Reader_takes3 => k_is)
      (case Reader_takes4 => k_is)
      (case Reader_takes5 => exact fun _ _ _ _ _ _ us hl => by obtain ⟨_, _, rfl, g0⟩ := L3.ln1 hl; obtain ⟨_, _, rfl, g1⟩ := L3.ln1 g0; obtain rfl := L3.ln0 g1; rfl)
      (case Reader_wants0 => k_is)
      (case Reader_wants1 => k_is)
      (case Reader_wants2 => k_is)
      (case Reader_wants3 => k_is)
      (case Reader_wants4 => k_is)
      (case Reader_wants5 => exact fun _ _ _ _ _ _ us hl => by obtain ⟨_, _, rfl, g0⟩ := L3.ln1 hl; obtain ⟨_, _, rfl, g1⟩ := L3.ln1 g0; obtain rfl := L3.ln0 g1; rfl)
      (case Reader_wants_end0 => k_is)
      (case Reader_wants_end1 => k_is)
      (case Reader_wants_end2 => k_is)
      (case Reader_wants_end3 => k_is)
      (case Reader_wants_end4 => k_is)
      (case Reader_wants_end5 => exact fun _ _ _ _ _ _ us hl => by obtain ⟨_, _, rfl, g0⟩ := L3.ln1 hl; obtain rfl := L3.ln0 g0; rfl)
      (case Reader_word0 => k_is)
      (case Reader_word1 => k_is)
      (case Reader_word2 => k_is)
      (case Reader_word3 => k_is)
      (case Reader_word4 => k_is)
      (case Reader_word5 => exact fun _ _ _ _ _ _ us hl => by obtain ⟨_, _, rfl, g0⟩ := L3.ln1 hl; obtain rfl := L3.ln0 g0; rfl)
    obtain ⟨C, h_e, h_cl_Reader, h_na_Reader_place, h_na_Reader_text, h_f_Reader___init__, h_f_Reader_sees, h_f_Reader_takes, h_f_Reader_wants, h_f_Reader_wants_end, h_f_Reader_word⟩ := HR
    have T : ∃ a : K3.Adr, ∀ base : Heap, (L2.KOf KX).In base → K3.Tx (L2.KOf KX) mg base a := by
      dsimp only [L2.KOf] at *
      refine' K3.tx_mk KX G F_is_small_letter F_names_rise F_is_name F_is_field F_are_fields F_has_form F_kinds_within F_layer_within F_is_made_of F_is_kind F_check_kind F_kind_shown F_kind_read F_written F_row_written F_field_written F_kind_from F_function_from F_box_from F_row_from F_field_from F__law_state F__law_take F__law_kind F__law_renamed F__law_some_names F__law_text F__law_is_kind F_law ?e_CastError ?e_NoKind ?e_BadNote h_e ?n_all ?n_bool ?n_int ?n_isinstance ?n_len ?n_list ?n_range ?n_str ?n_tuple ?n_zip ?v_MARKS ?l_MARKS ?v_MOST_DEPTH ?v_MOST_KINDS ?v_MOST_LETTERS ?v_LENGTHS ?l_LENGTHS ?u_LENGTHS ?a0_LENGTHS_ ?b0_LENGTHS_ ?a1_LENGTHS_ ?b1_LENGTHS_ ?a2_LENGTHS_ ?b2_LENGTHS_ ?a3_LENGTHS_ ?b3_LENGTHS_ ?a4_LENGTHS_ ?b4_LENGTHS_ ?a5_LENGTHS_ ?b5_LENGTHS_ h_cl_Reader h_na_Reader_place h_na_Reader_text h_f_Reader___init__ h_f_Reader_sees h_f_Reader_takes h_f_Reader_wants h_f_Reader_wants_end h_f_Reader_word
      (case e_CastError => k_is)
      (case e_NoKind => k_is)
      (case e_BadNote => k_is)
      (case n_all => k_is)
      (case n_bool => k_is)
      (case n_int => k_is)
      (case n_isinstance => k_is)
      (case n_len => k_is)
      (case n_list => k_is)
      (case n_range => k_is)
      (case n_str => k_is)
      (case n_tuple => k_is)
      (case n_zip => k_is)
      (case v_MARKS => k_is)
      (case l_MARKS => k_is)
      (case v_MOST_DEPTH => k_is)
      (case v_MOST_KINDS => k_is)
      (case v_MOST_LETTERS => k_is)
      (case v_LENGTHS => k_is)
      (case l_LENGTHS => k_is)
      (case u_LENGTHS => decide)
      (case a0_LENGTHS_ => exact rfl)
      (case b0_LENGTHS_ => exact rfl)
      (case a1_LENGTHS_ => exact rfl)
      (case b1_LENGTHS_ => exact rfl)
      (case a2_LENGTHS_ => exact rfl)
      (case b2_LENGTHS_ => exact rfl)
      (case a3_LENGTHS_ => exact rfl)
      (case b3_LENGTHS_ => exact rfl)
      (case a4_LENGTHS_ => exact rfl)
      (case b4_LENGTHS_ => exact rfl)
      (case a5_LENGTHS_ => exact rfl)
      (case b5_LENGTHS_ => exact rfl)
    obtain ⟨a, T⟩ := T
    obtain ⟨f, fd, hm, F, _⟩ := F_law
    have e0 := hmg.symm.trans hm
    cases e0
    obtain ⟨oc, od, kV, doc, pm, an, cdv, ct, osl, rfl, lk, hcd⟩ := F.ex
    exact ⟨_, fun s u => .of_eq rfl, fun base kb nb => K3.k_law (T base kb) F⟩
