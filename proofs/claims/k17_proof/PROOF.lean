import PyProof.Rows.All
import KE.KDictOf
import KE.KFromBytes
import KE.KIntText
import KE.KItem
import KE.RegKIsAll
import KE.RegKTryMore
import PySem.Challenge.RW_evenwear_k17_desk_refusals
set_option Elab.async false
set_option linter.all false
section HDS
lay_quick PySem.W.openEnds
namespace Ev
open PySem PySem.W PySem.Calls PyProof.Rows
def pick : List Bool -> List Stmt -> List Stmt
 | true :: bs, s :: ss => s :: pick bs ss
 | false :: bs, _ :: ss => pick bs ss
 | _, _ => []
def Qf (p : Program) : Program := { p with main := { p.main with body := pick [false, true, true, true, true, true, true, true, true, true, false, true, true, true, true, true, true, false, true, true, true, true, true, true, true, true, true, true, true, true, true, false, true, true, true, true, true, true, true, true, true, false, true, true, true, true, true] p.main.body } }
noncomputable abbrev twT := PySem.W.Fast.tw14364793385576792824
noncomputable abbrev twS := PySem.W.Fast.tw4187177175401517315
noncomputable abbrev twI := PySem.W.Fast.tw5923862056798008813
noncomputable abbrev twE := PySem.W.Fast.tw15552708684749139287
def xt (q : Program) (s : Shared) : Bool := xlAt q [] s && recOk [] s
theorem both {α β γ : Type} {o : Option α} {f : α -> β} {g : α -> γ} {b : β} {c : γ} (h1 : o.map f = some b) (h2 : o.map g = some c) : o.map (fun s => (f s, g s)) = some (b, c) := by
 cases o with
 | none => cases h1
 | some a => cases h1; cases h2; rfl
theorem parts {α β γ : Type} {o : Option α} {f : α -> β × γ} {g : β × γ} (h1 : o.map (fun s => (f s).1) = some g.1) (h2 : o.map (fun s => (f s).2) = some g.2) : o.map f = some g := by
 cases o with
 | none => cases h1
 | some a => exact congrArg some (Prod.ext (Option.some.inj h1) (Option.some.inj h2))
theorem head {r : OpenRow} {p p' : Program} {K K' : Params -> Frag} {as : List Addr} {N : Nat} {d : DefRec} {kwd : List (Str × Expr)} {row : String} {loose : List Str}
   (e : ∀ P, as = (K P).map (·.1)) (hr : r.prog = p) (hR : r.records = []) (hp : p = p') (hK : K = K')
   (h3 : ∀ (w : World) (b : Bool), (twE twT p' (w.withFollow row b) N).map (fun s => twS (Qf p') loose (twI p'.main.body) (xt (Qf p')) true s) = some (openGood (Qf p') loose))
   (hdef : defOf (Qf p) r.name = some (d, kwd)) (hpd : p.theDef r.name = some (d.params, d.body, d.scope)) (hk : kwWritten? d.params.kwonlyargs d.params.kw_defaults = some kwd) (hwr : (!r.writes || r.records.isEmpty) = true)
   (k1 : r.wellSaid = true) (ok : (chainsOk (Qf p) && opensWell p && (frees r.toRowW && r.within.isEmpty)) = true) (hb : p.bare) (hw : r.toRowW.promised)
   (hc : (∀ (w : World) (b : Bool), (twE twT p' (w.withFollow row b) N).map (fun s => as.map s.heap.get?) = some ((K' (w.withFollow row b).params).map fun p => some p.2)) /\ WalkO (Qf p) loose (XL (Qf p) []) (InK K) r.toRowW d kwd fun f vs => PySem.call f vs) : r.Holds := by
 obtain ⟨h2, hc⟩ := hc
 subst hr hp hK
 have left : LeftO r.prog (Qf r.prog) loose (xt (Qf r.prog)) (fun s => as.map s.heap.get?) (fun w => (K w.params).map fun p => some p.2) N := fun w => by
   have h : (twE twT r.prog w N).map (fun s => (twS (Qf r.prog) loose (twI r.prog.main.body) (xt (Qf r.prog)) true s, as.map s.heap.get?)) = some (openGood (Qf r.prog) loose, (K w.params).map fun p => some p.2) := by
     have e := World.withFollow_self w row
     cases hb : w.params.followText row with
     | false =>
       rw [hb] at e
       have h := both (h3 w false) (h2 w false)
       rw [e] at h
       exact h
     | true =>
       rw [hb] at e
       have h := both (h3 w true) (h2 w true)
       rw [e] at h
       exact h
   unfold twE twT twS twI at h
   rewrite [<- PySem.W.Fast.te15552708684749139287, <- PySem.W.Fast.te4187177175401517315, <- PySem.W.Fast.te5923862056798008813, <- PySem.W.Fast.te14364793385576792824] at h
   exact h
 exact holds_open left (InK.of e) InK.keeps (fun s e => xl_of s (Bool.and_eq_true_iff.mp e).1) XL.keeps hdef hpd hk
   (fun s e => hR ▸ recFacts_of (Bool.and_eq_true_iff.mp e).2) hwr k1 ok hb hw hc
end Ev
open PySem PySem.W PySem.Calls PyProof.Rows
set_option maxRecDepth 100000
set_option maxHeartbeats 0
lay_quick PySem.Challenge.pw_evenwear_k17_desk_refusals
theorem Ev.topSeenF1 : ∀ (w : World), (Ev.twE Ev.twT PySem.W.Fast.tw7824404894248303463 (w.withFollow "special-get-raises" false) 8470).map (fun s => (Ev.twS (Ev.Qf PySem.W.Fast.tw7824404894248303463) ["NUMBERS"] (Ev.twI PySem.W.Fast.tw7824404894248303463.main.body) (Ev.xt (Ev.Qf PySem.W.Fast.tw7824404894248303463)) true s).1) = some (openGood (Ev.Qf PySem.W.Fast.tw7824404894248303463) ["NUMBERS"]).1 := fun w => by kernel_rfl
theorem Ev.topSeenF2 : ∀ (w : World), (Ev.twE Ev.twT PySem.W.Fast.tw7824404894248303463 (w.withFollow "special-get-raises" false) 8470).map (fun s => (Ev.twS (Ev.Qf PySem.W.Fast.tw7824404894248303463) ["NUMBERS"] (Ev.twI PySem.W.Fast.tw7824404894248303463.main.body) (Ev.xt (Ev.Qf PySem.W.Fast.tw7824404894248303463)) true s).2) = some (openGood (Ev.Qf PySem.W.Fast.tw7824404894248303463) ["NUMBERS"]).2 := fun w => by kernel_rfl
theorem Ev.topSeenF : ∀ (w : World), (Ev.twE Ev.twT PySem.W.Fast.tw7824404894248303463 (w.withFollow "special-get-raises" false) 8470).map (fun s => Ev.twS (Ev.Qf PySem.W.Fast.tw7824404894248303463) ["NUMBERS"] (Ev.twI PySem.W.Fast.tw7824404894248303463.main.body) (Ev.xt (Ev.Qf PySem.W.Fast.tw7824404894248303463)) true s) = some (openGood (Ev.Qf PySem.W.Fast.tw7824404894248303463) ["NUMBERS"]) := fun w => Ev.parts (Ev.topSeenF1 w) (Ev.topSeenF2 w)
theorem Ev.topSeenT1 : ∀ (w : World), (Ev.twE Ev.twT PySem.W.Fast.tw7824404894248303463 (w.withFollow "special-get-raises" true) 8470).map (fun s => (Ev.twS (Ev.Qf PySem.W.Fast.tw7824404894248303463) ["NUMBERS"] (Ev.twI PySem.W.Fast.tw7824404894248303463.main.body) (Ev.xt (Ev.Qf PySem.W.Fast.tw7824404894248303463)) true s).1) = some (openGood (Ev.Qf PySem.W.Fast.tw7824404894248303463) ["NUMBERS"]).1 := fun w => by kernel_rfl
theorem Ev.topSeenT2 : ∀ (w : World), (Ev.twE Ev.twT PySem.W.Fast.tw7824404894248303463 (w.withFollow "special-get-raises" true) 8470).map (fun s => (Ev.twS (Ev.Qf PySem.W.Fast.tw7824404894248303463) ["NUMBERS"] (Ev.twI PySem.W.Fast.tw7824404894248303463.main.body) (Ev.xt (Ev.Qf PySem.W.Fast.tw7824404894248303463)) true s).2) = some (openGood (Ev.Qf PySem.W.Fast.tw7824404894248303463) ["NUMBERS"]).2 := fun w => by kernel_rfl
theorem Ev.topSeenT : ∀ (w : World), (Ev.twE Ev.twT PySem.W.Fast.tw7824404894248303463 (w.withFollow "special-get-raises" true) 8470).map (fun s => Ev.twS (Ev.Qf PySem.W.Fast.tw7824404894248303463) ["NUMBERS"] (Ev.twI PySem.W.Fast.tw7824404894248303463.main.body) (Ev.xt (Ev.Qf PySem.W.Fast.tw7824404894248303463)) true s) = some (openGood (Ev.Qf PySem.W.Fast.tw7824404894248303463) ["NUMBERS"]) := fun w => Ev.parts (Ev.topSeenT1 w) (Ev.topSeenT2 w)
theorem Ev.topSeen : ∀ (w : World) (b : Bool), (Ev.twE Ev.twT PySem.W.Fast.tw7824404894248303463 (w.withFollow "special-get-raises" b) 8470).map (fun s => Ev.twS (Ev.Qf PySem.W.Fast.tw7824404894248303463) ["NUMBERS"] (Ev.twI PySem.W.Fast.tw7824404894248303463.main.body) (Ev.xt (Ev.Qf PySem.W.Fast.tw7824404894248303463)) true s) = some (openGood (Ev.Qf PySem.W.Fast.tw7824404894248303463) ["NUMBERS"]) := fun w b => match b with | false => Ev.topSeenF w | true => Ev.topSeenT w
set_option hygiene false in
local macro_rules
 | `(tactic| o_head ($_f $k $a $e)) => `(tactic| (
     apply Ev.head (row := "special-get-raises") (loose := ["NUMBERS"]) (p := PySem.Challenge.pw_evenwear_k17_desk_refusals) (K := $k) (as := $a) $e rfl rfl PySem.W.Fast.te7824404894248303463 rfl Ev.topSeen (by rfl) (by rfl) (by rfl) (by rfl) (by first | assumption | decide +kernel) (by decide +kernel) ⟨rfl, rfl, rfl, rfl, rfl, by decide +kernel⟩))
 | `(tactic| o_head ($_f $k $a $e $_t)) => `(tactic| (
     apply Ev.head (row := "special-get-raises") (loose := ["NUMBERS"]) (p := PySem.Challenge.pw_evenwear_k17_desk_refusals) (K := $k) (as := $a) $e rfl rfl PySem.W.Fast.te7824404894248303463 rfl Ev.topSeen (by rfl) (by rfl) (by rfl) (by rfl) (by first | assumption | decide +kernel) (by decide +kernel) ⟨rfl, rfl, rfl, rfl, rfl, by decide +kernel⟩))
open_top Ev.hd for PySem.Challenge.rw_evenwear_k17_desk_refusals
--H2
theorem Ev.h2F : ∀ (w : World), (Ev.twE Ev.twT PySem.W.Fast.tw7824404894248303463 (w.withFollow "special-get-raises" false) 8470).map (fun s => ([2, 3, 15, 22, 23, 24, 25, 28, 35, 36, 37, 40, 47, 48, 49, 52, 59, 60, 61, 64, 71, 72, 73, 76, 83, 84, 85, 88, 95, 96, 97, 100, 107, 108, 109, 112, 119, 120, 121, 131, 134, 135, 136, 138, 139, 141, 142, 143, 145, 146, 148, 149, 150, 152, 153, 155, 156, 157, 159, 160, 162, 163, 164, 166, 167, 169, 170, 171, 173, 174, 176, 177, 178, 180, 181, 183, 184, 185, 187, 188, 190, 191, 192, 194, 195, 197, 198, 199, 201, 202, 204, 205, 206, 208, 209, 211, 212, 213, 214, 215, 216, 217, 227, 230, 231, 232, 234, 235, 237, 238, 239, 241, 242, 244, 245, 246, 248, 249, 251, 252, 253, 255, 256, 258, 259, 260, 262, 263, 265, 266, 267, 269, 270, 272, 273, 274, 276, 277, 279, 280, 281, 282, 283, 284, 285, 288, 290, 291, 293, 294, 295, 297, 298, 300, 301, 302, 305, 306, 307, 310, 311, 312, 315, 316, 317, 319, 320, 322, 323, 324, 326, 327, 329, 330, 331, 333, 334, 336, 337, 338, 340, 341, 343, 344, 345, 347, 348, 350, 351, 352, 360, 362, 363, 365, 366, 367, 369, 370, 372, 373, 374, 376, 377, 379, 380, 381, 383, 384, 386, 387, 388, 390, 391, 393, 394, 395, 397, 398, 400, 401, 402, 404, 405, 407, 408, 409, 410, 411, 412, 413, 416, 418, 419, 421, 422, 423, 426, 427, 428, 431, 432, 433, 435, 436, 438, 439, 440, 443, 444, 445, 447, 448, 450, 451, 452, 454, 455, 457, 458, 459, 461, 462, 464, 465, 466, 469, 470, 471, 474, 475] : List Addr).map s.heap.get?) = some ((Ev.hd.heap_39 (w.withFollow "special-get-raises" false).params).map fun p => some p.2) := fun w => by kernel_rfl
theorem Ev.h2T : ∀ (w : World), (Ev.twE Ev.twT PySem.W.Fast.tw7824404894248303463 (w.withFollow "special-get-raises" true) 8470).map (fun s => ([2, 3, 15, 22, 23, 24, 25, 28, 35, 36, 37, 40, 47, 48, 49, 52, 59, 60, 61, 64, 71, 72, 73, 76, 83, 84, 85, 88, 95, 96, 97, 100, 107, 108, 109, 112, 119, 120, 121, 131, 134, 135, 136, 138, 139, 141, 142, 143, 145, 146, 148, 149, 150, 152, 153, 155, 156, 157, 159, 160, 162, 163, 164, 166, 167, 169, 170, 171, 173, 174, 176, 177, 178, 180, 181, 183, 184, 185, 187, 188, 190, 191, 192, 194, 195, 197, 198, 199, 201, 202, 204, 205, 206, 208, 209, 211, 212, 213, 214, 215, 216, 217, 227, 230, 231, 232, 234, 235, 237, 238, 239, 241, 242, 244, 245, 246, 248, 249, 251, 252, 253, 255, 256, 258, 259, 260, 262, 263, 265, 266, 267, 269, 270, 272, 273, 274, 276, 277, 279, 280, 281, 282, 283, 284, 285, 288, 290, 291, 293, 294, 295, 297, 298, 300, 301, 302, 305, 306, 307, 310, 311, 312, 315, 316, 317, 319, 320, 322, 323, 324, 326, 327, 329, 330, 331, 333, 334, 336, 337, 338, 340, 341, 343, 344, 345, 347, 348, 350, 351, 352, 360, 362, 363, 365, 366, 367, 369, 370, 372, 373, 374, 376, 377, 379, 380, 381, 383, 384, 386, 387, 388, 390, 391, 393, 394, 395, 397, 398, 400, 401, 402, 404, 405, 407, 408, 409, 410, 411, 412, 413, 416, 418, 419, 421, 422, 423, 426, 427, 428, 431, 432, 433, 435, 436, 438, 439, 440, 443, 444, 445, 447, 448, 450, 451, 452, 454, 455, 457, 458, 459, 461, 462, 464, 465, 466, 469, 470, 471, 474, 475] : List Addr).map s.heap.get?) = some ((Ev.hd.heap_39 (w.withFollow "special-get-raises" true).params).map fun p => some p.2) := fun w => by kernel_rfl
theorem Ev.h2 : ∀ (w : World) (b : Bool), (Ev.twE Ev.twT PySem.W.Fast.tw7824404894248303463 (w.withFollow "special-get-raises" b) 8470).map (fun s => ([2, 3, 15, 22, 23, 24, 25, 28, 35, 36, 37, 40, 47, 48, 49, 52, 59, 60, 61, 64, 71, 72, 73, 76, 83, 84, 85, 88, 95, 96, 97, 100, 107, 108, 109, 112, 119, 120, 121, 131, 134, 135, 136, 138, 139, 141, 142, 143, 145, 146, 148, 149, 150, 152, 153, 155, 156, 157, 159, 160, 162, 163, 164, 166, 167, 169, 170, 171, 173, 174, 176, 177, 178, 180, 181, 183, 184, 185, 187, 188, 190, 191, 192, 194, 195, 197, 198, 199, 201, 202, 204, 205, 206, 208, 209, 211, 212, 213, 214, 215, 216, 217, 227, 230, 231, 232, 234, 235, 237, 238, 239, 241, 242, 244, 245, 246, 248, 249, 251, 252, 253, 255, 256, 258, 259, 260, 262, 263, 265, 266, 267, 269, 270, 272, 273, 274, 276, 277, 279, 280, 281, 282, 283, 284, 285, 288, 290, 291, 293, 294, 295, 297, 298, 300, 301, 302, 305, 306, 307, 310, 311, 312, 315, 316, 317, 319, 320, 322, 323, 324, 326, 327, 329, 330, 331, 333, 334, 336, 337, 338, 340, 341, 343, 344, 345, 347, 348, 350, 351, 352, 360, 362, 363, 365, 366, 367, 369, 370, 372, 373, 374, 376, 377, 379, 380, 381, 383, 384, 386, 387, 388, 390, 391, 393, 394, 395, 397, 398, 400, 401, 402, 404, 405, 407, 408, 409, 410, 411, 412, 413, 416, 418, 419, 421, 422, 423, 426, 427, 428, 431, 432, 433, 435, 436, 438, 439, 440, 443, 444, 445, 447, 448, 450, 451, 452, 454, 455, 457, 458, 459, 461, 462, 464, 465, 466, 469, 470, 471, 474, 475] : List Addr).map s.heap.get?) = some ((Ev.hd.heap_39 (w.withFollow "special-get-raises" b).params).map fun p => some p.2) := fun w b => match b with | false => Ev.h2F w | true => Ev.h2T w
end HDS
set_option Elab.async false
set_option linter.all false
set_option maxRecDepth 100000
namespace L2
open PySem PySem.Spec PyProof.Rows
def isStar : Expr -> Bool
 | .Starred _ _ => true
 | _ => false
theorem zQq {e : Expr} {es : List Expr} {env : Env} (h : isStar e = false) : starEach (e :: es) env = (false, eval e env) :: starEach es env := by
 cases e <;> first | rfl | cases h
theorem zQx {pos : Pos} {env : Env} : ∀ {es : List Expr}, (es.all fun e => !isStar e) = true -> (backTo pos (starEach es env)).any (·.1) = false
 | [], _ => rfl
 | e :: es, h => by
   rw [List.all_cons, Bool.and_eq_true] at h
   rw [zQq (by simpa using h.1)]
   show (false || (backTo pos (starEach es env)).any (·.1)) = false
   rw [zQx h.2]
   rfl
abbrev Key := Sum Int Str
def keyIs : Key -> Value -> Bool
 | .inl k, v => Value.isInt k v
 | .inr x, v => Value.isStrOf x v
def keyH (w : World) : Key -> Int
 | .inl k => hashInt k
 | .inr x => hashStr w x
theorem zKv : ∀ {k : Key} {v : Value}, keyIs k v = true -> (∃ i t, k = Sum.inl i /\ v = Value.int i t) \/ (∃ x t, k = Sum.inr x /\ v = Value.str x t)
 | .inl i, v, h => by
   obtain ⟨t, e⟩ := Value.isInt_shape (k := i) (v := v) h
   exact .inl ⟨i, t, rfl, e⟩
 | .inr x, v, h => by
   obtain ⟨t, e⟩ := Value.isStrOf_shape (x := x) (v := v) h
   exact .inr ⟨x, t, rfl, e⟩
theorem keyIs_int (i : Int) (t : Tok) : keyIs (.inl i) (.int i t) = true := by simp [keyIs, Value.isInt]
theorem zZv (x : Str) (t : Tok) : keyIs (.inr x) (.str x t) = true := by simp [keyIs, Value.isStrOf]
theorem key_ll (a b : Int) : decide ((Sum.inl a : Key) = Sum.inl b) = (a == b) := by
 by_cases e : a = b
 . subst e; simp
 . have h : ¬ (Sum.inl a : Key) = Sum.inl b := fun q => e (Sum.inl.inj q)
   rw [decide_eq_false h]
   exact (beq_eq_false_iff_ne.mpr e).symm
theorem key_rr (a b : Str) : decide ((Sum.inr a : Key) = Sum.inr b) = decide (a = b) := by
 by_cases e : a = b
 . subst e; simp
 . have h : ¬ (Sum.inr a : Key) = Sum.inr b := fun q => e (Sum.inr.inj q)
   rw [decide_eq_false h, decide_eq_false e]
theorem key_lr (a : Int) (b : Str) : decide ((Sum.inl a : Key) = Sum.inr b) = false := decide_eq_false (fun q => nomatch q)
theorem key_rl (a : Str) (b : Int) : decide ((Sum.inr a : Key) = Sum.inl b) = false := decide_eq_false (fun q => nomatch q)
def mixKind (prog : Program) (w : World) : PySem.KeyKind prog w Key where
 is := keyIs
 hash := keyH w
 inj := fun v a b ha hb => by
   rcases zKv ha with ⟨i, t, rfl, rfl⟩ | ⟨x, t, rfl, rfl⟩
   . rcases zKv hb with ⟨j, u, rfl, e⟩ | ⟨y, u, rfl, e⟩
     . injection e with e1 _; rw [e1]
     . exact nomatch e
   . rcases zKv hb with ⟨j, u, rfl, e⟩ | ⟨y, u, rfl, e⟩
     . exact nomatch e
     . injection e with e1 _; rw [e1]
 byValue := fun k v h => by
   rcases zKv h with ⟨i, t, rfl, rfl⟩ | ⟨x, t, rfl, rfl⟩ <;> rfl
 pyHash := fun hv h => by
   rcases zKv hv with ⟨i, t, rfl, rfl⟩ | ⟨x, t, rfl, rfl⟩
   . exact wpAny_pyHash_int h
   . exact wpAny_pyHash_str h
 eqBool := fun hu hv h => by
   rcases zKv hu with ⟨i, t, rfl, rfl⟩ | ⟨x, t, rfl, rfl⟩
   . rcases zKv hv with ⟨j, u, rfl, rfl⟩ | ⟨y, u, rfl, rfl⟩
     . rw [key_ll] at h; exact wpAny_eqBool_int h
     . rw [key_lr] at h; exact SeqAt.EqAt.int_str i t y u _ _ _ _ h
   . rcases zKv hv with ⟨j, u, rfl, rfl⟩ | ⟨y, u, rfl, rfl⟩
     . rw [key_rl] at h; exact SeqAt.EqAt.str_int x t j u _ _ _ _ h
     . rw [key_rr] at h; exact wpAny_eqBool_str h
 «strs» := fun k x t v h => by
   rcases zKv h with ⟨i, u, rfl, e⟩ | ⟨y, u, rfl, e⟩
   . exact nomatch e
   . injection e with e1 _
     subst e1
     cases v <;> rfl
theorem mixKind_int (prog : Program) (w : World) (i : Int) (t : Tok) : (mixKind prog w).is (.inl i) (.int i t) = true := keyIs_int i t
theorem mixKind_str (prog : Program) (w : World) (x : Str) (t : Tok) : (mixKind prog w).is (.inr x) (.str x t) = true := zZv x t
inductive V where
 | non | bl (b : Bool) | int (i : Int) | str (x : Str) | byt (b : Array UInt8) | flt (b : UInt64) | ref (a : Addr) | ty (n : String)
 deriving DecidableEq
def RelV : V -> Value -> Prop
 | .non, u => u = Value.none
 | .bl b, u => u = Value.bool b
 | .int i, u => ∃ t, u = Value.int i t
 | .str x, u => ∃ t, u = Value.str x t
 | .byt b, u => ∃ t, u = Value.bytes b t
 | .flt b, u => ∃ t, u = Value.float b t
 | .ref a, u => u = Value.ref a
 | .ty n, u => u = Value.type n
abbrev Vals : List V -> List Value -> Prop := Paired RelV
theorem Vals.length {xs : List V} {us : List Value} (r : Vals xs us) : xs.length = us.length := Paired.length r
theorem Vals.get : ∀ {xs : List V} {us : List Value} {i : Nat} {x : V}, Vals xs us -> xs[i]? = some x -> ∃ u, us[i]? = some u /\ RelV x u
 | _, _, _, _, .nil, e => by simp at e
 | _, _, 0, _, .cons r _, e => by simp at e; subst e; exact ⟨_, rfl, r⟩
 | _, _, i + 1, x, .cons _ t, e => by
   obtain ⟨u, h1, h2⟩ := Vals.get (i := i) (x := x) t (by simpa using e)
   exact ⟨u, by simpa using h1, h2⟩
theorem Vals.set {x : V} {u : Value} (r : RelV x u) : ∀ {xs : List V} {us : List Value} (i : Nat), Vals xs us -> Vals (xs.set i x) (us.set i u)
 | _, _, _, .nil => .nil
 | _, _, 0, .cons _ t => .cons r t
 | _, _, i + 1, .cons q t => .cons q (Vals.set r i t)
theorem Vals.append : ∀ {xs ys : List V} {us ws : List Value}, Vals xs us -> Vals ys ws -> Vals (xs ++ ys) (us ++ ws)
 | _, _, _, _, .nil, s => s
 | _, _, _, _, .cons r t, s => .cons r (Vals.append t s)
theorem Vals.take : ∀ {xs : List V} {us : List Value} (n : Nat), Vals xs us -> Vals (xs.take n) (us.take n)
 | _, _, 0, _ => .nil
 | _, _, _ + 1, .nil => .nil
 | _, _, n + 1, .cons r t => .cons r (Vals.take n t)
theorem Vals.drop : ∀ {xs : List V} {us : List Value} (n : Nat), Vals xs us -> Vals (xs.drop n) (us.drop n)
 | _, _, 0, r => r
 | _, _, _ + 1, .nil => .nil
 | _, _, n + 1, .cons _ t => Vals.drop n t
theorem Vals.none_of : ∀ {xs : List V} {us : List Value} {i : Nat}, Vals xs us -> xs[i]? = none -> us[i]? = none := fun {xs us i} r e => by
 have h1 := r.length
 have h2 : xs.length <= i := List.getElem?_eq_none_iff.mp e
 exact List.getElem?_eq_none_iff.mpr (by omega)
def RelO : Option V -> Option Value -> Prop
 | some v, some u => RelV v u
 | none, none => True
 | _, _ => False
def KV {κ : Type} : List (κ × V) -> List (κ × Value) -> Prop := Paired fun (p : κ × V) (q : κ × Value) => p.1 = q.1 /\ RelV p.2 q.2
def kV : Key -> V
 | .inl i => .int i
 | .inr x => .str x
inductive HO where
 /-- a list -/
 | lst (xs : List V)
 /-- a tuple (never changes) -/
 | tup (xs : List V)
 /-- a dict whose keys are ints and texts; one whose keys are tuples of ints and texts (the empty one is both) -/
 | dK (kvs : List (Key × V)) | dT (kvs : List (List Key × V))
 /-- a set of ints: its members, its size -/
 | set (S : Int -> Bool) (n : Nat)
 /-- an instance of the class at C, its dict at dx, its attributes -/
 | ins (C dx : Addr) (fs : List (Str × V))
 /-- the dict of the instance at x -/
 | own (x : Addr)
 /-- the dict of an exception -/
 | xd (fs : List (Str × V))
 /-- a bound method, f of x -/
 | met (f x : Addr)
 /-- a range object lo, lo + 1, .. below hi -/
 | rng (lo hi : Int)
 /-- a thing that is known to the object (the script; a dict while a loop walks it): read, never written while it is so -/
 | frz (o : Obj) (u : HO)
 /-- a code object's table -/
 | tbl (ps : Array Value)
 /-- any other thing, by what is true of its one object (a def of one's own: SetO a S n := HO.ext fun h => ..) -/
 | ext (φ : Heap -> Prop)
abbrev Hp := Addr -> Option HO
def upd (H : Hp) (a : Addr) (o : HO) : Hp := fun b => if b = a then some o else H b
theorem zQz {H : Hp} {a : Addr} {o : HO} : upd H a o a = some o := by unfold upd; rw [if_pos rfl]
theorem zWx {H : Hp} {a b : Addr} {o : HO} (h : b ≠ a) : upd H a o b = H b := by unfold upd; rw [if_neg h]
theorem yZv {H : Hp} {a : Addr} {o u : HO} : upd (upd H a o) a u = upd H a u := by
 funext b; unfold upd; split <;> rfl
theorem yJz {H : Hp} {a b : Addr} {o u : HO} (h : H a = some o) (h' : H b = some u) (d : o ≠ u) : a ≠ b := by
 intro e; subst e; rw [h] at h'; exact d (Option.some.inj h')
theorem zWk {H : Hp} {a b : Addr} {o : HO} (h : H a = some o) (h' : H b = none) : a ≠ b := by
 intro e; subst e; rw [h] at h'; cases h'
section
variable (P : Program) (w : World)
def ObjOk (H : Hp) (h : Heap) (a : Addr) : HO -> Prop
 | .lst xs => xs.length <= sizeLine /\ ∃ (its : List Value) (n : Nat), Vals xs its /\ h.get? a = some { cls := .type "list", data := .seq its.toArray n }
 | .tup xs => xs.length <= sizeLine /\ ∃ its : List Value, Vals xs its /\ IsTup h a its.toArray
 | .dK kvs => kvs.length <= sizeLine /\ (a == sysModules) = false /\ ∃ vs, KV kvs vs /\ h.DictOf (mixKind P w) a vs
 | .dT kvs => kvs.length <= sizeLine /\ (a == sysModules) = false /\ ∃ xs : List (List Key × Addr × Value),
     Paired (fun (p : List Key × V) (q : List Key × Addr × Value) => p.1 = q.1 /\ H q.2.1 = some (.tup (p.1.map kV)) /\ RelV p.2 q.2.2) kvs xs /\
     ∃ o es ep, h.get? a = some o /\ o.ExactDict /\ o.data = .dict es ep /\ es.toList = xs.map (entryOfKey (tupleKind (mixKind P w))) /\ (xs.map (·.1)).Nodup
 | .set S n => h.SetOf (intKind P w) a S n
 | .ins C dx fs => H dx = some (.own a) /\ fs.length <= 1000 /\ dx ≠ a /\ h.get? a = some (PySem.W.instObj C dx) /\
     ∃ mA, h.Ns1 dx mA /\ (∀ f, RelO (fs.lookup f) (mA f)) /\ PySem.Within mA (fs.map (·.1))
 | .own _ => ∃ o, h.get? a = some o
 | .xd fs => ∃ mA, h.Ns1 a mA /\ ∀ f, RelO (fs.lookup f) (mA f)
 | .rng lo hi => ∃ t u v, h.get? a = some { cls := .type "range", data := .fields #[.int lo t, .int hi u, .int 1 v] }
 | .frz o u => h.get? a = some o /\ ObjOk H h a u
 | .tbl ps => h.get? a = some { cls := .none, data := .fields ps }
 | .met f x => h.get? a = some (PySem.W.methodObj (.ref f) (.ref x))
 | .ext φ => φ h /\ (∃ o, h.get? a = some o) /\ ∀ h1 h2 : Heap, φ h1 -> (∀ o, h1.get? a = some o -> h2.get? a = some o) -> φ h2
def HOk (H : Hp) (h : Heap) : Prop := ∀ a o, H a = some o -> ObjOk P w H h a o
end
section
variable {P : Program} {w : World} {H H' : Hp} {h h' : Heap} {a : Addr} {o : HO}
theorem ObjOk.lt (x : ObjOk P w H h a o) : a < h.objs.size := by
 cases o with
 | lst xs => obtain ⟨_, _, _, _, e⟩ := x; exact Heap.lt_size e
 | tup xs => obtain ⟨_, _, _, p⟩ := x; exact p.lt
 | dK kvs => obtain ⟨_, _, _, _, o, _, _, e, _⟩ := x; exact Heap.lt_size e
 | dT kvs => obtain ⟨_, _, _, _, o, _, _, e, _⟩ := x; exact Heap.lt_size e
 | set S n => obtain ⟨o, _, _, _, e, _⟩ := x; exact Heap.lt_size e
 | ins C dx fs => obtain ⟨_, _, _, e, _⟩ := x; exact Heap.lt_size e
 | own y => obtain ⟨_, e⟩ := x; exact Heap.lt_size e
 | xd fs => obtain ⟨_, ⟨_, _, _, e, _⟩, _⟩ := x; exact Heap.lt_size e
 | rng lo hi => obtain ⟨_, _, _, e⟩ := x; exact Heap.lt_size e
 | frz ob u => obtain ⟨e, _⟩ := x; exact Heap.lt_size e
 | tbl ps => exact Heap.lt_size (show h.get? a = some _ from x)
 | met f y => exact Heap.lt_size (show h.get? a = some _ from x)
 | ext φ => obtain ⟨_, ⟨_, e⟩, _⟩ := x; exact Heap.lt_size e
theorem Paired.mapP {α β : Type} {F G : α -> β -> Prop} : ∀ {l₁ : List α} {l₂ : List β}, Paired F l₁ l₂ -> (∀ a b, F a b -> G a b) -> Paired G l₁ l₂
 | _, _, .nil, _ => .nil
 | _, _, .cons r t, f => .cons (f _ _ r) (Paired.mapP t f)
theorem Paired.imp' {α β : Type} {F G : α -> β -> Prop} (f : ∀ a b, F a b -> G a b) {l₁ : List α} {l₂ : List β} (r : Paired F l₁ l₂) : Paired G l₁ l₂ := Paired.mapP r f
theorem ObjOk.stay (x : ObjOk P w H h a o) (k : ∀ b u, (b = a \/ H b = some (.own a)) -> h.get? b = some u -> h'.get? b = some u)
   (ho : ∀ b, H b = some (.own a) -> H' b = some (.own a)) (ht : ∀ b xs, H b = some (.tup xs) -> H' b = some (.tup xs)) : ObjOk P w H' h' a o := by
 induction o with
 | lst xs => obtain ⟨z, its, n, r, e⟩ := x; exact ⟨z, its, n, r, k _ _ (.inl rfl) e⟩
 | tup xs => obtain ⟨z, its, r, ob, e, c⟩ := x; exact ⟨z, its, r, ob, k _ _ (.inl rfl) e, c⟩
 | dK kvs => obtain ⟨z, y, vs, r, ob, es, ep, e, c⟩ := x; exact ⟨z, y, vs, r, ob, es, ep, k _ _ (.inl rfl) e, c⟩
 | dT kvs =>
   obtain ⟨z, y, xs, r, ob, es, ep, e, c⟩ := x
   exact ⟨z, y, xs, Paired.mapP r fun p q z => ⟨z.1, ht _ _ z.2.1, z.2.2⟩, ob, es, ep, k _ _ (.inl rfl) e, c⟩
 | set S n => obtain ⟨ob, es, ep, t, e, c⟩ := x; exact ⟨ob, es, ep, t, k _ _ (.inl rfl) e, c⟩
 | ins C dx fs =>
   obtain ⟨d, z, ne, e, mA, ⟨od, es, ep, e2, c⟩, r⟩ := x
   exact ⟨ho _ d, z, ne, k _ _ (.inl rfl) e, mA, ⟨od, es, ep, k _ _ (.inr d) e2, c⟩, r⟩
 | own y => obtain ⟨ob, e⟩ := x; exact ⟨ob, k _ _ (.inl rfl) e⟩
 | xd fs => obtain ⟨mA, ⟨od, es, ep, e, c⟩, r⟩ := x; exact ⟨mA, ⟨od, es, ep, k _ _ (.inl rfl) e, c⟩, r⟩
 | rng lo hi => obtain ⟨t, u, v, e⟩ := x; exact ⟨t, u, v, k _ _ (.inl rfl) e⟩
 | frz ob u ih => obtain ⟨e, q⟩ := x; exact ⟨k _ _ (.inl rfl) e, ih q⟩
 | tbl ps =>
   have e : h.get? a = some { cls := .none, data := .fields ps } := x
   show h'.get? a = some { cls := .none, data := .fields ps }
   exact k a _ (.inl rfl) e
 | met f y =>
   have e : h.get? a = some (PySem.W.methodObj (.ref f) (.ref y)) := x
   show h'.get? a = some (PySem.W.methodObj (.ref f) (.ref y))
   exact k a _ (.inl rfl) e
 | ext φ => obtain ⟨p, ⟨o, e⟩, st⟩ := x; exact ⟨st _ _ p fun o q => k _ _ (.inl rfl) q, ⟨o, k _ _ (.inl rfl) e⟩, st⟩
theorem HOk.lt (x : HOk P w H h) (e : H a = some o) : a < h.objs.size := (x a o e).lt
theorem HOk.fresh (x : HOk P w H h) (e : h.objs.size <= a) : H a = none := by
 cases q : H a with
 | none => rfl
 | some u => exact absurd (Nat.lt_of_lt_of_le (x.lt q) e) (Nat.lt_irrefl _)
theorem HOk.kept (x : HOk P w H h) (k : ∀ b u, h.get? b = some u -> h'.get? b = some u) : HOk P w H h' := fun a o e =>
 (x a o e).stay (fun b u _ q => k b u q) (fun _ q => q) fun _ _ q => q
theorem HOk.laid (x : HOk P w H h) (k : ∀ b u, h.get? b = some u -> h'.get? b = some u) (hp : h.objs.size <= a) (new : ObjOk P w (upd H a o) h' a o) : HOk P w (upd H a o) h' := fun b u e => by
 have hn := x.fresh hp
 by_cases hb : b = a
 . subst hb; rw [zQz] at e; cases e; exact new
 . rw [zWx hb] at e
   exact (x b u e).stay (fun c v _ q => k c v q) (fun c q => by rw [zWx (zWk q hn)]; exact q) fun c xs q => by rw [zWx (zWk q hn)]; exact q
end
def Rd (H : Hp) (a : Addr) (u : HO) : Prop := H a = some u \/ ∃ o, H a = some (.frz o u)
theorem Rd.of {H : Hp} {a : Addr} {u : HO} (h : H a = some u) : Rd H a u := .inl h
theorem Rd.ok {P : Program} {w : World} {H : Hp} {h : Heap} {a : Addr} {u : HO} (r : Rd H a u) (x : HOk P w H h) : ObjOk P w H h a u := by
 rcases r with r | ⟨o, r⟩
 . exact x a u r
 . obtain ⟨_, q⟩ := x a _ r
   exact q
def Mut : Option HO -> Prop
 | some (.lst _) => True
 | some (.dK _) => True
 | some (.dT _) => True
 | some (.set _ _) => True
 | some (.ins _ _ _) => True
 | some (.ext _) => True
 | _ => False
section
variable {P : Program} {w : World} {H : Hp} {h h' : Heap} {x e : Addr} {o' : HO}
theorem HOk.write (ok : HOk P w H h) (mu : Mut (H x)) (he : e = x \/ H e = some (.own x)) (k : ∀ b u, b ≠ e -> h.get? b = some u -> h'.get? b = some u) (heo : ∃ u, h'.get? e = some u)
   (new : ObjOk P w (upd H x o') h' x o') : HOk P w (upd H x o') h' := fun b u q => by
 have nown : ∀ c y, H c = some (.own y) -> c ≠ x := fun c y r z => by subst z; rw [r] at mu; exact mu
 have ntup : ∀ c xs, H c = some (.tup xs) -> c ≠ x := fun c xs r z => by subst z; rw [r] at mu; exact mu
 by_cases hb : b = x
 . subst hb; rw [zQz] at q; cases q; exact new
 . rw [zWx hb] at q
   by_cases hbe : b = e
   . have q' : H b = some (.own x) := by
       rcases he with z | z
       . exact absurd (hbe.trans z) hb
       . rw [hbe]; exact z
     rw [q] at q'; cases q'
     obtain ⟨v, hv⟩ := heo
     exact ⟨v, by rw [hbe]; exact hv⟩
   . refine (ok b u q).stay (fun c v hc r => k c v ?_ r) (fun c r => by rw [zWx (nown c b r)]; exact r) fun c xs r => by rw [zWx (ntup c xs r)]; exact r
     rcases hc with rfl | hc
     . exact hbe
     . rintro rfl
       rcases he with z | z
       . exact nown c b hc z
       . rw [hc] at z; cases z; exact hb rfl
end
structure Un (fs ex : List Addr) (H H' : Hp) (h h' : Heap) : Prop where
 keep : ∀ b o, h.get? b = some o -> H b = none -> b ∉ fs -> b ∉ ex -> h'.get? b = some o
 slot : ∀ b o, h.get? b = some o -> H b = none -> b ∈ fs -> b ∉ ex -> ∃ sl, h'.get? b = some { o with slots := sl }
 free : ∀ b o, h.get? b = some o -> H b = none -> b ∉ ex -> H' b = none
 there : ∀ b o, h.get? b = some o -> b ∉ ex -> ∃ o', h'.get? b = some o'
 tups : ∀ b xs, H b = some (.tup xs) -> H' b = some (.tup xs)
 frzs : ∀ b o u, H b = some (.frz o u) -> H' b = some (.frz o u)
 tbls : ∀ b ps, H b = some (.tbl ps) -> ∃ more, H' b = some (.tbl (ps ++ more))
section
variable {fs fs' ex ex' : List Addr} {H H1 H2 : Hp} {h h1 h2 h' : Heap} {a x e : Addr} {o : HO}
theorem Un.any (u : Un fs ex H H1 h h1) {b : Addr} {ob : Obj} (q : h.get? b = some ob) (n : H b = none) (hx : b ∉ ex) : ∃ sl, h1.get? b = some { ob with slots := sl } := by
 by_cases hb : b ∈ fs
 . exact u.slot b ob q n hb hx
 . exact ⟨ob.slots, u.keep b ob q n hb hx⟩
theorem Un.trans (a : Un fs ex H H1 h h1) (b : Un fs ex H1 H2 h1 h2) : Un fs ex H H2 h h2 where
 keep := fun c ob q n hc hx => b.keep c ob (a.keep c ob q n hc hx) (a.free c ob q n hx) hc hx
 slot := fun c ob q n hc hx => by
   obtain ⟨sl, e1⟩ := a.slot c ob q n hc hx
   obtain ⟨sl', e2⟩ := b.slot c _ e1 (a.free c ob q n hx) hc hx
   exact ⟨sl', e2⟩
 free := fun c ob q n hx => by
   obtain ⟨o', e1⟩ := a.there c ob q hx
   exact b.free c o' e1 (a.free c ob q n hx) hx
 there := fun c ob q hx => by
   obtain ⟨o', e1⟩ := a.there c ob q hx
   exact b.there c o' e1 hx
 tups := fun c xs q => b.tups c xs (a.tups c xs q)
 frzs := fun c ob xs q => b.frzs c ob xs (a.frzs c ob xs q)
 tbls := fun c ps q => by
   obtain ⟨m1, e1⟩ := a.tbls c ps q
   obtain ⟨m2, e2⟩ := b.tbls c _ e1
   exact ⟨m1 ++ m2, by rw [e2, Array.append_assoc]⟩
theorem Un.kept (k : ∀ b u, h.get? b = some u -> h'.get? b = some u) : Un fs ex H H h h' :=
 ⟨fun b ob q _ _ _ => k b ob q, fun b ob q _ _ _ => ⟨ob.slots, k b ob q⟩, fun _ _ _ n _ => n, fun b ob q _ => ⟨ob, k b ob q⟩, fun _ _ q => q, fun _ _ _ q => q, fun _ ps q => ⟨#[], by rw [q]; simp⟩⟩
theorem Un.refl : Un fs ex H H h h := Un.kept fun _ _ q => q
theorem Un.laid (k : ∀ b u, h.get? b = some u -> h'.get? b = some u) (hp : h.objs.size <= a) (hn : H a = none) : Un fs ex H (upd H a o) h h' where
 keep := fun b u q _ _ _ => k b u q
 slot := fun b u q _ _ _ => ⟨u.slots, k b u q⟩
 free := fun b u q n _ => by rw [zWx (Nat.ne_of_lt (Nat.lt_of_lt_of_le (Heap.lt_size q) hp))]; exact n
 there := fun b u q _ => ⟨u, k b u q⟩
 tups := fun b xs q => by rw [zWx (zWk q hn)]; exact q
 frzs := fun b u xs q => by rw [zWx (zWk q hn)]; exact q
 tbls := fun b ps q => ⟨#[], by rw [zWx (zWk q hn), q]; simp⟩
theorem Un.write (mu : Mut (H x)) (he : e = x \/ H e = some (.own x)) (k : ∀ b u, b ≠ e -> h.get? b = some u -> h'.get? b = some u) (heo : ∃ u, h'.get? e = some u) : Un fs ex H (upd H x o) h h' := by
 have hx : ∀ b, H b = none -> b ≠ x := fun b n z => by subst z; rw [n] at mu; exact mu
 have hb : ∀ b, H b = none -> b ≠ e := fun b n z => by
   subst z
   rcases he with r | r
   . exact hx b n r
   . rw [n] at r; cases r
 have hm : ∀ b u, H b = some u -> ¬ Mut (some u) -> b ≠ x := fun b u q nm z => by subst z; rw [q] at mu; exact nm mu
 refine ⟨fun b u q n _ _ => k b u (hb b n) q, fun b u q n _ _ => ⟨u.slots, k b u (hb b n) q⟩, fun b u q n _ => by rw [zWx (hx b n)]; exact n, fun b u q _ => ?_,
   fun b xs q => by rw [zWx (hm b _ q fun z => z)]; exact q, fun b u xs q => by rw [zWx (hm b _ q fun z => z)]; exact q, fun b ps q => ⟨#[], by rw [zWx (hm b _ q fun z => z), q]; simp⟩⟩
 by_cases hbe : b = e
 . subst hbe; exact heo
 . exact ⟨u, k b u hbe q⟩
theorem Un.mono (u : Un fs ex H H1 h h1) (hs : ∀ b ∈ fs, b ∈ fs') (hx : ∀ b ∈ ex, b ∈ ex') : Un fs' ex' H H1 h h1 :=
 ⟨fun b ob q n hb he => u.keep b ob q n (fun z => hb (hs b z)) fun z => he (hx b z), fun _ _ q n _ he => u.any q n fun z => he (hx _ z), fun b ob q n he => u.free b ob q n fun z => he (hx b z), fun b ob q he => u.there b ob q fun z => he (hx b z), u.tups, u.frzs, u.tbls⟩
end
def trk (h : Heap) (H : Hp) : List Addr := (List.range h.objs.size).filter fun a => (H a).isSome
def hidT (h : Heap) (H : Hp) : Heap := PySem.W.hideAll h (trk h H)
theorem hidT_size (h : Heap) (H : Hp) : (hidT h H).objs.size = h.objs.size := PySem.W.hideAll_size _ _
theorem hidT_get {h : Heap} {H : Hp} {b : Addr} {o : Obj} (e : h.get? b = some o) (n : H b = none) : (hidT h H).get? b = some o :=
 PySem.W.hideAll_get _ e fun hm => by
   have q : (H b).isSome = true := (List.mem_filter.mp hm).2
   rw [n] at q; simp at q
theorem of_hidT {h : Heap} {H : Hp} {b : Addr} {o : Obj} (e : (hidT h H).get? b = some o) : h.get? b = some o /\ H b = none := by
 have e' : h.get? b = some o := PySem.W.of_hideAll (trk h H) e
 refine ⟨e', ?_⟩
 cases q : H b with
 | none => rfl
 | some x =>
   have hm : b ∈ trk h H := List.mem_filter.mpr ⟨List.mem_range.mpr (Heap.lt_size e'), by simp [q]⟩
   have z : (hidT h H).get? b = none := PySem.W.hideAll_none (trk h H) hm
   rw [z] at e; cases e
def allNews (g h : Heap) (L : Addr) : List (Addr × Obj) := (List.range h.objs.size).filterMap fun a => if a = L \/ (g.get? a).isSome = true then none else (h.get? a).map fun o => (a, o)
def rest (g h : Heap) (L d : Addr) : List (Addr × Obj) := (allNews g h L).filter fun p => decide (p.1 ≠ d)
structure Mod (K : PySem.W.Frag) (mg : Str -> Option Value) (base : Heap) : Prop where
 kin : K.In base
 glob : base.Ns mainGlobals mg
 blt : ∃ mb, base.Ns builtinsNs mb /\ ∀ x : Str, x ≠ "__name__" -> mb x = bootBuiltins x
 nolimit : base.NoLimit
structure Cx where
 prog : Program
 w : World
 K : PySem.W.Frag
 mg : Str -> Option Value
 base : Heap
 A : Around
 N : List Str
 s₀ : Shared
 H₀ : Hp
 env : Env
 outer : List Env
 stack : List Env
 ex : List Addr
 fn : Str -> Bool
 calm : Bool
 pn : List (Addr × Obj)
 xe : Value -> Shared -> Prop
def frs (l : List Env) : List Addr := l.filterMap (·.frame)
abbrev Cx.fs (X : Cx) : List Addr := frs X.outer
def Vis (sc : Scope) (x : Str) : Prop := sc.names.lookup x = some .local \/ sc.names.lookup x = some .cell \/ sc.names.lookup x = some .free
def Loc (sc : Scope) (x : Str) : Prop := sc.names.lookup x = some .local \/ sc.names.lookup x = some .cell
def Look (env : Env) (h : Heap) (m : Str -> Option Value) (x : Str) (u : Value) : Prop :=
 (env.kindOf x = some .local /\ m x = some u) \/ ((env.kindOf x = some .cell \/ env.kindOf x = some .free) /\ ∃ c, env.cells.lookup x = some c /\ h.IsCell c (some u))
structure Cx.Ok (X : Cx) : Prop where
 mod : Mod X.K X.mg X.base
 kind : X.env.scope.kind = .function
 glob : X.env.globals = mainGlobals
 blt : X.env.builtins = builtinsNs
 above : X.s₀.heap.objs.size <= X.env.locals
 inj : ∀ x y c, X.env.cells.lookup x = some c -> X.env.cells.lookup y = some c -> x = y
 has : ∀ x, (X.env.kindOf x = some .cell \/ X.env.kindOf x = some .free) -> ∃ c, X.env.cells.lookup x = some c
 cab : ∀ x c, X.fn x = true -> X.env.cells.lookup x = some c -> X.s₀.heap.objs.size <= c
 hd : X.calm = true -> X.A.handled = none
 frames : X.A.frames = some X.stack
 stk : X.stack = X.outer \/ (X.stack = X.env :: X.outer /\ X.env.frame = some X.env.locals)
 exf : ∀ b ∈ X.ex, b ≠ X.env.locals /\ ∀ x c, X.env.cells.lookup x = some c -> c ≠ b
 bs : ∀ b o, X.base.get? b = some o -> X.s₀.heap.get? b = some o /\ X.H₀ b = none
 bsz : X.base.objs.size <= X.s₀.heap.objs.size
 noex : ∀ b o, X.base.get? b = some o -> b ∉ X.ex
 exfs : ∀ b ∈ X.ex, b ∉ X.fs
 funs : X.s₀.heap.FunFrames X.base X.outer
 frf : ∀ b ∈ X.fs, X.H₀ b = none
structure Inv (X : Cx) (pins : List (Addr × Obj)) (σ : List (Option V)) (H : Hp) (s : Shared) : Prop where
 ok : X.Ok
 os : s.os = X.s₀.os
 bare : AllBare s.gens
 base : Un X.fs X.ex X.H₀ H X.s₀.heap s.heap
 loc : ∃ m, s.heap.Ns X.env.locals m /\ ∀ (i : Nat) (x : Str) (v : V), X.N[i]? = some x -> σ[i]? = some (some v) -> Vis X.env.scope x -> ∃ u, RelV v u /\ Look X.env s.heap m x u
 cell : ∀ x c, X.env.cells.lookup x = some c -> ∃ v, s.heap.IsCell c v
 free : H X.env.locals = none
 freeC : ∀ x c, X.env.cells.lookup x = some c -> H c = none
 pin : ∀ p ∈ X.pn ++ pins, s.heap.get? p.1 = some p.2 /\ H p.1 = none /\ p.1 ≠ X.env.locals /\ p.1 ∉ X.fs /\ ∀ v, p.2.data ≠ .cell v
 hok : HOk X.prog X.w H s.heap
 len : σ.length = X.N.length
section
variable {X : Cx} {pins : List (Addr × Obj)} {σ : List (Option V)} {H H' : Hp} {s : Shared} {h' : Heap}
theorem Cx.Ok.nofr (ok : X.Ok) {b : Addr} {o : Obj} (e : X.base.get? b = some o) : b ∉ X.fs := fun hb => by
 have := (ok.funs.mem hb).1
 rw [e] at this; cases this
theorem Inv.bs (I : Inv X pins σ H s) : ∀ b o, X.base.get? b = some o -> s.heap.get? b = some o /\ H b = none := fun b o e =>
 ⟨I.base.keep b o (I.ok.bs b o e).1 (I.ok.bs b o e).2 (I.ok.nofr e) (I.ok.noex b o e), I.base.free b o (I.ok.bs b o e).1 (I.ok.bs b o e).2 (I.ok.noex b o e)⟩
theorem Inv.bk (I : Inv X pins σ H s) : ∀ b o, X.base.get? b = some o -> s.heap.get? b = some o := fun b o e => (I.bs b o e).1
theorem Inv.mod (I : Inv X pins σ H s) : Mod X.K X.mg X.base := I.ok.mod
theorem Inv.kIn (I : Inv X pins σ H s) : X.K.In s.heap := I.ok.mod.kin.keeps I.bk
theorem Inv.nolimit (I : Inv X pins σ H s) : s.heap.NoLimit := I.ok.mod.nolimit.keeps I.bk
theorem Inv.lt (I : Inv X pins σ H s) : X.env.locals < s.heap.objs.size := let ⟨_, hn, _⟩ := I.loc; hn.lt
theorem Inv.sz (I : Inv X pins σ H s) : X.s₀.heap.objs.size <= s.heap.objs.size := Nat.le_trans I.ok.above (Nat.le_of_lt I.lt)
theorem Inv.nofs (I : Inv X pins σ H s) {a : Addr} (h : s.heap.objs.size <= a) : a ∉ X.fs := fun hb => by
 obtain ⟨_, o, ho, _⟩ := I.ok.funs.mem hb
 exact absurd (Nat.lt_of_lt_of_le (Heap.lt_size ho) (Nat.le_trans I.sz h)) (Nat.lt_irrefl _)
theorem Inv.cne (I : Inv X pins σ H s) : ∀ x c, X.env.cells.lookup x = some c -> c ≠ X.env.locals := fun x c e z => by
 obtain ⟨v, o, ho, hd⟩ := I.cell x c e
 obtain ⟨m, ⟨o', es, ep, ho', hd', _⟩, _⟩ := I.loc
 rw [z, ho'] at ho; cases ho; rw [hd'] at hd; cases hd
theorem Inv.funs (I : Inv X pins σ H s) : s.heap.FunFrames X.base X.outer := by
 have all : ∀ (l : List Env), (∀ b ∈ frs l, b ∈ X.fs) -> X.s₀.heap.FunFrames X.base l -> s.heap.FunFrames X.base l := by
   intro l
   induction l with
   | nil => intro _ _; trivial
   | cons env r ih =>
     intro hs hl
     obtain ⟨hk, ⟨L, o, hf, hn, ho, hd⟩, hr⟩ := hl
     have hL : L ∈ X.fs := hs L (by unfold frs; rw [List.filterMap_cons, hf]; exact List.mem_cons_self)
     obtain ⟨sl, e⟩ := I.base.slot L o ho (I.ok.frf L hL) hL fun z => I.ok.exfs L z hL
     exact ⟨hk, ⟨L, _, hf, hn, e, hd⟩, ih (fun b hb => hs b (by unfold frs; rw [List.filterMap_cons, hf]; exact List.mem_cons_of_mem _ hb)) hr⟩
 exact all X.outer (fun _ hb => hb) I.ok.funs
theorem Inv.stack (I : Inv X pins σ H s) : s.heap.FunFrames X.base X.stack := by
 rcases I.ok.stk with e | ⟨e, hf⟩
 . rw [e]; exact I.funs
 . rw [e]
   obtain ⟨m, hn, _⟩ := I.loc
   refine .cons (by rw [I.ok.kind]; decide) hf hn ?_ I.funs
   exact Heap.get?_none_of_le (Nat.le_trans I.ok.bsz I.ok.above)
theorem Inv.stkSub (I : Inv X pins σ H s) : ∀ b ∈ frs X.stack, b ∈ X.env.locals :: X.fs := fun b hb => by
 rcases I.ok.stk with e | ⟨e, hf⟩
 . rw [e] at hb; exact List.mem_cons_of_mem _ hb
 . rw [e] at hb
   unfold frs at hb
   rw [List.filterMap_cons, hf] at hb
   exact hb
theorem Inv.stkFree (I : Inv X pins σ H s) : ∀ b ∈ frs X.stack, H b = none := fun b hb => by
 rcases List.mem_cons.mp (I.stkSub b hb) with e | hb
 . rw [e]; exact I.free
 . obtain ⟨_, o, ho, _⟩ := I.ok.funs.mem hb
   exact I.base.free b o ho (I.ok.frf b hb) fun z => I.ok.exfs b z hb
theorem Inv.step {g' : Array GenState} {t' : Nat} {d' : Drawn} {ch : List Addr} (I : Inv X pins σ H s)
   (hch : ∀ b ∈ ch, (b ∈ X.ex \/ X.s₀.heap.objs.size <= b) /\ b ≠ X.env.locals /\ (∀ x c, X.env.cells.lookup x = some c -> c ≠ b) /\ ∀ p ∈ X.pn ++ pins, p.1 ≠ b)
   (keep : ∀ b o, b ≠ X.env.locals -> b ∉ X.fs -> b ∉ ch -> s.heap.get? b = some o -> H b = none -> h'.get? b = some o)
   (slot : ∀ b o, b ≠ X.env.locals -> b ∈ X.fs -> b ∉ ch -> s.heap.get? b = some o -> H b = none -> ∃ sl, h'.get? b = some { o with slots := sl }) (free : ∀ b o, b ∉ ch -> s.heap.get? b = some o -> H b = none -> H' b = none)
   (there : ∀ b o, b ∉ ch -> s.heap.get? b = some o -> ∃ o', h'.get? b = some o')
   (tups : ∀ b xs, H b = some (.tup xs) -> H' b = some (.tup xs)) (frzs : ∀ b o u, H b = some (.frz o u) -> H' b = some (.frz o u)) (tbls : ∀ b ps, H b = some (.tbl ps) -> ∃ more, H' b = some (.tbl (ps ++ more)))
   (ns : ∀ m, s.heap.Ns X.env.locals m -> h'.Ns X.env.locals m) (hok : HOk X.prog X.w H' h') (hg : AllBare g') :
   Inv X pins σ H' { s with heap := h', gens := g', drawn := d', toks := t' } := by
 have neL : ∀ b o, X.s₀.heap.get? b = some o -> b ≠ X.env.locals := fun b o e => Nat.ne_of_lt (Nat.lt_of_lt_of_le (Heap.lt_size e) I.ok.above)
 have neC : ∀ b o, X.s₀.heap.get? b = some o -> b ∉ X.ex -> b ∉ ch := fun b o e hx hb => by
   rcases (hch b hb).1 with z | z
   . exact hx z
   . exact absurd (Nat.lt_of_lt_of_le (Heap.lt_size e) z) (Nat.lt_irrefl _)
 have cellK : ∀ x c, X.env.cells.lookup x = some c -> ∀ v, s.heap.IsCell c v -> h'.IsCell c v := fun x c e v ⟨o, ho, hd⟩ => by
   have nch : c ∉ ch := fun z => (hch c z).2.2.1 x c e rfl
   by_cases hc : c ∈ X.fs
   . obtain ⟨sl, q⟩ := slot c o (I.cne x c e) hc nch ho (I.freeC x c e)
     exact ⟨_, q, hd⟩
   . exact ⟨o, keep c o (I.cne x c e) hc nch ho (I.freeC x c e), hd⟩
 refine ⟨I.ok, I.os, hg, ⟨fun b o e n hb hx => ?_, fun b o e n hb hx => ?_, fun b o e n hx => ?_, fun b o e hx => ?_, fun b xs e => tups b xs (I.base.tups b xs e), fun b o xs e => frzs b o xs (I.base.frzs b o xs e), fun b ps e => ?_⟩, ?_, fun x c e => ?_, ?_, fun x c e => ?_, fun p hp => ?_, hok, I.len⟩
 . exact keep b o (neL b o e) hb (neC b o e hx) (I.base.keep b o e n hb hx) (I.base.free b o e n hx)
 . obtain ⟨sl, e1⟩ := I.base.slot b o e n hb hx
   obtain ⟨sl', e2⟩ := slot b _ (neL b o e) hb (neC b o e hx) e1 (I.base.free b o e n hx)
   exact ⟨sl', e2⟩
 . obtain ⟨o', e1⟩ := I.base.there b o e hx
   exact free b o' (neC b o e hx) e1 (I.base.free b o e n hx)
 . obtain ⟨o', e1⟩ := I.base.there b o e hx
   exact there b o' (neC b o e hx) e1
 . obtain ⟨m1, e1⟩ := I.base.tbls b ps e
   obtain ⟨m2, e2⟩ := tbls b _ e1
   exact ⟨m1 ++ m2, by rw [e2, Array.append_assoc]⟩
 . obtain ⟨m, hn, hl⟩ := I.loc
   refine ⟨m, ns m hn, fun i x v e1 e2 e3 => ?_⟩
   obtain ⟨u, r, l⟩ := hl i x v e1 e2 e3
   refine ⟨u, r, ?_⟩
   rcases l with l | ⟨k, c, e, z⟩
   . exact .inl l
   . exact .inr ⟨k, c, e, cellK x c e _ z⟩
 . obtain ⟨v, z⟩ := I.cell x c e
   exact ⟨v, cellK x c e v z⟩
 . obtain ⟨m, ⟨o, _, _, ho, _⟩, _⟩ := I.loc
   exact free _ o (fun z => (hch _ z).2.1 rfl) ho I.free
 . obtain ⟨v, o, ho, hd⟩ := I.cell x c e
   exact free c o (fun z => (hch c z).2.2.1 x c e rfl) ho (I.freeC x c e)
 . obtain ⟨e, n, ne, nf, d⟩ := I.pin p hp
   have nch : p.1 ∉ ch := fun z => (hch p.1 z).2.2.2 p hp rfl
   exact ⟨keep p.1 p.2 ne nf nch e n, free p.1 p.2 nch e n, ne, nf, d⟩
theorem Inv.un {t' : Nat} (I : Inv X pins σ H s) (u : Un X.fs [] H H' s.heap h') (hok : HOk X.prog X.w H' h') : Inv X pins σ H' { s with heap := h', toks := t' } := by
 obtain ⟨m, ⟨o, es, ep, ho, r⟩, _⟩ := id I.loc
 obtain ⟨sl, hL⟩ := u.any ho I.free (by simp)
 exact I.step (g' := s.gens) (d' := s.drawn) (ch := []) (fun _ z => nomatch z) (fun b o _ hb _ e n => u.keep b o e n hb (by simp)) (fun b o _ hb _ e n => u.slot b o e n hb (by simp)) (fun b o _ e n => u.free b o e n (by simp)) (fun b o _ e => u.there b o e (by simp)) u.tups u.frzs u.tbls (fun m' hm => by
   obtain ⟨o', es', ep', ho', r'⟩ := hm
   rw [ho] at ho'; cases ho'
   exact ⟨_, es', ep', hL, r'⟩) hok I.bare
theorem Inv.call {g' : Array GenState} {t' : Nat} {d' : Drawn} {ch : List Addr} (I : Inv X pins σ H s) (u : Un (frs X.stack) ch H H' s.heap h') (hok : HOk X.prog X.w H' h') (hg : AllBare g')
   (hch : ∀ b ∈ ch, (b ∈ X.ex \/ X.s₀.heap.objs.size <= b) /\ b ≠ X.env.locals /\ (∀ x c, X.env.cells.lookup x = some c -> c ≠ b) /\ ∀ p ∈ X.pn ++ pins, p.1 ≠ b) :
   Inv X pins σ H' { s with heap := h', gens := g', drawn := d', toks := t' } := by
 obtain ⟨m, ⟨o, es, ep, ho, r⟩, _⟩ := id I.loc
 obtain ⟨sl, hL⟩ := u.any ho I.free fun z => (hch _ z).2.1 rfl
 exact I.step (ch := ch) hch (fun b o hL hb hc e n => u.keep b o e n (fun z => (List.mem_cons.mp (I.stkSub b z)).elim hL hb) hc) (fun b o _ _ hc e n => u.any e n hc) (fun b o hc e n => u.free b o e n hc) (fun b o hc e => u.there b o e hc) u.tups u.frzs u.tbls (fun m' hm => by
   obtain ⟨o', es', ep', ho', r'⟩ := hm
   rw [ho] at ho'; cases ho'
   exact ⟨_, es', ep', hL, r'⟩) hok hg
theorem Inv.turned {t' : Nat} {it : Addr} (I : Inv X pins σ H s) (k : ∀ b o, b ≠ it -> s.heap.get? b = some o -> h'.get? b = some o) (hn : H it = none) (hL : it ≠ X.env.locals)
   (h1 : it ∈ X.ex \/ X.s₀.heap.objs.size <= it) (h2 : ∀ x c, X.env.cells.lookup x = some c -> c ≠ it) (h3 : ∀ p ∈ X.pn ++ pins, p.1 ≠ it) : Inv X pins σ H { s with heap := h', toks := t' } := by
 have nit : ∀ b u, H b = some u -> b ≠ it := fun b u e z => by rw [z, hn] at e; cases e
 refine I.step (g' := s.gens) (d' := s.drawn) (ch := [it]) (fun b hb => ?_) (fun b o _ _ hc e _ => k b o (fun z => hc (by simp [z])) e) (fun b o _ _ hc e _ => ⟨o.slots, k b o (fun z => hc (by simp [z])) e⟩) (fun _ _ _ _ n => n)
   (fun b o hc e => ⟨o, k b o (fun z => hc (by simp [z])) e⟩) (fun _ _ e => e) (fun _ _ _ e => e) (fun b ps e => ⟨#[], by rw [e]; simp⟩) (fun m hm => ?_) (fun b u e => ?_) I.bare
 . have e : b = it := by simpa using hb
   subst e
   exact ⟨h1, hL, h2, h3⟩
 . obtain ⟨o, es, ep, ho, r⟩ := hm
   exact ⟨o, es, ep, k _ o (Ne.symm hL) ho, r⟩
 . refine (I.hok b u e).stay (fun c v hc q => k c v ?_ q) (fun _ q => q) fun _ _ q => q
   rcases hc with z | z
   . rw [z]; exact nit b u e
   . exact nit c _ z
theorem Inv.tok (I : Inv X pins σ H s) (t : Nat) : Inv X pins σ H { s with toks := t } := I.un (h' := s.heap) (t' := t) Un.refl I.hok
theorem Inv.kept {t' : Nat} (I : Inv X pins σ H s) (k : ∀ b u, s.heap.get? b = some u -> h'.get? b = some u) : Inv X pins σ H { s with heap := h', toks := t' } := I.un (Un.kept k) (I.hok.kept k)
theorem Inv.laid {a : Addr} {o : HO} {t' : Nat} (I : Inv X pins σ H s) (k : ∀ b u, s.heap.get? b = some u -> h'.get? b = some u) (hp : s.heap.objs.size <= a) (new : ObjOk X.prog X.w (upd H a o) h' a o) :
   Inv X pins σ (upd H a o) { s with heap := h', toks := t' } := I.un (Un.laid k hp (I.hok.fresh hp)) (I.hok.laid k hp new)
theorem Inv.write {x e : Addr} {o : HO} {t' : Nat} (I : Inv X pins σ H s) (mu : Mut (H x)) (he : e = x \/ H e = some (.own x)) (k : ∀ b u, b ≠ e -> s.heap.get? b = some u -> h'.get? b = some u) (heo : ∃ u, h'.get? e = some u)
   (new : ObjOk X.prog X.w (upd H x o) h' x o) : Inv X pins σ (upd H x o) { s with heap := h', toks := t' } := I.un (Un.write mu he k heo) (I.hok.write mu he k heo new)
theorem Inv.pins_of {pins' : List (Addr × Obj)} (I : Inv X pins σ H s) (h : ∀ p ∈ pins', s.heap.get? p.1 = some p.2 /\ H p.1 = none /\ p.1 ≠ X.env.locals /\ p.1 ∉ X.fs /\ ∀ v, p.2.data ≠ .cell v) : Inv X pins' σ H s :=
 ⟨I.ok, I.os, I.bare, I.base, I.loc, I.cell, I.free, I.freeC, fun p hp => (List.mem_append.mp hp).elim (fun z => I.pin p (List.mem_append_left _ z)) (h p), I.hok, I.len⟩
theorem nodup_ix {N : List Str} (hN : N.Nodup) {i j : Nat} {x : Str} (a : N[i]? = some x) (b : N[j]? = some x) : i = j := by
 obtain ⟨h1, e1⟩ := List.getElem?_eq_some_iff.mp a
 obtain ⟨h2, e2⟩ := List.getElem?_eq_some_iff.mp b
 exact (List.getElem_inj hN).mp (e1.trans e2.symm)
theorem store_ok2 {M : Model} {A : Around} {E : Value -> Shared -> Prop} {i : Nat} {x : Str} {v : V} {u : Value} {Q : Unit -> Shared -> Prop} (I : Inv X pins σ H s) (hN : X.N.Nodup) (hi : X.N[i]? = some x) (hx : Loc X.env.scope x) (r : RelV v u)
   (h : ∀ s', Inv X pins (σ.set i (some v)) H s' -> (∃ a, Heap.SameBut a s.heap s'.heap /\ (a = X.env.locals \/ X.env.cells.lookup x = some a)) -> Q () s') (hf : X.fn x = true \/ X.env.scope.names.lookup x = some .local := by first | exact .inl rfl | exact .inr rfl | assumption) : wpAny M A (storeName X.env x u) Q E s := by
 obtain ⟨m, hn, hl⟩ := id I.loc
 have hcls : (X.env.scope.kind == .class || (X.env.scope.kind == .module && X.env.locals != X.env.globals)) = false := by rw [I.ok.kind]; rfl
 have hiσ : i < σ.length := by rw [I.len]; exact (List.getElem?_eq_some_iff.mp hi).1
 have cne := I.cne
 have tracked : ∀ {a : Addr} {h' : Heap}, (∃ o, s.heap.get? a = some o /\ H a = none) -> Heap.SameBut a s.heap h' -> HOk X.prog X.w H h' := fun {a h'} ha hs b ob e => by
   obtain ⟨_, _, hfree⟩ := ha
   refine (I.hok b ob e).stay (fun c w' hc q => (hs.2 c ?_).trans q) (fun _ q => q) fun _ _ q => q
   rintro rfl
   rcases hc with rfl | hc
   . rw [hfree] at e; cases e
   . rw [hfree] at hc; cases hc
 rcases hx with hk | hk
 . refine wpAny_storeName_local hk hn (fun h' hn' hs => ?_) hcls
   obtain ⟨oL, _, _, hoL, _⟩ := id hn
   refine h _ ⟨I.ok, I.os, I.bare, ⟨fun b o e n hb hx => ?_, fun b o e n hb hx => ?_, I.base.free, fun b o e hx => ?_, I.base.tups, I.base.frzs, I.base.tbls⟩, ⟨_, hn', fun j y v' e1 e2 e3 => ?_⟩, fun y c e => ?_, I.free, I.freeC, fun p hp => ?_, tracked ⟨oL, hoL, I.free⟩ hs, by simpa using I.len⟩ ⟨_, hs, .inl rfl⟩
   . exact (hs.2 b (Nat.ne_of_lt (Nat.lt_of_lt_of_le (Heap.lt_size e) I.ok.above))).trans (I.base.keep b o e n hb hx)
   . obtain ⟨sl, e1⟩ := I.base.slot b o e n hb hx
     exact ⟨sl, (hs.2 b (Nat.ne_of_lt (Nat.lt_of_lt_of_le (Heap.lt_size e) I.ok.above))).trans e1⟩
   . obtain ⟨o', e1⟩ := I.base.there b o e hx
     exact ⟨o', (hs.2 b (Nat.ne_of_lt (Nat.lt_of_lt_of_le (Heap.lt_size e) I.ok.above))).trans e1⟩
   . by_cases hj : j = i
     . subst hj
       rw [hi] at e1; cases e1
       rw [List.getElem?_set_self hiσ] at e2
       cases e2
       exact ⟨u, r, .inl ⟨hk, by simp⟩⟩
     . rw [List.getElem?_set_ne (Ne.symm hj)] at e2
       obtain ⟨u', r', q⟩ := hl j y v' e1 e2 e3
       refine ⟨u', r', ?_⟩
       rcases q with ⟨k, e⟩ | ⟨k, c, e, z⟩
       . refine .inl ⟨k, ?_⟩
         have : y ≠ x := fun e => hj (nodup_ix hN e1 (e ▸ hi))
         simp [this, e]
       . exact .inr ⟨k, c, e, z.sameBut hs (cne y c e)⟩
   . obtain ⟨w', z⟩ := I.cell y c e
     exact ⟨w', z.sameBut hs (cne y c e)⟩
   . obtain ⟨e, n, ne, nf, d⟩ := I.pin p hp
     exact ⟨(hs.2 p.1 ne).trans e, n, ne, nf, d⟩
 . have hfn : X.fn x = true := by
     rcases hf with z | z
     . exact z
     . rw [z] at hk; cases hk
   obtain ⟨c, hc⟩ := I.ok.has x (.inl hk)
   obtain ⟨w', z⟩ := I.cell x c hc
   refine wpAny_storeName_cell I.ok.kind hk hc z (fun h' hc' hs => ?_)
   obtain ⟨oc, hoc, hocd⟩ := id z
   refine h { s with heap := h' } ⟨I.ok, I.os, I.bare, ⟨fun b o e n hb hx => ?_, fun b o e n hb hx => ?_, I.base.free, fun b o e hx => ?_, I.base.tups, I.base.frzs, I.base.tbls⟩, ⟨m, hn.sameBut hs (Ne.symm (cne x c hc)), fun j y v' e1 e2 e3 => ?_⟩, fun y c' e => ?_, I.free, I.freeC, fun p hp => ?_, tracked ⟨oc, hoc, I.freeC x c hc⟩ hs, by simpa using I.len⟩ ⟨c, hs, .inr hc⟩
   . exact (hs.2 b (Nat.ne_of_lt (Nat.lt_of_lt_of_le (Heap.lt_size e) (I.ok.cab x c hfn hc)))).trans (I.base.keep b o e n hb hx)
   . obtain ⟨sl, e1⟩ := I.base.slot b o e n hb hx
     exact ⟨sl, (hs.2 b (Nat.ne_of_lt (Nat.lt_of_lt_of_le (Heap.lt_size e) (I.ok.cab x c hfn hc)))).trans e1⟩
   . obtain ⟨o', e1⟩ := I.base.there b o e hx
     exact ⟨o', (hs.2 b (Nat.ne_of_lt (Nat.lt_of_lt_of_le (Heap.lt_size e) (I.ok.cab x c hfn hc)))).trans e1⟩
   . by_cases hj : j = i
     . subst hj
       rw [hi] at e1; cases e1
       rw [List.getElem?_set_self hiσ] at e2
       cases e2
       exact ⟨u, r, .inr ⟨.inl hk, c, hc, hc'⟩⟩
     . rw [List.getElem?_set_ne (Ne.symm hj)] at e2
       obtain ⟨u', r', q⟩ := hl j y v' e1 e2 e3
       refine ⟨u', r', ?_⟩
       rcases q with q | ⟨k, c', e, z'⟩
       . exact .inl q
       . refine .inr ⟨k, c', e, z'.sameBut hs ?_⟩
         rintro rfl
         exact hj (nodup_ix hN e1 (I.ok.inj _ _ _ e hc ▸ hi))
   . by_cases hcc : c' = c
     . subst hcc; exact ⟨_, hc'⟩
     . obtain ⟨w2, z2⟩ := I.cell y c' e
       exact ⟨w2, z2.sameBut hs hcc⟩
   . obtain ⟨e, n, ne, nf, d⟩ := I.pin p hp
     refine ⟨(hs.2 p.1 ?_).trans e, n, ne, nf, d⟩
     intro q
     rw [q, hoc] at e
     have q' : oc = p.2 := Option.some.inj e
     exact d w' (by rw [<- q']; exact hocd)
theorem wWj {M : Model} {A : Around} {E : Value -> Shared -> Prop} {i : Nat} {x : Str} {v : V} {u : Value} {Q : Unit -> Shared -> Prop} (I : Inv X pins σ H s) (hN : X.N.Nodup) (hi : X.N[i]? = some x) (hx : Loc X.env.scope x) (r : RelV v u)
   (h : ∀ s', Inv X pins (σ.set i (some v)) H s' -> Q () s') (hf : X.fn x = true \/ X.env.scope.names.lookup x = some .local := by first | exact .inl rfl | exact .inr rfl | assumption) : wpAny M A (storeName X.env x u) Q E s :=
 store_ok2 I hN hi hx r (fun s' I' _ => h s' I') hf
theorem Inv.call' {s' : Shared} {ch : List Addr} (I : Inv X pins σ H s) (ho : s'.os = s.os) (u : Un (frs X.stack) ch H H' s.heap s'.heap) (hok : HOk X.prog X.w H' s'.heap) (hg : AllBare s'.gens)
   (hch : ∀ b ∈ ch, (b ∈ X.ex \/ X.s₀.heap.objs.size <= b) /\ b ≠ X.env.locals /\ (∀ x c, X.env.cells.lookup x = some c -> c ≠ b) /\ ∀ p ∈ X.pn ++ pins, p.1 ≠ b) : Inv X pins σ H' s' := by
 obtain ⟨h', g', d', t', o'⟩ := s'
 have e : o' = s.os := ho
 subst e
 exact I.call (g' := g') (t' := t') (d' := d') u hok hg hch
end
abbrev XK := Value -> Option Addr -> Hp -> Prop
abbrev St := List (Option V)
abbrev VK := V -> Hp -> Prop
abbrev TE := St -> Hp -> VK -> Prop
abbrev TT := St -> Hp -> (Bool -> Hp -> Prop) -> Prop
abbrev TA := St -> Hp -> (List V -> Hp -> Prop) -> Prop
structure Ends where
 nx : St -> Hp -> Prop
 rt : VK
 bk : St -> Hp -> Prop := fun _ _ => False
 ct : St -> Hp -> Prop := fun _ _ => False
abbrev TS := Ends -> St -> Hp -> Prop
def EP (X : Cx) (pins : List (Addr × Obj)) (σ : St) (Q : VK) (u : Value) (s' : Shared) : Prop := ∃ v H', Inv X pins σ H' s' /\ RelV v u /\ Q v H'
def TP (X : Cx) (pins : List (Addr × Obj)) (σ : St) (Q : Bool -> Hp -> Prop) (b : Bool) (s' : Shared) : Prop := ∃ H', Inv X pins σ H' s' /\ Q b H'
def AP (X : Cx) (pins : List (Addr × Obj)) (σ : St) (Q : List V -> Hp -> Prop) (us : List Value) (s' : Shared) : Prop := ∃ vs H', Inv X pins σ H' s' /\ Vals vs us /\ Q vs H'
def SP (X : Cx) (pins : List (Addr × Obj)) (D : Ends) (f : Flow) (s' : Shared) : Prop :=
 match f with
 | .next => ∃ σ' H', Inv X pins σ' H' s' /\ D.nx σ' H'
 | .brk => ∃ σ' H', Inv X pins σ' H' s' /\ D.bk σ' H'
 | .cont => ∃ σ' H', Inv X pins σ' H' s' /\ D.ct σ' H'
 | .ret u => ∃ v σ' H', Inv X pins σ' H' s' /\ RelV v u /\ D.rt v H'
def PE (X : Cx) (e : Expr) (t : TE) : Prop :=
 ∀ (pins : List (Addr × Obj)) (s : Shared) (σ : St) (H : Hp) (Q : VK), Inv X pins σ H s -> t σ H Q -> wpAny (model X.prog X.w) X.A (eval e X.env) (EP X pins σ Q) X.xe s
def PT (X : Cx) (e : Expr) (t : TT) : Prop :=
 ∀ (pins : List (Addr × Obj)) (s : Shared) (σ : St) (H : Hp) (Q : Bool -> Hp -> Prop), Inv X pins σ H s -> t σ H Q -> wpAny (model X.prog X.w) X.A (isTrue e X.env (eval e X.env)) (TP X pins σ Q) X.xe s
def PW (X : Cx) (e : Expr) (t : TT) : Prop :=
 ∀ (whole : Sem Value) (pins : List (Addr × Obj)) (s : Shared) (σ : St) (H : Hp) (Q : Bool -> Hp -> Prop), Inv X pins σ H s -> t σ H Q -> wpAny (model X.prog X.w) X.A (isTrue e X.env whole) (TP X pins σ Q) X.xe s
theorem PW.pt {X : Cx} {e : Expr} {t : TT} (h : PW X e t) : PT X e t := h _
def PA (X : Cx) (es : List Expr) (t : TA) : Prop :=
 ∀ (pos : Pos) (pins : List (Addr × Obj)) (s : Shared) (σ : St) (H : Hp) (Q : List V -> Hp -> Prop), Inv X pins σ H s -> t σ H Q -> wpAny (model X.prog X.w) X.A (spliced (backTo pos (starEach es X.env))) (AP X pins σ Q) X.xe s
def PS (X : Cx) (st : Stmt) (t : TS) : Prop :=
 ∀ (pins : List (Addr × Obj)) (s : Shared) (σ : St) (H : Hp) (D : Ends), Inv X pins σ H s -> t D σ H -> wpAny (model X.prog X.w) X.A (exec st X.env) (SP X pins D) X.xe s
def PSs (X : Cx) (st : List Stmt) (t : TS) : Prop :=
 ∀ (pins : List (Addr × Obj)) (s : Shared) (σ : St) (H : Hp) (D : Ends), Inv X pins σ H s -> t D σ H -> wpAny (model X.prog X.w) X.A (execs st X.env) (SP X pins D) X.xe s
theorem thn {α : Type} {t : Sem α} {Q Q' : α -> Shared -> Prop} {M : Model} {A : Around} {E : Value -> Shared -> Prop} {s : Shared} (h : wpAny M A t Q E s) (hQ : ∀ a s, Q a s -> Q' a s) : wpAny M A t Q' E s := wpAny_mono h hQ fun _ _ x => x
section
variable {X : Cx}
theorem bin {a b : Expr} {ta tb : TE} (ha : PE X a ta) (hb : PE X b tb) {pins : List (Addr × Obj)} {s : Shared} {σ : St} {H : Hp} {R : V -> V -> Hp -> Prop} (I : Inv X pins σ H s) (h : ta σ H fun x H1 => tb σ H1 fun y H2 => R x y H2)
   {α : Type} {Q : α -> Shared -> Prop} {f : Value -> Value -> Sem α}
   (hf : ∀ v u s2 x y H2, Inv X pins σ H2 s2 -> RelV x v -> RelV y u -> R x y H2 -> wpAny (model X.prog X.w) X.A (f v u) Q X.xe s2) :
   wpAny (model X.prog X.w) X.A (eval a X.env) (fun v s₁ => wpAny (model X.prog X.w) X.A (eval b X.env) (fun u s₂ => wpAny (model X.prog X.w) X.A (f v u) Q X.xe s₂) X.xe s₁) X.xe s := by
 refine thn (ha pins s σ H _ I h) fun v s1 ⟨x, H1, I1, r1, q1⟩ => ?_
 refine thn (hb pins s1 σ H1 _ I1 q1) fun u s2 ⟨y, H2, I2, r2, q2⟩ => ?_
 exact hf v u s2 x y H2 I2 r1 r2 q2
def tVar (i : Nat) : TE := fun σ H Q => ∃ v, σ[i]? = some (some v) /\ Q v H
def tC (v : V) : TE := fun _ H Q => Q v H
theorem pe_var {i : Nat} {x : Str} {pos : Pos} (hN : X.N[i]? = some x) (hv : Vis X.env.scope x) (hd : (x == ("__debug__" : Str)) = false := by decide) (hcd : (x == ("__classdict__" : Str)) = false := by decide) : PE X (.Name x pos) (tVar i) := by
 intro pins s σ H Q I h
 obtain ⟨v, e, h⟩ := h
 obtain ⟨m, hn, hl⟩ := I.loc
 obtain ⟨u, r, l⟩ := hl i x v hN e hv
 have fin : EP X pins σ Q u s := ⟨v, H, I, r, h⟩
 rcases l with ⟨hk, hm⟩ | ⟨hk, c, hc, hcell⟩
 . exact wpAny_Name (wpAny_loadName_local I.ok.kind hk hn hm fin) hd
 . rcases hk with hk | hk
   . exact wpAny_Name (wpAny_loadName_cell I.ok.kind hk hc hcell fin) hd
   . exact wpAny_Name (wpAny_loadName_free I.ok.kind hk hc hcell fin hcd) hd
theorem zWz {i j pos} : PE X (.Constant (.int i) j pos) (tC (.int i)) := fun _ _ _ H _ I h => wpAny_Constant_int ⟨.int i, H, I.tok _, ⟨_, rfl⟩, h⟩
theorem pe_bl {b j pos} : PE X (.Constant (.bool b) j pos) (tC (.bl b)) := fun _ _ _ H _ I h => Constant_bool ⟨.bl b, H, I, rfl, h⟩
theorem xQv {j pos} : PE X (.Constant .none j pos) (tC .non) := fun _ _ _ H _ I h => Constant_none ⟨.non, H, I, rfl, h⟩
theorem zQv {x j pos} : PE X (.Constant (.str x) j pos) (tC (.str x)) := fun _ _ _ H _ I h => Calls.Constant_str ⟨.str x, H, I.tok _, ⟨_, rfl⟩, h⟩
def Gl (X : Cx) (x : Str) : Prop := X.env.kindOf x = some .globalImplicit
theorem yZj {E : Value -> Shared -> Prop} {pins : List (Addr × Obj)} {s : Shared} {σ : St} {H : Hp} {x : Str} {u : Value} {pos : Pos} {Q : Value -> Shared -> Prop} (I : Inv X pins σ H s) (hg : Gl X x) (hm : X.mg x = some u) (h : Q u s)
   (hd : (x == ("__debug__" : Str)) = false := by decide) : wpAny (model X.prog X.w) X.A (eval (.Name x pos) X.env) Q E s :=
 Calls.Name_function_global I.ok.kind hg (Calls.loadGlobal_global (by rw [I.ok.glob]; exact I.mod.glob.keeps I.bk) hm h) hd
theorem ld_blt {E : Value -> Shared -> Prop} {pins : List (Addr × Obj)} {s : Shared} {σ : St} {H : Hp} {x : Str} {u : Value} {pos : Pos} {Q : Value -> Shared -> Prop} (I : Inv X pins σ H s) (hg : Gl X x) (hm : X.mg x = none) (hv : bootBuiltins x = some u) (h : Q u s)
   (hn : x ≠ "__name__" := by decide) (hd : (x == ("__debug__" : Str)) = false := by decide) : wpAny (model X.prog X.w) X.A (eval (.Name x pos) X.env) Q E s := by
 obtain ⟨mb, h1, h2⟩ := I.mod.blt
 exact Calls.Name_function_global I.ok.kind hg (Calls.loadGlobal_builtin (by rw [I.ok.glob]; exact I.mod.glob.keeps I.bk) hm (by rw [I.ok.blt]; exact h1.keeps I.bk) ((h2 x hn).trans hv) h) hd
theorem pe_glob {x : Str} {v : V} {u : Value} {pos : Pos} (hg : Gl X x) (hm : X.mg x = some u) (r : RelV v u) (hd : (x == ("__debug__" : Str)) = false := by decide) : PE X (.Name x pos) (tC v) :=
 fun _ _ _ H _ I h => yZj I hg hm ⟨v, H, I, r, h⟩ hd
theorem pe_bltn {x : Str} {v : V} {u : Value} {pos : Pos} (hg : Gl X x) (hm : X.mg x = none) (hv : bootBuiltins x = some u) (r : RelV v u) (hn : x ≠ "__name__" := by decide) (hd : (x == ("__debug__" : Str)) = false := by decide) : PE X (.Name x pos) (tC v) :=
 fun _ _ _ H _ I h => ld_blt I hg hm hv ⟨v, H, I, r, h⟩ hn hd
variable {a b : Expr} {ta tb : TE} {pos : Pos}
def PC (X : Cx) (op : CmpOp) (a b : Expr) (t : TE) : Prop :=
 ∀ (pins : List (Addr × Obj)) (s : Shared) (σ : St) (H : Hp) (Q : VK), Inv X pins σ H s -> t σ H Q ->
   wpAny (model X.prog X.w) X.A (eval a X.env) (fun v s₁ => wpAny (model X.prog X.w) X.A (eval b X.env) (fun u s₂ => wpAny (model X.prog X.w) X.A (compareOp op v u) (EP X pins σ Q) X.xe s₂) X.xe s₁) X.xe s
theorem nobehind (b : Expr) {op : CmpOp} (h : op ≠ .In) (h2 : op ≠ .NotIn) : behindInMarks op b = false := by
 have e1 : (op == CmpOp.In) = false := by cases op <;> first | rfl | exact absurd rfl h
 have e2 : (op == CmpOp.NotIn) = false := by cases op <;> first | rfl | exact absurd rfl h2
 cases b <;> simp [behindInMarks, e1, e2]
def tIsN (ta : TE) : TE := fun σ H Q => ta σ H fun x H1 => Q (.bl (decide (x = .non))) H1
def tNotN (ta : TE) : TE := fun σ H Q => ta σ H fun x H1 => Q (.bl (!decide (x = .non))) H1
theorem RelV.none_iff {x : V} {v : Value} (r : RelV x v) : (v == Value.none) = decide (x = .non) := by
 cases x with
 | non => cases r; rfl
 | bl _ => cases r; rfl
 | int _ => obtain ⟨t, rfl⟩ := r; rfl
 | str _ => obtain ⟨t, rfl⟩ := r; rfl
 | byt _ => obtain ⟨t, rfl⟩ := r; rfl
 | flt _ => obtain ⟨t, rfl⟩ := r; rfl
 | ref _ => cases r; rfl
 | ty _ => cases r; rfl
theorem pc_isN {j pos'} (ha : PE X a ta) : PC X .Is a (.Constant .none j pos') (tIsN ta) := by
 intro pins s σ H Q I h
 refine thn (ha pins s σ H _ I h) fun v s1 ⟨x, H1, I1, r1, q1⟩ => ?_
 exact Constant_none (is_none_gen ⟨.bl _, H1, I1, by rw [r1.none_iff]; rfl, q1⟩)
theorem pc_notN {j pos'} (ha : PE X a ta) : PC X .IsNot a (.Constant .none j pos') (tNotN ta) := by
 intro pins s σ H Q I h
 refine thn (ha pins s σ H _ I h) fun v s1 ⟨x, H1, I1, r1, q1⟩ => ?_
 exact Constant_none (isnot_none_gen ⟨.bl _, H1, I1, by rw [r1.none_iff]; rfl, q1⟩)
def tB (t : TE) : TT := fun σ H Q => t σ H fun x H1 => ∃ c, x = .bl c /\ Q c H1
theorem pe_cmp {op : CmpOp} {t : TE} (h : PC X op a b t) (h1 : behindInMarks op b = false := by first | exact nobehind _ (by decide) (by decide) | rfl) : PE X (.Compare a [op] [b] pos) t := fun pins s σ H Q I hw => wpAny_Compare1 (h pins s σ H Q I hw) h1
theorem xKj {op : CmpOp} {t : TE} (h : PC X op a b t) (h1 : behindInMarks op b = false := by first | exact nobehind _ (by decide) (by decide) | rfl) : PT X (.Compare a [op] [b] pos) (tB t) := by
 intro pins s σ H Q I hw
 refine wpAny_isTrue_Compare1 (thn (h pins s σ H _ I hw) fun v s1 h1 => thn h1 fun u s2 h2 => thn h2 fun c s3 ⟨x, H1, I1, r1, q1⟩ => ?_) h1
 obtain ⟨d, rfl, q⟩ := q1
 cases r1
 exact wpAny_truthy_bool ⟨H1, I1, q⟩
theorem yZk {e : Expr} {t : TE} (h : PE X e t) (he : ∀ whole, isTrue e X.env whole = (do let v <- whole; standAt e.pos; holding [v] (truthy v)) := by intro _; rfl) : PT X e (tB t) := by
 intro pins s σ H Q I hw
 refine isTrue_plain (thn (h pins s σ H _ I hw) fun v s1 ⟨x, H1, I1, r1, q1⟩ => ?_) (he _)
 obtain ⟨d, rfl, q⟩ := q1
 cases r1
 exact wpAny_truthy_bool ⟨H1, I1, q⟩
variable {tA tB' : TT} {rest : List Expr}
def tAnd (t u : TT) : TT := fun σ H Q => t σ H fun c H1 => if c = true then u σ H1 Q else Q false H1
def tNot (t : TT) : TT := fun σ H Q => t σ H fun c H1 => Q (!c) H1
theorem pw_and1 (ha : PT X a tA) : PW X (.BoolOp .And [a] pos) tA := by
 intro wh pins s σ H Q I h
 refine isTrue_and (thn (ha pins s σ H Q I h) fun c s1 e => ?_)
 cases c with
 | true => exact isTrue_and_nil e
 | false => exact e
theorem pw_and (ha : PT X a tA) (hb : PW X (.BoolOp .And (b :: rest) pos) tB') : PW X (.BoolOp .And (a :: b :: rest) pos) (tAnd tA tB') := by
 intro wh pins s σ H Q I h
 refine isTrue_and (thn (ha pins s σ H _ I h) fun c s1 ⟨H1, I1, q1⟩ => ?_)
 cases c with
 | true => exact hb wh pins s1 σ H1 Q I1 q1
 | false => exact ⟨H1, I1, q1⟩
theorem yWk (ha : PT X a tA) : PT X (.UnaryOp .Not a pos) (tNot tA) := by
 intro pins s σ H Q I h
 exact isTrue_not (ha pins s σ H (fun c H1 => Q (!c) H1) I h)
def tIf (t : TT) (ta tb : TE) : TE := fun σ H Q => t σ H fun c H1 => if c = true then ta σ H1 Q else tb σ H1 Q
theorem xWv {c : Expr} (hc : PT X c tA) (ha : PE X a ta) (hb : PE X b tb) : PE X (.IfExp c a b pos) (tIf tA ta tb) := by
 intro pins s σ H Q I h
 refine wpAny_IfExp (thn (hc pins s σ H _ I h) fun d s1 ⟨H1, I1, q1⟩ => ?_)
 cases d with
 | true => exact ha pins s1 σ H1 Q I1 q1
 | false => exact hb pins s1 σ H1 Q I1 q1
end
def SqL (K : PySem.W.Frag) (H : Hp) (a : Addr) (xs : List V) : Prop :=
 Rd H a (.lst xs) \/
   ∃ (o : Obj) (its : Array Value) (n : Nat), K.lookup a = some o /\ o.cls = .type "list" /\ o.dict = none /\ o.data = .seq its n /\ its.size <= sizeLine /\ Vals xs its.toList
def SqT (K : PySem.W.Frag) (H : Hp) (a : Addr) (xs : List V) : Prop :=
 Rd H a (.tup xs) \/
   ∃ (o : Obj) (its : Array Value) (n : Nat), K.lookup a = some o /\ o.cls = .type "tuple" /\ o.data = .seq its n /\ its.size <= sizeLine /\ Vals xs its.toList
def absV : Value -> Option V
 | .none => some .non
 | .bool b => some (.bl b)
 | .int i _ => some (.int i)
 | .str x _ => some (.str x)
 | .bytes b _ => some (.byt b)
 | .float b _ => some (.flt b)
 | .ref a => some (.ref a)
 | .type n => some (.ty n)
 | _ => none
theorem RelV.abs {x : V} {u : Value} (r : RelV x u) : absV u = some x := by
 cases x with
 | non => cases r; rfl
 | bl _ => cases r; rfl
 | int _ => obtain ⟨t, rfl⟩ := r; rfl
 | str _ => obtain ⟨t, rfl⟩ := r; rfl
 | byt _ => obtain ⟨t, rfl⟩ := r; rfl
 | flt _ => obtain ⟨t, rfl⟩ := r; rfl
 | ref _ => cases r; rfl
 | ty _ => cases r; rfl
theorem RelV.inj {x y : V} {u : Value} (r : RelV x u) (q : RelV y u) : x = y := Option.some.inj (r.abs.symm.trans q.abs)
theorem Vals.inj : ∀ {xs ys : List V} {us : List Value}, Vals xs us -> Vals ys us -> xs = ys
 | _, _, _, .nil, .nil => rfl
 | _, _, _, .cons r t, .cons r' t' => by rw [r.inj r', Vals.inj t t']
section
variable {X : Cx} {pins : List (Addr × Obj)} {σ : St} {H : Hp} {s : Shared} {a : Addr} {xs ys : List V}
theorem SqL.of {K : PySem.W.Frag} (h : H a = some (.lst xs)) : SqL K H a xs := .inl (.inl h)
theorem SqT.of {K : PySem.W.Frag} (h : H a = some (.tup xs)) : SqT K H a xs := .inl (.inl h)
theorem Inv.list (I : Inv X pins σ H s) (h : SqL X.K H a xs) : ∃ its : List Value, Vals xs its /\ PlainL s.heap a its.toArray /\ xs.length <= sizeLine := by
 rcases h with h | ⟨o, its, n, hk, hc, hd, hs, hz, r⟩
 . obtain ⟨z, its, n, r, e⟩ := h.ok I.hok
   exact ⟨its, r, ⟨_, n, e, rfl, rfl, rfl⟩, z⟩
 . refine ⟨its.toList, r, ⟨o, n, I.kIn a o hk, hc, hd, by simpa using hs⟩, ?_⟩
   have e := r.length
   simp only [Array.length_toList] at e
   omega
theorem Inv.tuple (I : Inv X pins σ H s) (h : SqT X.K H a xs) : ∃ its : List Value, Vals xs its /\ IsTup s.heap a its.toArray /\ xs.length <= sizeLine := by
 rcases h with h | ⟨o, its, n, hk, hc, hs, hz, r⟩
 . obtain ⟨z, its, r, p⟩ := h.ok I.hok
   exact ⟨its, r, p, z⟩
 . refine ⟨its.toList, r, ⟨o, I.kIn a o hk, hc, n, by simpa using hs⟩, ?_⟩
   have e := r.length
   simp only [Array.length_toList] at e
   omega
theorem Inv.list_inj (I : Inv X pins σ H s) (h : SqL X.K H a xs) (h' : SqL X.K H a ys) : xs = ys := by
 obtain ⟨its, r, ⟨o, n, e, _, _, d⟩, _⟩ := I.list h
 obtain ⟨its', r', ⟨o', n', e', _, _, d'⟩, _⟩ := I.list h'
 rw [e] at e'; cases e'
 rw [d] at d'
 injection d' with d1 _
 have : its = its' := by simpa using congrArg Array.toList d1
 subst this
 exact r.inj r'
end
abbrev Cx.wish (X : Cx) (E : Value -> Shared -> Prop) : Cx := { X with xe := E }
abbrev Cx.nox (X : Cx) : Cx := X.wish fun _ _ => False
theorem Cx.Ok.wish {X : Cx} (ok : X.Ok) (E : Value -> Shared -> Prop) : (X.wish E).Ok :=
 ⟨ok.mod, ok.kind, ok.glob, ok.blt, ok.above, ok.inj, ok.has, ok.cab, ok.hd, ok.frames, ok.stk, ok.exf, ok.bs, ok.bsz, ok.noex, ok.exfs, ok.funs, ok.frf⟩
theorem Cx.Ok.unwish {X : Cx} {E : Value -> Shared -> Prop} (ok : (X.wish E).Ok) : X.Ok :=
 ⟨ok.mod, ok.kind, ok.glob, ok.blt, ok.above, ok.inj, ok.has, ok.cab, ok.hd, ok.frames, ok.stk, ok.exf, ok.bs, ok.bsz, ok.noex, ok.exfs, ok.funs, ok.frf⟩
section
variable {X : Cx} {pins : List (Addr × Obj)} {σ : St} {H : Hp} {s : Shared} {E : Value -> Shared -> Prop}
theorem Inv.wish (I : Inv X pins σ H s) (E : Value -> Shared -> Prop) : Inv (X.wish E) pins σ H s := ⟨I.ok.wish E, I.os, I.bare, I.base, I.loc, I.cell, I.free, I.freeC, I.pin, I.hok, I.len⟩
theorem Inv.unwish (I : Inv (X.wish E) pins σ H s) : Inv X pins σ H s := ⟨I.ok.unwish, I.os, I.bare, I.base, I.loc, I.cell, I.free, I.freeC, I.pin, I.hok, I.len⟩
theorem SP.unwish {D : Ends} {f : Flow} {s' : Shared} (h : SP (X.wish E) pins D f s') : SP X pins D f s' := by
 cases f with
 | next => obtain ⟨σ', H', I, q⟩ := h; exact ⟨σ', H', I.unwish, q⟩
 | brk => obtain ⟨σ', H', I, q⟩ := h; exact ⟨σ', H', I.unwish, q⟩
 | cont => obtain ⟨σ', H', I, q⟩ := h; exact ⟨σ', H', I.unwish, q⟩
 | ret u => obtain ⟨v, σ', H', I, r, q⟩ := h; exact ⟨v, σ', H', I.unwish, r, q⟩
theorem PE.nox {e : Expr} {t : TE} (h : PE X.nox e t) : PE X e t := fun pins s σ H Q I hw =>
 wpAny_mono (h pins s σ H Q (I.wish _) hw) (fun _ _ ⟨v, H', I', r, q⟩ => ⟨v, H', I'.unwish, r, q⟩) fun _ _ z => False.elim z
theorem PT.nox {e : Expr} {t : TT} (h : PT X.nox e t) : PT X e t := fun pins s σ H Q I hw =>
 wpAny_mono (h pins s σ H Q (I.wish _) hw) (fun _ _ ⟨H', I', q⟩ => ⟨H', I'.unwish, q⟩) fun _ _ z => False.elim z
theorem PSs.nox {st : List Stmt} {t : TS} (h : PSs X.nox st t) : PSs X st t := fun pins s σ H D I hw =>
 wpAny_mono (h pins s σ H D (I.wish _) hw) (fun _ _ q => q.unwish) fun _ _ z => False.elim z
end
section
variable {X : Cx} {st : Stmt} {rest : List Stmt} {t u : TS} {e : Expr} {te : TE} {pos : Pos}
def tNext : TS := fun D σ H => D.nx σ H
def tSeq (t u : TS) : TS := fun D σ H => t { D with nx := u D } σ H
theorem zZw : PSs X [] tNext := fun _ _ σ H _ I h => wpAny_execs_nil ⟨σ, H, I, h⟩
theorem zQj (h1 : PS X st t) (h2 : PSs X rest u) : PSs X (st :: rest) (tSeq t u) := by
 intro pins s σ H D I h
 refine wpAny_execs_cons (thn (h1 pins s σ H { D with nx := u D } I h) fun f s1 q => ?_)
 cases f with
 | next =>
   obtain ⟨σ', H', I', q⟩ := q
   exact h2 pins s1 σ' H' D I' q
 | ret v => exact q
 | brk => exact q
 | cont => exact q
theorem zWw (h1 : PS X st t) : PSs X [st] t := by
 intro pins s σ H D I h
 refine wpAny_execs_cons (thn (h1 pins s σ H D I h) fun f s1 q => ?_)
 cases f with
 | next => exact wpAny_execs_nil q
 | ret v => exact q
 | brk => exact q
 | cont => exact q
theorem Inv.quiet {pins : List (Addr × Obj)} {σ : St} {H : Hp} {s : Shared} (I : Inv X pins σ H s) : interactive X.env = false := by simp [interactive, I.ok.kind]
def tDrop (te : TE) : TS := fun D σ H => te σ H fun _ H1 => D.nx σ H1
theorem zJj (he : PE X e te) (hs : swapsWith e none pos.line X.env = pure false := by rfl) : PS X (.Expr e pos) (tDrop te) := by
 intro pins s σ H D I h
 exact wpAny_Expr_any (thn (he pins s σ H _ I h) fun v s1 ⟨x, H1, I1, r1, q1⟩ => ⟨σ, H1, I1, q1⟩) I.quiet hs
def tRet (te : TE) : TS := fun D σ H => te σ H D.rt
theorem zWv (he : PE X e te) : PS X (.Return (some e) pos) (tRet te) := by
 intro pins s σ H D I h
 exact wpAny_Return_some (thn (he pins s σ H _ I h) fun v s1 ⟨x, H1, I1, r1, q1⟩ => ⟨x, σ, H1, I1, r1, q1⟩)
def tRetN : TS := fun D _ H => D.rt .non H
theorem ps_retN : PS X (.Return none pos) tRetN := fun _ _ σ H _ I h => wpAny_Return_none ⟨.non, σ, H, I, rfl, h⟩
def tIfS (c : TT) (t u : TS) : TS := fun D σ H => c σ H fun b H1 => if b = true then t D σ H1 else u D σ H1
theorem yQq {c : Expr} {a b : List Stmt} {tc : TT} (hc : PT X c tc) (ha : PSs X a t) (hb : PSs X b u) : PS X (.If c a b pos) (tIfS tc t u) := by
 intro pins s σ H D I h
 refine wpAny_If (thn (hc pins s σ H _ I h) fun d s1 ⟨H1, I1, q1⟩ => ?_)
 cases d with
 | true => exact ha pins s1 σ H1 D I1 q1
 | false => exact hb pins s1 σ H1 D I1 q1
end
abbrev TG := V -> St -> Hp -> (St -> Hp -> Prop) -> Prop
abbrev TGs := List V -> St -> Hp -> (St -> Hp -> Prop) -> Prop
def PG (X : Cx) (target : Expr) (t : TG) : Prop :=
 ∀ (pins : List (Addr × Obj)) (s : Shared) (σ : St) (H : Hp) (v : V) (u : Value) (Q : St -> Hp -> Prop), Inv X pins σ H s -> RelV v u -> t v σ H Q ->
   wpAny (model X.prog X.w) X.A (assign target X.env u) (fun _ s' => ∃ σ' H', Inv X pins σ' H' s' /\ Q σ' H') X.xe s
def PGs (X : Cx) (ts : List Expr) (t : TGs) : Prop :=
 ∀ (pins : List (Addr × Obj)) (s : Shared) (σ : St) (H : Hp) (vs : List V) (us : List Value) (Q : St -> Hp -> Prop), Inv X pins σ H s -> Vals vs us -> t vs σ H Q ->
   wpAny (model X.prog X.w) X.A (assignInOrder ((assignEach ts X.env).map (·.2)) us) (fun _ s' => ∃ σ' H', Inv X pins σ' H' s' /\ Q σ' H') X.xe s
abbrev TSet := V -> V -> V -> Hp -> (Hp -> Prop) -> Prop
def PSet (X : Cx) (t : TSet) : Prop :=
 ∀ (pins : List (Addr × Obj)) (s : Shared) (σ : St) (H : Hp) (o i v : V) (ov iv u : Value) (Q : Hp -> Prop), Inv X pins σ H s -> RelV o ov -> RelV i iv -> RelV v u -> t o i v H Q ->
   wpAny (model X.prog X.w) X.A (setItem ov iv u) (fun _ s' => ∃ H', Inv X pins σ H' s' /\ Q H') X.xe s
section
variable {X : Cx} {pos : Pos}
def gName (i : Nat) : TG := fun v σ H Q => Q (σ.set i (some v)) H
theorem yQk {i : Nat} {x : Str} (hN : X.N.Nodup) (hi : X.N[i]? = some x) (hx : Loc X.env.scope x) (hf : X.fn x = true \/ X.env.scope.names.lookup x = some .local := by first | exact .inl rfl | exact .inr rfl | assumption) : PG X (.Name x pos) (gName i) := by
 intro pins s σ H v u Q I r h
 exact wpAny_assign_Name (wWj I hN hi hx r (fun s' I' => ⟨_, H, I', h⟩) hf)
def gNil : TGs := fun vs σ H Q => vs = [] /\ Q σ H
def gCons (t : TG) (u : TGs) : TGs := fun vs σ H Q => ∃ v r, vs = v :: r /\ t v σ H fun σ' H' => u r σ' H' Q
theorem pgs_nil : PGs X [] gNil := by
 intro pins s σ H vs us Q I r h
 obtain ⟨e, h⟩ := h
 subst e
 cases r
 exact assignInOrder_nil ⟨σ, H, I, h⟩
theorem pgs_cons {e : Expr} {es : List Expr} {t : TG} {u : TGs} (h1 : PG X e t) (h2 : PGs X es u)
   (hs : (assignEach (e :: es) X.env).map (·.2) = assign e X.env :: (assignEach es X.env).map (·.2) := by rfl) : PGs X (e :: es) (gCons t u) := by
 intro pins s σ H vs us Q I r h
 obtain ⟨v, vr, e1, h⟩ := h
 subst e1
 cases r with
 | cons r rr =>
   rw [hs]
   refine assignInOrder_cons (thn (h1 pins s σ H _ _ _ I r h) fun _ s1 ⟨σ1, H1, I1, q1⟩ => ?_)
   exact h2 pins s1 σ1 H1 _ _ Q I1 rr q1
def gTup (K : PySem.W.Frag) (n : Nat) (t : TGs) : TG := fun v σ H Q => ∃ a xs, v = .ref a /\ SqT K H a xs /\ xs.length = n /\ t xs σ H Q
theorem pg_tup {es : List Expr} {k : Nat} {t : TGs} {n : Nat} (hc : X.calm = true) (h : PGs X es t)
   (hn : (assignEach es X.env).length = n := by rfl) (hst : (assignEach es X.env).findIdx? (·.1) = none := by rfl) : PG X (.Tuple es k pos) (gTup X.K n t) := by
 intro pins s σ H v u Q I r hw
 obtain ⟨a, xs, e1, hq, hl, hw⟩ := hw
 subst e1
 cases r
 obtain ⟨its, rv, ht, hz⟩ := I.tuple hq
 refine assign_Tuple_tuple (I.ok.hd hc) ht (by simp [hn, <- hl, rv.length]) hst fun h' hx => ?_
 have I1 : Inv X pins σ H { s with heap := h' } := I.kept (t' := s.toks) fun b o e => hx b o (Nat.ne_of_lt (Heap.lt_size e)) e
 exact h pins _ σ H xs _ Q I1 (by simpa using rv) hw
def gSub (to ti : TE) (t : TSet) : TG := fun v σ H Q => to σ H fun o H1 => ti σ H1 fun i H2 => t o i v H2 fun H3 => Q σ H3
theorem pg_sub {o i : Expr} {to ti : TE} {t : TSet} (ho : PE X o to) (hi : PE X i ti) (hs : PSet X t)
   (ha : ∀ v, assign (.Subscript o i pos) X.env v = (do
     let ov <- holding [v] (eval o X.env)
     let iv <- holding [v, ov] (eval i X.env)
     standAt pos
     holding [v, ov, iv] (setItem ov iv v)
     release [v, ov, iv] []) := by intro _; rfl) : PG X (.Subscript o i pos) (gSub to ti t) := by
 intro pins s σ H v u Q I r h
 rw [ha]
 refine wpAny_bind (wpAny_holding (thn (ho pins s σ H _ I h) fun ov s1 ⟨x, H1, I1, r1, q1⟩ => ?_))
 refine wpAny_bind (wpAny_holding (thn (hi pins s1 σ H1 _ I1 q1) fun iv s2 ⟨y, H2, I2, r2, q2⟩ => ?_))
 refine wpAny_bind (wpAny_standAt (wpAny_bind (wpAny_holding (thn (hs pins s2 σ H2 x y v ov iv u _ I2 r1 r2 r q2) fun _ s3 ⟨H3, I3, q3⟩ => ?_))))
 exact wpAny_release ⟨σ, H3, I3, q3⟩
def tAsg (te : TE) (g : TG) : TS := fun D σ H => te σ H fun x H1 => g x σ H1 D.nx
theorem xKk {tg e : Expr} {te : TE} {g : TG} (he : PE X e te) (hg : PG X tg g) (hs : swapsWithSole [tg] e pos.line X.env = pure false := by rfl) (hw : swappedStores [tg] e X.env = pure none := by rfl)
   (h1 : (assignEach [tg] X.env).map (·.2) = [assign tg X.env] := by rfl) : PS X (.Assign [tg] e pos) (tAsg te g) := by
 intro pins s σ H D I h
 refine wpAny_Assign_stores (thn (he pins s σ H _ I h) fun v s1 ⟨x, H1, I1, r1, q1⟩ => ?_) hs hw
 rw [h1]
 exact thn (hg pins s1 σ H1 x v _ I1 r1 q1) fun _ s2 q => q
theorem zJq {i : Nat} {x : Str} {e : Expr} {te : TE} {pos' : Pos} (hN : X.N.Nodup) (hi : X.N[i]? = some x) (hx : Loc X.env.scope x) (he : PE X e te) (hs : swapsWith e (some (.Name x pos')) pos.line X.env = pure false := by rfl) (hf : X.fn x = true \/ X.env.scope.names.lookup x = some .local := by first | exact .inl rfl | exact .inr rfl | assumption) :
   PS X (.Assign [.Name x pos'] e pos) (tAsg te (gName i)) := by
 intro pins s σ H D I h
 refine wpAny_Assign_Name (thn (he pins s σ H _ I h) fun v s1 ⟨y, H1, I1, r1, q1⟩ => ?_) hs
 exact wWj I1 hN hi hx r1 (fun s2 I2 => ⟨_, H1, I2, q1⟩) hf
end
section
variable {X : Cx} {pos : Pos}
def tWhile (c : TT) (tb : TS) : TS := fun D σ H => ∃ W : Nat -> St -> Hp -> Prop, (∃ m, W m σ H) /\ ∀ m σ H, W m σ H ->
 c σ H fun b H1 => if b = true then ∃ N : St -> Hp -> Prop, (∀ σ' H', N σ' H' -> ∃ m', m' < m /\ W m' σ' H') /\ tb { D with nx := N, ct := N, bk := D.nx } σ H1 else D.nx σ H1
theorem ps_while {c : Expr} {body : List Stmt} {tc : TT} {tb : TS} (hp : PassesOwn (model X.prog X.w) X.A X.env X.xe) (hc : PT X c tc) (hb : PSs X body tb) : PS X (.While c body [] pos) (tWhile tc tb) := by
 intro pins s σ H D I h
 obtain ⟨W, ⟨m0, w0⟩, turn⟩ := h
 refine wpAny_While (codeAny_whileLoop (fun n s' => ∃ σ' H', Inv X pins σ' H' s' /\ W n σ' H') ?_ m0 ⟨σ, H, I, w0⟩)
 rintro n s1 ⟨σ1, H1, I1, w1⟩
 refine wpAny_passesOwn hp (thn (hc pins s1 σ1 H1 _ I1 (turn n σ1 H1 w1)) fun b s2 ⟨H2, I2, q2⟩ => ?_)
 cases b with
 | true =>
   obtain ⟨N, hN, q2⟩ := q2
   rw [if_pos rfl]
   refine wpAny_passesOwn hp (thn (hb pins s2 σ1 H2 _ I2 q2) fun f s3 q3 => ?_)
   cases f with
   | next =>
     obtain ⟨σ3, H3, I3, n3⟩ := q3
     obtain ⟨m', hm, w3⟩ := hN σ3 H3 n3
     exact ⟨m', hm, σ3, H3, I3, w3⟩
   | cont =>
     obtain ⟨σ3, H3, I3, n3⟩ := q3
     obtain ⟨m', hm, w3⟩ := hN σ3 H3 n3
     exact ⟨m', hm, σ3, H3, I3, w3⟩
   | brk => exact q3
   | ret v => exact q3
 | false =>
   rw [if_neg Bool.false_ne_true]
   exact wpAny_execs_nil ⟨σ1, H2, I2, q2⟩
end
structure It where
 go : Nat -> Hp -> Prop
 yld : Nat -> Hp -> V -> Hp -> Prop
 stop : Nat -> Hp -> Prop
def FpOk (X : Cx) (pins : List (Addr × Obj)) (H : Hp) (b : Addr) : Prop :=
 H b = none /\ b ≠ X.env.locals /\ b ∉ X.fs /\ (b ∈ X.ex \/ X.s₀.heap.objs.size <= b) /\ (∀ x c, X.env.cells.lookup x = some c -> c ≠ b) /\ ∀ p ∈ X.pn ++ pins, p.1 ≠ b
theorem Inv.fpOk {X : Cx} {pins : List (Addr × Obj)} {σ : St} {H H' : Hp} {s : Shared} {b : Addr} (I : Inv X pins σ H s) (hb : s.heap.objs.size <= b) (hn : H' b = none) : FpOk X pins H' b := by
 refine ⟨hn, Nat.ne_of_gt (Nat.lt_of_lt_of_le I.lt hb), I.nofs hb, .inr (Nat.le_trans I.sz hb), fun x c e z => ?_, fun p hp z => ?_⟩
 . obtain ⟨v, q⟩ := I.cell x c e
   exact absurd (Nat.lt_of_lt_of_le q.lt (by rw [z]; exact hb)) (Nat.lt_irrefl _)
 . exact absurd (Nat.lt_of_lt_of_le (Heap.lt_size (I.pin p hp).1) (by rw [z]; exact hb)) (Nat.lt_irrefl _)
structure Turn (P : Program) (w : World) (K : PySem.W.Frag) (tg : Expr) (J : It) (fp : List Addr) (it : Addr) (tn : Nat -> Heap -> Prop) : Prop where
 mem : it ∈ fp
 obj : ∀ i h, tn i h -> ∀ b ∈ fp, ∃ o, h.get? b = some o /\ ∀ v, o.data ≠ .cell v
 keep : ∀ i h h', tn i h -> (∀ b ∈ fp, ∀ o, h.get? b = some o -> h'.get? b = some o) -> tn i h'
 item : ∀ (X : Cx), X.prog = P -> X.w = w -> X.K = K -> X.calm = true -> ∀ (i : Nat) (pins : List (Addr × Obj)) (s : Shared) (σ : St) (H : Hp) (E : Value -> Shared -> Prop), Inv X pins σ H s -> (∀ b ∈ fp, FpOk X pins H b) -> tn i s.heap -> J.go i H ->
   wpAny (model P w) X.A (pyNext (.ref it)) (fun r s1 => ∃ u, r = some u /\
     wpAny (model P w) X.A (letOwnedTupleGo tg (.ref it) u) (fun _ s2 => ∃ x H', Inv X pins σ H' s2 /\ RelV x u /\ J.yld i H x H' /\ tn (i + 1) s2.heap /\ ∀ b ∈ fp, H' b = none) E s1) E s
 done : ∀ (X : Cx), X.prog = P -> X.w = w -> X.K = K -> X.calm = true -> ∀ (i : Nat) (pins : List (Addr × Obj)) (s : Shared) (σ : St) (H : Hp) (E : Value -> Shared -> Prop), Inv X pins σ H s -> (∀ b ∈ fp, FpOk X pins H b) -> tn i s.heap -> J.stop i H ->
   wpAny (model P w) X.A (pyNext (.ref it)) (fun r s1 => r = none /\ Inv X pins σ H s1) E s
 self : ∀ (A : Around) (i : Nat) (s : Shared) (Q : Value -> Shared -> Prop) (E : Value -> Shared -> Prop), tn i s.heap -> Q (.ref it) s -> wpAny (model P w) A (pyIter (.ref it)) Q E s
abbrev TI := St -> Hp -> (It -> Hp -> Prop) -> Prop
def PIE (X : Cx) (pins : List (Addr × Obj)) (σ : St) (tg : Expr) (R : It -> Hp -> Prop) (itv : Value) (s2 : Shared) : Prop :=
 ∃ (it : Addr) (fp : List Addr) (tn : Nat -> Heap -> Prop) (J : It) (H' : Hp), itv = .ref it /\ Inv X pins σ H' s2 /\ Turn X.prog X.w X.K tg J fp it tn /\ tn 0 s2.heap /\ (∀ b ∈ fp, FpOk X pins H' b) /\ R J H'
def PI (X : Cx) (tg iter : Expr) (wi : TI) : Prop :=
 ∀ (pins : List (Addr × Obj)) (s : Shared) (σ : St) (H : Hp) (R : It -> Hp -> Prop), Inv X pins σ H s -> wi σ H R ->
   wpAny (model X.prog X.w) X.A (eval iter X.env) (fun v s1 => wpAny (model X.prog X.w) X.A (pyIter v) (PIE X pins σ tg R) X.xe s1) X.xe s
theorem go_of {M : Model} {A : Around} {E : Value -> Shared -> Prop} {s : Shared} {tg : Expr} {it : Addr} {u : Value} {o : Obj} {n : String} {vs : Array Value} {Q : Unit -> Shared -> Prop} (ho : s.heap.get? it = some o) (hc : o.cls = .type n) (hd : o.data = .fields vs)
   (hn : ["enumerate", "zip", "dict_itemiterator", "dict_reverseitemiterator", "odict_iterator", "itertools.zip_longest", "itertools.pairwise"].contains n = false) (hQ : Q () s) : wpAny M A (letOwnedTupleGo tg (.ref it) u) Q E s := by
 unfold letOwnedTupleGo
 cases tg <;> first
   | exact wpAny_pure hQ
   | (cases u <;> first
       | exact wpAny_pure hQ
       | (refine wpAny_bind (wpAny_load ho ?_)
          rw [hc, hd]
          show wpAny M A (if (["enumerate", "zip", "dict_itemiterator", "dict_reverseitemiterator", "odict_iterator", "itertools.zip_longest", "itertools.pairwise"].contains n && vs[0]? == some (rawInt _)) = true then _ else _) Q E s
          rw [if_neg (by intro h; rw [hn, Bool.false_and] at h; cases h)]
          exact wpAny_pure hQ))
def Itl (K : PySem.W.Frag) (a : Addr) : It :=
 ⟨fun i H => ∃ xs x, SqL K H a xs /\ xs[i]? = some x, fun i H x H' => H' = H /\ ∀ xs, SqL K H a xs -> xs[i]? = some x, fun i H => ∃ xs, SqL K H a xs /\ xs.length <= i⟩
def Itr (lo : Int) (n : Nat) : It := ⟨fun i _ => i < n, fun i H x H' => H' = H /\ x = .int (lo + i), fun i _ => n <= i⟩
theorem turn_list {P : Program} {w : World} {K : PySem.W.Frag} {tg : Expr} (a it : Addr) : Turn P w K tg (Itl K a) [it] it (fun i h => h.IsListIter it a i) where
 mem := by simp
 obj := fun i h st b hb => by
   have e : b = it := by simpa using hb
   subst e
   obtain ⟨o, e, c, d⟩ := st
   exact ⟨o, e, fun v z => by rw [d] at z; cases z⟩
 keep := fun i h h' st k => st.at fun o e => k it (by simp) o e
 item := by
   intro X hP hw hK hc i pins s σ H E I hf st hg
   subst hP hw hK
   obtain ⟨xs, x, hq, hx⟩ := hg
   obtain ⟨its, rv, p, hz⟩ := I.list hq
   obtain ⟨u, hu, ru⟩ := rv.get hx
   obtain ⟨f0, f1, f2, f3, f4, f5⟩ := hf it (by simp)
   refine wpAny_pyNext_list_item st p.isList (x := u) (by simpa using hu) fun h' st' sb => ?_
   have I1 : Inv X pins σ H { s with heap := h' } := I.turned (t' := s.toks) (fun b o hb e => (sb.2 b hb).trans e) f0 f1 f3 f4 f5
   obtain ⟨o, e, c, d⟩ := id st'
   exact ⟨u, rfl, go_of (s := { s with heap := h' }) e c d (by decide) ⟨x, H, I1, ru, ⟨rfl, fun ys hy => by rw [I.list_inj hy hq]; exact hx⟩, st', fun b hb => (hf b hb).1⟩⟩
 done := by
   intro X hP hw hK hc i pins s σ H E I hf st hg
   subst hP hw hK
   obtain ⟨xs, hq, hx⟩ := hg
   obtain ⟨its, rv, p, hz⟩ := I.list hq
   obtain ⟨f0, f1, f2, f3, f4, f5⟩ := hf it (by simp)
   have hl := rv.length
   exact wpAny_pyNext_list_end (I.ok.hd hc) st p.isList (by simp; omega) fun h' eb => ⟨rfl, I.turned (t' := s.toks) (fun b o hb e => eb b o hb e) f0 f1 f3 f4 f5⟩
 self := fun _ _ _ _ _ st h => wpAny_pyIter_listiter st h
theorem turn_range {P : Program} {w : World} {K : PySem.W.Frag} {tg : Expr} (it : Addr) (lo : Int) (n : Nat) : Turn P w K tg (Itr lo n) [it] it (fun i h => IsRangeIter h it (lo + (i : Nat) * 1) ((n : Int) - (i : Nat)) 1) where
 mem := by simp
 obj := fun i h st b hb => by
   have e : b = it := by simpa using hb
   subst e
   exact ⟨_, st, fun v z => by
     have z' : Data.fields _ = Data.cell v := z
     cases z'⟩
 keep := fun i h h' st k => k it (by simp) _ st
 item := by
   intro X hP hw hK hc i pins s σ H E I hf st hg
   subst hP hw hK
   obtain ⟨f0, f1, f2, f3, f4, f5⟩ := hf it (by simp)
   have W := Walks.range (prog := X.prog) (w := X.w) (I.ok.hd hc) it lo 1 n
   refine W.item i s _ _ hg st fun v h' tk hv st' kk => ?_
   obtain ⟨t, rfl⟩ := hv
   have I1 : Inv X pins σ H { s with heap := h', toks := tk } := I.turned (fun b o hb e => kk b o (by simpa using hb) e) f0 f1 f3 f4 f5
   refine ⟨_, rfl, go_of (s := { s with heap := h', toks := tk }) (n := "range_iterator") st' rfl rfl (by decide) ⟨.int (lo + i), H, I1, ⟨t, ?_⟩, ⟨rfl, rfl⟩, st', fun b hb => (hf b hb).1⟩⟩
   rw [Int.mul_one]
 done := by
   intro X hP hw hK hc i pins s σ H E I hf st hg
   subst hP hw hK
   obtain ⟨f0, f1, f2, f3, f4, f5⟩ := hf it (by simp)
   exact wpAny_pyNext_range_end (I.ok.hd hc) st (by have : n <= i := hg; omega) fun h' eb => ⟨rfl, I.turned (t' := s.toks) (fun b o hb e => eb b o hb e) f0 f1 f3 f4 f5⟩
 self := fun _ _ _ _ _ st h => wpAny_pyIter_rangeiter st h
section
variable {X : Cx} {tg : Expr}
def iList (K : PySem.W.Frag) (tl : TE) : TI := fun σ H R => tl σ H fun x H1 => ∃ a, x = .ref a /\ (∃ xs, SqL K H1 a xs) /\ R (Itl K a) H1
theorem yWw {l : Expr} {tl : TE} (hl : PE X l tl) : PI X tg l (iList X.K tl) := by
 intro pins s σ H R I h
 refine thn (hl pins s σ H _ I h) fun v s1 ⟨x, H1, I1, r1, q1⟩ => ?_
 obtain ⟨a, e, ⟨xs, hq⟩, q⟩ := q1
 subst e
 cases r1
 obtain ⟨its, rv, p, hz⟩ := I1.list hq
 refine wpAny_pyIter_list p.isList ?_
 refine ⟨s1.heap.objs.size, [s1.heap.objs.size], _, _, H1, rfl, I1.kept (t' := s1.toks) fun b o e => Heap.get?_push_of_some _ e, turn_list a _, ⟨_, Heap.get?_push_size _ rfl, rfl, rfl⟩, fun b hb => ?_, q⟩
 have e : b = s1.heap.objs.size := by simpa using hb
 subst e
 exact I1.fpOk (Nat.le_refl _) (I1.hok.fresh (Nat.le_refl _))
theorem range_it {pins : List (Addr × Obj)} {σ : St} {H : Hp} {s : Shared} {R : It -> Hp -> Prop} {E : Value -> Shared -> Prop} {lo hi : Int} {t u v : Tok} {tk : Nat} (I : Inv X pins σ H s) (h1 : -(2 ^ 62) <= lo) (h2 : lo < 2 ^ 62) (h3 : -(2 ^ 62) <= hi) (h4 : hi < 2 ^ 62)
   (q : R (Itr lo (hi - lo).toNat) H) : wpAny (model X.prog X.w) X.A (pyIter (.ref s.heap.objs.size)) (PIE X pins σ tg R) E { s with heap := s.heap.push { cls := .type "range", data := .fields #[.int lo t, .int hi u, .int 1 v] }, toks := tk } := by
 refine wpAny_pyIter_range (IsRange.new ..) (small_one h1 h2 h3 h4) ?_
 have I1 : Inv X pins σ H { s with heap := s.heap.push { cls := .type "range", data := .fields #[.int lo t, .int hi u, .int 1 v] }, toks := tk } := I.kept fun b o e => Heap.get?_push_of_some _ e
 refine ⟨(s.heap.push { cls := .type "range", data := .fields #[.int lo t, .int hi u, .int 1 v] }).objs.size, [(s.heap.push { cls := .type "range", data := .fields #[.int lo t, .int hi u, .int 1 v] }).objs.size], _, _, H, rfl,
   I1.kept (t' := tk) fun b o e => Heap.get?_push_of_some _ e, turn_range _ lo (hi - lo).toNat, ?_, fun b hb => ?_, q⟩
 . have e1 : lo + ((0 : Nat) : Int) * 1 = lo := by simp
   have e2 : (((hi - lo).toNat : Nat) : Int) - ((0 : Nat) : Int) = Builtin.Range.rangeSize lo hi 1 := by rw [rangeSize_one]; split <;> omega
   show IsRangeIter _ _ (lo + ((0 : Nat) : Int) * 1) ((((hi - lo).toNat : Nat) : Int) - ((0 : Nat) : Int)) 1
   rw [e1, e2]
   exact Heap.get?_push_size _ rfl
 . have e : b = (s.heap.push { cls := .type "range", data := .fields #[.int lo t, .int hi u, .int 1 v] }).objs.size := by simpa using hb
   subst e
   exact I1.fpOk (Nat.le_refl _) (I1.hok.fresh (Nat.le_refl _))
def iRng1 (ta : TA) : TI := fun σ H R => ta σ H fun vs H1 => ∃ j : Int, vs = [.int j] /\ -(2 ^ 62) <= j /\ j < 2 ^ 62 /\ R (Itr 0 j.toNat) H1
theorem yQj {a : Expr} {ta : TA} {p pos : Pos} (hg : Gl X "range") (hm : X.mg "range" = none) (ha : PA X [a] ta) (hs : starEach [a] X.env = [(false, eval a X.env)] := by exact zQq rfl) : PI X tg (.Call (.Name "range" p) [a] [] pos) (iRng1 ta) := by
 intro pins s σ H R I h
 refine Call_ (ld_blt I hg hm boot_range (PyProof.Rows.callWith_type1 (thn (ha pos pins s σ H _ I h) fun us s1 ⟨vs, H1, I1, r1, q1⟩ => ?_) hs rfl))
 obtain ⟨j, e, q1, q2, q⟩ := q1
 subst e
 cases r1 with
 | cons r rr =>
   cases rr
   obtain ⟨t, rfl⟩ := r
   exact call_range_1 (range_it I1 (by omega) (by omega) q1 q2 (by simpa using q))
def tFor (wi : TI) (g : TG) (tb : TS) : TS := fun D σ H => wi σ H fun J H1 => ∃ W : Nat -> Nat -> St -> Hp -> Prop, (∃ m, W 0 m σ H1) /\ ∀ i m σ H, W i m σ H ->
 (J.stop i H /\ D.nx σ H) \/ (J.go i H /\ ∃ N : St -> Hp -> Prop, (∀ σ' H', N σ' H' -> ∃ m', m' < m /\ W (i + 1) m' σ' H') /\ ∀ x H', J.yld i H x H' -> g x σ H' fun σ2 H2 => tb { D with nx := N, ct := N, bk := D.nx } σ2 H2)
def pinsAt (fp : List Addr) (h : Heap) : List (Addr × Obj) := fp.filterMap fun b => (h.get? b).map fun o => (b, o)
theorem yKq {fp : List Addr} {h : Heap} {b : Addr} {o : Obj} (hb : b ∈ fp) (e : h.get? b = some o) : (b, o) ∈ pinsAt fp h := List.mem_filterMap.mpr ⟨b, hb, by rw [e]; rfl⟩
theorem of_pinsAt {fp : List Addr} {h : Heap} {p : Addr × Obj} (hp : p ∈ pinsAt fp h) : p.1 ∈ fp /\ h.get? p.1 = some p.2 := by
 obtain ⟨b, hb, e⟩ := List.mem_filterMap.mp hp
 cases q : h.get? b with
 | none => rw [q] at e; cases e
 | some o =>
   rw [q] at e
   have e' : (b, o) = p := Option.some.inj e
   subst e'
   exact ⟨hb, q⟩
theorem Inv.pinned {pins : List (Addr × Obj)} {σ : St} {H : Hp} {s : Shared} {fp : List Addr} (I : Inv X pins σ H s) (hf : ∀ b ∈ fp, FpOk X pins H b) (ho : ∀ b ∈ fp, ∃ o, s.heap.get? b = some o /\ ∀ v, o.data ≠ .cell v) : Inv X (pins ++ pinsAt fp s.heap) σ H s :=
 I.pins_of fun p hp => (List.mem_append.mp hp).elim (fun z => I.pin p (List.mem_append_right _ z)) fun z => by
   obtain ⟨hb, e⟩ := of_pinsAt z
   obtain ⟨f0, f1, f2, _⟩ := hf p.1 hb
   obtain ⟨o, e', d⟩ := ho p.1 hb
   rw [e] at e'; cases e'
   exact ⟨e, f0, f1, f2, d⟩
theorem Inv.unpinned {pins pl : List (Addr × Obj)} {σ : St} {H : Hp} {s : Shared} (I : Inv X (pins ++ pl) σ H s) : Inv X pins σ H s := I.pins_of fun p hp => I.pin p (List.mem_append_right _ (List.mem_append_left _ hp))
theorem yKj {iter : Expr} {body : List Stmt} {wi : TI} {g : TG} {tb : TS} {pos : Pos} (hp : PassesOwn (model X.prog X.w) X.A X.env X.xe) (hc : X.calm = true) (hi : PI X tg iter wi) (hg : PG X tg g) (hb : PSs X body tb)
   (hs : ∀ x, foldedSetIterable iter X.env x = pure x := by intro _; rfl) : PS X (.For tg iter body [] pos) (tFor wi g tb) := by
 intro pins s σ H D I h
 refine wpAny_For (thn (hi pins s σ H _ I h) fun v s1 h1 => thn h1 fun itv s2 h2 => ?_) hs
 obtain ⟨it, fp, tn, J, H2, e, I2, T, st2, f2, W, ⟨m0, w0⟩, turn⟩ := h2
 subst e
 have stat : ∀ {H' : Hp}, (∀ b ∈ fp, H' b = none) -> ∀ b ∈ fp, FpOk X pins H' b := fun hn b hb => ⟨hn b hb, (f2 b hb).2⟩
 refine codeAny_forLoop_any (fun n s' => ∃ i σ' H', Inv X pins σ' H' s' /\ tn i s'.heap /\ (∀ b ∈ fp, H' b = none) /\ W i n σ' H') ?_ m0 ⟨0, σ, H2, I2, st2, fun b hb => (f2 b hb).1, w0⟩
 rintro n s3 ⟨i, σ3, H3, I3, st3, fr3, w3⟩
 rcases turn i n σ3 H3 w3 with ⟨stop, qn⟩ | ⟨go, N, hN, step⟩
 . refine wpAny_passesOwn hp (thn (T.done X rfl rfl rfl hc i pins s3 σ3 H3 X.xe I3 (stat fr3) st3 stop) fun r s4 ⟨hr, I4⟩ => ?_)
   subst hr
   exact wpAny_execs_nil ⟨σ3, H3, I4, qn⟩
 . refine wpAny_passesOwn hp (thn (T.item X rfl rfl rfl hc i pins s3 σ3 H3 X.xe I3 (stat fr3) st3 go) fun r s4 ⟨u, hr, h4⟩ => ?_)
   subst hr
   refine wpAny_passesOwn hp (thn h4 fun _ s5 ⟨x, H5, I5, r5, y5, st5, fr5⟩ => ?_)
   have I5' := I5.pinned (stat fr5) (T.obj _ _ st5)
   refine wpAny_passesOwn hp (thn (hg _ s5 σ3 H5 x u _ I5' r5 (step x H5 y5)) fun _ s6 ⟨σ6, H6, I6, q6⟩ => ?_)
   refine wpAny_passesOwn hp (thn (hb _ s6 σ6 H6 _ I6 q6) fun f s7 q7 => ?_)
   have again : ∀ {σ7 : St} {H7 : Hp}, Inv X (pins ++ pinsAt fp s5.heap) σ7 H7 s7 -> N σ7 H7 -> ∃ m, m < n /\ ∃ i σ' H', Inv X pins σ' H' s7 /\ tn i s7.heap /\ (∀ b ∈ fp, H' b = none) /\ W i m σ' H' := fun {σ7 H7} I7 n7 => by
     obtain ⟨m', hm, w7⟩ := hN σ7 H7 n7
     refine ⟨m', hm, i + 1, σ7, H7, I7.unpinned, T.keep _ _ _ st5 fun b hb o e => (I7.pin (b, o) (List.mem_append_right _ (List.mem_append_right _ (yKq hb e)))).1, fun b hb => ?_, w7⟩
     obtain ⟨o, e, d⟩ := T.obj _ _ st5 b hb
     exact (I7.pin (b, o) (List.mem_append_right _ (List.mem_append_right _ (yKq hb e)))).2.1
   cases f with
   | next => obtain ⟨σ7, H7, I7, n7⟩ := q7; exact again I7 n7
   | cont => obtain ⟨σ7, H7, I7, n7⟩ := q7; exact again I7 n7
   | brk => obtain ⟨σ7, H7, I7, q7⟩ := q7; exact ⟨σ7, H7, I7.unpinned, q7⟩
   | ret v => obtain ⟨x7, σ7, H7, I7, r7, q7⟩ := q7; exact ⟨x7, σ7, H7, I7.unpinned, r7, q7⟩
end
theorem for_list {K : PySem.W.Frag} {a : Addr} {xs : List V} {g : TG} {tb : TS} {D : Ends} {σ : St} {H : Hp} (Pv : Nat -> St -> Hp -> Prop) (h0 : Pv 0 σ H) (hl : ∀ i σ H, i <= xs.length -> Pv i σ H -> SqL K H a xs)
   (hs : ∀ i x σ H, xs[i]? = some x -> Pv i σ H -> g x σ H fun σ2 H2 => tb { D with nx := Pv (i + 1), ct := Pv (i + 1), bk := D.nx } σ2 H2) (hd : ∀ σ H, Pv xs.length σ H -> D.nx σ H) :
   ∃ W : Nat -> Nat -> St -> Hp -> Prop, (∃ m, W 0 m σ H) /\ ∀ i m σ H, W i m σ H ->
     ((Itl K a).stop i H /\ D.nx σ H) \/ ((Itl K a).go i H /\ ∃ N : St -> Hp -> Prop, (∀ σ' H', N σ' H' -> ∃ m', m' < m /\ W (i + 1) m' σ' H') /\ ∀ x H', (Itl K a).yld i H x H' -> g x σ H' fun σ2 H2 => tb { D with nx := N, ct := N, bk := D.nx } σ2 H2) := by
 refine ⟨fun i m σ H => m = xs.length - i /\ i <= xs.length /\ Pv i σ H, ⟨xs.length, by simp, Nat.zero_le _, h0⟩, ?_⟩
 rintro i m σ H ⟨rfl, hi, p⟩
 have q := hl i σ H hi p
 by_cases hlt : i < xs.length
 . refine .inr ⟨⟨xs, xs[i], q, by simp [hlt]⟩, Pv (i + 1), fun σ' H' p' => ⟨xs.length - (i + 1), by omega, rfl, hlt, p'⟩, fun x H' y => ?_⟩
   obtain ⟨e, y⟩ := y
   subst e
   exact hs i x σ _ (y xs q) p
 . have e : i = xs.length := by omega
   subst e
   exact .inl ⟨⟨xs, q, Nat.le_refl _⟩, hd σ H p⟩
theorem yWv {lo : Int} {n : Nat} {g : TG} {tb : TS} {D : Ends} {σ : St} {H : Hp} (Pv : Nat -> St -> Hp -> Prop) (h0 : Pv 0 σ H)
   (hs : ∀ i σ H, i < n -> Pv i σ H -> g (.int (lo + i)) σ H fun σ2 H2 => tb { D with nx := Pv (i + 1), ct := Pv (i + 1), bk := D.nx } σ2 H2) (hd : ∀ σ H, Pv n σ H -> D.nx σ H) :
   ∃ W : Nat -> Nat -> St -> Hp -> Prop, (∃ m, W 0 m σ H) /\ ∀ i m σ H, W i m σ H ->
     ((Itr lo n).stop i H /\ D.nx σ H) \/ ((Itr lo n).go i H /\ ∃ N : St -> Hp -> Prop, (∀ σ' H', N σ' H' -> ∃ m', m' < m /\ W (i + 1) m' σ' H') /\ ∀ x H', (Itr lo n).yld i H x H' -> g x σ H' fun σ2 H2 => tb { D with nx := N, ct := N, bk := D.nx } σ2 H2) := by
 refine ⟨fun i m σ H => m = n - i /\ i <= n /\ Pv i σ H, ⟨n, by simp, Nat.zero_le _, h0⟩, ?_⟩
 rintro i m σ H ⟨rfl, hi, p⟩
 by_cases hlt : i < n
 . refine .inr ⟨hlt, Pv (i + 1), fun σ' H' p' => ⟨n - (i + 1), by omega, rfl, hlt, p'⟩, fun x H' y => ?_⟩
   obtain ⟨e, y⟩ := y
   subst e y
   exact hs i σ _ hlt p
 . have e : i = n := by omega
   subst e
   exact .inl ⟨Nat.le_refl _, hd σ H p⟩
abbrev R2 := V -> V -> Hp -> VK -> Prop
def OpR (X : Cx) (f : Value -> Value -> Sem Value) (r : R2) : Prop :=
 ∀ (pins : List (Addr × Obj)) (s : Shared) (σ : St) (H : Hp) (x y : V) (v u : Value) (Q : VK), Inv X pins σ H s -> RelV x v -> RelV y u -> r x y H Q ->
   wpAny (model X.prog X.w) X.A (f v u) (EP X pins σ Q) X.xe s
def UnR (X : Cx) (f : Value -> Sem Value) (r : V -> Hp -> VK -> Prop) : Prop :=
 ∀ (pins : List (Addr × Obj)) (s : Shared) (σ : St) (H : Hp) (x : V) (v : Value) (Q : VK), Inv X pins σ H s -> RelV x v -> r x H Q ->
   wpAny (model X.prog X.w) X.A (f v) (EP X pins σ Q) X.xe s
def CallR (X : Cx) (f : Value) (r : List V -> Hp -> VK -> Prop) : Prop :=
 ∀ (pins : List (Addr × Obj)) (s : Shared) (σ : St) (H : Hp) (xs : List V) (us : List Value) (Q : VK), Inv X pins σ H s -> Vals xs us -> r xs H Q ->
   wpAny (model X.prog X.w) X.A (call f us) (EP X pins σ Q) X.xe s
def TruR (X : Cx) (r : V -> Hp -> (Bool -> Hp -> Prop) -> Prop) : Prop :=
 ∀ (pins : List (Addr × Obj)) (s : Shared) (σ : St) (H : Hp) (x : V) (v : Value) (Q : Bool -> Hp -> Prop), Inv X pins σ H s -> RelV x v -> r x H Q ->
   wpAny (model X.prog X.w) X.A (truthy v) (TP X pins σ Q) X.xe s
def tOp (r : R2) (ta tb : TE) : TE := fun σ H Q => ta σ H fun x H1 => tb σ H1 fun y H2 => r x y H2 Q
def tUn (r : V -> Hp -> VK -> Prop) (ta : TE) : TE := fun σ H Q => ta σ H fun x H1 => r x H1 Q
def rI (C : Int -> Int -> Prop) (g : Int -> Int -> V) : R2 := fun x y H Q => ∃ i j, x = .int i /\ y = .int j /\ C i j /\ Q (g i j) H
def rI0 (g : Int -> Int -> V) : R2 := fun x y H Q => ∃ i j, x = .int i /\ y = .int j /\ Q (g i j) H
def rU (g : Int -> V) : V -> Hp -> VK -> Prop := fun x H Q => ∃ i, x = .int i /\ Q (g i) H
section
variable {X : Cx} {a b c : Expr} {ta tb tc : TE} {pos : Pos}
theorem binT (ha : PE X a ta) (hb : PE X b tb) {pins : List (Addr × Obj)} {s : Shared} {σ : St} {H : Hp} {R : V -> V -> Hp -> Prop} (I : Inv X pins σ H s)
   (h : ta σ H fun x H1 => tb σ H1 fun y H2 => R x y H2) {Q : Value -> Shared -> Prop} {f : Value -> Value -> Sem Value}
   (hf : ∀ v u s2 x y H2, Inv X pins σ H2 s2 -> RelV x v -> RelV y u -> R x y H2 -> wpAny (model X.prog X.w) X.A (f v u) Q X.xe s2) :
   wpAny (model X.prog X.w) X.A (eval a X.env) (fun v s₁ => wpAny (model X.prog X.w) X.A (eval b X.env) (fun u s₂ => wpAny (model X.prog X.w) X.A (f v u) Q X.xe s₂) X.xe s₁) X.xe s := by
 refine thn (ha pins s σ H _ I h) fun v s1 ⟨x, H1, I1, r1, q1⟩ => ?_
 refine thn (hb pins s1 σ H1 _ I1 q1) fun u s2 ⟨y, H2, I2, r2, q2⟩ => ?_
 exact hf v u s2 x y H2 I2 r1 r2 q2
theorem zJk {op : Operator} {r : R2} (ho : OpR X (binaryOp op) r) (ha : PE X a ta) (hb : PE X b tb) : PE X (.BinOp a op b pos) (tOp r ta tb) := by
 intro pins s σ H Q I h
 exact wpAny_BinOp (binT ha hb I h fun v u s2 x y H2 I2 rx ry q => ho pins s2 σ H2 x y v u Q I2 rx ry q)
theorem pe_un {op : UnaryOp} {r : V -> Hp -> VK -> Prop} (ho : UnR X (unaryOp op) r) (ha : PE X a ta) : PE X (.UnaryOp op a pos) (tUn r ta) := by
 intro pins s σ H Q I h
 exact UnaryOp_ (thn (ha pins s σ H _ I h) fun v s1 ⟨x, H1, I1, r1, q1⟩ => ho pins s1 σ H1 x v Q I1 r1 q1)
theorem opI {f : Value -> Value -> Sem Value} {C : Int -> Int -> Prop} {g : Int -> Int -> Int}
   (rule : ∀ (i j : Int) (t u : Tok) (s : Shared) (Q : Value -> Shared -> Prop) (E : Value -> Shared -> Prop), C i j -> Q (.int (g i j) s.toks) { s with toks := s.toks + 1 } -> wpAny (model X.prog X.w) X.A (f (.int i t) (.int j u)) Q E s) :
   OpR X f (rI C fun i j => .int (g i j)) := by
 intro pins s σ H x y v u Q I rx ry h
 obtain ⟨i, j, rfl, rfl, hc, q⟩ := h
 obtain ⟨t, rfl⟩ := rx
 obtain ⟨t', rfl⟩ := ry
 exact rule i j t t' s _ _ hc ⟨.int (g i j), H, I.tok _, ⟨_, rfl⟩, q⟩
theorem opI0 {f : Value -> Value -> Sem Value} {g : Int -> Int -> Int}
   (rule : ∀ (i j : Int) (t u : Tok) (s : Shared) (Q : Value -> Shared -> Prop) (E : Value -> Shared -> Prop), Q (.int (g i j) s.toks) { s with toks := s.toks + 1 } -> wpAny (model X.prog X.w) X.A (f (.int i t) (.int j u)) Q E s) :
   OpR X f (rI0 fun i j => .int (g i j)) := by
 intro pins s σ H x y v u Q I rx ry h
 obtain ⟨i, j, rfl, rfl, q⟩ := h
 obtain ⟨t, rfl⟩ := rx
 obtain ⟨t', rfl⟩ := ry
 exact rule i j t t' s _ _ ⟨.int (g i j), H, I.tok _, ⟨_, rfl⟩, q⟩
theorem opB0 {f : Value -> Value -> Sem Value} {g : Int -> Int -> Bool}
   (rule : ∀ (i j : Int) (t u : Tok) (s : Shared) (Q : Value -> Shared -> Prop) (E : Value -> Shared -> Prop), Q (.bool (g i j)) s -> wpAny (model X.prog X.w) X.A (f (.int i t) (.int j u)) Q E s) :
   OpR X f (rI0 fun i j => .bl (g i j)) := by
 intro pins s σ H x y v u Q I rx ry h
 obtain ⟨i, j, rfl, rfl, q⟩ := h
 obtain ⟨t, rfl⟩ := rx
 obtain ⟨t', rfl⟩ := ry
 exact rule i j t t' s _ _ ⟨.bl (g i j), H, I, rfl, q⟩
def CDiv (i j : Int) : Prop := 0 < j /\ j < 1073741824
def CPow (i j : Int) : Prop := 0 <= j /\ j <= 1000000 /\ i.natAbs < 2 ^ 64
def CMul (i j : Int) : Prop := (-(2 ^ 64) < i /\ i < 2 ^ 64) \/ (-(2 ^ 64) < j /\ j < 2 ^ 64)
theorem CMul.ok {i j : Int} (h : CMul i j) : IntMulOk i j := by
 rcases h with ⟨h1, h2⟩ | ⟨h1, h2⟩
 . exact .of_left (intBits_le_64 h1 h2)
 . exact .of_right (intBits_le_64 h1 h2)
theorem xWq : OpR X (binaryOp .Add) (rI0 fun i j => .int (i + j)) := opI0 fun _ _ _ _ _ _ _ q => add_int q
theorem op_sub : OpR X (binaryOp .Sub) (rI0 fun i j => .int (i - j)) := opI0 fun _ _ _ _ _ _ _ q => sub_int q
theorem op_mul : OpR X (binaryOp .Mult) (rI CMul fun i j => .int (i * j)) := opI fun _ _ _ _ _ _ _ hc q => mul_int q hc.ok
theorem op_fdiv : OpR X (binaryOp .FloorDiv) (rI CDiv fun i j => .int (i / j)) := opI fun i j _ _ _ _ _ hc q => by
 have h1 : (0 : Int) < j := hc.1
 have h2 : j < 1073741824 := hc.2
 exact floordiv_int (by omega) (by rw [Int.fdiv_eq_ediv_of_nonneg i (by omega)]; exact q) (.inl (PyProof.noPylong_small (by omega)))
theorem yKv : OpR X (binaryOp .Mod) (rI (fun _ j => 0 < j) fun i j => .int (i % j)) := opI fun i j _ _ _ _ _ hc q => by
 have h1 : (0 : Int) < j := hc
 exact mod_int' (by omega) (by rw [Int.fmod_eq_emod_of_nonneg i (by omega)]; exact q)
theorem op_pow : OpR X (binaryOp .Pow) (rI CPow fun i j => .int (i ^ j.toNat)) := opI fun _ _ _ _ _ _ _ hc q => pow_int_small hc.1 hc.2.1 hc.2.2 q
theorem unI {f : Value -> Sem Value} {g : Int -> Int}
   (rule : ∀ (i : Int) (t : Tok) (s : Shared) (Q : Value -> Shared -> Prop) (E : Value -> Shared -> Prop), Q (.int (g i) s.toks) { s with toks := s.toks + 1 } -> wpAny (model X.prog X.w) X.A (f (.int i t)) Q E s) :
   UnR X f (rU fun i => .int (g i)) := by
 intro pins s σ H x v Q I rx h
 obtain ⟨i, rfl, q⟩ := h
 obtain ⟨t, rfl⟩ := rx
 exact rule i t s _ _ ⟨.int (g i), H, I.tok _, ⟨_, rfl⟩, q⟩
theorem un_neg : UnR X (unaryOp .USub) (rU fun i => .int (-i)) := unI fun _ _ _ _ _ q => neg_int q
end
def scal : V -> V -> Bool
 | .non, .non => true | .non, .int _ => true | .int _, .non => true | .non, .bl _ => true | .bl _, .non => true | .non, .str _ => true | .str _, .non => true
 | .int _, .int _ => true | .bl _, .bl _ => true | .str _, .str _ => true | .byt _, .byt _ => true
 | .int _, .str _ => true | .str _, .int _ => true | .bl _, .str _ => true | .str _, .bl _ => true
 | _, _ => false
def rEq : R2 := fun x y H Q => scal x y = true /\ Q (.bl (decide (x = y))) H
def rNe : R2 := fun x y H Q => scal x y = true /\ Q (.bl (!decide (x = y))) H
theorem dec_int {i j : Int} : decide (V.int i = V.int j) = (i == j) := by
 rw [Bool.eq_iff_iff]
 simp
theorem dec_bl {i j : Bool} : decide (V.bl i = V.bl j) = (i == j) := by
 rw [Bool.eq_iff_iff]
 simp
theorem dec_str {i j : Str} : decide (V.str i = V.str j) = (i == j) := by
 rw [Bool.eq_iff_iff]
 simp
theorem dec_byt {i j : Array UInt8} : decide (V.byt i = V.byt j) = (i.toList == j.toList) := by
 rw [Bool.eq_iff_iff]
 cases i
 cases j
 simp
section
variable {X : Cx} {a b c : Expr} {ta tb tc : TE} {pos : Pos}
theorem zKq {pins : List (Addr × Obj)} {σ : St} {H : Hp} {s : Shared} {Q : VK} {k k' : Bool} (I : Inv X pins σ H s) (q : Q (.bl k) H) (e : k = k') : EP X pins σ Q (.bool k') s := by
 subst e
 exact ⟨.bl k, H, I, rfl, q⟩
theorem xQx : OpR X (compareOp .Eq) rEq := by
 intro pins s σ H x y v u Q I rx ry h
 obtain ⟨hs, q⟩ := h
 cases x with
 | non =>
   cases rx
   cases y with
   | non => cases ry; exact PySem.EqNone.eq_none_none (zKq I q (by simp))
   | bl j => cases ry; exact PySem.EqNone.eq_none_bool (zKq I q (by simp))
   | int j => obtain ⟨t', rfl⟩ := ry; exact PySem.EqNone.eq_none_int (zKq I q (by simp))
   | str j => obtain ⟨t', rfl⟩ := ry; exact PySem.EqNone.eq_none_str (zKq I q (by simp))
   | _ => exact absurd (show false = true from hs) Bool.false_ne_true
 | bl i =>
   cases rx
   cases y with
   | non => cases ry; exact PySem.EqNone.eq_bool_none (zKq I q (by simp))
   | bl j => cases ry; exact eq_bool (zKq I q dec_bl)
   | str j => obtain ⟨t', rfl⟩ := ry; exact PySem.EqMixed.eq_bool_str (zKq I q (by simp))
   | _ => exact absurd (show false = true from hs) Bool.false_ne_true
 | int i =>
   obtain ⟨t, rfl⟩ := rx
   cases y with
   | non => cases ry; exact PySem.EqNone.eq_int_none (zKq I q (by simp))
   | int j => obtain ⟨t', rfl⟩ := ry; exact eq_int (zKq I q dec_int)
   | str j => obtain ⟨t', rfl⟩ := ry; exact PySem.EqMixed.eq_int_str (zKq I q (by simp))
   | _ => exact absurd (show false = true from hs) Bool.false_ne_true
 | str i =>
   obtain ⟨t, rfl⟩ := rx
   cases y with
   | non => cases ry; exact PySem.EqNone.eq_str_none (zKq I q (by simp))
   | bl j => cases ry; exact PySem.EqMixed.eq_str_bool (zKq I q (by simp))
   | int j => obtain ⟨t', rfl⟩ := ry; exact PySem.EqMixed.eq_str_int (zKq I q (by simp))
   | str j => obtain ⟨t', rfl⟩ := ry; exact eq_str (zKq I q dec_str)
   | _ => exact absurd (show false = true from hs) Bool.false_ne_true
 | byt i =>
   obtain ⟨t, rfl⟩ := rx
   cases y with
   | byt j => obtain ⟨t', rfl⟩ := ry; exact PySem.W.eq_bytes (zKq I q dec_byt)
   | _ => exact absurd (show false = true from hs) Bool.false_ne_true
 | _ => cases y <;> exact absurd (show false = true from hs) Bool.false_ne_true
theorem op_ne : OpR X (compareOp .NotEq) rNe := by
 intro pins s σ H x y v u Q I rx ry h
 obtain ⟨hs, q⟩ := h
 cases x with
 | non =>
   cases rx
   cases y with
   | non => cases ry; exact PySem.EqNone.ne_none_none (zKq I q (by simp))
   | bl j => cases ry; exact PySem.EqNone.ne_none_bool (zKq I q (by simp))
   | int j => obtain ⟨t', rfl⟩ := ry; exact PySem.EqNone.ne_none_int (zKq I q (by simp))
   | str j => obtain ⟨t', rfl⟩ := ry; exact PySem.EqNone.ne_none_str (zKq I q (by simp))
   | _ => exact absurd (show false = true from hs) Bool.false_ne_true
 | bl i =>
   cases rx
   cases y with
   | non => cases ry; exact PySem.EqNone.ne_bool_none (zKq I q (by simp))
   | bl j => cases ry; exact ne_bool (zKq I q (congrArg not dec_bl))
   | str j => obtain ⟨t', rfl⟩ := ry; exact PySem.EqMixed.ne_bool_str (zKq I q (by simp))
   | _ => exact absurd (show false = true from hs) Bool.false_ne_true
 | int i =>
   obtain ⟨t, rfl⟩ := rx
   cases y with
   | non => cases ry; exact PySem.EqNone.ne_int_none (zKq I q (by simp))
   | int j => obtain ⟨t', rfl⟩ := ry; exact ne_int (zKq I q (congrArg not dec_int))
   | str j => obtain ⟨t', rfl⟩ := ry; exact PySem.EqMixed.ne_int_str (zKq I q (by simp))
   | _ => exact absurd (show false = true from hs) Bool.false_ne_true
 | str i =>
   obtain ⟨t, rfl⟩ := rx
   cases y with
   | non => cases ry; exact PySem.EqNone.ne_str_none (zKq I q (by simp))
   | bl j => cases ry; exact PySem.EqMixed.ne_str_bool (zKq I q (by simp))
   | int j => obtain ⟨t', rfl⟩ := ry; exact PySem.EqMixed.ne_str_int (zKq I q (by simp))
   | str j => obtain ⟨t', rfl⟩ := ry; exact ne_str (zKq I q (congrArg not dec_str))
   | _ => exact absurd (show false = true from hs) Bool.false_ne_true
 | byt i =>
   obtain ⟨t, rfl⟩ := rx
   cases y with
   | byt j => obtain ⟨t', rfl⟩ := ry; exact PySem.W.ne_bytes (zKq I q (congrArg not dec_byt))
   | _ => exact absurd (show false = true from hs) Bool.false_ne_true
 | _ => cases y <;> exact absurd (show false = true from hs) Bool.false_ne_true
theorem op_lt : OpR X (compareOp .Lt) (rI0 fun i j => .bl (decide (i < j))) := opB0 fun _ _ _ _ _ _ _ q => lt_int q
theorem xQq : OpR X (compareOp .LtE) (rI0 fun i j => .bl (decide (i <= j))) := opB0 fun _ _ _ _ _ _ _ q => le_int q
theorem op_gt : OpR X (compareOp .Gt) (rI0 fun i j => .bl (decide (j < i))) := opB0 fun _ _ _ _ _ _ _ q => gt_int q
theorem op_in_str : OpR X (compareOp .In) (fun x y H Q => ∃ i j, x = .str i /\ y = .str j /\ Q (.bl (!(Builtin.Str.occurrences j i 0 j.length 1).isEmpty)) H) := by
 intro pins s σ H x y v u Q I rx ry h
 obtain ⟨i, j, rfl, rfl, q⟩ := h
 obtain ⟨t, rfl⟩ := rx
 obtain ⟨t', rfl⟩ := ry
 exact in_str (zKq I q rfl)
theorem nomark (b : Expr) {op : CmpOp} (h : op ≠ .In := by decide) (h2 : op ≠ .NotIn := by decide) : behindInMarks op b = false := by
 have e1 : (op == CmpOp.In) = false := by cases op <;> first | rfl | exact absurd rfl h
 have e2 : (op == CmpOp.NotIn) = false := by cases op <;> first | rfl | exact absurd rfl h2
 cases b <;> simp [behindInMarks, e1, e2]
theorem pe_cmpR {op : CmpOp} {r : R2} (ho : OpR X (compareOp op) r) (ha : PE X a ta) (hb : PE X b tb) (hm : behindInMarks op b = false) : PE X (.Compare a [op] [b] pos) (tOp r ta tb) := by
 intro pins s σ H Q I h
 exact wpAny_Compare1 (binT ha hb I h fun v u s2 x y H2 I2 rx ry q => ho pins s2 σ H2 x y v u Q I2 rx ry q) hm
def tTest (t : TE) : TT := fun σ H Q => t σ H fun x H' => ∃ k, x = .bl k /\ Q k H'
theorem zKz {op : CmpOp} {r : R2} (ho : OpR X (compareOp op) r) (ha : PE X a ta) (hb : PE X b tb) (hm : behindInMarks op b = false) : PT X (.Compare a [op] [b] pos) (tTest (tOp r ta tb)) := by
 intro pins s σ H Q I h
 refine wpAny_isTrue_Compare1 (thn (ha pins s σ H _ I h) fun v s1 ⟨x, H1, I1, r1, q1⟩ => thn (hb pins s1 σ H1 _ I1 q1) fun u s2 ⟨y, H2, I2, r2, q2⟩ =>
   thn (ho pins s2 σ H2 x y v u _ I2 r1 r2 q2) fun c s3 ⟨z, H3, I3, r3, k, e, q3⟩ => ?_) hm
 subst e
 cases r3
 exact wpAny_truthy_bool ⟨H3, I3, q3⟩
def tChain (r r' : R2) (ta tb tc : TE) : TE := fun σ H Q => ta σ H fun x H1 => tb σ H1 fun y H2 => r x y H2 fun z H3 => ∃ k, z = .bl k /\
 (if k = true then tc σ H3 fun w' H4 => r' y w' H4 Q else Q (.bl false) H3)
theorem yQv {op op' : CmpOp} {r r' : R2} (ho : OpR X (compareOp op) r) (ho' : OpR X (compareOp op') r') (ha : PE X a ta) (hb : PE X b tb) (hc : PE X c tc)
   (hm : lastMarks [op, op'] [b, c] = false := by with_unfolding_all rfl) : PT X (.Compare a [op, op'] [b, c] pos) (tTest (tChain r r' ta tb tc)) := by
 intro pins s σ H Q I h
 refine isTrue_chain (thn (ha pins s σ H _ I h) fun v s1 ⟨x, H1, I1, r1, q1⟩ => test_link (thn (hb pins s1 σ H1 _ I1 q1) fun u s2 ⟨y, H2, I2, r2, q2⟩ =>
   thn (ho pins s2 σ H2 x y v u _ I2 r1 r2 q2) fun d s3 ⟨z, H3, I3, r3, k, e, q3⟩ => ?_)) hm
 subst e
 cases r3
 refine wpAny_truthy_bool ?_
 cases k with
 | false =>
   obtain ⟨k', e', q'⟩ := q3
   cases e'
   exact ite_ff ⟨H3, I3, q'⟩
 | true =>
   refine ite_tt (test_last (thn (hc pins s3 σ H3 _ I3 q3) fun w' s4 ⟨z', H4, I4, r4, q4⟩ => thn (ho' pins s4 σ H4 y z' u w' _ I4 r2 r4 q4) fun d' s5 ⟨z2, H5, I5, r5, k2, e2, q5⟩ => ?_))
   subst e2
   cases r5
   exact wpAny_truthy_bool ⟨H5, I5, q5⟩
def TruV (K : PySem.W.Frag) (x : V) (H : Hp) (k : Bool) : Prop :=
 match x with
 | .non => k = false
 | .bl b => k = b
 | .int i => k = (i != 0)
 | .str y => y.length <= sizeLine /\ k = ((y.length : Int) != 0)
 | .byt y => y.size <= sizeLine /\ k = ((y.size : Int) != 0)
 | .ref p => (∃ xs, SqL K H p xs /\ k = !xs.isEmpty) \/ (∃ xs, SqT K H p xs /\ k = !xs.isEmpty) \/ ∃ kvs, H p = some (.dK kvs) /\ k = !kvs.isEmpty
 | _ => False
theorem isEmpty_kv {κ : Type} {kvs : List (κ × V)} {vs : List (κ × Value)} (r : KV kvs vs) : (!vs.isEmpty) = !kvs.isEmpty := by
 cases r <;> rfl
theorem wQw {xs : List V} {its : List Value} (r : Vals xs its) : (!its.toArray.isEmpty) = !xs.isEmpty := by
 cases r <;> simp
theorem line63 : (sizeLine : Nat) < 2 ^ 63 := by rw [sizeLine_eq]; decide
theorem tru_ok : TruR X (fun x H Q => ∃ k, TruV X.K x H k /\ Q k H) := by
 intro pins s σ H x v Q I rx h
 obtain ⟨k, e, q⟩ := h
 have hl := line63
 have hs : sizeLine = 16777216 := sizeLine_eq
 cases x with
 | non =>
   cases rx
   have e' : k = false := e
   subst e'
   exact truthy_none ⟨H, I, q⟩
 | bl b =>
   cases rx
   have e' : k = b := e
   subst e'
   exact wpAny_truthy_bool ⟨H, I, q⟩
 | int i =>
   obtain ⟨t, rfl⟩ := rx
   have e' : k = (i != 0) := e
   subst e'
   exact PySem.P.truthy_int ⟨H, I, q⟩
 | str y =>
   obtain ⟨t, rfl⟩ := rx
   obtain ⟨hy, e'⟩ : y.length <= sizeLine /\ k = ((y.length : Int) != 0) := e
   subst e'
   exact PySem.P.truthy_str (by omega) ⟨H, I.tok _, q⟩
 | byt y =>
   obtain ⟨t, rfl⟩ := rx
   obtain ⟨hy, e'⟩ : y.size <= sizeLine /\ k = ((y.size : Int) != 0) := e
   subst e'
   exact PySem.W.truthy_bytes (by omega) ⟨H, I.tok _, q⟩
 | ref p =>
   cases rx
   have e' : (∃ xs, SqL X.K H p xs /\ k = !xs.isEmpty) \/ (∃ xs, SqT X.K H p xs /\ k = !xs.isEmpty) \/ ∃ kvs, H p = some (.dK kvs) /\ k = !kvs.isEmpty := e
   rcases e' with ⟨xs, hx, e'⟩ | ⟨xs, hx, e'⟩ | ⟨kvs, hx, e'⟩
   . subst e'
     obtain ⟨its, r, pl, hz⟩ := I.list hx
     have hlen := r.length
     exact wpAny_truthy_list pl.isList (by simp only [List.size_toArray]; omega) ⟨H, I.tok _, by rw [wQw r]; exact q⟩
   . subst e'
     obtain ⟨its, r, pl, hz⟩ := I.tuple hx
     have hlen := r.length
     exact truthy_tuple pl (by simp only [List.size_toArray]; omega) ⟨H, I.tok _, by rw [wQw r]; exact q⟩
   . subst e'
     obtain ⟨hz, hS, vs, r, m⟩ : kvs.length <= sizeLine /\ (p == sysModules) = false /\ ∃ vs, KV kvs vs /\ s.heap.DictOf (mixKind X.prog X.w) p vs := I.hok p _ hx
     have hlen : kvs.length = vs.length := Paired.length r
     exact wpAny_truthy_dict hS m (by omega) ⟨H, I.tok _, by rw [isEmpty_kv r]; exact q⟩
 | _ => exact (show False from e).elim
theorem pt_truth (ha : PE X a ta) (he : ∀ whole, isTrue a X.env whole = (do let v <- whole; standAt a.pos; holding [v] (truthy v))) :
   PT X a (fun σ H Q => ta σ H fun x H' => ∃ k, TruV X.K x H' k /\ Q k H') := by
 intro pins s σ H Q I h
 exact isTrue_plain (thn (ha pins s σ H _ I h) fun v s1 ⟨x, H1, I1, r1, q1⟩ => tru_ok pins s1 σ H1 x v Q I1 r1 q1) (he _)
theorem vals1 {x : V} {us : List Value} (r : Vals [x] us) : ∃ u, us = [u] /\ RelV x u := by
 cases r with
 | cons r1 r2 => cases r2; exact ⟨_, rfl, r1⟩
theorem vals2 {x y : V} {us : List Value} (r : Vals [x, y] us) : ∃ u w', us = [u, w'] /\ RelV x u /\ RelV y w' := by
 cases r with
 | cons r1 r2 =>
   cases r2 with
   | cons r3 r4 => cases r4; exact ⟨_, _, rfl, r1, r3⟩
theorem call_max2 (hc : X.calm = true) : CallR X (.builtin "max") (fun xs H Q => ∃ i j, xs = [.int i, .int j] /\ Q (.int (if j > i then j else i)) H) := by
 intro pins s σ H xs us Q I r h
 obtain ⟨i, j, rfl, q⟩ := h
 obtain ⟨u, w', rfl, ⟨t, rfl⟩, ⟨t', rfl⟩⟩ := vals2 r
 refine max_two_ints (I.ok.hd hc) fun h' tk k => ⟨_, H, I.kept k, ?_, q⟩
 by_cases hj : j > i
 . rw [if_pos hj, if_pos hj]; exact ⟨_, rfl⟩
 . rw [if_neg hj, if_neg hj]; exact ⟨_, rfl⟩
theorem call_min2 (hc : X.calm = true) : CallR X (.builtin "min") (fun xs H Q => ∃ i j, xs = [.int i, .int j] /\ Q (.int (if j < i then j else i)) H) := by
 intro pins s σ H xs us Q I r h
 obtain ⟨i, j, rfl, q⟩ := h
 obtain ⟨u, w', rfl, ⟨t, rfl⟩, ⟨t', rfl⟩⟩ := vals2 r
 refine min_two_ints (I.ok.hd hc) fun h' tk k => ⟨_, H, I.kept k, ?_, q⟩
 by_cases hj : j < i
 . rw [if_pos hj, if_pos hj]; exact ⟨_, rfl⟩
 . rw [if_neg hj, if_neg hj]; exact ⟨_, rfl⟩
theorem yJv : CallR X (.type "str") (fun xs H Q => ∃ i, xs = [.int i] /\ i.natAbs.log2 < 1920 /\ Q (.str (toString i)) H) := by
 intro pins s σ H xs us Q I r h
 obtain ⟨i, rfl, hz, q⟩ := h
 obtain ⟨u, rfl, t, rfl⟩ := vals1 r
 exact PySem.P.str_of_int hz ⟨.str _, H, I.tok _, ⟨_, rfl⟩, q⟩
end
structure ObjM (h : Heap) (x dx C : Addr) (mA : Str -> Option Value) : Prop where
 obj : h.get? x = some (PySem.W.instObj C dx)
 ns : h.Ns1 dx mA
 ne : dx ≠ x
theorem lookIn_ns {h : Heap} {dx : Addr} {mA : Str -> Option Value} (n : h.Ns1 dx mA) : ∃ od, h.get? dx = some od /\ ∀ name, PySem.W.lookIn name od = some (mA name) := by
 obtain ⟨o, es, ep, ho, hd, hk, _, hm⟩ := n
 refine ⟨o, ho, fun name => ?_⟩
 have e := hm name
 unfold nsFind findBy at e
 rw [<- Array.find?_toList] at e
 unfold PySem.W.lookIn
 rw [hd]
 dsimp only
 split
 . rename_i y q
   rw [q] at e
   exact congrArg some e
 . rename_i q
   rw [q] at e
   have a : es.toList.any (·.refKey) = false := by
     rw [List.any_eq_false]
     intro y hy
     obtain ⟨z, t, hkey⟩ := hk y (Array.mem_toList_iff.mp hy)
     simp [DictEntry.refKey, hkey]
   have a' : ¬ es.toList.any (·.refKey) = true := by rw [a]; exact Bool.false_ne_true
   rw [if_neg a']
   exact congrArg some e
theorem ObjM.look {h : Heap} {x dx C : Addr} {mA : Str -> Option Value} (I : ObjM h x dx C mA) : ∃ od, PySem.W.InstAt h x (PySem.W.instObj C dx) C (some od) /\ ∀ name, PySem.W.lookIn name od = some (mA name) :=
 let ⟨od, ho, hl⟩ := lookIn_ns I.ns
 ⟨od, ⟨I.obj, rfl, rfl, ho⟩, hl⟩
section
variable {prog : Program} {w : World} {A : Around} {E : Value -> Shared -> Prop} {s : Shared} {K : PySem.W.Frag} {x dx C f : Addr} {mA : Str -> Option Value} {name : Str} {v : Value}
theorem get_map {expr : Bool} {Q : Value -> Shared -> Prop} (X : K.In s.heap) (I : ObjM s.heap x dx C mA) (hg : PySem.W.plainGet K C name = true) (hh : PySem.W.hasDictIn K C = true)
   (ha : PySem.W.findIn K (.ref C) name = some none) (hv : mA name = some v) (hv' : PySem.W.handedIn v = true) (h : Q v { s with toks := s.toks + 1 }) :
   wpAny (model prog w) A (getAttr (.ref x) name expr) Q E s := by
 obtain ⟨od, J, hl⟩ := I.look
 exact PySem.W.get_value X J (PySem.W.plainGet_of hg).1 (PySem.W.findObj_own hh ha rfl (by rw [hl, hv])) hv' h
theorem get_meth {pl : Sem Bool} {Q : Value × List Value -> Shared -> Prop} (X : K.In s.heap) (I : ObjM s.heap x dx C mA) (hg : PySem.W.plainGet K C name = true)
   (hf : PySem.W.findIn K (.ref C) name = some (some (.ref f))) (ht : PySem.W.isFn K (.ref f) = true) (hv : mA name = none) (h : Q (.ref f, [.ref x]) s) :
   wpAny (model prog w) A (getMethod (.ref x) name pl) Q E s := by
 obtain ⟨od, J, hl⟩ := I.look
 exact PySem.W.method_fn X J (PySem.W.plainGet_of hg).1 (PySem.W.plainGet_of hg).2 hf (beq_iff_eq.mp ht) (by show (PySem.W.lookIn name od).map (·.isSome) = some false; rw [hl, hv]; rfl) h
theorem set_map {ns : List Str} {Q : Unit -> Shared -> Prop} (X : K.In s.heap) (I : ObjM s.heap x dx C mA)
   (hs : PySem.W.findIn K (.ref C) "__setattr__" = some (some (.builtin "object.__setattr__"))) (hp : PySem.W.plainOver K C = true) (ht : PySem.W.takerIn K C name = some none) (hh : PySem.W.hasDictIn K C = true)
   (hw : PySem.Within mA ns) (hsz : ns.length <= sizeLine)
   (h : ∀ h', ObjM h' x dx C (fun y => if y = name then some v else mA y) -> Heap.SameBut dx s.heap h' -> Q () { s with heap := h', toks := s.toks + 2 }) :
   wpAny (model prog w) A (setAttr (.ref x) name v) Q E s := by
 obtain ⟨od, J, hl⟩ := I.look
 refine PySem.W.set_plain X J hs (PySem.W.osa_open (s := { s with toks := s.toks + 1 }) (r := none) X J hp ht fun b => ?_)
 obtain ⟨cd, hc, hd'⟩ := PySem.W.any_some hh
 have hx : s.heap.get? x = some ⟨.ref C, some dx, .plain, #[]⟩ := I.obj
 refine wpAny_bind (wpAny_pure (wpAny_bind (wpAny_bind (wpAny_loadPart hx (wpAny_bind (PySem.W.Looks.here (s := { s with toks := s.toks + 1 }) (PySem.W.looks_clsIn X hc) ?_))))))
 rw [hd']
 refine wpAny_pure (a := some dx) (wpAny_bind (wpAny_pure (wpAny_bind ?_)))
 refine wpAny_nsSet1 (s := { s with toks := s.toks + 1 }) I.ns fun h' hn2 hs2 => ?_
 obtain ⟨oD, esD, epD, hoD, hdD, hcD⟩ := hn2.count (PySem.Within.cons name v hw)
 refine wpAny_bind (wpAny_lookBehind hoD (by rw [hdD]; exact pastItsLine_dict (Nat.le_trans hcD (by rw [List.length_cons]; omega))) ?_)
 exact wpAny_pure (h _ ⟨(hs2.2 _ (Ne.symm I.ne)).trans I.obj, hn2, I.ne⟩ hs2)
theorem make_map {R : Result -> Shared -> Prop} {vs : List Value} {kw : List (Str × Value)} (X : K.In s.heap) (hm : PySem.W.makesIn K C = true)
   (hi : PySem.W.findIn K (.ref C) "__init__" = some (some (.ref f))) (hf : PySem.W.typeIn K (.ref f) = some (.type "function"))
   (h : codeAny (model prog w) (A.under (.builtin "type.__call__" ⟨.ref C :: vs, kw⟩)) (.call (.ref f) ⟨.ref (s.heap.objs.size + 1) :: vs, kw⟩) (PySem.W.InitBack (s.heap.objs.size + 1) R)
     { s with heap := (s.heap.push PySem.W.emptyDict).push (PySem.W.instObj C s.heap.objs.size) }) :
   codeAny (model prog w) A (.call (.ref C) ⟨vs, kw⟩) R s := by
 obtain ⟨hh, g, d, t, os⟩ := s
 exact PySem.W.make_core (PySem.W.makes_of X hm) (PySem.W.looks_findIn X hi) (fun self => PySem.W.bind_fn X self hf) (.inl rfl) h
end
def putF (f : Str) (v : V) : List (Str × V) -> List (Str × V)
 | [] => [(f, v)]
 | (g, x) :: r => if g = f then (g, v) :: r else (g, x) :: putF f v r
theorem xZv (f g : Str) (v : V) : ∀ fs : List (Str × V), (putF f v fs).lookup g = if g = f then some v else fs.lookup g
 | [] => by
   show List.lookup g [(f, v)] = _
   by_cases h : g = f
   . have hb : (g == f) = true := beq_iff_eq.mpr h
     simp only [List.lookup, hb, if_pos h]
   . have hb : (g == f) = false := beq_eq_false_iff_ne.mpr h
     simp only [List.lookup, hb, if_neg h]
 | (k, x) :: r => by
   have ih := xZv f g v r
   rw [show putF f v ((k, x) :: r) = (if k = f then (k, v) :: r else (k, x) :: putF f v r) from rfl]
   by_cases hk : k = f
   . rw [if_pos hk]
     by_cases h : g = k
     . have hb : (g == k) = true := beq_iff_eq.mpr h
       simp only [List.lookup, hb, if_pos (h.trans hk)]
     . have hb : (g == k) = false := beq_eq_false_iff_ne.mpr h
       simp only [List.lookup, hb, if_neg (fun e : g = f => h (e.trans hk.symm))]
   . rw [if_neg hk]
     by_cases h : g = k
     . have hb : (g == k) = true := beq_iff_eq.mpr h
       simp only [List.lookup, hb, if_neg (fun e : g = f => hk (h.symm.trans e))]
     . have hb : (g == k) = false := beq_eq_false_iff_ne.mpr h
       simp only [List.lookup, hb]
       exact ih
theorem xJw (f : Str) (v : V) : ∀ fs : List (Str × V), f ∈ (putF f v fs).map (·.1) /\ ∀ g, g ∈ fs.map (·.1) -> g ∈ (putF f v fs).map (·.1)
 | [] => ⟨by simp [putF], fun g h => by simp at h⟩
 | (k, x) :: r => by
   obtain ⟨i1, i2⟩ := xJw f v r
   rw [show putF f v ((k, x) :: r) = (if k = f then (k, v) :: r else (k, x) :: putF f v r) from rfl]
   by_cases hk : k = f
   . rw [if_pos hk]
     subst hk
     exact ⟨by simp, fun g h => by simpa using h⟩
   . rw [if_neg hk]
     refine ⟨?_, fun g h => ?_⟩
     . rw [List.map_cons]
       exact List.mem_cons_of_mem _ i1
     . rw [List.map_cons] at h ⊢
       rcases List.mem_cons.mp h with e | e
       . exact List.mem_cons.mpr (.inl e)
       . exact List.mem_cons_of_mem _ (i2 g e)
theorem xJq (f : Str) (v : V) : ∀ fs : List (Str × V), (putF f v fs).length <= fs.length + 1
 | [] => by simp [putF]
 | (k, x) :: r => by
   have ih := xJq f v r
   rw [show putF f v ((k, x) :: r) = (if k = f then (k, v) :: r else (k, x) :: putF f v r) from rfl]
   by_cases hk : k = f
   . rw [if_pos hk, List.length_cons, List.length_cons]; omega
   . rw [if_neg hk, List.length_cons, List.length_cons]; omega
theorem RelO.some_of {v : V} {o : Option Value} (r : RelO (some v) o) : ∃ u, o = some u /\ RelV v u := by
 cases o with
 | none => exact (show False from r).elim
 | some u => exact ⟨u, rfl, r⟩
theorem RelO.none_of {o : Option Value} (r : RelO none o) : o = none := by
 cases o with
 | none => rfl
 | some u => exact (show False from r).elim
theorem handed_of {v : V} {u : Value} (r : RelV v u) : PySem.W.handedIn u = true := by
 cases v with
 | non => cases (show u = Value.none from r); rfl
 | bl b => cases (show u = Value.bool b from r); rfl
 | int i => obtain ⟨t, e⟩ := (show ∃ t, u = Value.int i t from r); cases e; rfl
 | str x => obtain ⟨t, e⟩ := (show ∃ t, u = Value.str x t from r); cases e; rfl
 | byt b => obtain ⟨t, e⟩ := (show ∃ t, u = Value.bytes b t from r); cases e; rfl
 | flt b => obtain ⟨t, e⟩ := (show ∃ t, u = Value.float b t from r); cases e; rfl
 | ref a => cases (show u = Value.ref a from r); rfl
 | ty n => cases (show u = Value.type n from r); rfl
section
variable {P : Program} {w : World} {H H' : Hp} {h h' : Heap} {a C dx : Addr} {fs fs' : List (Str × V)}
theorem ins_get (hok : HOk P w H h) (e : H a = some (.ins C dx fs)) : ∃ mA, ObjM h a dx C mA /\ (∀ f, RelO (fs.lookup f) (mA f)) /\ PySem.Within mA (fs.map (·.1)) /\ fs.length <= 1000 /\ H dx = some (.own a) := by
 obtain ⟨d, z, ne, ob, mA, n, r, q⟩ := (show ObjOk P w H h a (.ins C dx fs) from hok a _ e)
 exact ⟨mA, ⟨ob, n, ne⟩, r, q, z, d⟩
end
structure Cls (K : PySem.W.Frag) (C : Addr) : Prop where
 pg : PySem.W.plainGet K C Str.empty = true
 hd : PySem.W.hasDictIn K C = true
 po : PySem.W.plainOver K C = true
 sa : PySem.W.findIn K (.ref C) "__setattr__" = some (some (.builtin "object.__setattr__"))
theorem Cls.get {K : PySem.W.Frag} {C : Addr} (c : Cls K C) (f : Str) : PySem.W.plainGet K C f = true := c.pg
def NoAttr (K : PySem.W.Frag) (C : Addr) (f : Str) : Prop := PySem.W.findIn K (.ref C) f = some none
theorem NoAttr.taker {K : PySem.W.Frag} {C : Addr} {f : Str} (n : NoAttr K C f) : PySem.W.takerIn K C f = some none := by
 unfold PySem.W.takerIn
 rw [show PySem.W.findIn K (.ref C) f = some none from n]
 rfl
structure Con (K : PySem.W.Frag) (C : Addr) (f : Str) (v : V) (u : Value) : Prop where
 at_ : PySem.W.findIn K (.ref C) f = some (some u)
 rel : RelV v u
 get : PySem.W.specialIn K u "__get__" = some none
 cp : PySem.W.copiedNames.contains f = false
structure Meth (K : PySem.W.Frag) (C : Addr) (m : Str) (f : Addr) : Prop where
 at_ : PySem.W.findIn K (.ref C) m = some (some (.ref f))
 fn : PySem.W.isFn K (.ref f) = true
 kp : PySem.W.keepIn K (.ref f) = true
section
variable {X : Cx} {pins : List (Addr × Obj)} {σ : St} {H : Hp} {s : Shared} {a C dx : Addr} {fs : List (Str × V)} {f : Str} {v : V} {A : Around} {E : Value -> Shared -> Prop}
theorem getattr_ok {b : Bool} {Q : Value -> Shared -> Prop} (I : Inv X pins σ H s) (e : H a = some (.ins C dx fs)) (c : Cls X.K C) (n : NoAttr X.K C f) (l : fs.lookup f = some v)
   (h : ∀ u s', Inv X pins σ H s' -> RelV v u -> Q u s') : wpAny (model X.prog X.w) A (getAttr (.ref a) f b) Q E s := by
 obtain ⟨mA, O, r, _, _, _⟩ := ins_get I.hok e
 obtain ⟨u, hu, ru⟩ := RelO.some_of (v := v) (o := mA f) (by rw [<- l]; exact r f)
 exact get_map I.kIn O (c.get f) c.hd n hu (handed_of ru) (h u _ (I.tok _) ru)
theorem yKw {m : Str} {g : Addr} {pl : Sem Bool} {Q : Value × List Value -> Shared -> Prop} (I : Inv X pins σ H s) (e : H a = some (.ins C dx fs)) (c : Cls X.K C) (k : Meth X.K C m g) (l : fs.lookup m = none)
   (h : Q (.ref g, [.ref a]) s) : wpAny (model X.prog X.w) A (getMethod (.ref a) m pl) Q E s := by
 obtain ⟨mA, O, r, _, _, _⟩ := ins_get I.hok e
 have hn : mA m = none := RelO.none_of (by rw [<- l]; exact r m)
 exact get_meth I.kIn O (c.get m) k.at_ k.fn hn h
theorem setattr_ok {y : V} {u : Value} {Q : Unit -> Shared -> Prop} (I : Inv X pins σ H s) (e : H a = some (.ins C dx fs)) (c : Cls X.K C) (n : NoAttr X.K C f) (hl : fs.length < 1000) (ry : RelV y u)
   (h : ∀ s', Inv X pins σ (upd H a (.ins C dx (putF f y fs))) s' -> Q () s') : wpAny (model X.prog X.w) A (setAttr (.ref a) f u) Q E s := by
 obtain ⟨mA, O, r, wi, _, ho⟩ := ins_get I.hok e
 have hz : (fs.map (·.1)).length <= sizeLine := by rw [List.length_map, sizeLine_eq]; omega
 refine set_map I.kIn O c.sa c.po n.taker c.hd wi hz fun h' O' sb => h _ ?_
 have hd : ∃ o, h'.get? dx = some o := let ⟨o, _, _, e', _⟩ := O'.ns; ⟨o, e'⟩
 refine I.write (x := a) (e := dx) (by rw [e]; exact True.intro) (.inr ho) (fun b q hb z => (sb.2 b hb).trans z) hd ?_
 refine ⟨by rw [zWx O.ne]; exact ho, ?_, O.ne, O'.obj, _, O'.ns, fun g => ?_, fun g hg => ?_⟩
 . have := xJq f y fs; omega
 . show RelO ((putF f y fs).lookup g) (if g = f then some u else mA g)
   rw [xZv]
   by_cases q : g = f
   . rw [if_pos q, if_pos q]; exact ry
   . rw [if_neg q, if_neg q]; exact r g
 . by_cases q : g = f
   . rw [q]; exact (xJw f y fs).1
   . refine (xJw f y fs).2 g (wi g fun z => hg ?_)
     show (if g = f then some u else mA g) = none
     rw [if_neg q]; exact z
theorem Inv.made (I : Inv X pins σ H s) : Inv X pins σ (upd (upd H s.heap.objs.size (.own (s.heap.objs.size + 1))) (s.heap.objs.size + 1) (.ins C s.heap.objs.size []))
   { s with heap := (s.heap.push PySem.W.emptyDict).push (PySem.W.instObj C s.heap.objs.size) } := by
 have e1 : (s.heap.push PySem.W.emptyDict).get? s.heap.objs.size = some PySem.W.emptyDict := Heap.get?_push_size s.heap rfl
 have e2 : ((s.heap.push PySem.W.emptyDict).push (PySem.W.instObj C s.heap.objs.size)).get? (s.heap.objs.size + 1) = some (PySem.W.instObj C s.heap.objs.size) := by
   have := Heap.get?_push_size (s.heap.push PySem.W.emptyDict) (o := PySem.W.instObj C s.heap.objs.size) rfl
   rwa [Heap.size_push] at this
 have e3 : (s.heap.push PySem.W.emptyDict).Ns s.heap.objs.size (fun _ => none) := ⟨PySem.W.emptyDict, #[], _, e1, rfl, (fun e he => absurd he (by simp)), fun _ => rfl⟩
 have I1 := I.laid (a := s.heap.objs.size) (o := .own (s.heap.objs.size + 1)) (h' := s.heap.push PySem.W.emptyDict) (t' := s.toks) (fun b u q => Heap.get?_push_of_some _ q) (Nat.le_refl _) ⟨_, e1⟩
 refine I1.laid (a := s.heap.objs.size + 1) (o := .ins C s.heap.objs.size []) (t' := s.toks) (fun b u q => Heap.get?_push_of_some _ q) (Nat.le_of_eq (Heap.size_push _ _)) ?_
 have ne : s.heap.objs.size ≠ s.heap.objs.size + 1 := Nat.ne_of_lt (Nat.lt_succ_self _)
 refine ⟨by rw [zWx ne, zQz], Nat.zero_le _, ne, e2, fun _ => none, (Heap.Ns1.of_empty e3).at fun o q => Heap.get?_push_of_some _ q, fun _ => True.intro, fun y hy => absurd rfl hy⟩
theorem attr_of {prog : Program} {w : World} {env : Env} {e : Expr} {f : Str} {pos : Pos} {s : Shared} {Q : Value -> Shared -> Prop} (hb : attributeBase e f env (eval e env) = eval e env)
   (h : wpAny (model prog w) A (eval e env) (fun o s₁ => wpAny (model prog w) A (getAttr o f true) Q E s₁) E s) : wpAny (model prog w) A (eval (.Attribute e f pos) env) Q E s :=
 Attribute_any_ h (by rw [arm_eval_Attribute, hb])
end
def tFld (K : PySem.W.Frag) (ta : TE) (f : Str) : TE := fun σ H Q => ta σ H fun x H1 => ∃ a C dx fs v, x = .ref a /\ H1 a = some (.ins C dx fs) /\ Cls K C /\ NoAttr K C f /\ fs.lookup f = some v /\ Q v H1
def sFld (K : PySem.W.Frag) (ta tv : TE) (f : Str) : TS := fun D σ H => tv σ H fun y H1 => ta σ H1 fun x H2 => ∃ a C dx fs, x = .ref a /\ H2 a = some (.ins C dx fs) /\ Cls K C /\ NoAttr K C f /\ fs.length < 1000 /\
 D.nx σ (upd H2 a (.ins C dx (putF f y fs)))
section
variable {X : Cx} {o e value : Expr} {f : Str} {pos pos' tpos : Pos} {ta tv : TE}
theorem zZq (he : PE X e ta) (hb : attributeBase e f X.env (eval e X.env) = eval e X.env) : PE X (.Attribute e f pos) (tFld X.K ta f) := by
 intro pins s σ H Q I h
 refine attr_of hb (thn (he pins s σ H _ I h) fun u s1 ⟨x, H1, I1, rx, a, C, dx, fs, v, ex, ea, c, n, l, q⟩ => ?_)
 subst ex
 obtain rfl : u = Value.ref a := rx
 exact getattr_ok I1 ea c n l fun u' s2 I2 ru => ⟨v, H1, I2, ru, q⟩
theorem zKw (ha : PE X o ta) (hv : PE X value tv) (hs : swapsWith value (some (.Attribute o f pos')) pos.line X.env = pure false) : PS X (.Assign [.Attribute o f pos'] value pos) (sFld X.K ta tv f) := by
 intro pins s σ H D I h
 refine plainObj_wpAny_Assign_Attribute (thn (hv pins s σ H _ I h) fun u s1 ⟨y, H1, I1, ry, q⟩ => thn (ha pins s1 σ H1 _ I1 q) fun ov s2 ⟨x, H2, I2, rx, a, C, dx, fs, ex, ea, c, n, l, q2⟩ => ?_) hs
 subst ex
 obtain rfl : ov = Value.ref a := rx
 exact setattr_ok I2 ea c n l ry fun s3 I3 => ⟨σ, _, I3, q2⟩
theorem methcall_of {pl : Sem Bool} {m : Str} {apos : Pos} {args : List Expr} {pins : List (Addr × Obj)} {s : Shared} {σ : St} {H : Hp} {Q : Value -> Shared -> Prop} {te : TE} (he : PE X e te) (I : Inv X pins σ H s)
   (h : te σ H fun x H1 => ∃ a C dx fs g, x = .ref a /\ H1 a = some (.ins C dx fs) /\ Cls X.K C /\ Meth X.K C m g /\ fs.lookup m = none /\
     ∀ s1, Inv X pins σ H1 s1 -> wpAny (model X.prog X.w) X.A (callWith pos (.ref g) [.ref a] (backTo pos (starEach args X.env)) (backToKw pos (keywordEach [] X.env))) Q X.xe s1)
   (ht : eval (.Call (.Attribute e m apos) args [] pos) X.env = (do
     let ov <- eval e X.env
     standAt apos.atName
     let (f, first) <- holding [ov] (getMethod ov m pl)
     callWith pos f first (backTo pos (starEach args X.env)) (backToKw pos (keywordEach [] X.env)))) :
   wpAny (model X.prog X.w) X.A (eval (.Call (.Attribute e m apos) args [] pos) X.env) Q X.xe s := by
 refine PySem.W.methodCall_KW (pl := pl) (thn (he pins s σ H _ I h) fun u s1 ⟨x, H1, I1, rx, a, C, dx, fs, g, ex, ea, c, k, l, q⟩ => ?_) ht
 subst ex
 obtain rfl : u = Value.ref a := rx
 exact yKw I1 ea c k l (q s1 I1)
end
section
variable {X : Cx} {pins : List (Addr × Obj)} {σ : St} {H : Hp} {s : Shared} {A : Around} {E : Value -> Shared -> Prop} {Q : Value -> Shared -> Prop} {c : Value} {b : Bool}
inductive TyOf (K : PySem.W.Frag) (H : Hp) : V -> Value -> Prop where
 | non : TyOf K H .non (.type "NoneType")
 | bl (x : Bool) : TyOf K H (.bl x) (.type "bool")
 | int (i : Int) : TyOf K H (.int i) (.type "int")
 | str (x : Str) : TyOf K H (.str x) (.type "str")
 | flt (x : UInt64) : TyOf K H (.flt x) (.type "float")
 | lst {a : Addr} {xs : List V} (e : H a = some (.lst xs)) : TyOf K H (.ref a) (.type "list")
 | frz {a : Addr} {o : Obj} {xs : List V} (e : H a = some (.frz o (.lst xs))) : TyOf K H (.ref a) (.type "list")
 | tup {a : Addr} {xs : List V} (e : H a = some (.tup xs)) : TyOf K H (.ref a) (.type "tuple")
 | dK {a : Addr} {kvs : List (Key × V)} (e : H a = some (.dK kvs)) : TyOf K H (.ref a) (.type "dict")
 | dT {a : Addr} {kvs : List (List Key × V)} (e : H a = some (.dT kvs)) : TyOf K H (.ref a) (.type "dict")
 | ins {a C dx : Addr} {fs : List (Str × V)} (e : H a = some (.ins C dx fs)) (cl : Cls K C) (ha : PySem.W.findIn K (.ref C) "__class__" = some (some (.builtin "object.__class__")))
     (hn : PySem.W.specialIn K (.builtin "object.__class__") "__get__" = some (some (.builtin "getset_descriptor.__get__"))) (htk : PySem.W.takesIn K (.builtin "object.__class__") = some true)
     (hm : PySem.W.mroIn K C (.type "object") = some true) : TyOf K H (.ref a) (.ref C)
theorem isinst_ok {x : V} {u t : Value} (I : Inv X pins σ H s) (rx : RelV x u) (ty : TyOf X.K H x t) (e : PySem.W.kitOne X.K t c = some b) (h : ∀ tk, Q (.bool b) { s with toks := tk }) :
   wpAny (model X.prog X.w) A (call (.builtin "isinstance") [u, c]) Q E s := by
 cases ty with
 | non => cases (show u = Value.none from rx); exact PySem.W.kia_one PySem.W.kitx_none I.kIn True.intro e (fun z => nomatch z) h
 | bl y => cases (show u = Value.bool y from rx); exact PySem.W.kia_one PySem.W.kitx_bool I.kIn True.intro e (fun z => nomatch z) h
 | int i => obtain ⟨t, q⟩ := (show ∃ t, u = Value.int i t from rx); cases q; exact PySem.W.kia_one PySem.W.kitx_int I.kIn True.intro e (fun z => nomatch z) h
 | str y => obtain ⟨t, q⟩ := (show ∃ t, u = Value.str y t from rx); cases q; exact PySem.W.kia_one PySem.W.kitx_str I.kIn True.intro e (fun z => nomatch z) h
 | flt y => obtain ⟨t, q⟩ := (show ∃ t, u = Value.float y t from rx); cases q; exact PySem.W.kia_one PySem.W.kitx_float I.kIn True.intro e (fun z => nomatch z) h
 | @lst a xs ea =>
   cases (show u = Value.ref a from rx)
   obtain ⟨_, _, n, _, h1⟩ := (show ObjOk X.prog X.w H s.heap a (.lst xs) from I.hok a _ ea)
   exact PySem.W.kia_one PySem.W.kitx_list I.kIn ⟨_, h1, rfl⟩ e (fun z => nomatch z) h
 | @frz a ob xs ea =>
   cases (show u = Value.ref a from rx)
   obtain ⟨_, _, _, n, _, h1⟩ := (show ObjOk X.prog X.w H s.heap a (.frz ob (.lst xs)) from I.hok a _ ea)
   exact PySem.W.kia_one PySem.W.kitx_list I.kIn ⟨_, h1, rfl⟩ e (fun z => nomatch z) h
 | @tup a xs ea =>
   cases (show u = Value.ref a from rx)
   obtain ⟨_, _, _, p⟩ := (show ObjOk X.prog X.w H s.heap a (.tup xs) from I.hok a _ ea)
   obtain ⟨o, h1, h2, _⟩ := p
   exact PySem.W.kia_one PySem.W.kitx_tuple I.kIn ⟨o, h1, h2⟩ e (fun z => nomatch z) h
 | @dK a kvs ea =>
   cases (show u = Value.ref a from rx)
   obtain ⟨_, _, vs, _, p⟩ := (show ObjOk X.prog X.w H s.heap a (.dK kvs) from I.hok a _ ea)
   obtain ⟨o, es, ep, h1, h2, _⟩ := p
   exact PySem.W.kia_one PySem.W.kitx_dict I.kIn ⟨o, h1, h2.1⟩ e (fun z => nomatch z) h
 | @dT a kvs ea =>
   cases (show u = Value.ref a from rx)
   obtain ⟨_, _, xs, _, o, es, ep, h1, h2, _⟩ := (show ObjOk X.prog X.w H s.heap a (.dT kvs) from I.hok a _ ea)
   exact PySem.W.kia_one PySem.W.kitx_dict I.kIn ⟨o, h1, h2.1⟩ e (fun z => nomatch z) h
 | @ins a C dx fs ea cl ha hn htk hm =>
   cases (show u = Value.ref a from rx)
   obtain ⟨mA, O, _⟩ := ins_get I.hok ea
   obtain ⟨od, J, _⟩ := O.look
   exact PySem.W.kia_one (PySem.W.kitx_own (cl.get _) cl.hd ha hn htk hm) I.kIn J e (fun z => nomatch z) h
end
structure Room (k : Nat) (A : Around) : Prop where
 hd : 50 <= k -> A.handled = none
 dp : A.depth + 3 * k + 5 < recursionLimit
 un : A.units + 16 * k + 200 < cLine
theorem Room.mono {j k : Nat} {A : Around} (r : Room k A) (h : j <= k) : Room j A := ⟨fun z => r.hd (Nat.le_trans z h), by have := r.dp; omega, by have := r.un; omega⟩
theorem Room.deeper {k : Nat} {A : Around} (r : Room (k + 1) A) (env : Env) : Room k (A.deeper env) :=
 ⟨fun z => r.hd (Nat.le_succ_of_le z), by have := r.dp; show A.depth + 1 + 3 * k + 5 < _; omega, by have := r.un; show A.units + 3 + 16 * k + 200 < _; omega⟩
theorem Room.in1 {k : Nat} {A : Around} (r : Room (k + 1) A) : Room k A.in1 :=
 ⟨fun z => r.hd (Nat.le_succ_of_le z), by have := r.dp; show A.depth + 3 * k + 5 < _; omega, by have := r.un; show A.units + 1 + 16 * k + 200 < _; omega⟩
theorem make_depth {A : Around} {C : Addr} {us : List Value} {kw : List (Str × Value)} : (A.under (.builtin "type.__call__" ⟨.ref C :: us, kw⟩)).depth = A.depth + 1 := by
 first | rfl | simp [Around.under, Code.weight, Code.isCreation, Code.isGuard, Code.isCaller, Code.frames, Code.isFrame, guardIds]
theorem make_units {A : Around} {C : Addr} {us : List Value} {kw : List (Str × Value)} : (A.under (.builtin "type.__call__" ⟨.ref C :: us, kw⟩)).units = A.units + 1 := by
 first | rfl | simp [Around.under, Code.cUnits, Code.frames, Code.isFrame]
theorem Room.make {k : Nat} {A : Around} (r : Room (k + 1) A) (C : Addr) (us : List Value) (kw : List (Str × Value)) : Room k (A.under (.builtin "type.__call__" ⟨.ref C :: us, kw⟩)) :=
 ⟨fun z => r.hd (Nat.le_succ_of_le z), by have := r.dp; rw [make_depth]; omega, by have := r.un; rw [make_units]; omega⟩
theorem Room.depth {k : Nat} {A : Around} (r : Room k A) : A.depth < recursionLimit := by have := r.dp; omega
theorem Room.units {k : Nat} {A : Around} (r : Room k A) : A.units + 64 < cLine := by have := r.un; omega
theorem Room.units0 {k : Nat} {A : Around} (r : Room k A) : A.units < cLine := by have := r.un; omega
def tNil : TA := fun _ H Q => Q [] H
def tCons (ta : TE) (tr : TA) : TA := fun σ H Q => ta σ H fun x H1 => tr σ H1 fun xs H2 => Q (x :: xs) H2
section
variable {X : Cx} {e : Expr} {es : List Expr} {te : TE} {t : TA} {pos : Pos}
theorem zQk : PA X [] tNil := fun _ _ _ _ H Q I h => Calls.spliced_nil ⟨[], H, I, .nil, h⟩
theorem zQw (ha : PE X e te) (hr : PA X es t) (hs : starEach (e :: es) X.env = (false, eval e X.env) :: starEach es X.env := by exact zQq rfl) : PA X (e :: es) (tCons te t) := by
 intro pos pins s σ H Q I h
 rw [hs]
 show wpAny _ _ (spliced ((false, eval e X.env) :: backTo pos (starEach es X.env))) _ _ s
 refine Calls.spliced_cons (thn (ha pins s σ H _ I h) fun u s1 ⟨x, H1, I1, r1, q1⟩ => ?_)
 exact thn (hr pos pins s1 σ H1 _ I1 q1) fun us s2 ⟨xs, H2, I2, r2, q2⟩ => ⟨x :: xs, H2, I2, .cons r1 r2, q2⟩
def tTup (t : TA) : TE := fun σ H Q => t σ H fun xs H1 => xs.length <= sizeLine /\ ∀ p, H1 p = none -> Q (.ref p) (upd H1 p (.tup xs))
def tLst (t : TA) : TE := fun σ H Q => t σ H fun xs H1 => xs.length <= sizeLine /\ ∀ p, H1 p = none -> Q (.ref p) (upd H1 p (.lst xs))
theorem zJz {x1} (h : PA X es t) : PE X (.Tuple es x1 pos) (tTup t) := by
 intro pins s σ H Q I hq
 refine wpAny_Tuple_spliced (thn (h pos pins s σ H _ I hq) fun us s1 ⟨xs, H1, I1, r, z, q⟩ => ⟨by rw [<- r.length]; exact z, ?_⟩)
 have hf : H1 s1.heap.objs.size = none := I1.hok.fresh (Nat.le_refl _)
 refine ⟨.ref s1.heap.objs.size, upd H1 s1.heap.objs.size (.tup xs), I1.laid (t' := s1.toks) (fun b u e => Heap.get?_push_of_some _ e) (Nat.le_refl _) ?_, rfl, q _ hf⟩
 exact ⟨z, us, r, ⟨_, Heap.get?_push_size _ rfl, rfl, _, rfl⟩⟩
theorem zJv (h : PA X es t) : PE X (.List es pos) (tLst t) := by
 intro pins s σ H Q I hq
 refine wpAny_List_spliced (thn (h pos pins s σ H _ I hq) fun us s1 ⟨xs, H1, I1, r, z, q⟩ => ⟨by rw [<- r.length]; exact z, ?_⟩)
 have hf : H1 s1.heap.objs.size = none := I1.hok.fresh (Nat.le_refl _)
 refine ⟨.ref s1.heap.objs.size, upd H1 s1.heap.objs.size (.lst xs), I1.laid (t' := s1.toks) (fun b u e => Heap.get?_push_of_some _ e) (Nat.le_refl _) ?_, rfl, q _ hf⟩
 exact ⟨z, us, 0, r, Heap.get?_push_size _ rfl⟩
end
abbrev Sp := List V -> Hp -> VK -> XK -> Prop
abbrev CXT := List Env -> Hp -> Shared -> XK -> Value -> Shared -> Prop
structure Env0 (P : Program) (w : World) (K : PySem.W.Frag) (mg : Str -> Option Value) (base : Heap) (A : Around) (outer : List Env) (s : Shared) (H : Hp) : Prop where
 frames : A.frames = some outer
 mod : Mod K mg base
 bs : ∀ b o, base.get? b = some o -> s.heap.get? b = some o /\ H b = none
 bsz : base.objs.size <= s.heap.objs.size
 funs : s.heap.FunFrames base outer
 frf : ∀ b ∈ frs outer, H b = none
 hok : HOk P w H s.heap
 bare : AllBare s.gens
def CE (outer : List Env) (P : Program) (w : World) (H : Hp) (s : Shared) (Q : VK) (u : Value) (s' : Shared) : Prop :=
 ∃ v H', s'.os = s.os /\ AllBare s'.gens /\ Un (frs outer) [] H H' s.heap s'.heap /\ HOk P w H' s'.heap /\ RelV v u /\ Q v H'
def CR (CX : CXT) (outer : List Env) (P : Program) (w : World) (H : Hp) (s : Shared) (Q : VK) (E : XK) (r : Result) (s' : Shared) : Prop :=
 match r with
 | .ok (.ret u) => CE outer P w H s Q u s'
 | .ok _ => False
 | .error e => CX outer H s E e s'
structure FnOk (P : Program) (w : World) (K : PySem.W.Frag) (mg : Str -> Option Value) (base : Heap) (CX : CXT) (k : Nat) (f : Addr) (fd : FuncData) (ps : List Str) (sp : Sp) : Prop where
 len : ∀ vs H Q E, sp vs H Q E -> vs.length = ps.length
 run : ∀ (A : Around) (outer : List Env) (s : Shared) (H : Hp) (args : Args) (us : List Value) (vs : List V) (Q : VK) (E : XK), Room k A -> Env0 P w K mg base A outer s H -> BindsTo s fd args (ps.zip us) -> Vals vs us -> sp vs H Q E ->
   codeAny (model P w) A (.call (.ref f) args) (CR CX outer P w H s Q E) s
theorem FnOk.mono {P : Program} {w : World} {K : PySem.W.Frag} {mg : Str -> Option Value} {base : Heap} {CX : CXT} {j k : Nat} {f : Addr} {fd : FuncData} {ps : List Str} {sp : Sp} (F : FnOk P w K mg base CX j f fd ps sp) (h : j <= k) :
   FnOk P w K mg base CX k f fd ps sp := ⟨F.len, fun A outer s H args us vs Q E hr => F.run A outer s H args us vs Q E (hr.mono h)⟩
theorem FnOk.imp {P : Program} {w : World} {K : PySem.W.Frag} {mg : Str -> Option Value} {base : Heap} {CX : CXT} {k : Nat} {f : Addr} {fd : FuncData} {ps : List Str} {sp sp' : Sp} (F : FnOk P w K mg base CX k f fd ps sp)
   (h : ∀ vs H Q E, sp' vs H Q E -> sp vs H Q E) : FnOk P w K mg base CX k f fd ps sp' :=
 ⟨fun vs H Q E q => F.len vs H Q E (h _ _ _ _ q), fun A outer s H args us vs Q E hr he hb hv hs => F.run A outer s H args us vs Q E hr he hb hv (h _ _ _ _ hs)⟩
theorem Env0.make {P : Program} {w : World} {K : PySem.W.Frag} {mg : Str -> Option Value} {base : Heap} {A : Around} {outer : List Env} {s : Shared} {H : Hp} (e : Env0 P w K mg base A outer s H) (C : Addr) (us : List Value) (kw : List (Str × Value)) :
   Env0 P w K mg base (A.under (.builtin "type.__call__" ⟨.ref C :: us, kw⟩)) outer s H := ⟨by first | exact e.frames | (simpa [Around.under, Code.envs, Code.isFrame, pushEnvs] using e.frames), e.mod, e.bs, e.bsz, e.funs, e.frf, e.hok, e.bare⟩
theorem Env0.in1 {P : Program} {w : World} {K : PySem.W.Frag} {mg : Str -> Option Value} {base : Heap} {A : Around} {outer : List Env} {s : Shared} {H : Hp} (e : Env0 P w K mg base A outer s H) :
   Env0 P w K mg base A.in1 outer s H := ⟨e.frames, e.mod, e.bs, e.bsz, e.funs, e.frf, e.hok, e.bare⟩
section
variable {X : Cx} {pins : List (Addr × Obj)} {σ : St} {H : Hp} {s s' : Shared}
theorem Inv.env0 (I : Inv X pins σ H s) : Env0 X.prog X.w X.K X.mg X.base X.A X.stack s H :=
 ⟨I.ok.frames, I.ok.mod, I.bs, Nat.le_trans I.ok.bsz I.sz, I.stack, I.stkFree, I.hok, I.bare⟩
theorem Inv.after {Q : VK} {u : Value} (I : Inv X pins σ H s) (h : CE X.stack X.prog X.w H s Q u s') : EP X pins σ Q u s' := by
 obtain ⟨v, H', os, bare, un, hok, r, q⟩ := h
 obtain ⟨hh, g, d, t, os'⟩ := s'
 obtain rfl : os' = s.os := os
 exact ⟨v, H', I.call (h' := hh) (g' := g) (d' := d) (t' := t) (ch := []) un hok bare (fun b z => absurd z (by simp)), r, q⟩
end
def tCall (sp : Sp) (dvs : List V) (E : XK) (t : TA) : TE := fun σ H Q => t σ H fun vs H1 => sp (vs ++ dvs) H1 Q E
def tMeth (C : Addr) (m : Str) (sp : Sp) (dvs : List V) (E : XK) (ta : TE) (t : TA) : TE := fun σ H Q => ta σ H fun x H1 => ∃ a dx fs, x = .ref a /\ H1 a = some (.ins C dx fs) /\ fs.lookup m = none /\
 t σ H1 fun vs H2 => sp (x :: (vs ++ dvs)) H2 Q E
def tMake (C : Addr) (sp : Sp) (dvs : List V) (E : XK) (t : TA) : TE := fun σ H Q => t σ H fun vs H1 => ∀ x dx, H1 x = none -> H1 dx = none -> dx ≠ x ->
 sp (.ref x :: (vs ++ dvs)) (upd (upd H1 dx (.own x)) x (.ins C dx [])) (fun v H2 => v = .non /\ Q (.ref x) H2) E
def Binds (K : PySem.W.Frag) (fd : FuncData) (ps : List Str) (ds : List Value) : Prop :=
 ∀ (s : Shared) (us : List Value), K.In s.heap -> (us ++ ds).length = ps.length -> BindsTo s fd ⟨us, []⟩ (ps.zip (us ++ ds))
theorem Binds.all {K : PySem.W.Frag} {fd : FuncData} {ps : List Str} (h : ∀ us : List Value, us.length = ps.length -> bindArgs fd ⟨us, []⟩ = pure (ps.zip us)) : Binds K fd ps [] := fun s us _ hl => by
 rw [List.append_nil] at hl ⊢
 exact .of_eq (h us hl)
def Passes (CX : CXT) (X : Cx) (E : XK) : Prop := ∀ (pins : List (Addr × Obj)) (σ : St) (H : Hp) (s : Shared) (e : Value) (s' : Shared), Inv X pins σ H s -> CX X.stack H s E e s' -> X.xe e s'
section
variable {X : Cx} {CX : CXT} {k : Nat} {f C : Addr} {fd : FuncData} {ps : List Str} {sp : Sp} {dvs : List V} {ds : List Value} {E : XK} {x m : Str} {p pos apos : Pos} {e o : Expr} {es : List Expr} {ta : TE} {t : TA}
theorem run_fn {pins : List (Addr × Obj)} {σ : St} {H : Hp} {s : Shared} {Q : VK} {us : List Value} {vs : List V} (F : FnOk X.prog X.w X.K X.mg X.base CX k f fd ps sp) (hr : Room k X.A) (hb : Binds X.K fd ps ds) (hd : Vals dvs ds) (hx : Passes CX X E)
   (I : Inv X pins σ H s) (r : Vals vs us) (h : sp (vs ++ dvs) H Q E) : wpAny (model X.prog X.w) X.A (call (.ref f) us) (EP X pins σ Q) X.xe s := by
 have r2 : Vals (vs ++ dvs) (us ++ ds) := r.append hd
 have hl : (us ++ ds).length = ps.length := by rw [<- r2.length]; exact F.len _ _ _ _ h
 refine wpAny_call (codeAny_mono (F.run X.A X.stack s H ⟨us, []⟩ (us ++ ds) (vs ++ dvs) Q E hr I.env0 (hb s us I.kIn hl) r2 h) fun r s' hq => ?_)
 cases r with
 | error e => exact hx pins σ H s e s' I hq
 | ok fl =>
   cases fl with
   | ret u => exact I.after hq
   | next => exact False.elim hq
   | brk => exact False.elim hq
   | cont => exact False.elim hq
theorem pe_call (F : FnOk X.prog X.w X.K X.mg X.base CX k f fd ps sp) (hr : Room k X.A) (hg : Gl X x) (hm : X.mg x = some (.ref f)) (hk : PySem.W.keepIn X.K (.ref f) = true) (hb : Binds X.K fd ps ds) (hd : Vals dvs ds) (hx : Passes CX X E)
   (ha : PA X (e :: es) t) (hdb : (x == ("__debug__" : Str)) = false := by decide) (he : starEach (e :: es) X.env = (false, eval e X.env) :: starEach es X.env := by exact zQq rfl) (hpl : (backTo pos (starEach es X.env)).any (·.1) = false := by exact zQx rfl) :
   PE X (.Call (.Name x p) (e :: es) [] pos) (tCall sp dvs E t) := by
 intro pins s σ H Q I h
 refine wpAny_Call_Name_kw (yZj I hg hm ?_ hdb)
 refine PySem.W.callWith_K (h₀ := X.base) I.ok.mod.kin hk (thn (ha pos pins s σ H _ I h) fun us s1 ⟨vs, H1, I1, r, q⟩ => ⟨I1.kIn, ?_⟩) he hpl
 exact run_fn F hr hb hd hx I1 r q
theorem pe_call0 (F : FnOk X.prog X.w X.K X.mg X.base CX k f fd ps sp) (hr : Room k X.A) (hg : Gl X x) (hm : X.mg x = some (.ref f)) (hk : PySem.W.keepIn X.K (.ref f) = true) (hb : Binds X.K fd ps ds) (hd : Vals dvs ds) (hx : Passes CX X E)
   (hdb : (x == ("__debug__" : Str)) = false := by decide) : PE X (.Call (.Name x p) [] [] pos) (tCall sp dvs E tNil) := by
 intro pins s σ H Q I h
 refine wpAny_Call_Name_kw (yZj I hg hm ?_ hdb)
 exact PySem.W.callWith_K0 I.kIn hk (run_fn (us := []) F hr hb hd hx I .nil h)
theorem pe_meth {pl : Sem Bool} (he : PE X o ta) (c : Cls X.K C) (hm : Meth X.K C m f) (F : FnOk X.prog X.w X.K X.mg X.base CX k f fd ps sp) (hr : Room k X.A) (hb : Binds X.K fd ps ds) (hd : Vals dvs ds) (hx : Passes CX X E) (ha : PA X (e :: es) t)
   (hst : starEach (e :: es) X.env = (false, eval e X.env) :: starEach es X.env := by exact zQq rfl) (hpl : (backTo pos (starEach es X.env)).any (·.1) = false := by exact zQx rfl)
   (ht : eval (.Call (.Attribute o m apos) (e :: es) [] pos) X.env = (do
     let ov <- eval o X.env
     standAt apos.atName
     let (f, first) <- holding [ov] (getMethod ov m pl)
     callWith pos f first (backTo pos (starEach (e :: es) X.env)) (backToKw pos (keywordEach [] X.env))) := by rfl) :
   PE X (.Call (.Attribute o m apos) (e :: es) [] pos) (tMeth C m sp dvs E ta t) := by
 intro pins s σ H Q I h
 refine PySem.W.methodCall_KW (pl := pl) (thn (he pins s σ H _ I h) fun u s1 ⟨x, H1, I1, rx, a, dx, fs, ex, ea, l, q⟩ => ?_) ht
 subst ex
 obtain rfl : u = Value.ref a := rx
 refine yKw I1 ea c hm l ?_
 refine PySem.W.callWith_K (first := [.ref a]) (h₀ := X.base) I.ok.mod.kin hm.kp (thn (ha pos pins s1 σ H1 _ I1 q) fun us s2 ⟨vs, H2, I2, r, q2⟩ => ⟨I2.kIn, ?_⟩) hst hpl
 exact run_fn (us := .ref a :: us) (vs := .ref a :: vs) F hr hb hd hx I2 (.cons rfl r) q2
theorem pe_meth0 {pl : Sem Bool} (he : PE X o ta) (c : Cls X.K C) (hm : Meth X.K C m f) (F : FnOk X.prog X.w X.K X.mg X.base CX k f fd ps sp) (hr : Room k X.A) (hb : Binds X.K fd ps ds) (hd : Vals dvs ds) (hx : Passes CX X E)
   (ht : eval (.Call (.Attribute o m apos) [] [] pos) X.env = (do
     let ov <- eval o X.env
     standAt apos.atName
     let (f, first) <- holding [ov] (getMethod ov m pl)
     callWith pos f first (backTo pos (starEach [] X.env)) (backToKw pos (keywordEach [] X.env))) := by rfl) :
   PE X (.Call (.Attribute o m apos) [] [] pos) (tMeth C m sp dvs E ta tNil) := by
 intro pins s σ H Q I h
 refine PySem.W.methodCall_KW (pl := pl) (thn (he pins s σ H _ I h) fun u s1 ⟨x, H1, I1, rx, a, dx, fs, ex, ea, l, q⟩ => ?_) ht
 subst ex
 obtain rfl : u = Value.ref a := rx
 refine yKw I1 ea c hm l ?_
 exact PySem.W.callWith_K0 (first := [.ref a]) I1.kIn hm.kp (run_fn (us := [.ref a]) (vs := [.ref a]) F hr hb hd hx I1 (.cons rfl .nil) q)
structure Mk (K : PySem.W.Frag) (C f : Addr) : Prop where
 makes : PySem.W.makesIn K C = true
 init : PySem.W.findIn K (.ref C) "__init__" = some (some (.ref f))
 fn : PySem.W.isFn K (.ref f) = true
 kp : PySem.W.keepIn K (.ref C) = true
theorem run_make {pins : List (Addr × Obj)} {σ : St} {H : Hp} {s : Shared} {Q : VK} {us : List Value} {vs : List V} (M : Mk X.K C f) (F : FnOk X.prog X.w X.K X.mg X.base CX k f fd ps sp) (hr : Room (k + 1) X.A) (hb : Binds X.K fd ps ds) (hd : Vals dvs ds)
   (hx : Passes CX X E) (I : Inv X pins σ H s) (r : Vals vs us)
   (h : ∀ x dx, H x = none -> H dx = none -> dx ≠ x -> sp (.ref x :: (vs ++ dvs)) (upd (upd H dx (.own x)) x (.ins C dx [])) (fun v H2 => v = .non /\ Q (.ref x) H2) E) :
   wpAny (model X.prog X.w) X.A (call (.ref C) us) (EP X pins σ Q) X.xe s := by
 have hq := h (s.heap.objs.size + 1) s.heap.objs.size (I.hok.fresh (Nat.le_succ _)) (I.hok.fresh (Nat.le_refl _)) (Nat.ne_of_lt (Nat.lt_succ_self _))
 have I2 := Inv.made (C := C) I
 have r2 : Vals (V.ref (s.heap.objs.size + 1) :: (vs ++ dvs)) (Value.ref (s.heap.objs.size + 1) :: (us ++ ds)) := .cons rfl (r.append hd)
 have hl : (Value.ref (s.heap.objs.size + 1) :: us ++ ds).length = ps.length := by
   have e := r2.length
   rw [F.len _ _ _ _ hq] at e
   exact e.symm
 refine wpAny_call (make_map (f := f) I.kIn M.makes M.init (beq_iff_eq.mp M.fn) (codeAny_mono (F.run _ X.stack _ _ ⟨Value.ref (s.heap.objs.size + 1) :: us, []⟩ (Value.ref (s.heap.objs.size + 1) :: (us ++ ds)) _ _ E (hr.make C us [])
   (I2.env0.make C us []) (hb _ (Value.ref (s.heap.objs.size + 1) :: us) I2.kIn hl) r2 hq) fun r s' hq' => ?_))
 cases r with
 | error e => exact hx pins σ _ _ e s' I2 hq'
 | ok fl =>
   cases fl with
   | ret u =>
     obtain ⟨v, H', I3, rv, ev, q3⟩ := I2.after hq'
     subst ev
     exact ⟨rv, ⟨V.ref (s.heap.objs.size + 1), H', I3, rfl, q3⟩⟩
   | next => exact False.elim hq'
   | brk => exact False.elim hq'
   | cont => exact False.elim hq'
theorem pe_make (M : Mk X.K C f) (F : FnOk X.prog X.w X.K X.mg X.base CX k f fd ps sp) (hr : Room (k + 1) X.A) (hg : Gl X x) (hm : X.mg x = some (.ref C)) (hb : Binds X.K fd ps ds) (hd : Vals dvs ds) (hx : Passes CX X E)
   (ha : PA X (e :: es) t) (hdb : (x == ("__debug__" : Str)) = false := by decide) (he : starEach (e :: es) X.env = (false, eval e X.env) :: starEach es X.env := by exact zQq rfl) (hpl : (backTo pos (starEach es X.env)).any (·.1) = false := by exact zQx rfl) :
   PE X (.Call (.Name x p) (e :: es) [] pos) (tMake C sp dvs E t) := by
 intro pins s σ H Q I h
 refine wpAny_Call_Name_kw (yZj I hg hm ?_ hdb)
 refine PySem.W.callWith_K (h₀ := X.base) I.ok.mod.kin M.kp (thn (ha pos pins s σ H _ I h) fun us s1 ⟨vs, H1, I1, r, q⟩ => ⟨I1.kIn, ?_⟩) he hpl
 exact run_make M F hr hb hd hx I1 r q
theorem pe_make0 (M : Mk X.K C f) (F : FnOk X.prog X.w X.K X.mg X.base CX k f fd ps sp) (hr : Room (k + 1) X.A) (hg : Gl X x) (hm : X.mg x = some (.ref C)) (hb : Binds X.K fd ps ds) (hd : Vals dvs ds) (hx : Passes CX X E)
   (hdb : (x == ("__debug__" : Str)) = false := by decide) : PE X (.Call (.Name x p) [] [] pos) (tMake C sp dvs E tNil) := by
 intro pins s σ H Q I h
 refine wpAny_Call_Name_kw (yZj I hg hm ?_ hdb)
 exact PySem.W.callWith_K0 I.kIn M.kp (run_make (us := []) M F hr hb hd hx I .nil h)
end
section
variable {X : Cx} {CX : CXT} {k : Nat} {f C : Addr} {fd : FuncData} {ps ks : List Str} {sp : Sp} {E : XK} {x m : Str} {p pos apos kpos : Pos} {e o : Expr} {es : List Expr} {kws : List Keyword} {te ta : TE} {t tk : TA} {nm : Option Str}
structure KBinds (K : PySem.W.Frag) (fd : FuncData) (ps ks : List Str) (g : List Value -> List Value -> List Value) (gV : List V -> List V -> List V) : Prop where
 to : ∀ (s : Shared) (us ws : List Value), K.In s.heap -> (g us ws).length = ps.length -> BindsTo s fd ⟨us, ks.zip ws⟩ (ps.zip (g us ws))
 rel : ∀ {vs : List V} {us : List Value} {zs : List V} {ws : List Value}, Vals vs us -> Vals zs ws -> Vals (gV vs zs) (g us ws)
variable {g : List Value -> List Value -> List Value} {gV : List V -> List V -> List V}
end
structure FnScope (N P : List Str) (sc : Scope) : Prop where
 kind : sc.kind = .function
 co : sc.isCoroutine = false
 gen : sc.isGenerator = false
 nd : N.Nodup
 pre : N.take P.length = P
 par : ∀ x ∈ P, sc.names.lookup x = some .local \/ sc.names.lookup x = some .cell
 nofree : ∀ y ∈ sc.names, y.2 ≠ .free
theorem bindL_out {kindOf : Str -> Option NameKind} {x : Str} : ∀ {binds : List (Str × Value)} {m : Str -> Option Value}, (∀ v, (x, v) ∉ binds) -> bindL kindOf binds m x = m x
 | [], _, _ => rfl
 | (n, v) :: r, m, h => by
   unfold bindL
   rw [bindL_out fun w hw => h w (List.mem_cons_of_mem _ hw)]
   split
   . have : x ≠ n := by rintro rfl; exact h v List.mem_cons_self
     simp [this]
   . rfl
theorem bindC_out {kindOf : Str -> Option NameKind} {x : Str} : ∀ {binds : List (Str × Value)} {m : Str -> Option Value}, (∀ v, (x, v) ∉ binds) -> bindC kindOf binds m x = m x
 | [], _, _ => rfl
 | (n, v) :: r, m, h => by
   unfold bindC
   rw [bindC_out fun w hw => h w (List.mem_cons_of_mem _ hw)]
   split
   . rfl
   . have : x ≠ n := by rintro rfl; exact h v List.mem_cons_self
     simp [this]
theorem bindL_get {kindOf : Str -> Option NameKind} {x : Str} {v : Value} : ∀ {P : List Str} {vs : List Value} {i : Nat} {m : Str -> Option Value}, P.Nodup -> P[i]? = some x -> vs[i]? = some v -> kindOf x = some .local ->
   bindL kindOf (P.zip vs) m x = some v
 | [], _, _, _, _, h, _, _ => by simp at h
 | _ :: _, [], _, _, _, _, h, _ => by simp at h
 | p :: P, w :: vs, 0, m, nd, h1, h2, hk => by
   simp at h1 h2; subst h1; subst h2
   show bindL kindOf ((p, w) :: P.zip vs) m p = _
   unfold bindL
   rw [bindL_out fun v hv => (List.nodup_cons.mp nd).1 (List.of_mem_zip hv).1, if_pos hk]
   simp
 | p :: P, w :: vs, i + 1, m, nd, h1, h2, hk => by
   show bindL kindOf ((p, w) :: P.zip vs) m x = _
   unfold bindL
   exact bindL_get (i := i) (List.nodup_cons.mp nd).2 (by simpa using h1) (by simpa using h2) hk
theorem bindC_get {kindOf : Str -> Option NameKind} {x : Str} {v : Value} : ∀ {P : List Str} {vs : List Value} {i : Nat} {m : Str -> Option Value}, P.Nodup -> P[i]? = some x -> vs[i]? = some v -> kindOf x ≠ some .local ->
   bindC kindOf (P.zip vs) m x = some v
 | [], _, _, _, _, h, _, _ => by simp at h
 | _ :: _, [], _, _, _, _, h, _ => by simp at h
 | p :: P, w :: vs, 0, m, nd, h1, h2, hk => by
   simp at h1 h2; subst h1; subst h2
   show bindC kindOf ((p, w) :: P.zip vs) m p = _
   unfold bindC
   rw [bindC_out fun v hv => (List.nodup_cons.mp nd).1 (List.of_mem_zip hv).1, if_neg hk]
   simp
 | p :: P, w :: vs, i + 1, m, nd, h1, h2, hk => by
   show bindC kindOf ((p, w) :: P.zip vs) m x = _
   unfold bindC
   exact bindC_get (i := i) (List.nodup_cons.mp nd).2 (by simpa using h1) (by simpa using h2) hk
def start (N : List Str) (vs : List V) : St := vs.map some ++ List.replicate (N.length - vs.length) none
def cxOf (cm : Bool) (CX : CXT) (P : Program) (w : World) (K : PySem.W.Frag) (mg : Str -> Option Value) (base : Heap) (N : List Str) (qual : Str) (scope : Scope) (f : Addr) (cd : Value) (A : Around) (outer : List Env) (s : Shared) (H : Hp) (E : XK) : Cx where
 prog := P
 w := w
 K := K
 mg := mg
 base := base
 A := A.deeper (envOfC qual scope s.heap.objs.size f cd)
 N := N
 s₀ := s
 H₀ := H
 env := envOfC qual scope s.heap.objs.size f cd
 outer := outer
 stack := envOfC qual scope s.heap.objs.size f cd :: outer
 ex := []
 calm := cm
 fn := fun _ => true
 pn := []
 xe := fun e s' => wpAny (model P w) (A.deeper (envOfC qual scope s.heap.objs.size f cd)) (leaving (envOfC qual scope s.heap.objs.size f cd) e) (fun _ s'' => CX outer H s E e s'') (fun e' s'' => CX outer H s E e' s'') s'
theorem cell_has {sc : Scope} {n : Nat} {x : Str} (h : sc.names.lookup x = some .cell) : ∃ c, (cellsFrom n sc.names []).lookup x = some c := by
 have q := PySem.W.cellsFrom_some sc.names n [] (.inl h)
 exact Option.isSome_iff_exists.mp q
theorem inv_start {cm : Bool} {CX : CXT} {P : Program} {w : World} {K : PySem.W.Frag} {mg : Str -> Option Value} {base : Heap} {N ps : List Str} {qual : Str} {scope : Scope} {f : Addr} {cd : Value} {A : Around} {outer : List Env} {s s1 : Shared} {H : Hp} {E : XK} {us : List Value} {vs : List V}
   (S : FnScope N ps scope) (hd : cm = true -> A.handled = none) (e0 : Env0 P w K mg base A outer s H) (hl : vs.length = ps.length) (r : Vals vs us)
   (x : InCallC s s.heap.objs.size (bindL (envOfC qual scope s.heap.objs.size f cd).kindOf (ps.zip us) fun _ => none) (cellsFrom (s.heap.objs.size + 1) scope.names []) (bindC (envOfC qual scope s.heap.objs.size f cd).kindOf (ps.zip us) fun _ => none) s1) :
   Inv (cxOf cm CX P w K mg base N qual scope f cd A outer s H E) [] (start N vs) H s1 := by
 have hpl : ps.length <= N.length := by have := congrArg List.length S.pre; rw [List.length_take] at this; omega
 obtain ⟨h1, tk, rfl, hk⟩ := x.done
 have noA : ∀ b : Addr, b ∉ (cxOf cm CX P w K mg base N qual scope f cd A outer s H E).ex := fun b z => absurd (show b ∈ ([] : List Addr) from z) (by simp)
 refine ⟨⟨e0.mod, S.kind, rfl, rfl, Nat.le_refl _, fun y z c h1 h2 => ?_, fun y hy => ?_, fun y c _ h => ?_, hd, Around.frames_deeper e0.frames, .inr ⟨rfl, rfl⟩, fun b z => absurd z (noA b), e0.bs, e0.bsz, fun b _ _ => noA b, fun b z => absurd z (noA b), e0.funs, e0.frf⟩,
   rfl, e0.bare, Un.kept hk, ⟨_, x.toInCall.ns, fun i y v h1 h2 h3 => ?_⟩, fun y c h => ⟨_, x.cell y c h⟩, e0.hok.fresh (Nat.le_refl _), fun y c h => ?_, fun p hp => absurd (show p ∈ ([] : List (Addr × Obj)) from hp) (by simp), e0.hok.kept hk, ?_⟩
 . exact name_of_addr x.apart (PySem.mem_of_lookup h1) (PySem.mem_of_lookup h2)
 . have hy : scope.names.lookup y = some .cell \/ scope.names.lookup y = some .free := hy
   rcases hy with hy | hy
   . exact cell_has hy
   . exact absurd rfl (S.nofree _ (PySem.mem_of_lookup hy))
 . exact Nat.le_of_lt (x.above y c (PySem.mem_of_lookup h))
 . have hi : i < vs.length := by
     unfold start at h2
     by_cases hi : i < vs.length
     . exact hi
     . rw [List.getElem?_append_right (by simpa using hi)] at h2
       rw [List.getElem?_replicate] at h2
       split at h2 <;> cases h2
   have ha : vs[i]? = some v := by
     unfold start at h2
     rw [List.getElem?_append_left (by simpa using hi), List.getElem?_map] at h2
     cases e : vs[i]? with
     | none => rw [e] at h2; cases h2
     | some a => rw [e] at h2; cases h2; rfl
   obtain ⟨u, hu, rv⟩ := r.get ha
   have hp : ps[i]? = some y := by
     rw [<- S.pre, List.getElem?_take_of_lt (by omega)]; exact h1
   have ndP : ps.Nodup := by rw [<- S.pre]; exact S.nd.sublist (List.take_sublist _ _)
   refine ⟨u, rv, ?_⟩
   rcases S.par y (List.mem_of_getElem? hp) with k | k
   . exact .inl ⟨k, bindL_get ndP hp hu k⟩
   . obtain ⟨c, e⟩ := cell_has (n := s.heap.objs.size + 1) k
     refine .inr ⟨.inl k, c, e, ?_⟩
     have q := x.cell y c e
     rw [bindC_get ndP hp hu (by show scope.names.lookup y ≠ _; rw [k]; decide)] at q
     exact q
 . exact e0.hok.fresh (Nat.le_of_lt (x.above y c (PySem.mem_of_lookup h)))
 . unfold start
   show _ = N.length
   rw [List.length_append, List.length_map, List.length_replicate]
   omega
theorem fn_of {cm : Bool} {CX : CXT} {P : Program} {w : World} {K : PySem.W.Frag} {mg : Str -> Option Value} {base : Heap} {k : Nat} {f : Addr} {name qual : Str} {params : Arguments} {body : List Stmt} {scope : Scope} {dV kV doc pm cdv ct oc : Value} {an od : Option Addr}
   {osl : Array (Option Value)} {N ps : List Str} {sp : Sp} (lk : K.lookup f = some ⟨oc, od, .func (PySem.W.fnOf name qual params body scope dV kV doc pm an cdv ct), osl⟩) (hcd : PySem.W.codeIn K cdv qual = true) (S : FnScope N ps scope)
   (len : ∀ vs H Q E, sp vs H Q E -> vs.length = ps.length) (hcm : cm = true -> 50 <= k + 1)
   (hbody : ∀ (A : Around) (outer : List Env) (s : Shared) (H : Hp) (vs : List V) (Q : VK) (E : XK), Room k (A.deeper (envOfC qual scope s.heap.objs.size f cdv)) -> sp vs H Q E ->
     ∃ t, PSs (cxOf cm CX P w K mg base N qual scope f cdv A outer s H E) body t /\ t { nx := fun _ H' => Q .non H', rt := Q } (start N vs) H) :
   FnOk P w K mg base CX (k + 1) f (PySem.W.fnOf name qual params body scope dV kV doc pm an cdv ct) ps sp := by
 refine ⟨len, fun A outer s H args us vs Q E hr e0 hb r hsp => ?_⟩
 have hl := len _ _ _ _ hsp
 have KX : K.In s.heap := e0.mod.kin.keeps fun b o e => (e0.bs b o e).1
 have lim : s.heap.NoLimit := e0.mod.nolimit.keeps fun b o e => (e0.bs b o e).1
 have hkind : ∀ y ∈ ps.zip us, scope.names.lookup y.1 = some .local \/ (scope.names.lookup y.1 = some .cell /\ ((cellsFrom (s.heap.objs.size + 1) scope.names []).lookup y.1).isSome = true) := fun ⟨n, v⟩ hy => by
   rcases S.par n (List.of_mem_zip hy).1 with q | q
   . exact .inl q
   . exact .inr ⟨q, PySem.W.cellsFrom_some _ _ _ (.inl q)⟩
 refine codeAny_call_function hr.depth (KX _ _ lk) rfl S.co S.gen rfl (PySem.W.codeRec_of KX hcd) (hb _ _ _ _ ?_)
 refine wpAny_newFunctionEnv_cells S.kind hkind fun env he s1 x => ?_
 subst he
 refine ⟨lim.keeps x.toInCall.keep, codeAny_func ?_⟩
 obtain ⟨t, ht, hq⟩ := hbody A outer s H vs Q E (hr.deeper _) hsp
 have I : Inv (cxOf cm CX P w K mg base N qual scope f cdv A outer s H E) [] (start N vs) H s1 := inv_start S (fun z => hr.hd (hcm z)) e0 hl r x
 refine wpAny_mono (ht [] s1 (start N vs) H _ I hq) (fun fl s' hs => ?_) fun e s' hs => hs
 have fin : ∀ {σ' : St} {H' : Hp} {v : V} {u : Value}, Inv (cxOf cm CX P w K mg base N qual scope f cdv A outer s H E) [] σ' H' s' -> RelV v u -> Q v H' -> CE outer P w H s Q u s' :=
   fun {σ' H' v u} J rv q => ⟨v, H', J.os, J.bare, J.base, J.hok, rv, q⟩
 cases fl with
 | ret u =>
   obtain ⟨v, σ', H', J, rv, q⟩ := hs
   exact fin J rv q
 | next =>
   obtain ⟨σ', H', J, q⟩ := hs
   exact fin (v := V.non) (u := Value.none) J rfl q
 | brk =>
   obtain ⟨_, _, _, q⟩ := hs
   exact False.elim q
 | cont =>
   obtain ⟨_, _, _, q⟩ := hs
   exact False.elim q
section
variable {X : Cx} {x : Str} {p pos : Pos} {e : Expr} {es : List Expr} {t : TA} {id T : String} {r : List V -> Hp -> VK -> Prop}
def tCB (r : List V -> Hp -> VK -> Prop) (t : TA) : TE := fun σ H Q => t σ H fun vs H1 => r vs H1 Q
theorem zKx (hc : CallR X (.builtin id) r) (hg : Gl X x) (hm : X.mg x = none) (hv : bootBuiltins x = some (.builtin id)) (ha : PA X (e :: es) t) (hn : x ≠ "__name__" := by decide) (hdb : (x == ("__debug__" : Str)) = false := by decide)
   (he : starEach (e :: es) X.env = (false, eval e X.env) :: starEach es X.env := by exact zQq rfl) (hpl : (backTo pos (starEach es X.env)).any (·.1) = false := by exact zQx rfl) : PE X (.Call (.Name x p) (e :: es) [] pos) (tCB r t) := by
 intro pins s σ H Q I h
 refine wpAny_Call_Name_kw (ld_blt I hg hm hv ?_ hn hdb)
 exact PyProof.Rows.callWith_builtin1 (thn (ha pos pins s σ H _ I h) fun us s1 ⟨vs, H1, I1, r1, q1⟩ => hc pins s1 σ H1 vs us Q I1 r1 q1) he hpl
theorem yKk (hc : CallR X (.type T) r) (hg : Gl X x) (hm : X.mg x = none) (hv : bootBuiltins x = some (.type T)) (ha : PA X (e :: es) t) (hn : x ≠ "__name__" := by decide) (hdb : (x == ("__debug__" : Str)) = false := by decide)
   (he : starEach (e :: es) X.env = (false, eval e X.env) :: starEach es X.env := by exact zQq rfl) (hpl : (backTo pos (starEach es X.env)).any (·.1) = false := by exact zQx rfl) : PE X (.Call (.Name x p) (e :: es) [] pos) (tCB r t) := by
 intro pins s σ H Q I h
 refine wpAny_Call_Name_kw (ld_blt I hg hm hv ?_ hn hdb)
 exact PyProof.Rows.callWith_type1 (thn (ha pos pins s σ H _ I h) fun us s1 ⟨vs, H1, I1, r1, q1⟩ => hc pins s1 σ H1 vs us Q I1 r1 q1) he hpl
end
end L2
namespace HT
open PySem PyProof.Rows
section
open PySem.SeqAt
open PySem.AutoSeq1 (wpAny_loadPart')
open PySem.MeetsSeq PySem.MeetsSeq2 PySem.MeetsSeq3
end
section
variable {prog : Program} {w : World} {A : Around} {E : Value -> Shared -> Prop} {s : Shared}
def sIx (n d : Nat) : Option Int -> Nat
 | none => d
 | some v => if v < 0 then (v + (n : Int)).toNat else min v.toNat n
theorem sIx_none (n d : Nat) : sIx n d none = d := rfl
theorem sIx_nat (n d k : Nat) : sIx n d (some (k : Int)) = min k n := by
 show (if (k : Int) < 0 then ((k : Int) + (n : Int)).toNat else min (k : Int).toNat n) = min k n
 rw [if_neg (by omega), Int.toNat_natCast]
end
end HT
namespace L2
open PySem PySem.Spec PyProof.Rows
abbrev TO := St -> Hp -> (Option Int -> Hp -> Prop) -> Prop
def PO (X : Cx) (e : Option Expr) (t : TO) : Prop :=
 ∀ (pins : List (Addr × Obj)) (s : Shared) (σ : St) (H : Hp) (Q : Option Int -> Hp -> Prop), Inv X pins σ H s -> t σ H Q ->
   wpAny (model X.prog X.w) X.A (evalPart e X.env) (fun u s' => ∃ o H', Inv X pins σ H' s' /\ IsPart u o /\ Q o H') X.xe s
def tNoPart : TO := fun _ H Q => Q none H
def tPart (t : TE) : TO := fun σ H Q => t σ H fun x H1 => ∃ i, x = .int i /\ Q (some i) H1
section
variable {X : Cx} {e : Expr} {te : TE} {lo hi : Option Expr} {tl th : TO} {pos p2 : Pos}
theorem po_none : PO X none tNoPart := by
 intro pins s σ H Q I h
 rw [evalPart_none]
 exact wpAny_pure ⟨none, H, I, .none, h⟩
theorem po_some (h : PE X e te) : PO X (some e) (tPart te) := by
 intro pins s σ H Q I hw
 rw [evalPart_some]
 refine thn (h pins s σ H _ I hw) fun u s1 ⟨x, H1, I1, r1, q1⟩ => ?_
 obtain ⟨i, rfl, q⟩ := q1
 obtain ⟨t, rfl⟩ := r1
 exact ⟨some i, H1, I1, .int i t, q⟩
def SlR (X : Cx) (r : V -> Option Int -> Option Int -> Hp -> VK -> Prop) : Prop :=
 ∀ (pins : List (Addr × Obj)) (s : Shared) (σ : St) (H : Hp) (x : V) (v vl vu : Value) (lo hi : Option Int) (sl : Addr) (Q : VK), Inv X pins σ H s -> RelV x v -> s.heap.IsSliceOf sl vl vu .none -> IsPart vl lo -> IsPart vu hi -> r x lo hi H Q ->
   ∃ T id, typeLookup (.type T) "__getitem__" = pure (some (.builtin id)) /\ s.TypeIs v T /\ wpAny (model X.prog X.w) X.A (getItem v (.ref sl)) (EP X pins σ Q) X.xe s
def tSl (r : V -> Option Int -> Option Int -> Hp -> VK -> Prop) (te : TE) (tl th : TO) : TE := fun σ H Q => te σ H fun x H1 => tl σ H1 fun l H2 => th σ H2 fun u H3 => r x l u H3 Q
theorem wZq {r : V -> Option Int -> Option Int -> Hp -> VK -> Prop} (hr : SlR X r) (he : PE X e te) (hl : PO X lo tl) (hu : PO X hi th) : PE X (.Subscript e (.Slice lo hi none p2) pos) (tSl r te tl th) := by
 intro pins s σ H Q I h
 refine Subscript_ (thn (he pins s σ H _ I h) fun v s1 ⟨x, H1, I1, r1, q1⟩ => ?_)
 refine wpAny_Slice (thn (hl pins s1 σ H1 _ I1 q1) fun vl s2 ⟨l, H2, I2, pl, q2⟩ => thn (hu pins s2 σ H2 _ I2 q2) fun vu s3 ⟨u, H3, I3, pu, q3⟩ => ?_)
 rw [evalPart_none]
 refine wpAny_pure ?_
 have I4 : Inv X pins σ H3 { s3 with heap := s3.heap.push { cls := .type "slice", data := .fields #[vl, vu, .none] } } := I3.kept (t' := s3.toks) fun b ob q => Heap.get?_push_of_some _ q
 obtain ⟨T, id, hT, ht, hg⟩ := hr pins { s3 with heap := s3.heap.push { cls := .type "slice", data := .fields #[vl, vu, .none] } } σ H3 x v vl vu l u s3.heap.objs.size Q I4 r1 (Heap.IsSliceOf.new ..) pl pu q3
 show wpAny (model X.prog X.w) X.A (subscriptTail e (.Slice lo hi none p2) v (.ref s3.heap.objs.size)) (EP X pins σ Q) X.xe { s3 with heap := s3.heap.push { cls := .type "slice", data := .fields #[vl, vu, .none] } }
 exact tail_any (ops := [.ref s3.heap.objs.size, v]) ht hT hg (by with_unfolding_all rfl)
def cutV (xs : List V) (lo hi : Option Int) : List V := (xs.drop (HT.sIx xs.length 0 lo)).take (HT.sIx xs.length xs.length hi - HT.sIx xs.length 0 lo)
theorem cutV_length (xs : List V) (lo hi : Option Int) : (cutV xs lo hi).length <= xs.length := by
 unfold cutV
 rw [List.length_take, List.length_drop]
 omega
end
def ixN (n : Nat) (i : Int) : Option Nat := if 0 <= i then (if i < n then some i.toNat else none) else if -(n : Int) <= i then some (i + n).toNat else none
def atI {α : Type} (xs : List α) (i : Int) : Option α := (ixN xs.length i).bind fun j => xs[j]?
theorem ixN_seq {n : Nat} {i : Int} {j : Nat} (h : ixN n i = some j) : seqIndex? i n = some j /\ j < n /\ -(n : Int) <= i /\ i < n := by
 unfold ixN at h
 by_cases h0 : 0 <= i
 . rw [if_pos h0] at h
   by_cases h1 : i < n
   . rw [if_pos h1] at h
     have e : i.toNat = j := Option.some.inj h
     exact ⟨by rw [seqIndex_of h0 h1, e], by omega, by omega, h1⟩
   . rw [if_neg h1] at h; cases h
 . rw [if_neg h0] at h
   by_cases h1 : -(n : Int) <= i
   . rw [if_pos h1] at h
     have e : (i + n).toNat = j := Option.some.inj h
     exact ⟨by rw [seqIndex_neg (by omega) h1, e], by omega, h1, by omega⟩
   . rw [if_neg h1] at h; cases h
theorem atI_get {α : Type} {xs : List α} {i : Int} {v : α} (h : atI xs i = some v) : ∃ j, seqIndex? i xs.length = some j /\ xs[j]? = some v /\ j < xs.length /\ -(xs.length : Int) <= i /\ i < xs.length := by
 unfold atI at h
 cases e : ixN xs.length i with
 | none => rw [e] at h; cases h
 | some j =>
   rw [e] at h
   obtain ⟨h1, h2, h3, h4⟩ := ixN_seq e
   exact ⟨j, h1, h, h2, h3, h4⟩
theorem atI_nat {α : Type} {xs : List α} {j : Nat} {v : α} (h : xs[j]? = some v) : atI xs (j : Int) = some v := by
 have hj : j < xs.length := (List.getElem?_eq_some_iff.mp h).1
 have e : ixN xs.length (j : Int) = some j := by
   unfold ixN
   rw [if_pos (by omega), if_pos (by omega)]; simp
 unfold atI; rw [e]; exact h
theorem atI_last {α : Type} (xs : List α) (v : α) : atI (xs ++ [v]) (-1) = some v := by
 have hl : (xs ++ [v]).length = xs.length + 1 := by simp
 have e : ixN (xs ++ [v]).length (-1) = some xs.length := by
   unfold ixN
   rw [hl, if_neg (by decide), if_pos (by omega)]
   congr 1
   omega
 unfold atI
 rw [e]
 show (xs ++ [v])[xs.length]? = some v
 simp
def PlainIx (b : Expr) : Prop := ∀ o i, subscripted b false o i = operate [o, i] (getItem o i)
def IxR (X : Cx) (r : R2) : Prop :=
 ∀ (value slice : Expr) (pins : List (Addr × Obj)) (s : Shared) (σ : St) (H : Hp) (x y : V) (v u : Value) (Q : VK), Inv X pins σ H s -> RelV x v -> RelV y u -> r x y H Q ->
   subscripted slice false v u = operate [v, u] (getItem v u) -> wpAny (model X.prog X.w) X.A (subscriptTail value slice v u) (EP X pins σ Q) X.xe s
def MtR (X : Cx) (id : String) (r : V -> List V -> Hp -> VK -> Prop) : Prop :=
 ∀ (pins : List (Addr × Obj)) (s : Shared) (σ : St) (H : Hp) (x : V) (xs : List V) (v : Value) (us : List Value) (Q : VK), Inv X pins σ H s -> RelV x v -> Vals xs us -> r x xs H Q ->
   wpAny (model X.prog X.w) X.A (call (.builtin id) (v :: us)) (EP X pins σ Q) X.xe s
section
variable {X : Cx} {a b : Expr} {ta tb : TE} {pos : Pos}
theorem zJw {r : R2} (hr : IxR X r) (ha : PE X a ta) (hb : PE X b tb) (hs : PlainIx b) : PE X (.Subscript a b pos) (tOp r ta tb) := by
 intro pins s σ H Q I h
 exact Subscript_ (binT ha hb I h fun v u s2 x y H2 I2 rx ry q => hr a b pins s2 σ H2 x y v u Q I2 rx ry q (hs _ _))
def rIxL (K : PySem.W.Frag) : R2 := fun x y H Q => ∃ p xs i v, x = .ref p /\ y = .int i /\ SqL K H p xs /\ atI xs i = some v /\ Q v H
def rIxT (K : PySem.W.Frag) : R2 := fun x y H Q => ∃ p xs i v, x = .ref p /\ y = .int i /\ SqT K H p xs /\ atI xs i = some v /\ Q v H
def rIxS : R2 := fun x y H Q => ∃ z i c, x = .str z /\ y = .int i /\ z.length <= sizeLine /\ atI z.cps.toList i = some c /\ Q (.str ⟨#[c]⟩) H
theorem zJx : IxR X (rIxL X.K) := by
 intro value slice pins s σ H x y v u Q I rx ry h hs
 obtain ⟨p, xs, i, z, rfl, rfl, hq, he, q⟩ := h
 cases rx
 obtain ⟨t, rfl⟩ := ry
 obtain ⟨its, r, pl, hz⟩ := I.list hq
 obtain ⟨j, h1, h2, h3, h4, h5⟩ := atI_get he
 obtain ⟨w, ew, rw'⟩ := r.get h2
 have hl := r.length
 have hn := line63
 have fin : EP X pins σ Q w s := ⟨z, H, I, rw', q⟩
 by_cases h0 : 0 <= i
 . have hj : i.toNat = j := by
     rw [seqIndex_of h0 h5] at h1
     exact Option.some.inj h1
   exact item_listR pl.isList h0 (by omega) (by rw [hj]; simpa using ew) fin hs
 . have hj : (i + (its.toArray.size : Int)).toNat = j := by
     rw [seqIndex_neg (by omega) h4] at h1
     rw [List.size_toArray, <- hl]
     exact Option.some.inj h1
   exact subscriptTail_builtinR (x := w) pl.isList.typeIs slot_list_getitem.lookup
     (wpAny_getItem_list_neg (Q := fun r s' => r = w /\ EP X pins σ Q r s') pl.isList (by omega) (by rw [List.size_toArray] <;> omega) (by omega) (by rw [hj]; simpa using ew) ⟨rfl, fin⟩) hs
theorem yQw : IxR X (rIxT X.K) := by
 intro value slice pins s σ H x y v u Q I rx ry h hs
 obtain ⟨p, xs, i, z, rfl, rfl, hq, he, q⟩ := h
 cases rx
 obtain ⟨t, rfl⟩ := ry
 obtain ⟨its, r, pl, hz⟩ := I.tuple hq
 obtain ⟨j, h1, h2, h3, h4, h5⟩ := atI_get he
 obtain ⟨w, ew, rw'⟩ := r.get h2
 have hl := r.length
 have hn := line63
 have fin : EP X pins σ Q w s := ⟨z, H, I, rw', q⟩
 exact subscriptTail_builtinR (x := w) pl.typeIs slot_tuple_getitem.lookup
   (getItem_tuple (j := j) (Q := fun r s' => r = w /\ EP X pins σ Q r s') pl (by omega) (by omega) (by rw [List.size_toArray, <- hl]; exact h1) (by simpa using ew) ⟨rfl, fin⟩) hs
theorem ix_str : IxR X rIxS := by
 intro value slice pins s σ H x y v u Q I rx ry h hs
 obtain ⟨z, i, c, rfl, rfl, hz, he, q⟩ := h
 obtain ⟨t, rfl⟩ := rx
 obtain ⟨t', rfl⟩ := ry
 obtain ⟨j, h1, h2, h3, h4, h5⟩ := atI_get he
 have hl : z.cps.toList.length = z.length := by simp [Str.length]
 rw [hl] at h1 h4 h5
 have hn := line63
 exact tail_any (typeIs_str s z t) slot_str_getitem.lookup (getItem_str (c := c) (by
   have e1 : decide (i < -(2 ^ 63 : Int)) = false := decide_eq_false (by omega)
   have e2 : decide (i ≥ 2 ^ 63) = false := decide_eq_false (by omega)
   rw [e1, e2, Bool.or_false]) (by rw [h1]; simpa using h2) ⟨.str ⟨#[c]⟩, H, I.tok _, ⟨_, rfl⟩, q⟩) hs
theorem mapSeq_set (its : List Value) (n j : Nat) (u : Value) : Obj.mapSeq (·.setIfInBounds j u) { cls := .type "list", data := .seq its.toArray n } = { cls := .type "list", data := .seq (its.set j u).toArray n } := by
 simp [Obj.mapSeq]
theorem Inv.lst {pins : List (Addr × Obj)} {σ : St} {H : Hp} {s : Shared} {p : Addr} {xs : List V} (I : Inv X pins σ H s) (h : H p = some (.lst xs)) :
   ∃ (its : List Value) (n : Nat), Vals xs its /\ s.heap.get? p = some { cls := .type "list", data := .seq its.toArray n } /\ xs.length <= sizeLine := by
 obtain ⟨z, its, n, r, e⟩ := I.hok p _ h
 exact ⟨its, n, r, e, z⟩
theorem Inv.lstUpd {pins : List (Addr × Obj)} {σ : St} {H : Hp} {s : Shared} {p : Addr} {xs ys : List V} {its its' : List Value} {n n' : Nat} {f : Obj -> Obj} (I : Inv X pins σ H s) (h : H p = some (.lst xs))
   (ho : s.heap.get? p = some { cls := .type "list", data := .seq its.toArray n }) (hf : f { cls := .type "list", data := .seq its.toArray n } = { cls := .type "list", data := .seq its'.toArray n' }) (r : Vals ys its') (hz : ys.length <= sizeLine) (t : Nat) :
   Inv X pins σ (upd H p (.lst ys)) { s with heap := s.heap.update p f, toks := t } := by
 have e : (s.heap.update p f).get? p = some { cls := .type "list", data := .seq its'.toArray n' } := by
   rw [Heap.get?_update_self f ho (by rw [hf] <;> rfl), hf]
 refine I.write (x := p) (e := p) (by rw [h]; trivial) (.inl rfl) (fun b u hb q => (Heap.get?_update_other _ _ (Ne.symm hb)).trans q) ⟨_, e⟩ ?_
 exact ⟨hz, its', n', r, e⟩
def rSetL : V -> V -> V -> Hp -> (Hp -> Prop) -> Prop := fun o i v H Q => ∃ p xs k j, o = .ref p /\ i = .int k /\ H p = some (.lst xs) /\ ixN xs.length k = some j /\ Q (upd H p (.lst (xs.set j v)))
theorem yKz : PSet X rSetL := by
 intro pins s σ H o i v ov iv u Q I ro ri rv h
 obtain ⟨p, xs, k, j, rfl, rfl, hp, hj, q⟩ := h
 cases ro
 obtain ⟨t, rfl⟩ := ri
 obtain ⟨its, n, r, ho, hz⟩ := I.lst hp
 obtain ⟨h1, h2, h3, h4⟩ := ixN_seq hj
 have hl := r.length
 have hn := line63
 have I' : Inv X pins σ (upd H p (.lst (xs.set j v))) { s with heap := s.heap.update p (Obj.mapSeq (·.setIfInBounds j u)) } :=
   I.lstUpd hp ho (mapSeq_set its n j u) (r.set rv j) (by rw [List.length_set]; exact hz) s.toks
 by_cases h0 : 0 <= k
 . have hk : k.toNat = j := by
     rw [seqIndex_of h0 h4] at h1
     exact Option.some.inj h1
   exact PySem.W.ki_setAt ho h0 (by omega) (by rw [List.size_toArray, <- hl]; exact h4) (by rw [hk]; exact ⟨_, I', q⟩)
 . have hk : (k + (its.toArray.size : Int)).toNat = j := by
     rw [seqIndex_neg (by omega) h3] at h1
     rw [List.size_toArray, <- hl]
     exact Option.some.inj h1
   exact PySem.W.ki_setBack ho (by omega) (by rw [List.size_toArray, <- hl]; exact h3) (by omega) (by rw [hk]; exact ⟨_, I', q⟩)
theorem slice_bounds (lo hi : Option Int) (n : Nat) : (sliceBounds lo hi none n).1 = ((HT.sIx n 0 lo : Nat) : Int) /\ (sliceBounds lo hi none n).2.1 = ((HT.sIx n n hi : Nat) : Int) /\ (sliceBounds lo hi none n).2.2 = 1 := by
 refine ⟨?_, ?_, rfl⟩
 . cases lo with
   | none => simp [sliceBounds, HT.sIx]
   | some i =>
     simp only [sliceBounds, HT.sIx, Option.getD_none, show (1 : Int) > 0 by decide, if_true]
     by_cases h : i < 0
     . simp only [h, if_true] <;> omega
     . simp only [h, if_false] <;> omega
 . cases hi with
   | none => simp [sliceBounds, HT.sIx]
   | some i =>
     simp only [sliceBounds, HT.sIx, Option.getD_none, show (1 : Int) > 0 by decide, if_true]
     by_cases h : i < 0
     . simp only [h, if_true] <;> omega
     . simp only [h, if_false] <;> omega
theorem wWk (its : List Value) (lo hi : Option Int) : slicePick its.toArray lo hi none = ((its.drop (HT.sIx its.length 0 lo)).take (HT.sIx its.length its.length hi - HT.sIx its.length 0 lo)).toArray := by
 obtain ⟨h1, h2, h3⟩ := slice_bounds lo hi its.toArray.size
 unfold slicePick
 rw [h1, h2, h3]
 simp only [sliceRange_one, pick_run, List.size_toArray] <;> rfl
def rSlL (K : PySem.W.Frag) : V -> Option Int -> Option Int -> Hp -> VK -> Prop := fun x lo hi H Q => ∃ a xs, x = .ref a /\ SqL K H a xs /\ ∀ p, H p = none -> Q (.ref p) (upd H p (.lst (cutV xs lo hi)))
theorem sl_list : SlR X (rSlL X.K) := by
 intro pins s σ H x v vl vu lo hi sl Q I rx hs pl pu h
 obtain ⟨a, xs, rfl, hx, q⟩ := h
 cases rx
 obtain ⟨its, r, ht, hz⟩ := I.list hx
 have hlen := r.length
 refine ⟨"list", _, slot_list_getitem.lookup, ht.isList.typeIs, ?_⟩
 refine wpAny_getItem_list_slice ht.isList hs pl pu .none (by simp) ?_ (by rw [List.size_toArray] <;> omega)
 rw [wWk, <- hlen]
 refine ⟨.ref s.heap.objs.size, _, I.laid (t' := s.toks) (o := .lst (cutV xs lo hi)) (fun b ob q => Heap.get?_push_of_some _ q) (Nat.le_refl _) ?_, rfl, q _ (I.hok.fresh (Nat.le_refl _))⟩
 exact ⟨Nat.le_trans (cutV_length xs lo hi) hz, _, 0, (r.drop (HT.sIx xs.length 0 lo)).take (HT.sIx xs.length xs.length hi - HT.sIx xs.length 0 lo), Heap.get?_push_size _ rfl⟩
def flatV : V -> Bool
 | .non => true
 | .bl _ => true
 | .int _ => true
 | .str _ => true
 | _ => false
def eqV : V -> V -> Bool
 | .non, .non => true
 | .bl a, .bl b => a == b
 | .bl a, .int b => (if a then 1 else 0) == b
 | .int a, .bl b => a == (if b then 1 else 0)
 | .int a, .int b => a == b
 | .str a, .str b => a == b
 | _, _ => false
theorem eqAt_V {A : Around} {s : Shared} {y x : V} {u v : Value} (ry : RelV y u) (rx : RelV x v) (fy : flatV y = true) (fx : flatV x = true) : SeqAt.EqAt A s u v (eqV y x) := by
 cases y with
 | non =>
   cases ry
   cases x with
   | non => cases rx; exact SeqAt.EqAt.same _
   | bl b => cases rx; exact SeqAt.EqAt.none_bool b
   | int b => obtain ⟨t, rfl⟩ := rx; exact SeqAt.EqAt.none_int b t
   | str b => obtain ⟨t, rfl⟩ := rx; exact SeqAt.EqAt.none_str b t
   | _ => exact absurd (show false = true from fx) Bool.false_ne_true
 | bl a =>
   cases ry
   cases x with
   | non => cases rx; exact SeqAt.EqAt.bool_none a
   | bl b => cases rx; exact SeqAt.EqAt.bool_bool a b
   | int b => obtain ⟨t, rfl⟩ := rx; exact SeqAt.EqAt.bool_int a b t
   | str b => obtain ⟨t, rfl⟩ := rx; exact SeqAt.EqAt.bool_str a b t
   | _ => exact absurd (show false = true from fx) Bool.false_ne_true
 | int a =>
   obtain ⟨t', rfl⟩ := ry
   cases x with
   | non => cases rx; exact SeqAt.EqAt.int_none a t'
   | bl b => cases rx; exact SeqAt.EqAt.int_bool a t' b
   | int b => obtain ⟨t, rfl⟩ := rx; exact SeqAt.EqAt.int_int a t' b t
   | str b => obtain ⟨t, rfl⟩ := rx; exact SeqAt.EqAt.int_str a t' b t
   | _ => exact absurd (show false = true from fx) Bool.false_ne_true
 | str a =>
   obtain ⟨t', rfl⟩ := ry
   cases x with
   | non => cases rx; exact SeqAt.EqAt.str_none a t'
   | bl b => cases rx; exact SeqAt.EqAt.str_bool a t' b
   | int b => obtain ⟨t, rfl⟩ := rx; exact SeqAt.EqAt.str_int a t' b t
   | str b => obtain ⟨t, rfl⟩ := rx; exact SeqAt.EqAt.str_str a t' b t
   | _ => exact absurd (show false = true from fx) Bool.false_ne_true
 | _ => exact absurd (show false = true from fy) Bool.false_ne_true
theorem yQx : CallR X (.builtin "len") (fun xs H Q => ∃ p ys, xs = [.ref p] /\ (SqL X.K H p ys \/ SqT X.K H p ys) /\ Q (.int ys.length) H) := by
 intro pins s σ H xs us Q I r h
 obtain ⟨p, ys, rfl, hq, q⟩ := h
 obtain ⟨u, rfl, rx⟩ := vals1 r
 cases rx
 have hn := line63
 rcases hq with hq | hq
 . obtain ⟨its, r', pl, hz⟩ := I.list hq
   have hlen := r'.length
   exact Calls.call_len_list pl.isList (by simp only [List.size_toArray] <;> omega) ⟨.int ys.length, H, I.tok _, ⟨s.toks + 1, by rw [List.size_toArray, hlen]⟩, q⟩
 . obtain ⟨its, r', pl, hz⟩ := I.tuple hq
   have hlen := r'.length
   exact len_tuple pl (by simp only [List.size_toArray] <;> omega) ⟨.int ys.length, H, I.tok _, ⟨s.toks + 1, by rw [List.size_toArray, hlen]⟩, q⟩
theorem xWw : CallR X (.builtin "len") (fun xs H Q => ∃ z, xs = [.str z] /\ z.length <= sizeLine /\ Q (.int z.length) H) := by
 intro pins s σ H xs us Q I r h
 obtain ⟨z, rfl, hz, q⟩ := h
 obtain ⟨u, rfl, t, rfl⟩ := vals1 r
 have hn := line63
 exact len_str (by omega) ⟨.int z.length, H, I.tok _, ⟨_, rfl⟩, q⟩
def tyV (K : PySem.W.Frag) (T : String) (x : V) (H : Hp) : Prop := match x with
 | .str _ => T = "str"
 | .int _ => T = "int"
 | .ref p => (T = "list" /\ ∃ xs, SqL K H p xs) \/ (T = "tuple" /\ ∃ o, K.lookup p = some o /\ o.cls = .type "tuple" /\ o.dict = none) \/
     (T = "dict" /\ ((∃ kvs, H p = some (.dK kvs)) \/ ∃ kvs, H p = some (.dT kvs))) \/ (T = "set" /\ ∃ S n, H p = some (.set S n))
 | _ => False
theorem tyV_is {pins : List (Addr × Obj)} {σ : St} {H : Hp} {s : Shared} {T : String} {x : V} {v : Value} (I : Inv X pins σ H s) (r : RelV x v) (ty : tyV X.K T x H) :
   s.TypeIs v T /\ ∀ a, v = .ref a -> ∃ ob, s.heap.get? a = some ob /\ ob.dict = none := by
 cases x with
 | str z =>
   obtain ⟨t, rfl⟩ := r
   cases (show T = "str" from ty)
   exact ⟨typeIs_str s z t, fun _ e => nomatch e⟩
 | int i =>
   obtain ⟨t, rfl⟩ := r
   cases (show T = "int" from ty)
   exact ⟨typeIs_int s i t, fun _ e => nomatch e⟩
 | ref p =>
   cases r
   rcases ty with ⟨rfl, xs, hq⟩ | ⟨rfl, o, hk, hc, hd⟩ | ⟨rfl, hk⟩ | ⟨rfl, S, n, hk⟩
   . obtain ⟨its, _, pl, _⟩ := I.list hq
     refine ⟨pl.isList.typeIs, fun a e => ?_⟩
     cases e
     obtain ⟨o, n, e, c, hd, _⟩ := pl
     exact ⟨o, e, hd⟩
   . refine ⟨⟨o, I.kIn p o hk, hc⟩, fun a e => ?_⟩
     cases e
     exact ⟨o, I.kIn _ o hk, hd⟩
   . have z : ∃ o, s.heap.get? p = some o /\ o.ExactDict := by
       rcases hk with ⟨kvs, hk⟩ | ⟨kvs, hk⟩
       . obtain ⟨_, _, _, _, o, _, _, e, ex, _⟩ := I.hok p _ hk
         exact ⟨o, e, ex⟩
       . obtain ⟨_, _, _, _, o, _, _, e, ex, _⟩ := I.hok p _ hk
         exact ⟨o, e, ex⟩
     obtain ⟨o, e, ex⟩ := z
     refine ⟨⟨o, e, ex.1⟩, fun a e2 => ?_⟩
     cases e2
     exact ⟨o, e, ex.2.1⟩
   . obtain ⟨o, _, _, _, e, ex, _⟩ := I.hok p _ hk
     refine ⟨⟨o, e, ex.1⟩, fun a e2 => ?_⟩
     cases e2
     exact ⟨o, e, ex.2.1⟩
 | _ => exact False.elim ty
def tBM (K : PySem.W.Frag) (T : String) (r : V -> List V -> Hp -> VK -> Prop) (to : TE) (t : TA) : TE := fun σ H Q => to σ H fun x H1 => tyV K T x H1 /\ t σ H1 fun xs H2 => r x xs H2 Q
variable {o e : Expr} {es : List Expr} {to : TE} {t : TA} {name : Str} {apos cpos : Pos} {T id : String} {r : V -> List V -> Hp -> VK -> Prop}
theorem pe_bm (pa : PlainAttrs T) (slot : Slot T name id) (hty : typeOf (.builtin id) = pure (.type "method_descriptor")) (hm : MtR X id r) (ho : PE X o to) (ha : PA X (e :: es) t)
   (hbase : attributeBase o name X.env (eval o X.env) = eval o X.env := by rfl)
   (hfew : ((backTo cpos (starEach (e :: es) X.env)).all (fun x => !x.1) && (backToKw cpos (keywordEach [] X.env)).all (fun x => x.1.isSome)
     && decide ((e :: es).length + ([] : List Keyword).length + (if ([] : List Keyword).isEmpty then 0 else 1) < 30)) = true := by rfl)
   (hline : (apos.endLine == cpos.line) = true := by rfl) (hs : starEach (e :: es) X.env = (false, eval e X.env) :: starEach es X.env := by exact zQq rfl) (hplain : (backTo cpos (starEach es X.env)).any (·.1) = false := by exact zQx rfl) :
   PE X (.Call (.Attribute o name apos) (e :: es) [] cpos) (tBM X.K T r to t) := by
 intro pins s σ H Q I h
 refine wpAny_Call_method_late hbase hfew hline rfl (thn (ho pins s σ H _ I h) fun v s1 ⟨x, H1, I1, r1, ty, q1⟩ => ?_)
 obtain ⟨h1, h2⟩ := tyV_is I1 r1 ty
 refine ⟨T, id, pa, slot, hty, h1, h2, ?_⟩
 have hA := ha cpos pins s1 σ H1 _ I1 q1
 rw [hs] at hA ⊢
 refine Calls.callWith_builtin (by show (false || (backTo cpos (starEach es X.env)).any (·.1)) = false; rw [hplain] <;> rfl) (Calls.evalArgs_plain ?_)
 exact thn hA fun us s2 ⟨vs, H2, I2, r2, q2⟩ => hm pins s2 σ H2 x vs v us Q I2 r1 r2 q2
end
def MtM (X : Cx) (id : String) (r : V -> List V -> Hp -> VK -> Prop) : Prop :=
 ∀ (pins : List (Addr × Obj)) (s : Shared) (σ : St) (H : Hp) (x : V) (xs : List V) (v : Value) (us : List Value) (Q : VK), Inv X pins σ H s -> RelV x v -> Vals xs us -> r x xs H Q ->
   wpAny (model X.prog X.w) X.A (call (.builtin id) (v :: us)) (EP X pins σ Q) X.xe s
theorem Vals.one : ∀ {x : V} {us : List Value}, Vals [x] us -> ∃ u, us = [u] /\ RelV x u
 | _, _, .cons r .nil => ⟨_, rfl, r⟩
theorem Vals.two : ∀ {x y : V} {us : List Value}, Vals [x, y] us -> ∃ u v, us = [u, v] /\ RelV x u /\ RelV y v
 | _, _, _, .cons r (.cons q .nil) => ⟨_, _, rfl, r, q⟩
theorem Vals.zero : ∀ {us : List Value}, Vals [] us -> us = []
 | _, .nil => rfl
theorem Vals.rep {xs : List V} {us : List Value} (h : Vals xs us) : ∀ k : Nat, Vals (List.replicate k xs).flatten (List.replicate k us).flatten
 | 0 => .nil
 | k + 1 => by
   rw [List.replicate_succ, List.replicate_succ, List.flatten_cons, List.flatten_cons]
   exact Vals.append h (Vals.rep h k)
theorem foldl_rep (its : List Value) : ∀ (k : Nat) (acc : List Value),
   List.foldl (fun x1 x2 => x1 ++ x2) acc.toArray (List.replicate k its.toArray) = (acc ++ (List.replicate k its).flatten).toArray
 | 0, acc => by simp
 | k + 1, acc => by
   have e : acc.toArray ++ its.toArray = (acc ++ its).toArray := by simp
   have e2 : (acc ++ its) ++ (List.replicate k its).flatten = acc ++ (List.replicate (k + 1) its).flatten := by
     rw [List.replicate_succ, List.flatten_cons, List.append_assoc]
   rw [<- e2, <- foldl_rep its k (acc ++ its), <- e, List.replicate_succ, List.foldl_cons]
section
variable {X : Cx} {pins : List (Addr × Obj)} {σ : St} {H : Hp} {s : Shared} {l b : Addr} {xs ys zs : List V}
theorem Inv.lset {its its' : List Value} {n : Nat} {f : Array Value -> Array Value} {t' : Nat} (I : Inv X pins σ H s) (hH : H l = some (.lst xs))
   (e : s.heap.get? l = some { cls := .type "list", data := .seq its.toArray n }) (hf : f its.toArray = its'.toArray) (hv : Vals ys its') (hz : ys.length <= sizeLine) :
   Inv X pins σ (upd H l (.lst ys)) { s with heap := s.heap.update l (Obj.mapSeq f), toks := t' } := by
 have q := PySem.IsL.update e f
 rw [hf] at q
 refine I.write (x := l) (e := l) (by rw [hH]; exact trivial) (.inl rfl) (fun b' u hb hu => (Heap.get?_update_other s.heap (Obj.mapSeq f) (Ne.symm hb)).trans hu) ⟨_, q⟩ ?_
 exact ⟨hz, its', _, hv, q⟩
theorem Inv.lnew {its : List Value} {t' : Nat} (I : Inv X pins σ H s) (hv : Vals ys its) (hz : ys.length <= sizeLine) :
   Inv X pins σ (upd H s.heap.objs.size (.lst ys)) { s with heap := s.heap.push { cls := .type "list", data := .seq its.toArray }, toks := t' } :=
 I.laid (fun _ _ q => Heap.get?_push_of_some _ q) (Nat.le_refl _) ⟨hz, its, 0, hv, Heap.get?_push_size _ rfl⟩
theorem Inv.fresh (I : Inv X pins σ H s) : H s.heap.objs.size = none := I.hok.fresh (Nat.le_refl _)
theorem Inv.lstM (I : Inv X pins σ H s) (hH : H l = some (.lst xs)) : xs.length <= sizeLine /\ ∃ (its : List Value) (n : Nat), Vals xs its /\ xs.length = its.length /\ s.heap.get? l = some { cls := .type "list", data := .seq its.toArray n } := by
 obtain ⟨z, its, n, r, e⟩ := I.hok l _ hH
 exact ⟨z, its, n, r, r.length, e⟩
theorem notLongL {n : Nat} (h : n <= sizeLine) : Builtin.List.listTooLong n = false := by
 unfold Builtin.List.listTooLong
 exact decide_eq_false (by omega)
end
section
variable {X : Cx}
def rAppend : V -> List V -> Hp -> VK -> Prop := fun x vs H Q => ∃ l xs y, x = .ref l /\ vs = [y] /\ H l = some (.lst xs) /\ xs.length < sizeLine /\ Q .non (upd H l (.lst (xs ++ [y])))
theorem yJj : MtM X "list.append" rAppend := by
 intro pins s σ H x vs v us Q I rx rv h
 obtain ⟨l, xs, y, rfl, rfl, hH, hz, q⟩ := h
 cases rx
 obtain ⟨u, rfl, ru⟩ := rv.one
 obtain ⟨z, its, n, r, hl, e⟩ := I.lstM hH
 refine call_meets F.slot_list_append ⟨_, e, rfl⟩ F.entry_list_append (F.args_list_append_2 _ _) (PySem.list_append l its.toArray n u (by rw [List.size_toArray]; omega)) ⟨e, ?_⟩
 refine ⟨.non, _, I.lset (its' := its ++ [u]) hH e (by simp) (r.append (.cons ru .nil)) ?_, rfl, q⟩
 rw [List.length_append, List.length_singleton]
 omega
def rExtend : V -> List V -> Hp -> VK -> Prop := fun x vs H Q => ∃ l b xs zs, x = .ref l /\ vs = [.ref b] /\ H l = some (.lst xs) /\ H b = some (.lst zs) /\ xs.length + zs.length <= sizeLine /\ Q .non (upd H l (.lst (xs ++ zs)))
theorem mt_extend : MtM X "list.extend" rExtend := by
 intro pins s σ H x vs v us Q I rx rv h
 obtain ⟨l, b, xs, zs, rfl, rfl, hH, hB, hz, q⟩ := h
 cases rx
 obtain ⟨u, rfl, ru⟩ := rv.one
 cases ru
 obtain ⟨z, its, n, r, hl, e⟩ := I.lstM hH
 obtain ⟨z2, its2, n2, r2, hl2, e2⟩ := I.lstM hB
 have hsz : its.toArray.size + its2.toArray.size <= sizeLine := by rw [List.size_toArray, List.size_toArray]; omega
 have hlong : ¬ (!its.toArray.isEmpty && Builtin.List.listTooLong (its.toArray.size + its2.toArray.size)) = true := by
   rw [notLongL hsz, Bool.and_false]
   exact Bool.false_ne_true
 refine call_meets F.slot_list_extend ⟨_, e, rfl⟩ F.entry_list_extend (F.args_list_extend_2 _ _)
   (AutoSeq1.list_extend_list_list_0 l its.toArray n b its2.toArray n2 hlong (by rw [List.size_toArray]; omega) (by omega)) ⟨e, e2, ?_⟩
 refine ⟨.non, _, I.lset (its' := its ++ its2) hH e (by simp) (r.append r2) ?_, rfl, q⟩
 rw [List.length_append]
 omega
def rCat : R2 := fun x y H Q => ∃ l b xs zs, x = .ref l /\ y = .ref b /\ H l = some (.lst xs) /\ H b = some (.lst zs) /\ xs.length + zs.length <= sizeLine /\ ∀ p, H p = none -> Q (.ref p) (upd H p (.lst (xs ++ zs)))
theorem yJx : OpR X (binaryOp .Add) rCat := by
 intro pins s σ H x y v u Q I rx ry h
 obtain ⟨l, b, xs, zs, rfl, rfl, hH, hB, hz, q⟩ := h
 cases rx
 cases ry
 obtain ⟨z, its, n, r, hl, e⟩ := I.lstM hH
 obtain ⟨z2, its2, n2, r2, hl2, e2⟩ := I.lstM hB
 refine PySem.P.add_list e e2 ?_ (by rw [List.size_toArray, List.size_toArray]; omega)
 have ea : its.toArray ++ its2.toArray = (its ++ its2).toArray := by simp
 rw [ea]
 exact ⟨.ref _, _, I.lnew (t' := s.toks) (r.append r2) (by rw [List.length_append]; omega), rfl, q _ I.fresh⟩
def rRep : R2 := fun x y H Q => ∃ l k xs, x = .ref l /\ y = .int k /\ H l = some (.lst xs) /\ -(2 ^ 63) <= k /\ k < 2 ^ 63 /\ xs.length * k.toNat <= sizeLine /\
 ∀ p, H p = none -> Q (.ref p) (upd H p (.lst (List.replicate k.toNat xs).flatten))
theorem len_rep {α : Type} (xs : List α) (k : Nat) : (List.replicate k xs).flatten.length = k * xs.length := by
 induction k with
 | zero => simp
 | succ k ih => rw [List.replicate_succ, List.flatten_cons, List.length_append, ih, Nat.succ_mul, Nat.add_comm]
theorem op_rep : OpR X (binaryOp .Mult) rRep := by
 intro pins s σ H x y v u Q I rx ry h
 obtain ⟨l, k, xs, rfl, rfl, hH, h1, h2, hz, q⟩ := h
 cases rx
 obtain ⟨t, rfl⟩ := ry
 obtain ⟨z, its, n, r, hl, e⟩ := I.lstM hH
 have hlen : its.toArray.size * k.toNat <= sizeLine := by rw [List.size_toArray, <- hl]; exact hz
 have hcap : ¬ its.toArray.size * k.toNat > (2 ^ 63 - 1) / 8 := by
   have : (sizeLine : Nat) <= (2 ^ 63 - 1) / 8 := by decide
   omega
 have hfit : ¬ (!Builtin.List.listFitsIndex k) = true := by
   rw [fitsIndex_both h1 h2]
   exact Bool.false_ne_true
 have hlong : ¬ Builtin.List.listTooLong (its.toArray.size * k.toNat) = true := by
   rw [notLongL hlen]
   exact Bool.false_ne_true
 have hnew : List.foldl (fun x1 x2 => x1 ++ x2) #[] (List.replicate (if its.toArray.isEmpty = true then 0 else k.toNat) its.toArray) = (List.replicate k.toNat its).flatten.toArray := by
   have f0 : ∀ m : Nat, List.foldl (fun x1 x2 => x1 ++ x2) #[] (List.replicate m its.toArray) = (List.replicate m its).flatten.toArray := fun m => by
     have := foldl_rep its m []
     rw [List.nil_append] at this
     exact this
   rw [f0]
   cases its with
   | nil => simp
   | cons a r' => rw [if_neg (by simp)]
 refine wpAny_binaryOp_repeat_ref (T := "list") (U := "int") (by decide) ⟨_, e, rfl⟩ (fun s' => typeIs_int s' k t) noFill_list_mul F.fills_int_mul F.slot_int_rmul repeat_list F.slot_int_index.lookup
   (call_meets F.slot_int_rmul (typeIs_int s k t) F.entry_int_rmul (F.args_int_rmul_2 _ _) (int___rmul___int_list k t l its.toArray n)
     ⟨e, rfl, ⟨_, e, rfl⟩, call_meets F.slot_list_mul ⟨_, e, rfl⟩ F.entry_list_mul (F.args_list_mul_2 _ _) (AutoListH.list___mul___list_int_3 l its.toArray n k t hfit hcap hlong) ⟨e, ?_⟩⟩)
 rw [hnew]
 exact ⟨.ref _, _, I.lnew (t' := s.toks) (r.rep k.toNat) (by rw [len_rep, Nat.mul_comm]; exact hz), rfl, q _ I.fresh⟩
end
section
variable {prog : Program} {w : World} {A : Around} {E : Value -> Shared -> Prop} {s : Shared}
end
section
variable {X : Cx}
end
section
variable {κ : Type} [DecidableEq κ]
def valV (kvs : List (κ × V)) (k : κ) : Option V := (kvs.find? fun kv => decide (kv.1 = k)).map (·.2)
def putK (kvs : List (κ × V)) (k : κ) (v : V) : List (κ × V) :=
 if (kvs.any fun kv => decide (kv.1 = k)) = true then kvs.map (fun kv => if kv.1 = k then (kv.1, v) else kv) else kvs ++ [(k, v)]
def dropK (kvs : List (κ × V)) (k : κ) : List (κ × V) := kvs.filter fun kv => decide (kv.1 ≠ k)
theorem wWx {p : κ × V} {r : List (κ × V)} {k : κ} (e : p.1 = k) : valV (p :: r) k = some p.2 := by simp [valV, List.find?_cons, e]
theorem wWz {p : κ × V} {r : List (κ × V)} {k : κ} (e : ¬ p.1 = k) : valV (p :: r) k = valV r k := by simp [valV, List.find?_cons, e]
theorem valV_any (k : κ) : ∀ kvs : List (κ × V), (kvs.any fun kv => decide (kv.1 = k)) = (valV kvs k).isSome
 | [] => rfl
 | p :: r => by
   rw [List.any_cons]
   by_cases e : p.1 = k
   . simp only [wWx e, decide_eq_true e, Bool.true_or, Option.isSome_some]
   . rw [wWz e, decide_eq_false e, Bool.false_or]; exact valV_any k r
theorem RelO.isSome_eq {o : Option V} {u : Option Value} (r : RelO o u) : o.isSome = u.isSome := by
 cases o with
 | none => cases u with
   | none => rfl
   | some _ => exact (show False from r).elim
 | some _ => cases u with
   | none => exact (show False from r).elim
   | some _ => rfl
theorem RelO.getD {o : Option V} {u : Option Value} {d : V} {d' : Value} (r : RelO o u) (rd : RelV d d') : RelV (o.getD d) (u.getD d') := by
 cases o with
 | none => cases u with
   | none => exact rd
   | some _ => exact (show False from r).elim
 | some _ => cases u with
   | none => exact (show False from r).elim
   | some _ => exact r
theorem KV.val {kvs : List (κ × V)} {vs : List (κ × Value)} (r : KV kvs vs) (k : κ) : RelO (valV kvs k) (valueAt vs k) := by
 unfold KV at r
 induction r with
 | nil => exact True.intro
 | @cons p q ps qs h t ih =>
   obtain ⟨h1, h2⟩ := h
   by_cases e : p.1 = k
   . have e' : q.1 = k := h1.symm.trans e
     have b : valueAt (q :: qs) k = some q.2 := by simp [valueAt, List.find?_cons, e']
     rw [wWx e, b]; exact h2
   . have e' : ¬ q.1 = k := fun z => e (h1.trans z)
     have b : valueAt (q :: qs) k = valueAt qs k := by simp [valueAt, List.find?_cons, e']
     rw [wWz e, b]; exact ih
theorem KV.any {kvs : List (κ × V)} {vs : List (κ × Value)} (r : KV kvs vs) (k : κ) : (kvs.any fun kv => decide (kv.1 = k)) = vs.any fun kv => decide (kv.1 = k) := by
 unfold KV at r
 induction r with
 | nil => rfl
 | cons h t ih => rw [List.any_cons, List.any_cons, ih, h.1]
theorem KV.repl {kvs : List (κ × V)} {vs : List (κ × Value)} (r : KV kvs vs) (k : κ) {y : V} {u : Value} (ry : RelV y u) :
   KV (kvs.map fun kv => if kv.1 = k then (kv.1, y) else kv) (vs.map fun kv => if kv.1 = k then (kv.1, u) else kv) := by
 unfold KV at r ⊢
 induction r with
 | nil => exact .nil
 | @cons p q ps qs h t ih =>
   rw [List.map_cons, List.map_cons]
   refine .cons ?_ ih
   obtain ⟨h1, h2⟩ := h
   by_cases e : p.1 = k
   . rw [if_pos e, if_pos (h1.symm.trans e)]; exact ⟨h1, ry⟩
   . rw [if_neg e, if_neg (fun z => e (h1.trans z))]; exact ⟨h1, h2⟩
theorem KV.put {kvs : List (κ × V)} {vs : List (κ × Value)} (r : KV kvs vs) (k : κ) {y : V} {u : Value} (ry : RelV y u) : KV (putK kvs k y) (stored vs k u) := by
 unfold putK stored
 rw [r.any k]
 by_cases e : (vs.any fun kv => decide (kv.1 = k)) = true
 . rw [if_pos e, if_pos e]; exact r.repl k ry
 . rw [if_neg e, if_neg e]; exact Paired.snoc r ⟨rfl, ry⟩
theorem KV.drop {kvs : List (κ × V)} {vs : List (κ × Value)} (r : KV kvs vs) (k : κ) : KV (dropK kvs k) (without vs k) := by
 unfold KV at r ⊢
 unfold dropK without
 induction r with
 | nil => exact .nil
 | @cons p q ps qs h t ih =>
   obtain ⟨h1, h2⟩ := h
   rw [List.filter_cons, List.filter_cons]
   by_cases e : p.1 = k
   . have a : ¬ decide (p.1 ≠ k) = true := by simp [e]
     have b : ¬ decide (q.1 ≠ k) = true := by simp [h1.symm.trans e]
     rw [if_neg a, if_neg b]; exact ih
   . have e' : ¬ q.1 = k := fun z => e (h1.trans z)
     have a : decide (p.1 ≠ k) = true := by simp [e]
     have b : decide (q.1 ≠ k) = true := by simp [e']
     rw [if_pos a, if_pos b]; exact .cons ⟨h1, h2⟩ ih
theorem KV.keys {kvs : List (κ × V)} {vs : List (κ × Value)} (r : KV kvs vs) : kvs.map (·.1) = vs.map (·.1) := by
 unfold KV at r
 induction r with
 | nil => rfl
 | cons h t ih => rw [List.map_cons, List.map_cons, ih, h.1]
theorem KV.length {kvs : List (κ × V)} {vs : List (κ × Value)} (r : KV kvs vs) : kvs.length = vs.length := Paired.length r
end
theorem kV_is {P : Program} {w : World} {k : Key} {u : Value} (r : RelV (kV k) u) : (mixKind P w).is k u = true := by
 cases k with
 | inl i => obtain ⟨t, e⟩ := (show ∃ t, u = Value.int i t from r); subst e; exact mixKind_int P w i t
 | inr x => obtain ⟨t, e⟩ := (show ∃ t, u = Value.str x t from r); subst e; exact mixKind_str P w x t
abbrev KT (H : Hp) : List (List Key × V) -> List (List Key × Addr × Value) -> Prop := Paired fun p q => p.1 = q.1 /\ H q.2.1 = some (.tup (p.1.map kV)) /\ RelV p.2 q.2.2
theorem KT.val {H : Hp} {kvs : List (List Key × V)} {xs : List (List Key × Addr × Value)} (r : KT H kvs xs) (k : List Key) : RelO (valV kvs k) ((atKey xs k).map (·.2)) := by
 induction r with
 | nil => exact True.intro
 | @cons p q ps qs h t ih =>
   obtain ⟨h1, _, h2⟩ := h
   by_cases e : p.1 = k
   . have e' : q.1 = k := h1.symm.trans e
     have b : atKey (q :: qs) k = some q.2 := by simp [atKey, List.find?_cons, e']
     rw [wWx e, b]; exact h2
   . have e' : ¬ q.1 = k := fun z => e (h1.trans z)
     have b : atKey (q :: qs) k = atKey qs k := by simp [atKey, List.find?_cons, e']
     rw [wWz e, b]; exact ih
theorem KT.repl {H : Hp} {kvs : List (List Key × V)} {xs : List (List Key × Addr × Value)} (r : KT H kvs xs) (k : List Key) {y : V} {u : Value} (ry : RelV y u) :
   KT H (kvs.map fun kv => if kv.1 = k then (kv.1, y) else kv) (xs.map (putAt k u)) := by
 induction r with
 | nil => exact .nil
 | @cons p q ps qs h t ih =>
   rw [List.map_cons, List.map_cons]
   refine .cons ?_ ih
   obtain ⟨h1, h2, h3⟩ := h
   unfold putAt
   by_cases e : p.1 = k
   . rw [if_pos e, if_pos (h1.symm.trans e)]; exact ⟨h1, h2, ry⟩
   . rw [if_neg e, if_neg (fun z => e (h1.trans z))]; exact ⟨h1, h2, h3⟩
theorem KT.put {H : Hp} {kvs : List (List Key × V)} {xs : List (List Key × Addr × Value)} (r : KT H kvs xs) (k : List Key) {b : Addr} {y : V} {u : Value} (hb : H b = some (.tup (k.map kV))) (ry : RelV y u) :
   KT H (putK kvs k y) (storedH xs k b u) := by
 have e : (kvs.any fun kv => decide (kv.1 = k)) = (atKey xs k).isSome := by
   rw [valV_any, (r.val k).isSome_eq, Option.isSome_map]
 unfold putK storedH
 rw [e]
 by_cases q : (atKey xs k).isSome = true
 . rw [if_pos q, if_pos q]; exact r.repl k ry
 . rw [if_neg q, if_neg q]; exact Paired.snoc r ⟨rfl, hb, ry⟩
theorem KT.keeps {H H' : Hp} {kvs : List (List Key × V)} {xs : List (List Key × Addr × Value)} (r : KT H kvs xs) (ht : ∀ b ys, H b = some (.tup ys) -> H' b = some (.tup ys)) : KT H' kvs xs :=
 Paired.mapP r fun _ _ z => ⟨z.1, ht _ _ z.2.1, z.2.2⟩
section
variable {P : Program} {w : World} {H : Hp} {h : Heap} {a : Addr}
end
def DGet (H : Hp) (a : Addr) (y : V) (r : Option V) : Prop :=
 (∃ kvs k, Rd H a (.dK kvs) /\ y = kV k /\ r = valV kvs k) \/ ∃ kvs k b, Rd H a (.dT kvs) /\ y = .ref b /\ H b = some (.tup (k.map kV)) /\ r = valV kvs k
def DPut (H : Hp) (a : Addr) (y v : V) (H' : Hp) : Prop :=
 (∃ kvs k, H a = some (.dK kvs) /\ y = kV k /\ kvs.length < sizeLine /\ H' = upd H a (.dK (putK kvs k v))) \/
 ∃ kvs k b, H a = some (.dT kvs) /\ y = .ref b /\ H b = some (.tup (k.map kV)) /\ kvs.length < sizeLine /\ H' = upd H a (.dT (putK kvs k v))
theorem DGet.k {H : Hp} {a : Addr} {kvs : List (Key × V)} {k : Key} (e : H a = some (.dK kvs)) : DGet H a (kV k) (valV kvs k) := .inl ⟨kvs, k, .inl e, rfl, rfl⟩
theorem DGet.t {H : Hp} {a b : Addr} {kvs : List (List Key × V)} {k : List Key} (e : H a = some (.dT kvs)) (eb : H b = some (.tup (k.map kV))) : DGet H a (.ref b) (valV kvs k) := .inr ⟨kvs, k, b, .inl e, rfl, eb, rfl⟩
theorem DPut.k {H : Hp} {a : Addr} {kvs : List (Key × V)} {k : Key} {v : V} (e : H a = some (.dK kvs)) (hl : kvs.length < sizeLine) : DPut H a (kV k) v (upd H a (.dK (putK kvs k v))) := .inl ⟨kvs, k, e, rfl, hl, rfl⟩
theorem DPut.t {H : Hp} {a b : Addr} {kvs : List (List Key × V)} {k : List Key} {v : V} (e : H a = some (.dT kvs)) (eb : H b = some (.tup (k.map kV))) (hl : kvs.length < sizeLine) :
   DPut H a (.ref b) v (upd H a (.dT (putK kvs k v))) := .inr ⟨kvs, k, b, e, rfl, eb, hl, rfl⟩
section
variable {X : Cx} {pins : List (Addr × Obj)} {σ : St} {H : Hp} {s : Shared} {a : Addr} {y v : V} {u r : Value} {o : Option V} {A : Around} {E : Value -> Shared -> Prop}
theorem Inv.big (I : Inv X pins σ H s) : sysModules < s.heap.objs.size := by
 have h : mainGlobals < s.heap.objs.size := (I.mod.glob.keeps I.bk).lt
 exact Nat.lt_trans (by decide) h
end
section
variable {X : Cx} {pins : List (Addr × Obj)} {σ : St} {H : Hp} {s : Shared} {a : Addr} {kvs : List (Key × V)} {k : Key} {u : Value} {A : Around} {E : Value -> Shared -> Prop}
end
def sDPut (td ty tv : TE) : TS := fun D σ H => tv σ H fun v H1 => td σ H1 fun x H2 => ty σ H2 fun y H3 => ∃ a H4, x = .ref a /\ DPut H3 a y v H4 /\ D.nx σ H4
section
variable {X : Cx} {o i e value : Expr} {pos pos' tpos : Pos} {td ty tv : TE}
end
section
variable {X : Cx} {pos : Pos}
end
structure M1 (X : Cx) (o : Expr) (m : Str) (apos : Pos) (e : Expr) (cpos : Pos) : Prop where
 base : attributeBase o m X.env (eval o X.env) = eval o X.env
 few : ((backTo cpos (starEach [e] X.env)).all (fun x => !x.1) && (backToKw cpos (keywordEach [] X.env)).all (fun x => x.1.isSome)
   && decide (([e] : List Expr).length + ([] : List Keyword).length + (if ([] : List Keyword).isEmpty then 0 else 1) < 30)) = true
 line : (apos.endLine == cpos.line) = true
 trees : backTo cpos (starEach [e] X.env) = [(false, eval e X.env)]
structure M2 (X : Cx) (o : Expr) (m : Str) (apos : Pos) (e f : Expr) (cpos : Pos) : Prop where
 base : attributeBase o m X.env (eval o X.env) = eval o X.env
 few : ((backTo cpos (starEach [e, f] X.env)).all (fun x => !x.1) && (backToKw cpos (keywordEach [] X.env)).all (fun x => x.1.isSome)
   && decide (([e, f] : List Expr).length + ([] : List Keyword).length + (if ([] : List Keyword).isEmpty then 0 else 1) < 30)) = true
 line : (apos.endLine == cpos.line) = true
 trees : backTo cpos (starEach [e, f] X.env) = [(false, eval e X.env), (false, eval f X.env)]
section
variable {X : Cx} {pins : List (Addr × Obj)} {σ : St} {H : Hp} {s : Shared} {a : Addr} {y d : V} {u r : Value} {o : Option V} {A : Around} {E : Value -> Shared -> Prop}
end
section
variable {X : Cx} {o e f : Expr} {apos cpos : Pos} {td ty tx : TE}
end
section
variable {X : Cx} {pins : List (Addr × Obj)} {σ : St} {H : Hp} {s : Shared} {a : Addr} {kvs : List (Key × V)} {A : Around} {E : Value -> Shared -> Prop}
end
section
variable {X : Cx} {pins : List (Addr × Obj)} {σ : St} {H : Hp} {s : Shared} {a : Addr} {y : V} {u : Value} {A : Around} {E : Value -> Shared -> Prop}
end
end L2
namespace Att
open PySem PySem.W PySem.Calls PyProof.Rows
theorem xJx {P : Params} {h : Heap} : ∀ (ns : List Int) (vs : List Value), WellAll P h vs (ns.map WData.int) -> IntsAre vs ns := by
 intro ns
 induction ns with
 | nil =>
   intro vs w
   rw [List.map_nil] at w
   cases w
   exact .nil
 | cons n ns ih =>
   intro vs w
   rw [List.map_cons] at w
   cases w with
   | cons a b =>
     cases a
     exact .cons _ _ (ih _ b)
theorem script_of {l : OpenLaw} {n : Nat} (hn : l.most = some n) {P : Params} {h : Heap} {args : List WData} {vals : List Value}
   (hpre : l.row.toRowW.claim.pre args = true) (hwl : WellAll P h vals args) :
   ∃ a vs ns, vals = [Value.ref a] /\ args = [WData.list (ns.map WData.int)] /\ h.get? a = some { cls := .type "list", data := .seq vs.toArray } /\ IntsAre vs ns /\ ns.length <= n := by
 have hsh : WShape.hasAll [] args [.list .int] = true := (pre_splitW hpre).1
 have hc : l.pre.holds [] { args := args } = true := (pre_splitW hpre).2
 obtain ⟨d, r, rfl, h1, h2⟩ := hasAllW_cons hsh
 obtain rfl := hasAllW_nil h2
 obtain ⟨xs, rfl, h3⟩ := hasW_list h1
 obtain ⟨ns, rfl⟩ := items_int h3
 have hlen : ns.length <= n := by
   unfold OpenLaw.pre at hc
   have h4 : (WTm.not (.lt (.lit (.int (n : Int))) (.len (.arg 0)))).holds [] { args := [.list (ns.map .int)] } = true := by
     have h4 := (holds_andW hc).1
     rw [hn] at h4
     exact h4
   have h5 := condW_of h4 (w_not (w_lt w_lit (w_len_list (w_arg rfl))))
   rw [List.length_map] at h5
   refine Nat.le_of_not_lt fun q => ?_
   have q' : (n : Int) < ((ns.length : Nat) : Int) := by omega
   first
     | (rw [decide_eq_true q'] at h5; exact absurd h5 (by decide))
     | (simp at h5; omega)
 cases hwl with
 | cons w1 w2 =>
   cases w2
   cases w1 with
   | list ho hall => exact ⟨_, _, ns, rfl, rfl, ho, xJx ns _ hall, hlen⟩
theorem post_true (l : OpenLaw) (args : List WData) : l.row.toRowW.claim.post args (.bool true) args = true :=
 postW_of (r := l.row.toRowW) (X := (true == true))
   (show WShape.has [] (.bool true) .bool = true by first | rfl | decide | simp [WShape.has, WShape.arms, WShape.armsAll])
   (show (WTm.eq .res (.lit (.bool true))).value [] { args := args, res := some (.bool true), after := args } = some (.bool (true == true)) from w_eq_bool (w_res rfl) w_lit) rfl
theorem attach_call {l : OpenLaw} {n : Nat} {q : Program} {loose : List Str} {XP : (Str -> Option Value) -> Heap -> Prop} {YP : World -> Heap -> Prop} {d : DefRec}
   (hn : l.most = some n) (hdf : d.params.defaults = [])
   (call : ∀ (w : World) (s₀ s₁ : Shared) (mg mb : Str -> Option Value) (fa : Addr) (o : Obj) (pm cd doc : Value) (a : Addr) (vs : List Value) (ns : List Int),
     Ground q loose [] XP w s₀ mg mb s₁.heap -> YP w s₁.heap ->
     s₁.heap.get? fa = some o -> o.data = .func (docDef d.name d.params d.body d.scope pm cd doc) -> s₁.heap.CodeRec cd d.name -> mg d.name = some (.ref fa) ->
     s₁.heap.get? a = some { cls := .type "list", data := .seq vs.toArray } -> IntsAre vs ns -> ns.length <= n -> s₁.gens = #[] ->
     codeAny (model l.prog w) callerA (.call (.ref fa) ⟨[.ref a], []⟩) (fun r s' => r = .ok (.ret (.bool true)) /\ OldK s₁.heap s'.heap /\ s'.os = s₁.os /\ AllBare s'.gens) s₁) :
   WalkO q loose XP YP l.row.toRowW d [] (fun f vs => PySem.call f vs) := by
 intro w s₀ s₁ mg mb G Y fa o pm cd doc dV kV ho hd hcd hD hmg hg args vals as hpre hlay hrd hwl hlo
 obtain rfl : dV = .none := Dflts.none hD hdf
 obtain rfl : kV = .none := Dflts.noKw hD
 obtain ⟨a, vs, ns, rfl, rfl, hobj, hints, hlen⟩ := script_of hn hpre hwl
 refine enter_call (codeAny_mono (call w s₀ s₁ mg mb fa o pm cd doc a vs ns G Y ho (fd_plain hd) hcd hmg hobj hints hlen hg) fun r s' hq => ?_)
 obtain ⟨rfl, h2, h3, h4⟩ := hq
 exact ⟨.inl ⟨.bool true, .bool true, [], rfl, fun _ => rfl, .bool true, post_true l _, fun _ => ⟨List.Pairwise.nil, fun _ hm => (nomatch hm)⟩⟩, h2, h3, h4⟩
section
variable {prog : Program} {w : World} {A : Around} {E : Value -> Shared -> Prop} {s : Shared} {K : Frag}
end
end Att
namespace L2
open PySem PySem.Spec PyProof.Rows
theorem vals_ints : ∀ {vs : List Value} {ns : List Int}, IntsAre vs ns -> Vals (ns.map V.int) vs
 | _, _, .nil => .nil
 | _, _, .cons n t h => .cons ⟨t, rfl⟩ (vals_ints h)
def Only (H : Hp) : Prop := ∀ b, H b = none \/ ∃ o xs, H b = some (.frz o (.lst xs))
theorem law_call {P : Program} {w : World} {K : PySem.W.Frag} {mg mb : Str -> Option Value} {CX : CXT} {k : Nat} {fa a : Addr} {fd : FuncData} {x : Str} {sp : Sp} {s₁ : Shared} {vs : List Value} {ns : List Int}
   (KX : K.In s₁.heap) (hns : s₁.heap.Ns mainGlobals mg) (hb : s₁.heap.Ns builtinsNs mb) (hbb : ∀ x : Str, x ≠ "__name__" -> mb x = bootBuiltins x) (hlim : s₁.heap.NoLimit) (hg : s₁.gens = #[])
   (ha : s₁.heap.get? a = some { cls := .type "list", data := .seq vs.toArray }) (hi : IntsAre vs ns) (hl : ns.length <= sizeLine) (hr : Room k callerA)
   (F : ∀ base : Heap, K.In base -> base.Ns mainGlobals mg -> FnOk P w K mg base CX k fa fd [x] sp) (hbind : ∀ (s : Shared) (u : Value), BindsTo s fd ⟨[u], []⟩ [(x, u)])
   (hsp : ∀ H : Hp, Only H -> SqL K H a (ns.map V.int) -> sp [.ref a] H (fun v _ => v = .bl true) fun _ _ _ => False)
   (hCX : ∀ H e s', CX [] H s₁ (fun _ _ _ => False) e s' -> False) :
   codeAny (model P w) callerA (.call (.ref fa) ⟨[.ref a], []⟩) (fun r s' => r = .ok (.ret (.bool true)) /\ OldK s₁.heap s'.heap /\ s'.os = s₁.os /\ AllBare s'.gens) s₁ := by
 have rv := vals_ints hi
 have lenV := hi.length
 have core : ∀ H : Hp, Only H -> SqL K H a (ns.map V.int) -> HOk P w H s₁.heap -> (∀ b, H b ≠ none -> b = a) -> (H a ≠ none -> K.lookup a = none) ->
     codeAny (model P w) callerA (.call (.ref fa) ⟨[.ref a], []⟩) (fun r s' => r = .ok (.ret (.bool true)) /\ OldK s₁.heap s'.heap /\ s'.os = s₁.os /\ AllBare s'.gens) s₁ := by
   intro H hO hS hok hA hK
   have base_of : ∀ {b : Addr} {o : Obj}, s₁.heap.get? b = some o -> H b = none -> (hidT s₁.heap H).get? b = some o := fun e n => hidT_get e n
   have noA : ∀ {b : Addr} {o : Obj} {es : Array DictEntry} {ep : Nat}, s₁.heap.get? b = some o -> o.data = .dict es ep -> H b = none := fun {b o es ep} e d => by
     cases q : H b with
     | none => rfl
     | some u =>
       have e' : b = a := hA b (by rw [q]; simp)
       subst e'
       rw [ha] at e; cases e
       have d' : Data.seq vs.toArray _ = Data.dict es ep := d
       cases d'
   have nsK : ∀ {b : Addr} {m : Str -> Option Value}, s₁.heap.Ns b m -> (hidT s₁.heap H).Ns b m := fun {b m} ⟨o, es, ep, e, d, r⟩ => ⟨o, es, ep, base_of e (noA e d), d, r⟩
   have hKb : K.In (hidT s₁.heap H) := fun b o e => base_of (KX b o e) (by
     cases q : H b with
     | none => rfl
     | some u =>
       have e' : b = a := hA b (by rw [q]; simp)
       subst e'
       rw [hK (by rw [q]; simp)] at e; cases e)
   have hM : Mod K mg (hidT s₁.heap H) := ⟨hKb, nsK hns, ⟨mb, nsK hb, hbb⟩, let ⟨mc, h1, h2⟩ := hlim; ⟨mc, nsK h1, h2⟩⟩
   have e0 : Env0 P w K mg (hidT s₁.heap H) callerA [] s₁ H := ⟨rfl, hM, fun b o e => of_hidT e, Nat.le_of_eq (hidT_size _ _), trivial, fun b hb => absurd (show b ∈ ([] : List Addr) from hb) (by simp), hok, .of_eq hg⟩
   refine codeAny_mono ((F _ hKb (nsK hns)).run callerA [] s₁ H ⟨[.ref a], []⟩ [.ref a] [.ref a] _ _ hr e0 (hbind s₁ (.ref a)) (.cons rfl .nil) (hsp H hO hS)) fun r s' h => ?_
   cases r with
   | error e => exact (hCX H e s' h).elim
   | ok fl =>
     cases fl with
     | next => exact False.elim h
     | brk => exact False.elim h
     | cont => exact False.elim h
     | ret u =>
       obtain ⟨v, H', os, bare, un, hok', r', q⟩ := h
       have q' : v = .bl true := q
       subst q'
       obtain rfl : u = Value.bool true := r'
       refine ⟨rfl, OldK.of_keep fun b o e => ?_, os, bare⟩
       cases q : H b with
       | none => exact un.keep b o e q (by intro z; exact absurd (show b ∈ ([] : List Addr) from z) (by simp)) (by simp)
       | some u =>
         rcases hO b with z | ⟨ob, xs, z⟩
         . rw [q] at z; cases z
         . have z2 := un.frzs b ob _ z
           obtain ⟨e1, _⟩ := hok b _ z
           obtain ⟨e2, _⟩ := hok' b _ z2
           rw [e] at e1; cases e1
           exact e2
 cases hk : K.lookup a with
 | some o =>
   have e := KX a o hk
   rw [ha] at e
   cases e
   refine core (fun _ => none) (fun _ => .inl rfl) (.inr ⟨_, vs.toArray, _, hk, rfl, rfl, rfl, by rw [List.size_toArray, lenV]; exact hl, by simpa using rv⟩) (fun b u z => by have z' : (none : Option HO) = some u := z; cases z') (fun b z => absurd rfl z) fun z => absurd rfl z
 | none =>
   refine core (fun b => if b = a then some (.frz { cls := .type "list", data := .seq vs.toArray } (.lst (ns.map V.int))) else none) (fun b => ?_) (.inl (.inr ⟨{ cls := .type "list", data := .seq vs.toArray }, if_pos rfl⟩)) (fun b u z => ?_) (fun b z => ?_) fun _ => hk
   . by_cases hb : b = a
     . exact .inr ⟨_, _, if_pos hb⟩
     . exact .inl (if_neg hb)
   . by_cases hb : b = a
     . have z' := (if_pos hb).symm.trans z
       cases z'
       subst hb
       exact ⟨ha, by rw [List.length_map]; exact hl, vs, _, rv, ha⟩
     . have z' := (if_neg hb).symm.trans z
       cases z'
   . by_cases hb : b = a
     . exact hb
     . exact absurd (if_neg hb) z
theorem walk_of {l : PySem.W.OpenLaw} {n k : Nat} {q : Program} {loose : List Str} {XP : (Str -> Option Value) -> Heap -> Prop} {YP : World -> Heap -> Prop} {d : DefRec} {K : Params -> PySem.W.Frag} {CX : World -> CXT} {sp : World -> Sp} {x : Str}
   (hn : l.most = some n) (hn2 : n <= sizeLine) (hdf : d.params.defaults = []) (hr : Room k callerA)
   (hY : ∀ (w : World) (h : Heap), YP w h -> (K w.params).In h)
   (F : ∀ (w : World) (mg : Str -> Option Value) (fa : Addr) (h : Heap), (K w.params).In h -> h.Ns mainGlobals mg -> mg d.name = some (.ref fa) ->
     ∃ fd : FuncData, (∀ (s : Shared) (u : Value), BindsTo s fd ⟨[u], []⟩ [(x, u)]) /\
       ∀ base : Heap, (K w.params).In base -> base.Ns mainGlobals mg -> FnOk l.prog w (K w.params) mg base (CX w) k fa fd [x] (sp w))
   (hsp : ∀ (w : World) (H : Hp) (a : Addr) (ns : List Int), ns.length <= n -> Only H -> SqL (K w.params) H a (ns.map V.int) -> sp w [.ref a] H (fun v _ => v = .bl true) fun _ _ _ => False)
   (hCX : ∀ (w : World) (H : Hp) (s : Shared) (e : Value) (s' : Shared), CX w [] H s (fun _ _ _ => False) e s' -> False) :
   PySem.W.WalkO q loose XP YP l.row.toRowW d [] (fun f vs => PySem.call f vs) := by
 refine Att.attach_call hn hdf fun w s₀ s₁ mg mb fa o pm cd doc a vs ns G Y ho hd hcd hmg hobj hints hlen hg => ?_
 have KX := hY w _ Y
 obtain ⟨fd, hb, hF⟩ := F w mg fa _ KX G.T.g hmg
 exact law_call KX G.T.g G.T.b G.T.builtins G.T.nolimit hg hobj hints (Nat.le_trans hlen hn2) hr hF hb (fun H hO hS => hsp w H a ns hlen hO hS) fun H e s' => hCX w H s₁ e s'
def inClass (s : Stmt) (j : Nat) : Stmt := match s with
 | .ClassDef _ _ _ body _ _ _ _ _ _ _ => body.getD j (.Pass ⟨0, 0, 0, 0⟩)
 | _ => .Pass ⟨0, 0, 0, 0⟩
def defArgs (s : Stmt) : Arguments := match s with
 | .FunctionDef _ a _ _ _ _ _ _ _ _ => a
 | _ => { posonlyargs := [], args := [], vararg := none, kwonlyargs := [], kw_defaults := [], kwarg := none, defaults := [] }
def defBody (s : Stmt) : List Stmt := match s with
 | .FunctionDef _ _ b _ _ _ _ _ _ _ => b
 | _ => []
def defScope (s : Stmt) : Scope := match s with
 | .FunctionDef _ _ _ _ _ _ sc _ _ _ => sc
 | _ => { kind := .function, names := [], isGenerator := false, isCoroutine := false }
abbrev CX0 : CXT := fun _ _ _ _ _ _ => False
abbrev E0 : XK := fun _ _ _ => False
structure Fun (K : PySem.W.Frag) (x qual : Str) (st : Stmt) (f : Addr) (fd : FuncData) : Prop where
 ex : ∃ (oc : Value) (od : Option Addr) (kV doc pm : Value) (an : Option Addr) (cdv ct : Value) (osl : Array (Option Value)),
   fd = PySem.W.fnOf x qual (defArgs st) (defBody st) (defScope st) .none kV doc pm an cdv ct /\ K.lookup f = some ⟨oc, od, .func fd, osl⟩ /\ PySem.W.codeIn K cdv qual = true
 kp : PySem.W.keepIn K (.ref f) = true
section
variable {P : Program} {w : World} {K : PySem.W.Frag} {mg : Str -> Option Value} {base : Heap}
theorem Fun.ok {x qual : Str} {st : Stmt} {f : Addr} {fd : FuncData} {N ps : List Str} {k : Nat} {sp : Sp} (hk : 50 <= k + 1) (F : Fun K x qual st f fd) (S : FnScope N ps (defScope st)) (len : ∀ vs H Q E, sp vs H Q E -> vs.length = ps.length)
   (hbody : ∀ (cdv : Value) (A : Around) (outer : List Env) (s : Shared) (H : Hp) (vs : List V) (Q : VK) (E : XK), Room k (A.deeper (envOfC qual (defScope st) s.heap.objs.size f cdv)) -> sp vs H Q E ->
     ∃ t, PSs (cxOf true CX0 P w K mg base N qual (defScope st) f cdv A outer s H E).nox (defBody st) t /\ t { nx := fun _ H' => Q .non H', rt := Q } (start N vs) H) : FnOk P w K mg base CX0 (k + 1) f fd ps sp := by
 obtain ⟨oc, od, kV, doc, pm, an, cdv, ct, osl, rfl, lk, hcd⟩ := F.ex
 refine fn_of (cm := true) lk hcd S len (fun _ => hk) fun A outer s H vs Q E hr hsp => ?_
 obtain ⟨t, h, q⟩ := hbody cdv A outer s H vs Q E hr hsp
 exact ⟨t, h.nox, q⟩
theorem Fun.binds {x qual : Str} {st : Stmt} {f : Addr} {fd : FuncData} {ps : List Str} (F : Fun K x qual st f fd)
   (h : ∀ (kV doc pm : Value) (an : Option Addr) (cdv ct : Value) (us : List Value), us.length = ps.length -> bindArgs (PySem.W.fnOf x qual (defArgs st) (defBody st) (defScope st) .none kV doc pm an cdv ct) ⟨us, []⟩ = pure (ps.zip us)) : Binds K fd ps [] := by
 obtain ⟨oc, od, kV, doc, pm, an, cdv, ct, osl, rfl, lk, hcd⟩ := F.ex
 exact .all (h kV doc pm an cdv ct)
theorem zZz {x qual : Str} {st : Stmt} {f : Addr} {oc : Value} {od an : Option Addr} {osl : Array (Option Value)} {kV doc pm cdv ct : Value} (l : K.lookup f = some ⟨oc, od, .func (PySem.W.fnOf x qual (defArgs st) (defBody st) (defScope st) .none kV doc pm an cdv ct), osl⟩)
   (c : PySem.W.codeIn K cdv qual = true) (k : PySem.W.keepIn K (.ref f) = true) : Fun K x qual st f (PySem.W.fnOf x qual (defArgs st) (defBody st) (defScope st) .none kV doc pm an cdv ct) := ⟨⟨oc, od, kV, doc, pm, an, cdv, ct, osl, rfl, l, c⟩, k⟩
end
theorem hu_of {A : Around} {k : Nat} (hr : Room k A) : A.units + 1 < cLine := Nat.lt_of_le_of_lt (Nat.add_le_add_left (by decide : 1 <= 64) _) hr.units
theorem small1000 {n : Nat} (h : n <= 1000) : n < sizeLine := Nat.lt_of_le_of_lt h (by decide)
section
variable {X : Cx}
theorem pv (i : Nat) {x : Str} {pos : Pos} (hN : X.N[i]? = some x := by rfl) (hv : Vis X.env.scope x := by first | exact Or.inl rfl | exact Or.inr (Or.inl rfl) | exact Or.inr (Or.inr rfl)) (hd : (x == ("__debug__" : Str)) = false := by decide)
   (hcd : (x == ("__classdict__" : Str)) = false := by decide) : PE X (.Name x pos) (tVar i) := pe_var hN hv hd hcd
end
theorem iteF {A B : Prop} (h : B) : if false = true then A else B := by
 rw [if_neg Bool.false_ne_true]
 exact h
theorem iteT {A B : Prop} (h : A) : if true = true then A else B := by
 rw [if_pos rfl]
 exact h
theorem ite2 {c A B : Prop} [Decidable c] (h1 : c -> A) (h2 : ¬ c -> B) : if c then A else B := by
 by_cases h : c
 . rw [if_pos h]
   exact h1 h
 . rw [if_neg h]
   exact h2 h
def Same (H H' : Hp) : Prop := ∀ b o, H b = some o -> H' b = some o
theorem Same.refl (H : Hp) : Same H H := fun _ _ h => h
theorem Same.trans {H H1 H2 : Hp} (a : Same H H1) (b : Same H1 H2) : Same H H2 := fun c o h => b c o (a c o h)
theorem Same.free {H H' : Hp} (e : Same H H') {l : Addr} (h : H' l = Option.none) : H l = Option.none := by
 cases q : H l with
 | none => rfl
 | some o =>
   rw [e l o q] at h
   cases h
theorem Same.seq {K : PySem.W.Frag} {H H' : Hp} {a : Addr} {xs : List V} (e : Same H H') (h : SqL K H a xs) : SqL K H' a xs := by
 rcases h with (h | ⟨o, h⟩) | h
 . exact .inl (.inl (e _ _ h))
 . exact .inl (.inr ⟨o, e _ _ h⟩)
 . exact .inr h
section
variable {κ : Type} [DecidableEq κ]
end
def Exc (h : Heap) (x : Addr) (cls : Value) : Prop := ∃ oe vs, h.get? x = some oe /\ (oe.cls = cls /\ oe.dict = none) /\ oe.data = .fields vs /\ vs[2]? = some .none
theorem xKw (o : Obj) (f : Array Value -> Array Value) : (o.mapFields f).dict = o.dict := by
 obtain ⟨c, d, dt, sl⟩ := o
 cases dt <;> rfl
structure ExT (h : Heap) (x : Addr) (cls : Value) (T : Addr) (fl : Value) : Prop where
 ex : ∃ oe vs, h.get? x = some oe /\ (oe.cls = cls /\ oe.dict = none) /\ oe.data = .fields vs /\ vs[1]? = some (.ref T) /\ vs[2]? = some .none
 ne : T ≠ x
 tb : ∃ oT ts, h.get? T = some oT /\ oT.data = .fields ts /\ ts[3]? = some fl
theorem ExT.exc {h : Heap} {x : Addr} {cls : Value} {T : Addr} {fl : Value} (X : ExT h x cls T fl) : Exc h x cls := by
 obtain ⟨oe, vs, a, b, c, _, d⟩ := X.ex
 exact ⟨oe, vs, a, b, c, d⟩
structure Stays (fs r : List Addr) (h h' : Heap) : Prop where
 keep : ∀ b o, h.get? b = some o -> b ∉ r -> b ∉ fs -> h'.get? b = some o
 slot : ∀ b o, h.get? b = some o -> b ∉ r -> ∃ sl, h'.get? b = some { o with slots := sl }
theorem Stays.trans {fs r r' : List Addr} {h h1 h2 : Heap} (a : Stays fs r h h1) (b : Stays fs r' h1 h2) (hr : ∀ q ∈ r', q ∈ r \/ h.get? q = none) : Stays fs r h h2 where
 keep := fun c o e n f => b.keep c o (a.keep c o e n f) (fun m => (hr c m).elim n fun z => by rw [z] at e; cases e) f
 slot := fun c o e n => by
   obtain ⟨sl, e1⟩ := a.slot c o e n
   obtain ⟨sl', e2⟩ := b.slot c _ e1 fun m => (hr c m).elim n fun z => by rw [z] at e; cases e
   exact ⟨sl', e2⟩
theorem Stays.mono {fs r r' : List Addr} {h h1 : Heap} (a : Stays fs r h h1) (hr : ∀ q ∈ r, q ∈ r') : Stays fs r' h h1 :=
 ⟨fun c o e n f => a.keep c o e (fun m => n (hr c m)) f, fun c o e n => a.slot c o e fun m => n (hr c m)⟩
theorem Stays.more {fs fs' r : List Addr} {h h1 : Heap} (a : Stays fs r h h1) (hr : ∀ q ∈ fs, q ∈ fs') : Stays fs' r h h1 :=
 ⟨fun c o e n f => a.keep c o e n (fun m => f (hr c m)), fun c o e n => a.slot c o e n⟩
section
variable {M : Model} {A : Around} {E : Value -> Shared -> Prop} {s : Shared} {base : Heap} {env : Env} {outer : List Env} {L x T : Addr} {oe : Obj} {vs : Array Value} {cls : Value} {Q : Unit -> Shared -> Prop}
theorem Stays.frames {r : List Addr} {l : List Env} {fs : List Addr} {h h' : Heap} (S : Stays fs r h h') (hl : h.FunFrames base l) (hr : ∀ q ∈ r, ∀ o, h.get? q = some o -> ∃ ws, o.data = .fields ws) : h'.FunFrames base l :=
 hl.of_keeps fun b o e nf => by
   obtain ⟨sl, e'⟩ := S.slot b o e fun m => by
     obtain ⟨ws, z⟩ := hr b m o e
     exact nf ws z
   exact ⟨_, e', rfl⟩
theorem entry_st {head : Value} {hn : Bool} (hfr : A.frames = some (env :: outer)) (hl : s.heap.FunFrames base (env :: outer)) (hf : env.frame = some L)
   (he : s.heap.get? x = some oe) (hdn : oe.dict = none) (hd : oe.data = .fields vs) (h1 : 1 < vs.size) (h2 : vs[2]? = some .none)
   (k : ∀ h' T', s.heap.get? T' = none -> ExT h' x oe.cls T' (rawInt L) -> Stays (frs (env :: outer)) [x] s.heap h' -> Q () { s with heap := h' }) :
   wpAny M A (do let a <- frameOf env; let pl <- entryPlaceOf L hn; let b <- EntryCells.newEntry head a .none (rawInt L) .none pl; setField (.ref x) 1 b) Q E s := by
 have xf : x ∉ frs (env :: outer) := fun m => by
   obtain ⟨_, o, ho, nf⟩ := hl.mem m
   rw [he] at ho
   cases ho
   exact nf vs hd
 refine wpAny_bind (wpAny_frameOf_fun hfr hl hf fun g sg => ?_)
 refine wpAny_bind (wpAny_entryPlaceOf fun pl hp => ?_)
 unfold EntryCells.newEntry newFields
 refine wpAny_bind (wpAny_newObj_type ?_ (hp.sizeOk5 _ _ _ _ _))
 have e1 : g.get? x = some oe := (sg.2.1 x xf).trans he
 have tx : g.objs.size ≠ x := Nat.ne_of_gt (Heap.lt_size e1)
 refine wpAny_setField (Heap.get?_push_of_some (h := g) _ e1) hd h1 (k _ g.objs.size ?_ ⟨?_, tx, ?_⟩ ⟨fun b o e n f => ?_, fun b o e n => ?_⟩)
 . rw [sg.1]
   exact Heap.get?_none_of_le (Nat.le_refl _)
 . refine ⟨_, _, Heap.get?_update_self _ (Heap.get?_push_of_some (h := g) _ e1) (Obj.isFreed_of_fields (Obj.data_mapFields hd _)), ⟨Obj.cls_mapFields _ _, (xKw _ _).trans hdn⟩, Obj.data_mapFields hd _, ?_, ?_⟩
   . simp [h1]
   . rw [Array.getElem?_setIfInBounds_ne (by decide)]
     exact h2
 . refine ⟨_, _, (Heap.get?_update_other _ _ (Ne.symm tx)).trans (Heap.get?_push_size g rfl), rfl, ?_⟩
   rcases hp with rfl | ⟨_, _, _, _, _, _, _, rfl⟩ <;> simp
 . have nx : x ≠ b := fun z => n (by simp [z])
   rw [Heap.get?_update_other _ _ nx]
   exact Heap.get?_push_of_some _ ((sg.2.1 b f).trans e)
 . have nx : x ≠ b := fun z => n (by simp [z])
   obtain ⟨sl, e'⟩ := sg.2.2 b o e
   refine ⟨sl, ?_⟩
   rw [Heap.get?_update_other _ _ nx]
   exact Heap.get?_push_of_some _ e'
theorem xQw {fl : Value} (X : ExT s.heap x cls T fl) (k : ∀ h', ExT h' x cls T .none -> Stays [] [T] s.heap h' -> Q () { s with heap := h' }) : wpAny M A (setFlight (.ref x) none) Q E s := by
 obtain ⟨⟨oe, vs, he, hc, hd, h1, h2⟩, ne, oT, ts, hT, hdT, h3⟩ := X
 unfold setFlight
 refine wpAny_bind (wpAny_field he hd h1 ?_)
 rw [if_pos (show (Value.ref T != Value.none) = true from by simp)]
 have i3 : 3 < ts.size := (Array.getElem?_eq_some_iff.mp h3).1
 refine wpAny_setField hT hdT i3 (k _ ⟨⟨oe, vs, (Heap.get?_update_other _ _ ne).trans he, hc, hd, h1, h2⟩, ne, _, _, Heap.get?_update_self _ hT (Obj.isFreed_of_fields (Obj.data_mapFields hdT _)), Obj.data_mapFields hdT _, by simp [i3]⟩ ⟨fun b o e n _ => ?_, fun b o e n => ⟨o.slots, ?_⟩⟩)
 . rw [Heap.get?_update_other _ _ fun z => n (by simp [z])]
   exact e
 . rw [Heap.get?_update_other _ _ fun z => n (by simp [z])]
   exact e
theorem note_first (hfr : A.frames = some (env :: outer)) (hl : s.heap.FunFrames base (env :: outer)) (hf : env.frame = some L)
   (he : s.heap.get? x = some oe) (hdn : oe.dict = none) (hd : oe.data = .fields vs) (h1 : vs[1]? = some .none) (h2 : vs[2]? = some .none)
   (k : ∀ h' T', s.heap.get? T' = none -> ExT h' x oe.cls T' (rawInt L) -> Stays (frs (env :: outer)) [x] s.heap h' -> Q () { s with heap := h' }) : wpAny M A (noteFrame (.ref x) env) Q E s := by
 unfold noteFrame
 simp only [hf]
 refine wpAny_bind (wpAny_field he hd h1 ?_)
 rw [if_neg (by decide)]
 exact entry_st hfr hl hf he hdn hd (Array.getElem?_eq_some_iff.mp h1).1 h2 k
theorem note_next (hfr : A.frames = some (env :: outer)) (hl : s.heap.FunFrames base (env :: outer)) (hf : env.frame = some L) (X : ExT s.heap x cls T .none)
   (k : ∀ h' T', s.heap.get? T' = none -> ExT h' x cls T' (rawInt L) -> Stays (frs (env :: outer)) [x, T] s.heap h' -> Q () { s with heap := h' }) : wpAny M A (noteFrame (.ref x) env) Q E s := by
 obtain ⟨⟨oe, vs, he, ⟨hc, hdn⟩, hd, h1, h2⟩, ne, oT, ts, hT, hdT, h3⟩ := X
 subst hc
 have i3 : 3 < ts.size := (Array.getElem?_eq_some_iff.mp h3).1
 unfold noteFrame
 simp only [hf]
 refine wpAny_bind (wpAny_field he hd h1 ?_)
 rw [if_pos (show (Value.ref T != Value.none) = true from by simp)]
 refine wpAny_bind (wpAny_field hT hdT h3 ?_)
 rw [if_neg (show ¬ ((Value.none == rawInt L) = true) from by simp [rawInt])]
 refine wpAny_bind (wpAny_setField hT hdT i3 ?_)
 have S0 : Stays (frs (env :: outer)) [x, T] s.heap (s.heap.update T (Obj.mapFields (·.setIfInBounds 3 Value.none))) := by
   refine ⟨fun b o e n _ => ?_, fun b o e n => ⟨o.slots, ?_⟩⟩
   . rw [Heap.get?_update_other _ _ fun z => n (by simp [z])]
     exact e
   . rw [Heap.get?_update_other _ _ fun z => n (by simp [z])]
     exact e
 have hl' : (s.heap.update T (Obj.mapFields (·.setIfInBounds 3 Value.none))).FunFrames base (env :: outer) := S0.frames hl fun q m o e => by
   rcases List.mem_cons.mp m with z | m
   . subst z
     rw [he] at e
     cases e
     exact ⟨vs, hd⟩
   . obtain rfl : q = T := by simpa using m
     rw [hT] at e
     cases e
     exact ⟨ts, hdT⟩
 refine entry_st (s := { s with heap := s.heap.update T (Obj.mapFields (·.setIfInBounds 3 Value.none)) }) hfr hl' hf ((Heap.get?_update_other _ _ ne).trans he) hdn hd (Array.getElem?_eq_some_iff.mp h1).1 h2 fun h' T' n X' S' => k h' T' ?_ X' (S0.trans S' fun q m => .inl (by simp at m; simp [m]))
 have n' : (s.heap.update T (Obj.mapFields (·.setIfInBounds 3 Value.none))).get? T' = none := n
 cases e : s.heap.get? T' with
 | none => rfl
 | some o =>
   by_cases z : T = T'
   . subst z
     rw [Heap.get?_update_self _ hT (Obj.isFreed_of_fields (Obj.data_mapFields hdT _))] at n'
     cases n'
   . rw [Heap.get?_update_other _ _ z, e] at n'
     cases n'
theorem leave_first (hfr : A.frames = some (env :: outer)) (hl : s.heap.FunFrames base (env :: outer)) (hf : env.frame = some L)
   (he : s.heap.get? x = some oe) (hdn : oe.dict = none) (hd : oe.data = .fields vs) (h1 : vs[1]? = some .none) (h2 : vs[2]? = some .none)
   (k : ∀ h' T', s.heap.get? T' = none -> ExT h' x oe.cls T' .none -> Stays (frs (env :: outer)) [x] s.heap h' -> Q () { s with heap := h' }) : wpAny M A (leaving env (.ref x)) Q E s := by
 unfold leaving
 refine wpAny_bind (note_first hfr hl hf he hdn hd h1 h2 fun h' T' n X S => ?_)
 exact xQw (s := { s with heap := h' }) X fun h'' X' S' => k h'' T' n X' (S.trans (S'.more (by simp)) fun q m => .inr (by simp at m; rw [m]; exact n))
theorem leave_next (hfr : A.frames = some (env :: outer)) (hl : s.heap.FunFrames base (env :: outer)) (hf : env.frame = some L) (X : ExT s.heap x cls T .none)
   (k : ∀ h' T', s.heap.get? T' = none -> ExT h' x cls T' .none -> Stays (frs (env :: outer)) [x, T] s.heap h' -> Q () { s with heap := h' }) : wpAny M A (leaving env (.ref x)) Q E s := by
 unfold leaving
 refine wpAny_bind (note_next hfr hl hf X fun h' T' n X S => ?_)
 exact xQw (s := { s with heap := h' }) X fun h'' X' S' => k h'' T' n X' (S.trans (S'.more (by simp)) fun q m => .inr (by simp at m; rw [m]; exact n))
end
def CXw (P : Program) (w : World) : CXT := fun outer H s E e s' => ∃ (x T : Addr) (cls : Value) (H' : Hp), e = .ref x /\ s'.os = s.os /\ AllBare s'.gens /\ Un (frs outer) [] H H' s.heap s'.heap /\ HOk P w H' s'.heap /\
 s.heap.get? x = none /\ s.heap.get? T = none /\ H' x = none /\ H' T = none /\ ExT s'.heap x cls T .none /\ E cls (some x) H'
theorem un_stays {fs r : List Addr} {H H' : Hp} {h h1 h2 : Heap} (u : Un fs [] H H' h h1) (S : Stays fs r h1 h2) (hr : ∀ b ∈ r, h.get? b = none) : Un fs [] H H' h h2 := by
 have nr : ∀ {b o}, h.get? b = some o -> b ∉ r := fun {b o} e m => by
   rw [hr b m] at e
   cases e
 refine ⟨fun b o e n f z => S.keep b o (u.keep b o e n f z) (nr e) f, fun b o e n f z => ?_, u.free, fun b o e z => ?_, u.tups, u.frzs, u.tbls⟩
 . obtain ⟨sl, e1⟩ := u.slot b o e n f z
   obtain ⟨sl', e2⟩ := S.slot b _ e1 (nr e)
   exact ⟨sl', e2⟩
 . obtain ⟨o1, e1⟩ := u.there b o e z
   obtain ⟨sl', e2⟩ := S.slot b _ e1 (nr e)
   exact ⟨_, e2⟩
theorem hok_stays {P : Program} {w : World} {fs r : List Addr} {H : Hp} {h h' : Heap} (k : HOk P w H h) (S : Stays fs r h h') (hr : ∀ b ∈ r, H b = none) (hf : ∀ b ∈ fs, H b = none) : HOk P w H h' := fun a o e => by
 have tr : ∀ {b u}, H b = some u -> b ∉ r /\ b ∉ fs := fun {b u} q => ⟨fun m => (by rw [hr b m] at q; cases q), fun m => (by rw [hf b m] at q; cases q)⟩
 refine (k a o e).stay (fun b u hb q => ?_) (fun _ q => q) fun _ _ q => q
 rcases hb with z | z
 . subst z
   exact S.keep b u q (tr e).1 (tr e).2
 . exact S.keep b u q (tr z).1 (tr z).2
theorem yZz {P : Program} {w : World} {H : Hp} {h : Heap} (k : HOk P w H h) {b : Addr} (e : h.get? b = none) : H b = none := by
 cases q : H b with
 | none => rfl
 | some u =>
   obtain ⟨o, ho⟩ : ∃ o, h.get? b = some o := by
     have z := k b u q
     cases u with
     | lst xs => obtain ⟨_, _, _, _, e⟩ := z; exact ⟨_, e⟩
     | tup xs => obtain ⟨_, _, _, o, e, _⟩ := z; exact ⟨_, e⟩
     | dK kvs => obtain ⟨_, _, _, _, o, _, _, e, _⟩ := z; exact ⟨_, e⟩
     | dT kvs => obtain ⟨_, _, _, _, o, _, _, e, _⟩ := z; exact ⟨_, e⟩
     | set S n => obtain ⟨o, _, _, _, e, _⟩ := z; exact ⟨_, e⟩
     | ins C dx fs => obtain ⟨_, _, _, e, _⟩ := z; exact ⟨_, e⟩
     | own y => obtain ⟨_, e⟩ := z; exact ⟨_, e⟩
     | xd fs => obtain ⟨_, ⟨_, _, _, e, _⟩, _⟩ := z; exact ⟨_, e⟩
     | rng lo hi => obtain ⟨_, _, _, e⟩ := z; exact ⟨_, e⟩
     | frz ob u => obtain ⟨e, _⟩ := z; exact ⟨_, e⟩
     | tbl ps => exact ⟨_, (show h.get? b = some _ from z)⟩
     | met f y => exact ⟨_, (show h.get? b = some _ from z)⟩
     | ext φ => obtain ⟨_, ⟨_, e⟩, _⟩ := z; exact ⟨_, e⟩
   rw [e] at ho
   cases ho
section
variable {X : Cx} {pins : List (Addr × Obj)} {σ : St} {H H' : Hp} {s s1 s2 : Shared}
theorem Inv.flown {r : List Addr} (I : Inv X pins σ H s) (u : Un (frs X.stack) [] H H' s.heap s1.heap) (k : HOk X.prog X.w H' s1.heap) (S : Stays (frs X.stack) r s1.heap s2.heap) (hr : ∀ b ∈ r, s.heap.get? b = none /\ H' b = none)
   (ho : s2.os = s.os) (hg : AllBare s2.gens) : Inv X pins σ H' s2 := by
 have hf : ∀ b ∈ frs X.stack, H' b = none := fun b m => by
   obtain ⟨_, o, e, _⟩ := I.stack.mem m
   exact u.free b o e (I.stkFree b m) (by simp)
 exact I.call' ho (un_stays u S fun b m => (hr b m).1) (hok_stays k S (fun b m => (hr b m).2) hf) hg fun b z => absurd z (by simp)
end
def RaisesTo (X : Cx) (E : XK) : Prop := ∀ (pins : List (Addr × Obj)) (σ : St) (H : Hp) (s : Shared) (h' : Heap) (x : Addr) (cls : Value) (vs : List Value), Inv X pins σ H s -> Heap.MadeExcOf s.heap h' x cls vs -> E cls (some x) H -> X.xe (.ref x) { s with heap := h' }
section
variable {cm : Bool} {P : Program} {w : World} {K : PySem.W.Frag} {mg : Str -> Option Value} {base : Heap} {N : List Str} {qual : Str} {scope : Scope} {f : Addr} {cd : Value} {A : Around} {outer : List Env} {s0 : Shared} {H0 : Hp} {E : XK}
theorem cx_new {X : Cx} {pins : List (Addr × Obj)} {σ : St} {H : Hp} {s : Shared} (I : Inv X pins σ H s) (hx : X.ex = []) {b : Addr} (e : s.heap.get? b = none) : X.s₀.heap.get? b = none := by
 cases q : X.s₀.heap.get? b with
 | none => rfl
 | some o =>
   obtain ⟨o', e'⟩ := I.base.there b o q (by rw [hx]; simp)
   rw [e] at e'
   cases e'
theorem zKj : RaisesTo (cxOf cm (CXw P w) P w K mg base N qual scope f cd A outer s0 H0 E) E := by
 intro pins σ H s h' x cls vs I m q
 obtain ⟨t, hx, _, _⟩ := m.there
 have I1 := I.kept (h' := h') (t' := s.toks) m.keeps
 have hfr : (A.deeper (envOfC qual scope s0.heap.objs.size f cd)).frames = some (envOfC qual scope s0.heap.objs.size f cd :: outer) := I.ok.frames
 refine leave_first (s := { s with heap := h' }) (base := base) hfr I1.stack rfl hx rfl rfl rfl rfl fun h2 T' nT X2 S2 => ?_
 have nx : s.heap.get? x = none := m.new
 have nT' : s.heap.get? T' = none := by
   cases z : s.heap.get? T' with
   | none => rfl
   | some o =>
     have := m.keeps _ _ z
     rw [show h'.get? T' = none from nT] at this
     cases this
 have J : Inv (cxOf cm (CXw P w) P w K mg base N qual scope f cd A outer s0 H0 E) pins σ H { s with heap := h2 } :=
   I.flown (s1 := { s with heap := h' }) (Un.kept m.keeps) (I.hok.kept m.keeps) S2 (fun b mb => by
     obtain rfl : b = x := by simpa using mb
     exact ⟨nx, yZz I.hok nx⟩) rfl I.bare
 refine ⟨x, T', cls, H, rfl, J.os, J.bare, J.base, J.hok, cx_new I rfl nx, cx_new I rfl nT', yZz I.hok nx, yZz I.hok nT', X2, q⟩
theorem zWj : Passes (CXw P w) (cxOf cm (CXw P w) P w K mg base N qual scope f cd A outer s0 H0 E) E := by
 rintro pins σ H s e s' I ⟨x, T, cls, H', rfl, ho, hg, u, hok, nx, nT, hx, hT, X, q⟩
 have hfr : (A.deeper (envOfC qual scope s0.heap.objs.size f cd)).frames = some (envOfC qual scope s0.heap.objs.size f cd :: outer) := I.ok.frames
 have I1 : Inv (cxOf cm (CXw P w) P w K mg base N qual scope f cd A outer s0 H0 E) pins σ H' s' := I.call' ho u hok hg fun b z => absurd z (by simp)
 refine leave_next (base := base) hfr I1.stack rfl X fun h2 T' nT' X2 S2 => ?_
 have J : Inv (cxOf cm (CXw P w) P w K mg base N qual scope f cd A outer s0 H0 E) pins σ H' { s' with heap := h2 } :=
   I.flown (s1 := s') u hok S2 (fun b mb => by
     rcases List.mem_cons.mp mb with z | mb
     . subst z
       exact ⟨nx, hx⟩
     . obtain rfl : b = T := by simpa using mb
       exact ⟨nT, hT⟩) ho hg
 exact ⟨x, T', cls, H', rfl, J.os, J.bare, J.base, J.hok, cx_new I rfl nx, cx_new I1 rfl nT', hx, yZz hok nT', X2, q⟩
end
structure XCls (K : PySem.W.Frag) (C : Addr) : Prop where
 ex : ∃ (B newId initId : String) (bmB : List Value), ExcBaseFacts B newId initId bmB /\ PySem.W.excIn K C bmB newId = true
theorem XCls.obj {K : PySem.W.Frag} {C : Addr} {h : Heap} (c : XCls K C) (X : K.In h) : ∃ (B newId initId : String) (bmB : List Value), ExcBaseFacts B newId initId bmB /\
   ∃ bm N nm q bs hdct sn sub ab col dd k0 k1 k2 k3 k5 mN, h.get? C = some (excClassObj nm q C N bs bm hdct sn sub ab col dd k0 k1 k2 k3 k5 newId) /\ h.Ns N mN /\ mN "__init__" = none /\ OwnTail h bmB bm := by
 obtain ⟨B, newId, initId, bmB, F, q⟩ := c.ex
 refine ⟨B, newId, initId, bmB, F, ?_⟩
 unfold PySem.W.excIn at q
 split at q
 . rename_i dd cdt sl look
   split at q
   . rename_i C' bm s0 s1 s2 s3 n s5 em es
     simp only [Bool.and_eq_true, beq_iff_eq, Bool.not_eq_true'] at q
     obtain ⟨⟨⟨⟨⟨c1, c2⟩, c3⟩, c4⟩, c5⟩, c6⟩ := q
     obtain ⟨nm, bs, mro, ns, qn, hd, sn, sub, ab, col, del⟩ := cdt
     dsimp only at em c3 c5 c6
     subst c1 c2 em c3
     obtain ⟨sll⟩ := sl
     dsimp only at es
     subst es
     exact ⟨bm, ns, nm, qn, bs, hd, sn, sub, ab, col, dd, s0, s1, s2, s3, s5, _, X _ _ look, .of_isNs (PySem.W.isNs_of_in X c5), PySem.W.nsMap_none_of_in X c5 c6, PySem.W.tail_of_in X c4⟩
   . cases q
 . cases q
section
variable {X : Cx}
def tRaise (C : Addr) (E : XK) (t : TA) : TS := fun _ σ H => t σ H fun vs H1 => vs.length <= sizeLine /\ ∀ x, E (.ref C) (some x) H1
theorem zKk {x : Str} {C : Addr} {e : Expr} {es : List Expr} {np cpos pos : Pos} {E : XK} {t : TA} (hr : RaisesTo X E) (c : XCls X.K C) (hc : X.calm = true) (hg : Gl X x) (hm : X.mg x = some (.ref C)) (ha : PA X (e :: es) t)
   (hdb : (x == ("__debug__" : Str)) = false := by decide) (he : starEach (e :: es) X.env = (false, eval e X.env) :: starEach es X.env := by exact zQq rfl) (hpl : (backTo cpos (starEach es X.env)).any (·.1) = false := by exact zQx rfl) :
   PS X (.Raise (some (.Call (.Name x np) (e :: es) [] cpos)) none pos) (tRaise C E t) := by
 intro pins s σ H D I h
 obtain ⟨B, newId, initId, bmB, F, bm, N, nm, q, bs, hdct, sn, sub, ab, col, dd, k0, k1, k2, k3, k5, mN, hC, hN, hni, T⟩ := c.obj I.mod.kin
 have hp2 : (backTo cpos (starEach (e :: es) X.env)).any (·.1) = false := by
   rw [he]
   show (false || (backTo cpos (starEach es X.env)).any (·.1)) = false
   rw [hpl]
   rfl
 refine wpAny_Raise_call_subT (C := C) (nm := nm) (q := q) (N := N) (bs := bs) (bm := bm) (hdct := hdct) (sn := sn) (sub := sub) (ab := ab) (col := col) (dd := dd) (k0 := k0) (k1 := k1) (k2 := k2) (k3 := k3) (k5 := k5)
   F (mN := mN) (T.hasType F.hasBase) (I.ok.hd hc) hp2 hni (yZj I hg hm ⟨rfl, ?_⟩ hdb)
 have ha' := ha cpos pins s σ H _ I h
 rw [he] at ha' ⊢
 refine Calls.evalArgs_plain (wpAny_mono ha' (fun vs s₂ h₂ => ?_) fun _ _ y => y)
 obtain ⟨xs, H1, J, r, hl, q⟩ := h₂
 exact ⟨rfl, by rw [<- r.length]; exact hl, J.bk _ _ hC, hN.keeps J.bk, T.keeps J.bk, fun h' e m => hr pins σ H1 s₂ h' e _ vs J m (q e)⟩
end
abbrev Cx.tr (X : Cx) (pn : List (Addr × Obj)) (xe : Value -> Shared -> Prop) : Cx := { X with pn := pn, xe := xe }
abbrev Cx.hand (X : Cx) (x : Addr) (pn : List (Addr × Obj)) : Cx := { X with A := X.A.mark (some (.ref x)), calm := false, pn := pn, xe := fun _ _ => False }
section
variable {X : Cx} {pins pins' : List (Addr × Obj)} {σ : St} {H : Hp} {s : Shared} {xe : Value -> Shared -> Prop} {x : Addr}
theorem Cx.Ok.tr {pn : List (Addr × Obj)} (ok : X.Ok) : (X.tr pn xe).Ok :=
 ⟨ok.mod, ok.kind, ok.glob, ok.blt, ok.above, ok.inj, ok.has, ok.cab, ok.hd, ok.frames, ok.stk, ok.exf, ok.bs, ok.bsz, ok.noex, ok.exfs, ok.funs, ok.frf⟩
theorem Cx.Ok.untr {pn : List (Addr × Obj)} (ok : (X.tr pn xe).Ok) : X.Ok :=
 ⟨ok.mod, ok.kind, ok.glob, ok.blt, ok.above, ok.inj, ok.has, ok.cab, ok.hd, ok.frames, ok.stk, ok.exf, ok.bs, ok.bsz, ok.noex, ok.exfs, ok.funs, ok.frf⟩
theorem Cx.Ok.hand {pn : List (Addr × Obj)} (ok : X.Ok) : (X.hand x pn).Ok :=
 ⟨ok.mod, ok.kind, ok.glob, ok.blt, ok.above, ok.inj, ok.has, ok.cab, (fun z => nomatch z), ok.frames, ok.stk, ok.exf, ok.bs, ok.bsz, ok.noex, ok.exfs, ok.funs, ok.frf⟩
theorem Inv.toTr (I : Inv X pins σ H s) : Inv (X.tr (X.pn ++ pins) xe) [] σ H s :=
 ⟨I.ok.tr, I.os, I.bare, I.base, I.loc, I.cell, I.free, I.freeC, fun p hp => I.pin p ((List.mem_append.mp hp).elim (fun z => z) fun z => nomatch z), I.hok, I.len⟩
theorem Inv.ofTr (I : Inv (X.tr (X.pn ++ pins) xe) pins' σ H s) : Inv X pins σ H s :=
 ⟨I.ok.untr, I.os, I.bare, I.base, I.loc, I.cell, I.free, I.freeC, fun p hp => I.pin p (List.mem_append_left _ hp), I.hok, I.len⟩
theorem Inv.toHand (I : Inv X pins σ H s) : Inv (X.hand x (X.pn ++ pins)) [] σ H s :=
 ⟨I.ok.hand, I.os, I.bare, I.base, I.loc, I.cell, I.free, I.freeC, fun p hp => I.pin p ((List.mem_append.mp hp).elim (fun z => z) fun z => nomatch z), I.hok, I.len⟩
theorem Inv.ofHand (ok : X.Ok) (I : Inv (X.hand x (X.pn ++ pins)) pins' σ H s) : Inv X pins σ H s :=
 ⟨ok, I.os, I.bare, I.base, I.loc, I.cell, I.free, I.freeC, fun p hp => I.pin p (List.mem_append_left _ hp), I.hok, I.len⟩
theorem SP.ofTr {D : Ends} {f : Flow} {s' : Shared} (h : SP (X.tr (X.pn ++ pins) xe) [] D f s') : SP X pins D f s' := by
 cases f with
 | next => obtain ⟨σ', H', I, q⟩ := h; exact ⟨σ', H', I.ofTr, q⟩
 | brk => obtain ⟨σ', H', I, q⟩ := h; exact ⟨σ', H', I.ofTr, q⟩
 | cont => obtain ⟨σ', H', I, q⟩ := h; exact ⟨σ', H', I.ofTr, q⟩
 | ret u => obtain ⟨v, σ', H', I, r, q⟩ := h; exact ⟨v, σ', H', I.ofTr, r, q⟩
end
def excO (x : Addr) (cls : Value) : HO := .ext fun h => Exc h x cls
theorem excO_ok {P : Program} {w : World} {H : Hp} {h : Heap} {x : Addr} {cls : Value} (e : Exc h x cls) : ObjOk P w H h x (excO x cls) := by
 refine ⟨e, ?_, fun h1 h2 ⟨oe, vs, a, b, c, d⟩ k => ⟨oe, vs, k _ a, b, c, d⟩⟩
 obtain ⟨oe, _, a, _⟩ := e
 exact ⟨oe, a⟩
theorem Exc.ty {M : Model} {h : Heap} {x : Addr} {cls : Value} (e : Exc h x cls) : PySem.W.Looks M h (typeOf (.ref x)) cls := by
 obtain ⟨oe, vs, a, ⟨b, _⟩, _⟩ := e
 subst b
 exact (PySem.W.Looks.ld a).andThen .now
theorem Inv.catch {X : Cx} {pins : List (Addr × Obj)} {σ : St} {H H' : Hp} {s s1 s2 : Shared} {x T T' : Addr} {cls : Value} (I : Inv X pins σ H s) (u : Un (frs X.stack) [] H H' s.heap s1.heap) (k : HOk X.prog X.w H' s1.heap)
   (S : Stays (frs X.stack) [x, T] s1.heap s2.heap) (nx : s.heap.get? x = none) (nT : s.heap.get? T = none) (hx : H' x = none) (hT : H' T = none) (ex : Exc s2.heap x cls) (ho : s2.os = s.os) (hg : AllBare s2.gens) :
   Inv X pins σ (upd H' x (excO x cls)) s2 := by
 have hr : ∀ b ∈ [x, T], s.heap.get? b = none /\ H' b = none := fun b mb => by
   rcases List.mem_cons.mp mb with z | mb
   . subst z
     exact ⟨nx, hx⟩
   . obtain rfl : b = T := by simpa using mb
     exact ⟨nT, hT⟩
 have J := I.flown u k S hr ho hg
 have nb : ∀ {b o}, s.heap.get? b = some o -> b ≠ x := fun {b o} e z => by
   rw [z, nx] at e
   cases e
 have tr : ∀ {b v}, H' b = some v -> b ≠ x := fun {b v} e z => by
   rw [z, hx] at e
   cases e
 have U := un_stays u S fun b m => (hr b m).1
 refine I.call' ho ⟨U.keep, U.slot, fun b o e n z => ?_, U.there, fun b xs e => ?_, fun b o v e => ?_, fun b ps e => ?_⟩ (fun b v e => ?_) hg fun b z => absurd z (by simp)
 . rw [zWx (nb e)]
   exact U.free b o e n z
 . rw [zWx (tr (U.tups b xs e))]
   exact U.tups b xs e
 . rw [zWx (tr (U.frzs b o v e))]
   exact U.frzs b o v e
 . obtain ⟨more, q⟩ := U.tbls b ps e
   exact ⟨more, by rw [zWx (tr q)]; exact q⟩
 . by_cases z : b = x
   . subst z
     rw [zQz] at e
     cases e
     exact excO_ok ex
   . rw [zWx z] at e
     exact (J.hok b v e).stay (fun c w' _ q => q) (fun c q => by rw [zWx (tr q)]; exact q) fun c xs q => by rw [zWx (tr q)]; exact q
section
variable {X : Cx} {body suite : List Stmt} {b₀ : Stmt} {cn n : Str} {np pos tpos : Pos} {c : Value} {E : XK} {tb : TS} {ts : Addr -> TS} {ie : Nat}
end
section
variable {P : Program} {w : World} {K : PySem.W.Frag} {mg : Str -> Option Value} {base : Heap}
theorem Fun.okX {x qual : Str} {st : Stmt} {f : Addr} {fd : FuncData} {N ps : List Str} {k : Nat} {sp : Sp} (hk : 50 <= k + 1) (F : Fun K x qual st f fd) (S : FnScope N ps (defScope st)) (len : ∀ vs H Q E, sp vs H Q E -> vs.length = ps.length)
   (hbody : ∀ (cdv : Value) (A : Around) (outer : List Env) (s : Shared) (H : Hp) (vs : List V) (Q : VK) (E : XK), Room k (A.deeper (envOfC qual (defScope st) s.heap.objs.size f cdv)) -> sp vs H Q E ->
     ∃ t, PSs (cxOf true (CXw P w) P w K mg base N qual (defScope st) f cdv A outer s H E) (defBody st) t /\ t { nx := fun _ H' => Q .non H', rt := Q } (start N vs) H) : FnOk P w K mg base (CXw P w) (k + 1) f fd ps sp := by
 obtain ⟨oc, od, kV, doc, pm, an, cdv, ct, osl, rfl, lk, hcd⟩ := F.ex
 exact fn_of (cm := true) lk hcd S len (fun _ => hk) fun A outer s H vs Q E hr hsp => hbody cdv A outer s H vs Q E hr hsp
theorem Fun.okQ {x qual : Str} {st : Stmt} {f : Addr} {fd : FuncData} {N ps : List Str} {k : Nat} {sp : Sp} (F : Fun K x qual st f fd) (S : FnScope N ps (defScope st)) (len : ∀ vs H Q E, sp vs H Q E -> vs.length = ps.length)
   (hbody : ∀ (cdv : Value) (A : Around) (outer : List Env) (s : Shared) (H : Hp) (vs : List V) (Q : VK) (E : XK), Room k (A.deeper (envOfC qual (defScope st) s.heap.objs.size f cdv)) -> sp vs H Q E ->
     ∃ t, PSs (cxOf false (CXw P w) P w K mg base N qual (defScope st) f cdv A outer s H E) (defBody st) t /\ t { nx := fun _ H' => Q .non H', rt := Q } (start N vs) H) : FnOk P w K mg base (CXw P w) (k + 1) f fd ps sp := by
 obtain ⟨oc, od, kV, doc, pm, an, cdv, ct, osl, rfl, lk, hcd⟩ := F.ex
 exact fn_of (cm := false) lk hcd S len (fun z => nomatch z) fun A outer s H vs Q E hr hsp => hbody cdv A outer s H vs Q E hr hsp
end
theorem passE {P : Program} {w : World} {X : Cx} : Passes (CXw P w) X E0 := by
 rintro pins σ H s e s' I ⟨x, T, cls, H', _, _, _, _, _, _, _, _, _, _, z⟩
 exact z.elim
def clAcc (env : Env) : List (Str × NameKind) -> List (Str × Addr) -> List (Str × Addr)
 | [], cs => cs
 | (n, k) :: r, cs => clAcc env r (if k == .free then (n, (env.cells.lookup n).getD 0) :: cs else cs)
theorem clAcc_mem {env : Env} : ∀ {names : List (Str × NameKind)} {cs : List (Str × Addr)} {n : Str} {c : Addr}, (n, c) ∈ clAcc env names cs -> (n, c) ∈ cs \/ ((n, NameKind.free) ∈ names /\ c = (env.cells.lookup n).getD 0)
 | [], _, _, _, h => .inl h
 | (m, k) :: r, cs, n, c, h => by
   unfold clAcc at h
   rcases clAcc_mem h with q | ⟨q, e⟩
   . by_cases hk : (k == NameKind.free) = true
     . rw [if_pos hk] at q
       rcases List.mem_cons.mp q with z | z
       . obtain ⟨z1, z2⟩ := Prod.mk.inj z
         subst z1 z2
         exact .inr ⟨by rw [beq_iff_eq.mp hk]; exact List.mem_cons_self, rfl⟩
       . exact .inl z
     . rw [if_neg hk] at q
       exact .inl q
   . exact .inr ⟨List.mem_cons_of_mem _ q, e⟩
theorem clAcc_sub {env : Env} : ∀ {names : List (Str × NameKind)} {cs : List (Str × Addr)} {p : Str × Addr}, p ∈ cs -> p ∈ clAcc env names cs
 | [], _, _, h => h
 | (m, k) :: r, cs, p, h => by
   unfold clAcc
   refine clAcc_sub ?_
   split
   . exact List.mem_cons_of_mem _ h
   . exact h
theorem clAcc_has {env : Env} : ∀ {names : List (Str × NameKind)} {cs : List (Str × Addr)} {n : Str}, (n, NameKind.free) ∈ names -> ∃ c, (n, c) ∈ clAcc env names cs
 | (m, k) :: r, cs, n, h => by
   unfold clAcc
   rcases List.mem_cons.mp h with z | z
   . obtain ⟨z1, z2⟩ := Prod.mk.inj z
     subst z1
     refine ⟨_, clAcc_sub (p := (n, (env.cells.lookup n).getD 0)) ?_⟩
     rw [if_pos (by rw [<- z2]; rfl)]
     exact List.mem_cons_self
   . exact clAcc_has z
theorem wQq {α : Type} : ∀ {l : List (Str × α)} {n : Str} {c : α}, (n, c) ∈ l -> ∃ d, l.lookup n = some d
 | (m, d) :: r, n, c, h => by
   rw [List.lookup_cons]
   cases e : n == m with
   | true => exact ⟨d, rfl⟩
   | false =>
     rcases List.mem_cons.mp h with z | z
     . obtain ⟨z1, _⟩ := Prod.mk.inj z
       subst z1
       rw [beq_self_eq_true] at e
       cases e
     . exact wQq z
theorem xQz {env : Env} {f : Str × NameKind -> List (Str × Addr) -> Sem (ForInStep (List (Str × Addr)))} (hf : ∀ n r, f (n, .free) r = (do let c <- cellOf env n; pure (ForInStep.yield ((n, c) :: r)))) (hg : ∀ n k r, k ≠ .free -> f (n, k) r = pure (ForInStep.yield r)) :
   ∀ (names : List (Str × NameKind)) (cs : List (Str × Addr)), (∀ n, (n, NameKind.free) ∈ names -> ∃ c, env.cells.lookup n = some c) -> forIn names cs f = pure (clAcc env names cs)
 | [], cs, _ => rfl
 | (n, k) :: r, cs, h => by
   rw [List.forIn_cons]
   show _ = pure (clAcc env r (if (k == NameKind.free) = true then (n, (env.cells.lookup n).getD 0) :: cs else cs))
   by_cases hk : k = .free
   . subst hk
     obtain ⟨c, hc⟩ := h n List.mem_cons_self
     have e : cellOf env n = pure c := by unfold cellOf; rw [hc]
     rw [hf, e, pure_bind, pure_bind, if_pos (show (NameKind.free == NameKind.free) = true from rfl), hc]
     exact xQz hf hg r _ fun m z => h m (List.mem_cons_of_mem _ z)
   . rw [hg n k cs hk, pure_bind, if_neg (by simpa using hk)]
     exact xQz hf hg r _ fun m z => h m (List.mem_cons_of_mem _ z)
theorem closureFor_of {scope : Scope} {env : Env} (h : ∀ n, (n, NameKind.free) ∈ scope.names -> ∃ c, env.cells.lookup n = some c) : closureFor scope env = pure (clAcc env scope.names []) := by
 simp only [closureFor]
 rw [xQz (env := env) (fun n r => rfl) (fun n k r hk => by cases k <;> first | rfl | exact absurd rfl hk) scope.names [] h]
 rfl
theorem yWx {env : Env} {n : Str} : ∀ (names : List (Str × NameKind)),
   (names.map fun (x : Str × NameKind) => if (x.2 == NameKind.free && env.scope.kind == .function && env.kindOf x.1 == some .cell) then (x.1, NameKind.cell) else (x.1, x.2)).lookup n =
     (names.lookup n).map fun k => if (k == NameKind.free && env.scope.kind == .function && env.kindOf n == some .cell) then NameKind.cell else k
 | [] => rfl
 | (m, k) :: r => by
   rw [List.map_cons]
   have ih := yWx (env := env) (n := n) r
   cases e : n == m with
   | true =>
     have z : n = m := eq_of_beq e
     subst z
     split
     . rename_i hc
       rw [List.lookup_cons, List.lookup_cons, beq_self_eq_true, Option.map_some, if_pos hc]
     . rename_i hc
       rw [List.lookup_cons, List.lookup_cons, beq_self_eq_true, Option.map_some, if_neg hc]
   | false =>
     split <;> simp only [List.lookup_cons, e, ih]
abbrev Cx.blk (X : Cx) (scope : Scope) (N : List Str) (C : Addr) (s₀ : Shared) (H₀ : Hp) (ex : List Addr) (pn : List (Addr × Obj)) : Cx :=
 { X with env := compEnvC scope (clAcc X.env scope.names []) C X.env, N := N, s₀ := s₀, H₀ := H₀, outer := X.stack, ex := ex, fn := fun _ => false, pn := pn, xe := fun _ _ => False }
def capt (ci : List Nat) (σ : St) : St := ci.map fun i => (σ[i]?).join
def PTs (X : Cx) (ifs : List Expr) (t : TT) : Prop :=
 ∀ (pins : List (Addr × Obj)) (s : Shared) (σ : St) (H : Hp) (Q : Bool -> Hp -> Prop), Inv X pins σ H s -> t σ H Q ->
   wpAny (model X.prog X.w) X.A (forIn ifs true fun c r => if r = true then do let ok <- isTrue c X.env (eval c X.env); pure (ForInStep.yield ok) else pure (ForInStep.yield r)) (TP X pins σ Q) X.xe s
def tYes : TT := fun _ H Q => Q true H
theorem yJq {X : Cx} : PTs X [] tYes := fun pins s σ H Q I h => wpAny_tests_nil ⟨H, I, h⟩
theorem pts_one {X : Cx} {c : Expr} {t : TT} (h : PT X c t) : PTs X [c] t := fun pins s σ H Q I hq => wpAny_tests_one (h pins s σ H Q I hq)
@[irreducible] def tComp (wi : TI) (ci : List Nat) (tt : TT) (te : TE) : TE := fun σ H Q => wi σ H fun J H1 => ∀ acc, H1 acc = none -> ∃ W : Nat -> Nat -> List V -> Hp -> Prop, (∃ m, W 0 m [] (upd H1 acc (.lst []))) /\
 ∀ i m ys H2, W i m ys H2 -> (J.stop i H2 /\ Q (.ref acc) H2) \/ (J.go i H2 /\ ∀ x H3, J.yld i H2 x H3 -> tt (some x :: capt ci σ) H3 fun b H4 =>
   if b = true then te (some x :: capt ci σ) H4 fun y H5 => H5 acc = some (.lst ys) /\ ys.length < sizeLine /\ ∃ m', m' < m /\ W (i + 1) m' (ys ++ [y]) (upd H5 acc (.lst (ys ++ [y])))
   else ∃ m', m' < m /\ W (i + 1) m' ys H4)
section
variable {X : Cx} {elt iter : Expr} {x : Str} {px pos : Pos} {ifs : List Expr} {scope : Scope} {ci : List Nat} {caps : List Str} {wi : TI} {tt : TT} {te : TE}
theorem comp_core (hc : X.calm = true) (hi : PI X (.Name x px) iter wi) (hkind : scope.kind = .function) (hcell : ∀ y ∈ scope.names, y.2 ≠ .cell) (hnames : ∀ y ∈ scope.names, y.2 = .local -> scope.names.lookup y.1 = some .local)
   (hx : scope.names.lookup x = some .local) (hfree : ∀ y ∈ scope.names, y.2 = .free -> X.env.kindOf y.1 = some .cell)
   (hcap : ∀ p ∈ caps.zip ci, scope.names.lookup p.1 = some .free /\ X.N[p.2]? = some p.1) (hlen : caps.length = ci.length) (hnd : (x :: caps).Nodup)
   (ht : ∀ C s₀ H₀ ex pn, PTs (X.blk scope (x :: caps) C s₀ H₀ ex pn) ifs tt) (he : ∀ C s₀ H₀ ex pn, PE (X.blk scope (x :: caps) C s₀ H₀ ex pn) elt te)
   (hs : ∀ v, foldedSetIterable iter X.env v = pure v) {use : Option (Value -> Sem Unit)} {Qv : Value -> Shared -> Prop} {ppos : Pos}
   {pins : List (Addr × Obj)} {s : Shared} {σ : St} {H : Hp} {Q : VK} (I : Inv X pins σ H s) (h : tComp wi ci tt te σ H Q)
   (fin : ∀ acc C H5 s6 m6, Inv X pins σ H5 s6 -> Q (.ref acc) H5 -> s6.heap.Ns C m6 -> FpOk X pins H5 C -> compPost (model X.prog X.w) X.A X.xe use Qv (.ref acc) C (.ok .next) s6) :
   wpAny (model X.prog X.w) X.A (comprehension (.ListComp elt [⟨.Name x px, iter, ifs, 0⟩] scope pos) scope X.env ppos (newList []) false (eval iter X.env) use) Qv X.xe s := by
 unfold tComp at h
 have hfree' : ∀ n, (n, NameKind.free) ∈ scope.names -> X.env.kindOf n = some .cell := fun n m => hfree (n, .free) m rfl
 have hclos : closureFor scope X.env = pure (clAcc X.env scope.names []) := closureFor_of fun n m => I.ok.has n (.inl (hfree' n m))
 have c1 : ∀ n c, (clAcc X.env scope.names []).lookup n = some c -> (n, NameKind.free) ∈ scope.names /\ X.env.cells.lookup n = some c := fun n c e => by
   rcases clAcc_mem (PySem.mem_of_lookup e) with z | ⟨z, e'⟩
   . exact absurd z (by simp)
   . obtain ⟨d, hd⟩ := I.ok.has n (.inl (hfree' n z))
     rw [hd] at e'
     exact ⟨z, by rw [hd, e']; rfl⟩
 have c2 : ∀ n, (n, NameKind.free) ∈ scope.names -> ∃ c, (clAcc X.env scope.names []).lookup n = some c := fun n m => by
   obtain ⟨c, hc⟩ := clAcc_has (env := X.env) (cs := []) m
   exact wQq hc
 refine wpAny_comprehension_free (use := use) rfl hs hclos hkind hnames (thn (hi pins s σ H _ I h) fun v s1 h1 => thn h1 fun itv s2 h2 => ?_)
 obtain ⟨it, fp, tn, J, H2, e, I2, T, st2, f2, rd⟩ := h2
 subst e
 have fz : H2 s2.heap.objs.size = none := I2.fresh
 obtain ⟨W, ⟨m0, w0⟩, turn⟩ := rd s2.heap.objs.size fz
 refine wpAny_newObj_type (wpAny_newFunctionEnv hcell (by intro y hy; simp at hy) (fun h₁ hns₁ hsb₁ => ?_) hkind)
 dsimp only at hns₁ hsb₁ ⊢
 have I3 : Inv X pins σ (upd H2 s2.heap.objs.size (.lst [])) { s2 with heap := s2.heap.push { cls := .type "list", dict := none, data := .seq ([] : List Value).toArray } } := I2.lnew (ys := []) (its := []) (t' := s2.toks) .nil (Nat.zero_le _)
 generalize hg3 : s2.heap.push { cls := .type "list", dict := none, data := .seq ([] : List Value).toArray } = g3 at hns₁ hsb₁ I3 ⊢
 generalize hacc : s2.heap.objs.size = acc at *
 have hC : g3.objs.size = acc + 1 := by rw [<- hg3, Heap.size_push, hacc]
 generalize hH3 : upd H2 acc (HO.lst []) = H3 at *
 generalize hs3 : ({ s2 with heap := g3 } : Shared) = s3 at *
 have h3 : s3.heap = g3 := by rw [<- hs3]
 have o3 : s3.os = s2.os := by rw [<- hs3]
 have b3 : s3.gens = s2.gens := by rw [<- hs3]
 have up : ∀ b o, g3.get? b = some o -> h₁.get? b = some o := fun b o e => hsb₁.extBut b o (Nat.ne_of_lt (Heap.lt_size e)) (Heap.get?_push_of_some _ e)
 have fpo : ∀ b ∈ fp, ∃ o, s2.heap.get? b = some o := fun b hb => by
   obtain ⟨o, e, _⟩ := T.obj _ _ st2 b hb
   exact ⟨o, e⟩
 have fplt : ∀ b ∈ fp, b < acc := fun b hb => by
   obtain ⟨o, e⟩ := fpo b hb
   rw [<- hacc]
   exact Heap.lt_size e
 have g3of : ∀ b o, s2.heap.get? b = some o -> g3.get? b = some o := fun b o e => by
   rw [<- hg3]
   exact Heap.get?_push_of_some _ e
 let Y : Cx := X.blk scope (x :: caps) g3.objs.size s3 H3 fp (X.pn ++ pins)
 have okY : Y.Ok := by
   refine ⟨I.ok.mod, hkind, I.ok.glob, I.ok.blt, by show s3.heap.objs.size <= g3.objs.size; rw [h3]; exact Nat.le_refl _, fun y z c e1 e2 => I.ok.inj y z c (c1 y c e1).2 (c1 z c e2).2, fun y hy => ?_, fun y c z => (nomatch z), I.ok.hd, I.ok.frames, .inl rfl, fun b hb => ⟨?_, fun y c e z => ?_⟩, I3.bs, Nat.le_trans I.ok.bsz I3.sz, fun b o e hb => ?_, fun b hb z => ?_, I3.stack, I3.stkFree⟩
   . have hy' : (relabel scope X.env).names.lookup y = some .cell \/ (relabel scope X.env).names.lookup y = some .free := hy
     have e := yWx (env := X.env) (n := y) scope.names
     have e' : (relabel scope X.env).names.lookup y = (scope.names.lookup y).map fun k => if (k == NameKind.free && X.env.scope.kind == .function && X.env.kindOf y == some .cell) then NameKind.cell else k := e
     cases q : scope.names.lookup y with
     | none =>
       rw [q] at e'
       rw [e'] at hy'
       rcases hy' with z | z <;> cases z
     | some k =>
       have mk := PySem.mem_of_lookup q
       by_cases hk : k = .free
       . subst hk
         exact c2 y mk
       . rw [q] at e'
         have nk : (k == NameKind.free) = false := beq_eq_false_iff_ne.mpr hk
         simp only [Option.map_some, nk, Bool.false_and, Bool.false_eq_true, if_false] at e'
         rw [e'] at hy'
         rcases hy' with z | z
         . exact absurd (Option.some.inj z) (hcell _ mk)
         . exact absurd (Option.some.inj z) hk
   . show b ≠ g3.objs.size
     rw [hC]
     exact Nat.ne_of_lt (Nat.lt_succ_of_lt (fplt b hb))
   . exact (f2 b hb).2.2.2.2.1 y c (c1 y c e).2 z
   . rcases (f2 b hb).2.2.2.1 with z | z
     . exact I.ok.noex b o e z
     . exact absurd (Nat.lt_of_lt_of_le (Heap.lt_size e) (Nat.le_trans I.ok.bsz z)) (Nat.lt_irrefl _)
   . rcases List.mem_cons.mp (I.stkSub b z) with q | q
     . exact (f2 b hb).2.1 q
     . exact (f2 b hb).2.2.1 q
 have capL : (capt ci σ).length = caps.length := by unfold capt; rw [List.length_map, hlen]
 have hf3 : ∀ b ∈ fp, H3 b = none := fun b hb => by
   rw [<- hH3, zWx (Nat.ne_of_lt (fplt b hb))]
   exact (f2 b hb).1
 have IY : Inv Y [] (none :: capt ci σ) H3 { s2 with heap := h₁, toks := s2.toks + ([] : List (Str × Value)).length } := by
   refine ⟨okY, o3.symm, by have := I3.bare; rw [b3] at this; exact this, Un.kept (fun b u e => up b u (by rw [<- h3]; exact e)), ⟨_, hns₁, fun i y v e1 e2 e3 => ?_⟩, fun y c e => ?_, I3.hok.fresh (by rw [h3]; exact Nat.le_refl _), fun y c e => I3.freeC y c (c1 y c e).2, fun p hp => ?_, fun b u e => ((I3.hok b u e).stay (fun c v _ q => up c v (by rw [<- h3]; exact q)) (fun _ q => q) fun _ _ q => q), by show (capt ci σ).length + 1 = caps.length + 1; rw [capL]⟩
   . cases i with
     | zero => simp at e2
     | succ j =>
       have e1' : caps[j]? = some y := e1
       have e2' : (capt ci σ)[j]? = some (some v) := e2
       unfold capt at e2'
       rw [List.getElem?_map] at e2'
       cases q : ci[j]? with
       | none => rw [q] at e2'; cases e2'
       | some i =>
         rw [q] at e2'
         have ev : σ[i]? = some (some v) := by
           have z : (σ[i]?).join = some v := Option.some.inj e2'
           cases w : σ[i]? with
           | none => rw [w] at z; cases z
           | some o => rw [w] at z; exact congrArg some z
         have hz : (y, i) ∈ caps.zip ci := by
           refine List.mem_iff_getElem?.mpr ⟨j, ?_⟩
           rw [List.getElem?_zip_eq_some]
           exact ⟨e1', q⟩
         obtain ⟨k1, k2⟩ := hcap _ hz
         have kX := hfree' y (PySem.mem_of_lookup k1)
         obtain ⟨mX, _, hl⟩ := I3.loc
         obtain ⟨u, ru, lk⟩ := hl i y v k2 ev (.inr (.inl kX))
         refine ⟨u, ru, .inr ⟨.inl ?_, ?_⟩⟩
         . have e := yWx (env := X.env) (n := y) scope.names
           show (relabel scope X.env).names.lookup y = some .cell
           refine Eq.trans e ?_
           rw [k1, Option.map_some, kX, I.ok.kind]
           rfl
         . rcases lk with ⟨a, _⟩ | ⟨_, c, ec, z⟩
           . rw [kX] at a; cases a
           . obtain ⟨d, hd⟩ := c2 y (PySem.mem_of_lookup k1)
             have := (c1 y d hd).2
             rw [ec] at this
             cases this
             obtain ⟨oc, hoc, hdc⟩ := z
             exact ⟨c, hd, oc, up _ _ (by rw [<- h3]; exact hoc), hdc⟩
   . obtain ⟨v, oc, hoc, hdc⟩ := I3.cell y c (c1 y c e).2
     exact ⟨v, oc, up _ _ (by rw [<- h3]; exact hoc), hdc⟩
   . have hp' : p ∈ X.pn ++ pins := (List.mem_append.mp hp).elim (fun z => z) fun z => nomatch z
     obtain ⟨a, b, c, d, e⟩ := I3.pin p hp'
     refine ⟨up _ _ (by rw [<- h3]; exact a), b, ?_, fun z => ?_, e⟩
     . show p.1 ≠ g3.objs.size
       have := Heap.lt_size a
       rw [h3] at this
       exact Nat.ne_of_lt this
     . rcases List.mem_cons.mp (I3.stkSub _ z) with q | q
       . exact c q
       . exact d q
 have stat : ∀ {H' : Hp}, (∀ b ∈ fp, H' b = none) -> ∀ b ∈ fp, FpOk Y [] H' b := fun {H'} hn b hb => by
   refine ⟨hn b hb, ?_, fun z => ?_, .inl hb, fun y c e z => (f2 b hb).2.2.2.2.1 y c (c1 y c e).2 z, fun p hp z => ?_⟩
   . show b ≠ g3.objs.size
     rw [hC]
     exact Nat.ne_of_lt (Nat.lt_succ_of_lt (fplt b hb))
   . rcases List.mem_cons.mp (I.stkSub b z) with q | q
     . exact (f2 b hb).2.1 q
     . exact (f2 b hb).2.2.1 q
   . have hp' : p ∈ X.pn ++ pins := (List.mem_append.mp hp).elim (fun z => z) fun z => nomatch z
     exact (f2 b hb).2.2.2.2.2 p hp' z
 have loop : ∀ s4 : Shared, s4 = { s2 with heap := h₁, toks := s2.toks + ([] : List (Str × Value)).length } ->
     codeAny (model X.prog X.w) X.A (.compLoop (.ListComp elt [⟨.Name x px, iter, ifs, 0⟩] scope pos) 0 (.ref it) (.ref acc) (compEnvC scope (clAcc X.env scope.names []) g3.objs.size X.env))
       (compPost (model X.prog X.w) X.A X.xe use Qv (.ref acc) g3.objs.size) s4 := by
   rintro s4 rfl
   refine codeAny_loop rfl (fun n s' => ∃ i ys v0 H', Inv Y [] (v0 :: capt ci σ) H' s' /\ tn i s'.heap /\ (∀ b ∈ fp, H' b = none) /\ W i n ys H') (fun n s5 hI => ?_) m0 ⟨0, [], none, H3, IY, T.keep _ _ _ st2 fun b hb o e => up b o (g3of b o e), hf3, w0⟩
   obtain ⟨i, ys, v0, H5, I5, st5, fr5, w5⟩ := hI
   refine wpAny_noted ?_
   rw [compTurn_list]
   refine wpAny_bind (wpAny_standAt (wpAny_bind ?_))
   rcases turn i n ys H5 w5 with ⟨stop, qn⟩ | ⟨go, step⟩
   . refine thn (T.done Y rfl rfl rfl hc i [] s5 _ H5 _ I5 (stat fr5) st5 stop) fun r s6 ⟨hr, I6⟩ => ?_
     subst hr
     refine wpAny_pure ?_
     obtain ⟨m6, ns6, _⟩ := id I6.loc
     have J6 : Inv X pins σ H5 s6 := I3.call' (ch := fp) (I6.os.trans (by rfl)) I6.base I6.hok I6.bare fun b hb => by
       obtain ⟨_, a1, _, a3, a4, a5⟩ := f2 b hb
       exact ⟨a3, a1, a4, a5⟩
     refine fin acc g3.objs.size H5 s6 m6 J6 qn ns6 ⟨I6.free, ?_, fun z => ?_, .inr ?_, fun y c e z => ?_, fun p hp z => ?_⟩
     . intro z
       have := I3.lt
       rw [h3, <- z] at this
       exact absurd this (Nat.lt_irrefl _)
     . have := I3.nofs (a := g3.objs.size) (by rw [h3]; exact Nat.le_refl _)
       exact this z
     . have := I3.sz
       rw [h3] at this
       exact this
     . obtain ⟨v, q⟩ := I3.cell y c e
       have := q.lt
       rw [h3, z] at this
       exact absurd this (Nat.lt_irrefl _)
     . have := Heap.lt_size (I3.pin p hp).1
       rw [h3, z] at this
       exact absurd this (Nat.lt_irrefl _)
   . refine thn (T.item Y rfl rfl rfl hc i [] s5 _ H5 _ I5 (stat fr5) st5 go) fun r s6 ⟨u, hr, h6⟩ => ?_
     subst hr
     refine wpAny_bind (thn h6 fun _ s7 ⟨y, H7, I7, r7, y7, st7, fr7⟩ => ?_)
     have I7' := I7.pinned (stat fr7) (T.obj _ _ st7)
     refine wpAny_bind (wpAny_assign_Name (wWj (i := 0) I7' hnd rfl (.inl (lookup_relabel_local hx)) r7 (fun s8 I8 => ?_) (.inr (lookup_relabel_local hx))))
     have back : ∀ {σ9 : St} {H9 : Hp} {s9 : Shared}, Inv Y ([] ++ pinsAt fp s7.heap) σ9 H9 s9 -> Inv Y [] σ9 H9 s9 /\ tn (i + 1) s9.heap /\ ∀ b ∈ fp, H9 b = none := fun {σ9 H9 s9} I9 => by
       refine ⟨I9.unpinned, T.keep _ _ _ st7 fun b hb o e => (I9.pin (b, o) (List.mem_append_right _ (List.mem_append_right _ (yKq hb e)))).1, fun b hb => ?_⟩
       obtain ⟨o, e, d⟩ := T.obj _ _ st7 b hb
       exact (I9.pin (b, o) (List.mem_append_right _ (List.mem_append_right _ (yKq hb e)))).2.1
     refine wpAny_bind (wpAny_mono (ht _ _ _ _ _ _ s8 _ H7 _ I8 (step y H7 y7)) (fun ok s9 q9 => ?_) fun _ _ z => False.elim z)
     obtain ⟨H9, I9, q9⟩ := q9
     cases ok with
     | false =>
       obtain ⟨m', hm, w9⟩ := q9
       obtain ⟨a1, a2, a3⟩ := back I9
       exact wpAny_pure ⟨rfl, m', hm, i + 1, ys, some y, H9, a1, a2, a3, w9⟩
     | true =>
       refine wpAny_bind (wpAny_bind (wpAny_mono (he _ _ _ _ _ _ s9 _ H9 _ I9 q9) (fun v s10 q10 => ?_) fun _ _ z => False.elim z))
       obtain ⟨z, H10, I10, rz, hl, hsz, m', hm, w10⟩ := q10
       refine wpAny_bind (wpAny_mono (yJj (X := Y) _ s10 _ H10 (.ref acc) [z] (.ref acc) [v] (fun _ H' => H' = upd H10 acc (.lst (ys ++ [z]))) I10 rfl (.cons rz .nil) ⟨acc, ys, z, rfl, rfl, hl, hsz, rfl⟩) (fun _ s11 q11 => ?_) fun _ _ z => False.elim z)
       obtain ⟨_, H11, I11, _, rfl⟩ := q11
       obtain ⟨a1, a2, a3⟩ := back I11
       exact wpAny_pure (wpAny_pure ⟨rfl, m', hm, i + 1, ys ++ [z], some y, _, a1, a2, a3, w10⟩)
 have st4 : tn 0 h₁ := T.keep _ _ _ st2 fun b hb o e => up b o (g3of b o e)
 exact codeAny_compStart_list (loop _ rfl) (T.self _ 0 _ _ _ st4 (loop _ rfl))
theorem yJw (hc : X.calm = true) (hi : PI X (.Name x px) iter wi) (hkind : scope.kind = .function) (hcell : ∀ y ∈ scope.names, y.2 ≠ .cell) (hnames : ∀ y ∈ scope.names, y.2 = .local -> scope.names.lookup y.1 = some .local)
   (hx : scope.names.lookup x = some .local) (hfree : ∀ y ∈ scope.names, y.2 = .free -> X.env.kindOf y.1 = some .cell)
   (hcap : ∀ p ∈ caps.zip ci, scope.names.lookup p.1 = some .free /\ X.N[p.2]? = some p.1) (hlen : caps.length = ci.length) (hnd : (x :: caps).Nodup)
   (ht : ∀ C s₀ H₀ ex pn, PTs (X.blk scope (x :: caps) C s₀ H₀ ex pn) ifs tt) (he : ∀ C s₀ H₀ ex pn, PE (X.blk scope (x :: caps) C s₀ H₀ ex pn) elt te)
   (hs : ∀ v, foldedSetIterable iter X.env v = pure v := by intro _; rfl) : PE X (.ListComp elt [⟨.Name x px, iter, ifs, 0⟩] scope pos) (tComp wi ci tt te) := by
 intro pins s σ H Q I h
 rw [eval_ListComp]
 refine comp_core hc hi hkind hcell hnames hx hfree hcap hlen hnd ht he hs (use := none) I h fun acc C H5 s6 m6 J q ns f => ⟨m6, ns, fun h' sb => ?_⟩
 obtain ⟨f0, f1, _, f3, f4, f5⟩ := f
 exact ⟨.ref acc, H5, J.turned (t' := s6.toks) (fun b o hb e => (sb.2 b hb).trans e) f0 f1 f3 f4 f5, rfl, q⟩
theorem ps_comp {y : Str} {iy : Nat} {py spos : Pos} (hc : X.calm = true) (hN : X.N.Nodup) (hiy : X.N[iy]? = some y) (hly : X.env.scope.names.lookup y = some .local) (hsw : swapsWith (.ListComp elt [⟨.Name x px, iter, ifs, 0⟩] scope pos) (some (.Name y py)) spos.line X.env = pure true)
   (hi : PI X (.Name x px) iter wi) (hkind : scope.kind = .function) (hcell : ∀ y ∈ scope.names, y.2 ≠ .cell) (hnames : ∀ y ∈ scope.names, y.2 = .local -> scope.names.lookup y.1 = some .local)
   (hx : scope.names.lookup x = some .local) (hfree : ∀ y ∈ scope.names, y.2 = .free -> X.env.kindOf y.1 = some .cell)
   (hcap : ∀ p ∈ caps.zip ci, scope.names.lookup p.1 = some .free /\ X.N[p.2]? = some p.1) (hlen : caps.length = ci.length) (hnd : (x :: caps).Nodup)
   (ht : ∀ C s₀ H₀ ex pn, PTs (X.blk scope (x :: caps) C s₀ H₀ ex pn) ifs tt) (he : ∀ C s₀ H₀ ex pn, PE (X.blk scope (x :: caps) C s₀ H₀ ex pn) elt te)
   (hs : ∀ v, foldedSetIterable iter X.env v = pure v := by intro _; rfl) : PS X (.Assign [.Name y py] (.ListComp elt [⟨.Name x px, iter, ifs, 0⟩] scope pos) spos) (tAsg (tComp wi ci tt te) (gName iy)) := by
 intro pins s σ H D I h
 have h : tComp wi ci tt te σ H (fun v H1 => D.nx (σ.set iy (some v)) H1) := h
 rw [exec_Assign_Name_used _ _ _ _ hsw]
 refine wpAny_bind (wpAny_standAt (wpAny_bind ?_))
 refine wpAny_bind (wpAny_mono (comp_core hc hi hkind hcell hnames hx hfree hcap hlen hnd ht he hs (use := some (assign (.Name y py) X.env)) (Qv := fun _ s' => SP X pins D .next s') I h fun acc C H5 s6 m6 J q ns f => ?_) (fun _ s' hq => wpAny_pure (wpAny_pure hq)) fun _ _ e => e)
 refine wpAny_assign_Name (store_ok2 (i := iy) (v := .ref acc) J hN hiy (.inl hly) rfl (fun s7 I7 hsb => ?_) (.inr hly))
 obtain ⟨f0, f1, f2, f3, f4, f5⟩ := f
 obtain ⟨a, sb, ha⟩ := hsb
 have aC : C ≠ a := by
   rcases ha with z | z
   . rw [z]
     exact f1
   . exact fun w => f4 y a z w.symm
 exact ⟨m6, ns.sameBut sb aC, fun h' sb' => ⟨_, H5, I7.turned (t' := s7.toks) (fun b o hb e => (sb'.2 b hb).trans e) f0 f1 f3 f4 f5, q⟩⟩
end
def plainV : V -> Bool
 | .non => true
 | .bl _ => true
 | .int _ => true
 | .str _ => true
 | .ref _ => true
 | _ => false
theorem eqAt_self {A : Around} {s : Shared} {v : V} {u u' : Value} (r : RelV v u) (r' : RelV v u') (h : plainV v = true) : SeqAt.EqAt A s u u' true := by
 cases v with
 | non => exact eqAt_V (y := .non) (x := .non) r r' rfl rfl
 | bl b => have := eqAt_V (A := A) (s := s) (y := .bl b) (x := .bl b) r r' rfl rfl; simpa [eqV] using this
 | int b => have := eqAt_V (A := A) (s := s) (y := .int b) (x := .int b) r r' rfl rfl; simpa [eqV] using this
 | str b => have := eqAt_V (A := A) (s := s) (y := .str b) (x := .str b) r r' rfl rfl; simpa [eqV] using this
 | ref a =>
   cases (show u = Value.ref a from r)
   cases (show u' = Value.ref a from r')
   exact SeqAt.EqAt.same _
 | byt b => cases h
 | flt b => cases h
 | ty b => cases h
theorem eqAt_all {A : Around} {s : Shared} {xs : List V} {us us' : List Value} (r : Vals xs us) (r' : Vals xs us') (h : xs.all plainV = true) :
   ∀ j (h1 : j < us.toArray.size) (h2 : j < us'.toArray.size), SeqAt.EqAt A s us.toArray[j] us'.toArray[j] ((fun _ => true) j) := fun j h1 h2 => by
 have hj : j < xs.length := by
   have := r.length
   rw [List.size_toArray] at h1
   omega
 obtain ⟨u, e1, q1⟩ := r.get (i := j) (x := xs[j]) (by simp [hj])
 obtain ⟨u', e2, q2⟩ := r'.get (i := j) (x := xs[j]) (by simp [hj])
 have z1 : us.toArray[j] = u := by
   have := (List.getElem?_eq_some_iff.mp e1).2
   simpa using this
 have z2 : us'.toArray[j] = u' := by
   have := (List.getElem?_eq_some_iff.mp e2).2
   simpa using this
 rw [z1, z2]
 exact eqAt_self q1 q2 (List.all_eq_true.mp h _ (List.getElem_mem hj))
section
variable {X : Cx}
def rEqL (K : PySem.W.Frag) : R2 := fun x y H Q => ∃ a b xs ys, x = .ref a /\ y = .ref b /\ SqL K H a xs /\ SqL K H b ys /\ ((xs = ys /\ xs.all plainV = true /\ Q (.bl true) H) \/ (xs.length ≠ ys.length /\ Q (.bl false) H))
theorem all_true (n : Nat) : ((List.range n).all fun _ => true) = true := by simp
theorem op_eqL (hu : X.A.units < cLine) : OpR X (compareOp .Eq) (rEqL X.K) := by
 intro pins s σ H x y v u Q I rx ry h
 obtain ⟨a, b, xs, ys, rfl, rfl, ha, hb, h⟩ := h
 cases (show v = Value.ref a from rx)
 cases (show u = Value.ref b from ry)
 obtain ⟨its, r1, p1, _⟩ := I.list ha
 obtain ⟨its', r2, p2, _⟩ := I.list hb
 rcases h with ⟨rfl, hp, q⟩ | ⟨hn, q⟩
 . refine SeqAt.eq_listAt p1.isList p2.isList (by rw [List.size_toArray, List.size_toArray, <- r1.length, <- r2.length]) hu (eqAt_all r1 r2 hp) ?_
   rw [all_true]
   exact ⟨.bl true, H, I, rfl, q⟩
 . refine SeqAt.eq_list_lengthsAt p1.isList p2.isList ?_ hu ⟨.bl false, H, I, rfl, q⟩
   rw [List.size_toArray, List.size_toArray, <- r1.length, <- r2.length]
   exact bne_iff_ne.mpr hn
end
section
variable {prog : Program} {w : World} {A : Around} {E : Value -> Shared -> Prop} {s : Shared}
end
structure XAsk (K : PySem.W.Frag) (D : Addr) : Prop where
 ga : PySem.W.findIn K (.ref D) "__getattribute__" = some (some (.builtin "BaseException.__getattribute__"))
 gt : PySem.W.findIn K (.ref D) "__getattr__" = some none
 cl : PySem.W.hasDictIn K D = true
 at_ : PySem.W.findIn K (.ref D) "__class__" = some (some (.builtin "object.__class__"))
 get : PySem.W.specialIn K (.builtin "object.__class__") "__get__" = some (some (.builtin "getset_descriptor.__get__"))
 tk : PySem.W.takesIn K (.builtin "object.__class__") = some true
 ob : PySem.W.mroIn K D (.type "object") = some true
 be : PySem.W.mroIn K D (.type "BaseException") = some true
section
variable {prog : Program} {w : World} {K : PySem.W.Frag} {A : Around} {E : Value -> Shared -> Prop} {s : Shared} {x D : Addr} {ox : Obj}
open PySem.W
end
end L2
namespace L2
open PySem PySem.Spec PyProof.Rows
structure TurnH (P : Program) (w : World) (K : PySem.W.Frag) (tg : Expr) (J : It) (fp : List Addr) (it : Addr) (tn : Nat -> Heap -> Prop) : Prop where
 mem : it ∈ fp
 obj : ∀ i h, tn i h -> ∀ b ∈ fp, ∃ o, h.get? b = some o /\ ∀ v, o.data ≠ .cell v
 keep : ∀ i h h', tn i h -> (∀ b ∈ fp, ∀ o, h.get? b = some o -> h'.get? b = some o) -> tn i h'
 item : ∀ (X : Cx), X.prog = P -> X.w = w -> X.K = K -> ∀ (i : Nat) (pins : List (Addr × Obj)) (s : Shared) (σ : St) (H : Hp) (E : Value -> Shared -> Prop), Inv X pins σ H s -> (∀ b ∈ fp, FpOk X pins H b) -> tn i s.heap -> J.go i H ->
   wpAny (model P w) X.A (pyNext (.ref it)) (fun r s1 => ∃ u, r = some u /\
     wpAny (model P w) X.A (letOwnedTupleGo tg (.ref it) u) (fun _ s2 => ∃ x H', Inv X pins σ H' s2 /\ RelV x u /\ J.yld i H x H' /\ tn (i + 1) s2.heap /\ ∀ b ∈ fp, H' b = none) E s1) E s
 done : ∀ (X : Cx), X.prog = P -> X.w = w -> X.K = K -> ∀ (i : Nat) (pins : List (Addr × Obj)) (s : Shared) (σ : St) (H : Hp) (E : Value -> Shared -> Prop) (eh : Addr) (cls : Value), X.A.handled = some (.ref eh) -> H eh = some (excO eh cls) ->
   Inv X pins σ H s -> (∀ b ∈ fp, FpOk X pins H b) -> tn i s.heap -> J.stop i H -> wpAny (model P w) X.A (pyNext (.ref it)) (fun r s1 => r = none /\ Inv X pins σ H s1) E s
 self : ∀ (A : Around) (i : Nat) (s : Shared) (Q : Value -> Shared -> Prop) (E : Value -> Shared -> Prop), tn i s.heap -> Q (.ref it) s -> wpAny (model P w) A (pyIter (.ref it)) Q E s
section
variable {X : Cx} {elt iter : Expr} {x : Str} {px pos : Pos} {ifs : List Expr} {scope : Scope} {ci : List Nat} {caps : List Str} {wi : TI} {tt : TT} {te : TE}
end
abbrev SpA := Around -> Sp
structure FnOkA (P : Program) (w : World) (K : PySem.W.Frag) (mg : Str -> Option Value) (base : Heap) (CX : CXT) (k : Nat) (f : Addr) (fd : FuncData) (ps : List Str) (sp : SpA) : Prop where
 len : ∀ A vs H Q E, sp A vs H Q E -> vs.length = ps.length
 run : ∀ (A : Around) (outer : List Env) (s : Shared) (H : Hp) (args : Args) (us : List Value) (vs : List V) (Q : VK) (E : XK), Room k A -> Env0 P w K mg base A outer s H -> BindsTo s fd args (ps.zip us) -> Vals vs us -> sp A vs H Q E ->
   codeAny (model P w) A (.call (.ref f) args) (CR CX outer P w H s Q E) s
section
variable {P : Program} {w : World} {K : PySem.W.Frag} {mg : Str -> Option Value} {base : Heap}
end
section
variable {X : Cx} {k : Nat} {f : Addr} {fd : FuncData} {ps : List Str} {sp : SpA} {x : Str} {p pos : Pos} {e : Expr} {es : List Expr} {t : TA}
end
theorem Room.mark {j k : Nat} {A : Around} (r : Room j A) (h : k <= j) (hk : k < 50) (v : Option Value) : Room k (A.mark v) :=
 ⟨fun z => absurd z (Nat.not_le.mpr hk), by have := r.dp; show A.depth + 3 * k + 5 < _; omega, by have := r.un; show A.units + 16 * k + 200 < _; omega⟩
structure FnB (P : Program) (w : World) (K : PySem.W.Frag) (mg : Str -> Option Value) (base : Heap) (k : Nat) (x : Str) (ps : List Str) (sp : Sp) : Prop where
 ex : ∃ (f : Addr) (fd : FuncData), FnOk P w K mg base (CXw P w) k f fd ps sp /\ Binds K fd ps [] /\ mg x = some (.ref f) /\ PySem.W.keepIn K (.ref f) = true
structure FnBA (P : Program) (w : World) (K : PySem.W.Frag) (mg : Str -> Option Value) (base : Heap) (k : Nat) (x : Str) (ps : List Str) (sp : SpA) : Prop where
 ex : ∃ (f : Addr) (fd : FuncData), FnOkA P w K mg base (CXw P w) k f fd ps sp /\ Binds K fd ps [] /\ mg x = some (.ref f) /\ PySem.W.keepIn K (.ref f) = true
structure MtB (P : Program) (w : World) (K : PySem.W.Frag) (mg : Str -> Option Value) (base : Heap) (C : Addr) (k : Nat) (m : Str) (ps : List Str) (sp : Sp) : Prop where
 ex : ∃ (f : Addr) (fd : FuncData), FnOk P w K mg base (CXw P w) k f fd ps sp /\ Binds K fd ps [] /\ Meth K C m f
structure MkB (P : Program) (w : World) (K : PySem.W.Frag) (mg : Str -> Option Value) (base : Heap) (C : Addr) (k : Nat) (x : Str) (ps : List Str) (sp : Sp) : Prop where
 ex : ∃ (f : Addr) (fd : FuncData), FnOk P w K mg base (CXw P w) k f fd ps sp /\ Binds K fd ps [] /\ Mk K C f /\ mg x = some (.ref C)
section
variable {X : Cx} {k : Nat} {C : Addr} {ps : List Str} {sp : Sp} {spA : SpA} {E : XK} {x m : Str} {p pos apos : Pos} {e o : Expr} {es : List Expr} {ta : TE} {t : TA}
theorem zZx (B : FnB X.prog X.w X.K X.mg X.base k x ps sp) (hr : Room k X.A) (hg : Gl X x) (hx : Passes (CXw X.prog X.w) X E) (ha : PA X (e :: es) t)
   (hdb : (x == ("__debug__" : Str)) = false := by decide) (he : starEach (e :: es) X.env = (false, eval e X.env) :: starEach es X.env := by exact zQq rfl) (hpl : (backTo pos (starEach es X.env)).any (·.1) = false := by exact zQx rfl) :
   PE X (.Call (.Name x p) (e :: es) [] pos) (tCall sp [] E t) := by
 obtain ⟨f, fd, F, b, hm, hk⟩ := B.ex
 exact pe_call F hr hg hm hk b .nil hx ha hdb he hpl
theorem pe_makeF (B : MkB X.prog X.w X.K X.mg X.base C k x ps sp) (hr : Room (k + 1) X.A) (hg : Gl X x) (hx : Passes (CXw X.prog X.w) X E) (ha : PA X (e :: es) t)
   (hdb : (x == ("__debug__" : Str)) = false := by decide) (he : starEach (e :: es) X.env = (false, eval e X.env) :: starEach es X.env := by exact zQq rfl) (hpl : (backTo pos (starEach es X.env)).any (·.1) = false := by exact zQx rfl) :
   PE X (.Call (.Name x p) (e :: es) [] pos) (tMake C sp [] E t) := by
 obtain ⟨f, fd, F, b, M, hm⟩ := B.ex
 exact pe_make M F hr hg hm b .nil hx ha hdb he hpl
theorem zZj {pl : Sem Bool} (c : Cls X.K C) (B : MtB X.prog X.w X.K X.mg X.base C k m ps sp) (hr : Room k X.A) (hx : Passes (CXw X.prog X.w) X E) (ho : PE X o ta) (ha : PA X (e :: es) t)
   (hst : starEach (e :: es) X.env = (false, eval e X.env) :: starEach es X.env := by exact zQq rfl) (hpl : (backTo pos (starEach es X.env)).any (·.1) = false := by exact zQx rfl)
   (ht : eval (.Call (.Attribute o m apos) (e :: es) [] pos) X.env = (do
     let ov <- eval o X.env
     standAt apos.atName
     let (f, first) <- holding [ov] (getMethod ov m pl)
     callWith pos f first (backTo pos (starEach (e :: es) X.env)) (backToKw pos (keywordEach [] X.env))) := by rfl) :
   PE X (.Call (.Attribute o m apos) (e :: es) [] pos) (tMeth C m sp [] E ta t) := by
 obtain ⟨f, fd, F, b, hm⟩ := B.ex
 exact pe_meth (pl := pl) ho c hm F hr b .nil hx ha hst hpl ht
theorem zZk {pl : Sem Bool} (c : Cls X.K C) (B : MtB X.prog X.w X.K X.mg X.base C k m ps sp) (hr : Room k X.A) (hx : Passes (CXw X.prog X.w) X E) (ho : PE X o ta)
   (ht : eval (.Call (.Attribute o m apos) [] [] pos) X.env = (do
     let ov <- eval o X.env
     standAt apos.atName
     let (f, first) <- holding [ov] (getMethod ov m pl)
     callWith pos f first (backTo pos (starEach [] X.env)) (backToKw pos (keywordEach [] X.env))) := by rfl) :
   PE X (.Call (.Attribute o m apos) [] [] pos) (tMeth C m sp [] E ta tNil) := by
 obtain ⟨f, fd, F, b, hm⟩ := B.ex
 exact pe_meth0 (pl := pl) ho c hm F hr b .nil hx ht
end
theorem ix_tupK {X : Cx} {K : PySem.W.Frag} (h : X.K = K) : IxR X (rIxT K) := by
 subst h
 exact yQw
theorem op_mulB {X : Cx} : OpR X (binaryOp .Mult) (rI (fun i j => i.natAbs < 2 ^ 200 /\ j.natAbs < 2 ^ 200) fun i j => .int (i * j)) := opI fun _ _ _ _ _ _ _ hc q => mul_int q (IntMulOk.of_bits (Nat.le_trans (intBits_le hc.1) (by decide)) (Nat.le_trans (intBits_le hc.2) (by decide)))
def SameBut (fp : List Addr) (H H' : Hp) : Prop := ∀ b o, H b = some o -> b ∉ fp -> H' b = some o
theorem SameBut.refl (fp : List Addr) (H : Hp) : SameBut fp H H := fun _ _ h _ => h
theorem SameBut.trans {fp : List Addr} {H H1 H2 : Hp} (a : SameBut fp H H1) (b : SameBut fp H1 H2) : SameBut fp H H2 := fun c o h n => b c o (a c o h n) n
theorem SameBut.of {fp : List Addr} {H H' : Hp} (a : Same H H') : SameBut fp H H' := fun c o h _ => a c o h
theorem zWq {H : Hp} {a : Addr} {o : HO} (h : H a = none) : Same H (upd H a o) := fun b u e => by rw [zWx (zWk e h)]; exact e
theorem yWj {H : Hp} {a : Addr} {o : HO} {fp : List Addr} (h : a ∈ fp) : SameBut fp H (upd H a o) := fun b u e n => by rw [zWx fun z => n (by rw [z]; exact h)]; exact e
structure SB (k : SortKind) (z : Array Keyed) (t : SortSt) : Prop where
 pm : (arrOf t).Perm z
 kd : kindOf t = k
 fl : failedOf t = none
 pd : pendingOf t = #[]
def ky (f : Value -> Int) (xs : Array Keyed) (i : Nat) : Int := (xs[i]?).elim 0 fun p => f p.1
def Up (f : Value -> Int) (xs : Array Keyed) (k : Nat) : Prop := ∀ i j, i < j -> j < k -> ky f xs i < ky f xs j
def Dn (f : Value -> Int) (xs : Array Keyed) (k : Nat) : Prop := ∀ i j, i < j -> j < k -> ky f xs j < ky f xs i
def NDk (f : Value -> Int) (z : Array Keyed) : Prop := (z.toList.map fun p => f p.1).Nodup
theorem ky_of {f : Value -> Int} {xs ys : Array Keyed} {i j : Nat} (h : xs[i]? = ys[j]?) : ky f xs i = ky f ys j := by unfold ky; rw [h]
variable {k : SortKind} {z : Array Keyed} {f : Value -> Int}
theorem SB.sz {t : SortSt} (h : SB k z t) : (arrOf t).size = z.size := h.pm.size_eq
theorem SB.arr {t : SortSt} (h : SB k z t) {xs : Array Keyed} (p : xs.Perm (arrOf t)) : SB k z (setArr t xs) := ⟨p.trans h.pm, h.kd, h.fl, h.pd⟩
theorem SB.ne {t : SortSt} (h : SB k z t) (nd : NDk f z) {i j : Nat} (hi : i < z.size) (hj : j < z.size) (n : i ≠ j) : ky f (arrOf t) i ≠ ky f (arrOf t) j := by
 have hp : ((arrOf t).toList.map fun p => f p.1).Perm (z.toList.map fun p => f p.1) := (Array.perm_iff_toList_perm.mp h.pm).map _
 have nd' : ((arrOf t).toList.map fun p => f p.1).Nodup := hp.nodup_iff.mpr nd
 have hi' : i < (arrOf t).size := by rw [h.sz]; exact hi
 have hj' : j < (arrOf t).size := by rw [h.sz]; exact hj
 intro e
 apply n
 have e' : ((arrOf t).toList.map fun p => f p.1)[i]'(by simpa using hi') = ((arrOf t).toList.map fun p => f p.1)[j]'(by simpa using hj') := by
   unfold ky at e
   rw [getElem?_pos _ i hi', getElem?_pos _ j hj'] at e
   simpa using e
 exact (List.getElem_inj nd').mp e'
def Orc (prog : Program) (w : World) (A : Around) (E : Value -> Shared -> Prop) (s : Shared) (k : SortKind) (z : Array Keyed) (f : Value -> Int) : Prop :=
 ∀ (t : SortSt) (i j : Nat) (Q : Option Bool -> SortSt -> Prop), SB k z t -> i < z.size -> j < z.size -> i ≠ j -> Q (some (decide (ky f (arrOf t) i < ky f (arrOf t) j))) t -> wpS (model prog w) A E s (ltAt' i j) Q t
section
variable {prog : Program} {w : World} {A : Around} {E : Value -> Shared -> Prop} {s : Shared}
theorem up_loop {t : SortSt} {a n : Nat} {Q : AscSt -> SortSt -> Prop} (O : Orc prog w A E s k z f) (nd : NDk f z) (hn : n <= z.size) (h1 : 1 <= a) (ha : a <= n) (B : SB k z t) (u : Up f (arrOf t) a)
   (h : ∀ m, a <= m -> m <= n -> Up f (arrOf t) m -> (m = n \/ ky f (arrOf t) m < ky f (arrOf t) (m - 1)) -> Q (none, m) t) : wpS (model prog w) A E s (ascLoop a n) Q t := by
 unfold ascLoop
 refine wpS_forRange (I := fun x c t' => t' = t /\ c = (none, x) /\ Up f (arrOf t) x) ?_ ?_ ⟨rfl, rfl, u⟩
 . rintro x c t' hx hxn ⟨rfl, rfl, ux⟩
   dsimp only
   refine wpS_bind (O t' x (x - 1) _ B (by omega) (by omega) (by omega) ?_)
   by_cases l : ky f (arrOf t') x < ky f (arrOf t') (x - 1)
   . simp only [l, decide_true, if_true]
     exact wpS_pure (h x hx (by omega) ux (.inr l))
   . simp only [l, decide_false, Bool.false_eq_true, if_false]
     have nn := B.ne nd (i := x) (j := x - 1) (by omega) (by omega) (by omega)
     have lt : ky f (arrOf t') (x - 1) < ky f (arrOf t') x := by omega
     refine wpS_pure ⟨rfl, rfl, fun i j hij hj => ?_⟩
     by_cases hjx : j < x
     . exact ux i j hij hjx
     . obtain rfl : j = x := by omega
       by_cases hi : i = j - 1
       . subst hi; exact lt
       . exact Int.lt_trans (ux i (j - 1) (by omega) (by omega)) lt
 . rintro c t' ⟨rfl, rfl, ux⟩
   rw [show max a n = n by omega] at ux ⊢
   exact h n ha (Nat.le_refl _) ux (.inl rfl)
theorem dn_loop {t : SortSt} {a n : Nat} {Q : DescSt -> SortSt -> Prop} (O : Orc prog w A E s k z f) (nd : NDk f z) (hn : n <= z.size) (h1 : 1 <= a) (ha : a <= n) (B : SB k z t) (u : Dn f (arrOf t) a)
   (h : ∀ m, a <= m -> m <= n -> Dn f (arrOf t) m -> Q (none, m, 0) t) : wpS (model prog w) A E s (descLoop a n) Q t := by
 unfold descLoop
 refine wpS_forRange (I := fun x c t' => t' = t /\ c = (none, x, 0) /\ Dn f (arrOf t) x) ?_ ?_ ⟨rfl, rfl, u⟩
 . rintro x c t' hx hxn ⟨rfl, rfl, ux⟩
   dsimp only
   refine wpS_bind (O t' x (x - 1) _ B (by omega) (by omega) (by omega) ?_)
   by_cases l : ky f (arrOf t') x < ky f (arrOf t') (x - 1)
   . simp only [l, decide_true, if_true]
     rw [if_neg (by omega)]
     refine wpS_pure ⟨rfl, rfl, fun i j hij hj => ?_⟩
     by_cases hjx : j < x
     . exact ux i j hij hjx
     . obtain rfl : j = x := by omega
       by_cases hi : i = j - 1
       . subst hi; exact l
       . exact Int.lt_trans l (ux i (j - 1) (by omega) (by omega))
   . simp only [l, decide_false, Bool.false_eq_true, if_false]
     have nn := B.ne nd (i := x) (j := x - 1) (by omega) (by omega) (by omega)
     have lt : ky f (arrOf t') (x - 1) < ky f (arrOf t') x := by omega
     refine wpS_bind (O t' (x - 1) x _ B (by omega) (by omega) (by omega) ?_)
     simp only [lt, decide_true, if_true]
     exact wpS_pure (h x hx (by omega) ux)
 . rintro c t' ⟨rfl, rfl, ux⟩
   rw [show max a n = n by omega] at ux ⊢
   exact h n ha (Nat.le_refl _) ux
theorem turned {t : SortSt} {a n : Nat} {Q : Option Nat -> SortSt -> Prop} (O : Orc prog w A E s k z f) (nd : NDk f z) (hn : n <= z.size) (h1 : 1 <= a) (ha : a <= n) (B : SB k z t) (u : Dn f (arrOf t) a)
   (h : ∀ m t', SB k z t' -> 1 <= m -> m <= n -> Up f (arrOf t') m -> Q (some m) t') : wpS (model prog w) A E s (tail3 a n) Q t := by
 unfold tail3
 have hz : a <= (arrOf t).size := by rw [B.sz]; omega
 refine wpS_bind (wpS_reverse ?_)
 have B' : SB k z (setArr t (mirror (arrOf t) 0 a ((a - 0) / 2))) := B.arr (mirror_perm _ _ _ _)
 refine wpS_bind (up_loop O nd hn h1 ha B' (fun i j hij hj => ?_) fun m m1 m2 um _ => wpS_pure (h m _ B' (by omega) m2 um))
 show ky f (mirror (arrOf t) 0 a ((a - 0) / 2)) i < ky f (mirror (arrOf t) 0 a ((a - 0) / 2)) j
 have e1 := getElem?_mirror_all (xs := arrOf t) (i := 0) hz i
 have e2 := getElem?_mirror_all (xs := arrOf t) (i := 0) hz j
 rw [if_pos (by omega)] at e1 e2
 rw [ky_of e1, ky_of e2]
 exact u _ _ (by omega) (by omega)
theorem down_part {t : SortSt} {a n : Nat} {Q : Option Nat -> SortSt -> Prop} (O : Orc prog w A E s k z f) (nd : NDk f z) (hn : n <= z.size) (ha : a + 1 <= n) (B : SB k z t) (u : Dn f (arrOf t) (a + 1))
   (h : ∀ m t', SB k z t' -> 1 <= m -> m <= n -> Up f (arrOf t') m -> Q (some m) t') : wpS (model prog w) A E s (descPart a n) Q t := by
 unfold descPart
 refine wpS_bind (wpS_lift (wpAny_rule ⟨rfl, ?_⟩))
 refine wpS_bind (dn_loop O nd hn (by omega) ha B u fun m m1 m2 um => ?_)
 dsimp only
 rw [if_neg (by omega)]
 exact turned O nd hn (by omega) m2 B um h
theorem run_of {t : SortSt} {n : Nat} {Q : Option Nat -> SortSt -> Prop} (O : Orc prog w A E s k z f) (nd : NDk f z) (hn : n <= z.size) (h1 : 1 <= n) (B : SB k z t)
   (h : ∀ m t', SB k z t' -> 1 <= m -> m <= n -> Up f (arrOf t') m -> Q (some m) t') : wpS (model prog w) A E s (countRun' 0 n) Q t := by
 rw [countRun0_eq]
 refine wpS_bind (up_loop O nd hn (Nat.le_refl 1) h1 B (fun i j hij hj => by omega) fun m m1 m2 um hor => ?_)
 dsimp only
 by_cases e : m = n
 . rw [if_pos (by simpa using e)]
   exact wpS_pure (h m t B m1 m2 um)
 . rw [if_neg (by simpa using e)]
   have lt := hor.resolve_left e
   by_cases g : m > 1
   . rw [if_pos g]
     refine wpS_bind (O t 0 (m - 1) _ B (by omega) (by omega) (by omega) ?_)
     have ro := um 0 (m - 1) (by omega) (by omega)
     simp only [ro, decide_true, if_true]
     exact wpS_pure (h m t B m1 m2 um)
   . rw [if_neg g]
     obtain rfl : m = 1 := by omega
     refine down_part O nd hn (by omega) B (fun i j hij hj => ?_) h
     obtain rfl : i = 0 := by omega
     obtain rfl : j = 1 := by omega
     exact lt
theorem ky_bubble {xs : Array Keyed} {src d : Nat} (hs : src < xs.size) (hd : d <= src) (i : Nat) : ky f (bubble xs src d) i = if i = src - d then ky f xs src else if src - d < i /\ i <= src then ky f xs (i - 1) else ky f xs i := by
 have e := getElem?_bubble hs d hd i
 split at e
 . rw [if_pos ‹_›]; exact ky_of e
 . rw [if_neg ‹_›]
   split at e
   . rw [if_pos ‹_›]; exact ky_of e
   . rw [if_neg ‹_›]; exact ky_of e
theorem put_in {t : SortSt} {n ok : Nat} {Q : Bool -> SortSt -> Prop} (O : Orc prog w A E s k z f) (nd : NDk f z) (hn : n <= z.size) (hok : ok <= n) (B : SB k z t) (u : Up f (arrOf t) ok)
   (h : ∀ t', SB k z t' -> Up f (arrOf t') n -> Q true t') : wpS (model prog w) A E s (binarySort' 0 n ok) Q t := by
 rw [binarySort'_eq]
 simp only [Nat.zero_add]
 refine wpS_bind (wpS_mono (wpS_forRange (I := fun x c t' => c = (none, ()) /\ SB k z t' /\ Up f (arrOf t') (min x n)) (Q := fun c t' => c = (none, ()) /\ SB k z t' /\ Up f (arrOf t') n) ?_ ?_ ?_) ?_)
 . rintro x c t' hx hxn ⟨rfl, B', u'⟩
   rw [show min x n = x by omega] at u'
   have hxz : x < z.size := by omega
   refine wpS_bind (wpS_mono (wpS_forRange (I := fun y c t2 => t2 = t' /\ ∃ l r, c = (none, l, r) /\ l <= r /\ r <= x /\ r - l <= x - y /\ (∀ i, i < l -> ky f (arrOf t') i < ky f (arrOf t') x) /\ ∀ i, r <= i -> i < x -> ky f (arrOf t') x < ky f (arrOf t') i)
     (Q := fun c t2 => t2 = t' /\ ∃ l r, c = (none, l, r) /\ l <= x /\ (∀ i, i < l -> ky f (arrOf t') i < ky f (arrOf t') x) /\ ∀ i, l <= i -> i < x -> ky f (arrOf t') x < ky f (arrOf t') i) ?_ ?_ ?_) ?_)
   . rintro y c t2 _ hy ⟨rfl, l, r, rfl, q1, q2, q3, q4, q5⟩
     dsimp only
     by_cases ge : l ≥ r
     . rw [if_pos ge]
       obtain rfl : l = r := by omega
       exact wpS_pure ⟨rfl, l, l, rfl, q2, q4, q5⟩
     . rw [if_neg ge]
       have nn := B'.ne nd (i := x) (j := (l + r) / 2) hxz (by omega) (by omega)
       refine wpS_bind (O _ x ((l + r) / 2) _ B' hxz (by omega) (by omega) ?_)
       by_cases ls : ky f (arrOf t2) x < ky f (arrOf t2) ((l + r) / 2)
       . simp only [ls, decide_true, if_true]
         refine wpS_pure ⟨rfl, l, (l + r) / 2, rfl, by omega, by omega, by omega, q4, fun i i1 i2 => ?_⟩
         by_cases hi : i = (l + r) / 2
         . subst hi; exact ls
         . exact Int.lt_trans ls (u' _ _ (by omega) i2)
       . simp only [ls, decide_false, Bool.false_eq_true, if_false]
         refine wpS_pure ⟨rfl, (l + r) / 2 + 1, r, rfl, by omega, by omega, by omega, fun i i1 => ?_, q5⟩
         by_cases hi : i = (l + r) / 2
         . subst hi; omega
         . have := u' i ((l + r) / 2) (by omega) (by omega)
           omega
   . rintro c t2 ⟨rfl, l, r, rfl, q1, q2, q3, q4, q5⟩
     obtain rfl : l = r := by omega
     exact ⟨rfl, l, l, rfl, q2, q4, q5⟩
   . exact ⟨rfl, 0, x, rfl, by omega, by omega, by omega, fun i hi => by omega, fun i i1 i2 => by omega⟩
   . rintro c t2 ⟨rfl, l, r, rfl, q2, q4, q5⟩
     show wpS _ _ _ _ (do moveDown' x l; pure (ForInStep.yield (none, ()))) _ _
     rw [moveDown'_eq]
     refine wpS_bind (wpS_modify (wpS_pure ⟨rfl, B'.arr (bubble_perm _ _ _), ?_⟩))
     rw [show min (x + 1) n = x + 1 by omega]
     have hs : x < (arrOf t2).size := by rw [B'.sz]; exact hxz
     intro i j hij hj
     show ky f (bubble (arrOf t2) x (x - l)) i < ky f (bubble (arrOf t2) x (x - l)) j
     rw [ky_bubble hs (by omega), ky_bubble hs (by omega), show x - (x - l) = l by omega]
     repeat' split
     all_goals first
       | (exfalso; omega)
       | exact q4 _ (by omega)
       | exact q5 _ (by omega) (by omega)
       | exact u' _ _ (by omega) (by omega)
 . rintro c t' ⟨hc, B', u'⟩
   refine ⟨hc, B', ?_⟩
   rwa [show min (max (max ok 1) n) n = n by omega] at u'
 . refine ⟨rfl, B, fun i j hij hj => ?_⟩
   exact u i j hij (by omega)
 . rintro c t' ⟨rfl, B', u'⟩
   exact wpS_pure (h t' B' u')
theorem runs_of {t : SortSt} {Q : Unit -> SortSt -> Prop} (O : Orc prog w A E s k z f) (nd : NDk f z) (B : SB k z t) (h2 : 2 <= z.size) (h64 : z.size < 64)
   (h : ∀ t', (arrOf t').Perm z -> failedOf t' = none -> Up f (arrOf t') z.size -> Q () t') : wpS (model prog w) A E s sortRuns' Q t := by
 rw [sortRuns'_eq]
 refine wpS_bind (wpS_get ?_)
 dsimp only
 have mr : minRun' z.size z.size 0 = z.size := by
   obtain ⟨y, hy⟩ : ∃ y, z.size = y + 1 := ⟨z.size - 1, by omega⟩
   have e : minRun' (y + 1) z.size 0 = z.size := by rw [minRun'_succ, if_pos h64]; rfl
   rwa [<- hy] at e
 simp only [B.sz, mr]
 let D : SortSt -> Prop := fun t' => (arrOf t').Perm z /\ failedOf t' = none /\ pendingOf t' = #[(0, z.size, 0)] /\ Up f (arrOf t') z.size
 have fin : ∀ t', SB k z t' -> Up f (arrOf t') z.size -> D (setPending t' ((pendingOf t').push (0, z.size, 0))) := fun t' B' u' => ⟨B'.pm, B'.fl, by show (pendingOf t').push _ = _; rw [B'.pd]; rfl, u'⟩
 refine wpS_bind (wpS_mono (wpS_forRange (I := fun x c t' => (x = 0 /\ c = (none, 0) /\ SB k z t') \/ (1 <= x /\ c = (none, z.size) /\ D t')) (Q := fun c t' => c = (none, z.size) /\ D t') ?_ ?_ (.inl ⟨rfl, rfl, B⟩)) ?_)
 . rintro x c t' _ hx (⟨rfl, rfl, B'⟩ | ⟨x1, rfl, d⟩)
   . dsimp only
     rw [if_neg (by omega)]
     simp only [Nat.sub_zero, Nat.min_self, Nat.zero_add]
     refine wpS_bind (run_of O nd (Nat.le_refl _) (by omega) B' fun m t2 B2 m1 m2 u2 => ?_)
     dsimp only
     by_cases lt : m < z.size
     . rw [if_pos lt]
       refine wpS_bind (wpS_lift (wpAny_rule ⟨rfl, ?_⟩))
       refine wpS_bind (put_in O nd (Nat.le_refl _) m2 B2 u2 fun t3 B3 u3 => ?_)
       simp only [Bool.not_true, Bool.false_eq_true, if_false]
       refine wpS_bind (wpS_get ?_)
       rw [show (pendingOf t3).back? = none by rw [B3.pd]; rfl]
       dsimp only
       exact wpS_bind (wpS_modify (wpS_pure (.inr ⟨by omega, rfl, fin t3 B3 u3⟩)))
     . rw [if_neg lt]
       obtain rfl : m = z.size := by omega
       refine wpS_bind (wpS_get ?_)
       rw [show (pendingOf t2).back? = none by rw [B2.pd]; rfl]
       dsimp only
       exact wpS_bind (wpS_modify (wpS_pure (.inr ⟨by omega, rfl, fin t2 B2 u2⟩)))
   . dsimp only
     rw [if_pos (Nat.le_refl _)]
     exact wpS_pure ⟨rfl, d⟩
 . rintro c t' (⟨hx, _, _⟩ | ⟨_, hc, d⟩)
   . omega
   . exact ⟨hc, d⟩
 . rintro c t' ⟨rfl, d⟩
   dsimp only
   refine wpS_bind (wpS_mono (wpS_forRange (I := fun _ c t2 => t2 = t' /\ c = (none, ())) (Q := fun c t2 => t2 = t' /\ c = (none, ())) ?_ (fun _ _ q => q) ⟨rfl, rfl⟩) ?_)
   . rintro x c t2 _ _ ⟨rfl, rfl⟩
     refine wpS_bind (wpS_get ?_)
     rw [if_pos (by rw [d.2.2.1]; exact Nat.le_refl 1)]
     exact wpS_pure ⟨rfl, rfl⟩
   . rintro c t2 ⟨rfl, rfl⟩
     exact wpS_pure (h _ d.1 d.2.1 d.2.2.2)
end
def TK (h : Heap) (v : Value) (n : Int) : Prop := ∃ (b : Addr) (its : List Value) (t : Tok), v = .ref b /\ IsTup h b (Value.int n t :: its).toArray
def fstI (h : Heap) (v : Value) : Int := match v with
 | .ref b => match h.get? b with
   | some o => match o.data with
     | .seq its _ => match (its[0]? : Option Value) with
       | some (Value.int n _) => n
       | _ => 0
     | _ => 0
   | none => 0
 | _ => 0
theorem TK.fst {h : Heap} {v : Value} {n : Int} (k : TK h v n) : fstI h v = n := by
 obtain ⟨b, its, t, rfl, o, ho, hc, e, hd⟩ := k
 unfold fstI
 dsimp only
 rw [ho]
 dsimp only
 rw [hd]
 rfl
theorem keyLt_tups (b : Bool) (x y : Value) : keyLt' (tuples' b) x y = (do
   let us <- Builtin.List.listItems x
   let vs <- Builtin.List.listItems y
   for ((c, d), m) in (us.toList.zip vs.toList).zipIdx do
     if !(<- eqBool c d) then return <- oneLt' (b && m == 0) c d
   return us.size < vs.size) := rfl
section
variable {prog : Program} {w : World} {A : Around} {E : Value -> Shared -> Prop} {s : Shared}
theorem keyLt_tk {x y : Value} {n m : Int} {Q : Bool -> Shared -> Prop} (hx : TK s.heap x n) (hy : TK s.heap y m) (ne : n ≠ m) (h : Q (decide (n < m)) s) : wpAny (model prog w) A (keyLt' (tuples' true) x y) Q E s := by
 obtain ⟨b, its, t, rfl, o, ho, hc, e, hd⟩ := hx
 obtain ⟨b2, its2, t2, rfl, o2, ho2, hc2, e2, hd2⟩ := hy
 rw [keyLt_tups]
 refine wpAny_bind (listItems_at ho hd ?_)
 refine wpAny_bind (listItems_at ho2 hd2 ?_)
 simp only [List.zip_cons_cons, List.zipIdx_cons, List.forIn_cons, bind_assoc]
 refine wpAny_bind ((SeqAt.EqAt.int_int n t m t2) prog w _ _ ?_)
 have ne' : (n == m) = false := by simpa using ne
 rw [ne']
 simp only [Bool.not_false, if_true, bind_assoc]
 refine wpAny_bind (oneLt_int ?_)
 simp only [pure_bind]
 exact wpAny_pure h
theorem orc_tups {z : Array Keyed} (hz : ∀ p ∈ z.toList, ∃ n, TK s.heap p.1 n) (nd : NDk (fstI s.heap) z) : Orc prog w A E s (tuples' true) z (fstI s.heap) := by
 intro t i j Q B hi hj hij q
 have ati : ∀ i, i < z.size -> ∃ p, (arrOf t)[i]? = some p /\ p ∈ z.toList := fun i hi => by
   have hi' : i < (arrOf t).size := by rw [B.sz]; exact hi
   exact ⟨(arrOf t)[i], getElem?_pos _ i hi', (Array.perm_iff_toList_perm.mp B.pm).mem_iff.mp (by simp)⟩
 obtain ⟨p, e1, m1⟩ := ati i hi
 obtain ⟨p2, e2, m2⟩ := ati j hj
 obtain ⟨n, k1⟩ := hz p m1
 obtain ⟨m, k2⟩ := hz p2 m2
 have f1 : ky (fstI s.heap) (arrOf t) i = n := by unfold ky; rw [e1]; exact k1.fst
 have f2 : ky (fstI s.heap) (arrOf t) j = m := by unfold ky; rw [e2]; exact k2.fst
 have nn := B.ne nd hi hj hij
 rw [f1, f2] at nn q
 rw [ltAt'_eq]
 refine wpS_bind (wpS_get ?_)
 show wpS _ _ _ _ (elem' (arrOf t) i >>= fun c => elem' (arrOf t) j >>= fun d => lt' c d) Q t
 rw [elem'_eq, elem'_eq, e1, e2]
 refine wpS_bind (wpS_pure (wpS_bind (wpS_pure ?_)))
 rw [lt'_eq]
 refine wpS_bind (wpS_get ?_)
 rw [B.kd]
 exact wpS_bind (wpS_lift (wpAny_attempt (keyLt_tk k1 k2 nn ⟨rfl, wpS_pure q⟩)))
theorem firsts_of {Q : List (Option Value) -> Shared -> Prop} : ∀ {vs : List Value} {P : List (Option Value) -> Prop} (hv : ∀ v ∈ vs, ∃ n, TK s.heap v n), (∀ us : List Value, us.length = vs.length -> (∀ u ∈ us, ∃ n t, u = Value.int n t) -> Q (us.map some) s) -> wpAny (model prog w) A (vs.mapM firstOfTuple') Q E s := by
 intro vs P
 induction vs generalizing Q with
 | nil => intro _ h; rw [List.mapM_nil]; exact wpAny_pure (h [] rfl (by simp))
 | cons v vs ih =>
   intro hv h
   rw [List.mapM_cons]
   obtain ⟨n, b, its, t, rfl, o, ho, hc, e, hd⟩ := hv v (by simp)
   refine wpAny_bind ?_
   show wpAny _ _ (do
     let ty <- typeOf (.ref b)
     if ty != .type "tuple" then return none
     return (<- Builtin.List.listItems (.ref b))[0]?) _ _ _
   refine wpAny_bind (wpAny_typeOf (T := "tuple") ⟨o, ho, hc⟩ ?_)
   rw [if_neg (by simp)]
   refine wpAny_bind (listItems_at ho hd (wpAny_pure ?_))
   refine wpAny_bind (ih (fun u hu => hv u (List.mem_cons_of_mem _ hu)) fun us hl hus => ?_)
   refine wpAny_pure (h (.int n t :: us) (by simp [hl]) fun u hu => ?_)
   rcases List.mem_cons.mp hu with rfl | hu
   . exact ⟨n, t, rfl⟩
   . exact hus u hu
theorem xKz : ∀ (us : List Value), (∀ u ∈ us, ∃ n t, u = Value.int n t) -> us.mapM typeOf = (pure (us.map fun _ => Value.type "int") : Sem (List Value))
 | [], _ => by simp
 | u :: us, h => by
   obtain ⟨n, t, rfl⟩ := h u (by simp)
   rw [List.mapM_cons, xKz us fun x hx => h x (List.mem_cons_of_mem _ hx)]
   show (pure (Value.type "int") >>= fun c => pure _ >>= fun cs => pure (c :: cs)) = _
   simp
theorem kind_tups {vs : List Value} (hne : vs ≠ []) (hv : ∀ v ∈ vs, ∃ n, TK s.heap v n) {Q : SortKind -> Shared -> Prop} (h : Q (tuples' true) s) : wpAny (model prog w) A (keyKind' vs.toArray) Q E s := by
 rw [keyKind'_eq, List.mapM_toArray, bind_map_left]
 refine wpAny_bind (firsts_of (P := fun _ => True) hv fun us hl hus => ?_)
 rw [if_pos (by simp)]
 refine wpAny_bind (wpAny_rule ?_)
 have fm : (us.map some).toArray.filterMap id = us.toArray := by
   simp
 rw [fm, oneTypeOnly'_eq, List.mapM_toArray, xKz us hus]
 simp only [map_pure, pure_bind]
 obtain ⟨u, us', rfl⟩ : ∃ u us', us = u :: us' := by
   cases us with
   | nil => exact absurd (List.length_eq_zero_iff.mp hl.symm) hne
   | cons u us' => exact ⟨u, us', rfl⟩
 have h0 : (List.map (fun _ => Value.type "int") (u :: us')).toArray[0]? = some (Value.type "int") := by simp
 have hall : ((List.map (fun _ => Value.type "int") (u :: us')).toArray.all fun c => c == Value.type "int") = true := by
   simp only [List.all_toArray, List.all_map, List.all_eq_true]
   intro _ _
   rfl
 rw [h0]
 simp only [hall, if_true, pure_bind]
 exact wpAny_pure h
theorem TK.keep {h h' : Heap} {v : Value} {n : Int} (k : TK h v n) (kp : ∀ b o, v = .ref b -> h.get? b = some o -> h'.get? b = some o) : TK h' v n := by
 obtain ⟨b, its, t, rfl, o, ho, r⟩ := k
 exact ⟨b, its, t, rfl, o, kp b o rfl ho, r⟩
theorem sort_tups {a : Addr} {vs : List Value} {n : Nat} {P : Fin -> Shared -> Prop} (ho : s.heap.get? a = some (seqObj "list" vs.toArray n)) (hv : ∀ v ∈ vs, ∃ m, TK s.heap v m) (nd : (vs.map (fstI s.heap)).Nodup) (h64 : vs.length < 64)
   (h : ∀ out : List Value, out.Perm vs -> out.Pairwise (fun u v => fstI s.heap u < fstI s.heap v) -> P (.done (.ret .none)) { s with heap := sortedHeap s.heap a vs out.toArray }) :
   wpAny (model prog w) A (Builtin.«list.sort» ⟨[.ref a], []⟩) P E s := by
 rw [list_sort_plain]
 have ha : a < s.heap.objs.size := Heap.lt_size ho
 refine wpAny_bind (listItems_at ho rfl ?_)
 refine wpAny_bind (listUpdate_at ho rfl ?_)
 obtain ⟨e1, ho1⟩ : ∃ e, (s.heap.update a (Obj.mapSeq fun _ => #[])).get? a = some (seqObj "list" #[] e) := ⟨_, get?_update_seq ho (fun _ => #[])⟩
 refine wpAny_bind (seqEpoch_at ho1 rfl ?_)
 refine wpAny_bind (wpAny_newTuple ?_)
 refine wpAny_bind (wpAny_newList ?_)
 refine wpAny_holding ?_
 generalize e6 : ((s.heap.update a (Obj.mapSeq fun _ => #[])).push (seqObj "tuple" vs.toArray 0)).push (seqObj "list" #[] 0) = g6
 have ho6 : g6.get? a = some (seqObj "list" #[] e1) := by
   rw [<- e6, Heap.get?_push_ne _ _ _ (by rw [size_push', Heap.size_update]; exact Nat.ne_of_lt (Nat.lt_succ_of_lt ha)), Heap.get?_push_ne _ _ _ (by rw [Heap.size_update]; exact Nat.ne_of_lt ha)]
   exact ho1
 have kp : ∀ b o, b ≠ a -> s.heap.get? b = some o -> g6.get? b = some o := fun b o nb e => by
   rw [<- e6]
   refine Heap.get?_push_of_some _ (Heap.get?_push_of_some _ ?_)
   rw [Heap.get?_update_other _ _ (Ne.symm nb)]
   exact e
 have hv6 : ∀ v ∈ vs, ∃ m, TK g6 v m /\ TK s.heap v m := fun v mv => by
   obtain ⟨m, k⟩ := hv v mv
   refine ⟨m, k.keep fun b o eb e => kp b o (fun z => ?_) e, k⟩
   subst z
   obtain ⟨b', its, t, e', o', ho', hc', _⟩ := k
   rw [eb] at e'
   cases e'
   rw [ho] at ho'
   cases ho'
   exact absurd (show Value.type "list" = Value.type "tuple" from hc') (by decide)
 have fe : ∀ v ∈ vs, fstI g6 v = fstI s.heap v := fun v mv => by
   obtain ⟨m, k1, k2⟩ := hv6 v mv
   rw [k1.fst, k2.fst]
 show wpAny (model prog w) A _ P E { s with heap := g6 }
 dsimp only
 have hz : vs.toArray.size = vs.length := by simp
 have out_of : ∀ xs : Array Keyed, xs.Perm (pairsOf vs) -> Up (fstI g6) xs (pairsOf vs).size -> P (.done (.ret .none)) { s with heap := sortedHeap s.heap a vs (xs.map (·.2)) } := fun xs hp up => by
   have hl : xs.toList.Perm (vs.zip vs) := by rw [<- pairsOf_toList]; exact Array.perm_iff_toList_perm.mp hp
   have hm : ∀ p ∈ xs.toList, p.1 = p.2 /\ p.1 ∈ vs := fun p m => mem_zip_self (hl.mem_iff.mp m)
   have ee : xs.map (·.2) = (xs.toList.map (·.1)).toArray := by
     apply Array.toList_inj.mp
     rw [Array.toList_map]
     exact List.map_congr_left fun p m => (hm p m).1.symm
   rw [ee]
   refine h _ ?_ ?_
   . have := hl.map Prod.fst
     rwa [List.map_fst_zip (Nat.le_refl _)] at this
   . rw [List.pairwise_iff_getElem]
     intro i j hi hj hij
     have hi' : i < xs.size := by simpa using hi
     have hj' : j < xs.size := by simpa using hj
     have u1 := up i j hij (by rw [<- hp.size_eq]; exact hj')
     unfold ky at u1
     rw [getElem?_pos xs i hi', getElem?_pos xs j hj'] at u1
     simp only [Option.elim_some] at u1
     rw [fe _ (hm xs[i] (by simp)).2, fe _ (hm xs[j] (by simp)).2] at u1
     simpa using u1
 by_cases h2 : vs.toArray.size < 2
 . rw [if_pos h2, if_pos h2]
   refine wpAny_bind (wpAny_pure ?_)
   rw [StateT.run_pure]
   refine wpAny_bind (wpAny_pure ?_)
   dsimp only
   refine wpAny_bind (seqEpoch_at ho6 rfl ?_)
   refine wpAny_bind (listUpdate_at ho6 rfl ?_ (hsz2 := by rw [Array.size_map]; show (pairsOf vs).size <= _; rw [pairsOf_size, sizeLine_eq]; omega))
   simp only [bne_self_eq_false, Bool.false_eq_true, if_false]
   have := out_of (vs.toArray.zip vs.toArray) (Array.Perm.refl _) (fun i j hij hj => by rw [pairsOf_size] at hj; omega)
   unfold sortedHeap at this
   rw [e6] at this
   exact wpAny_pure this
 . rw [if_neg h2, if_neg h2]
   refine wpAny_bind (kind_tups (s := { s with heap := g6 }) (fun z => by rw [z] at h2; exact h2 (by decide)) (fun v mv => let ⟨m, k, _⟩ := hv6 v mv; ⟨m, k⟩) ?_)
   have mz : ∀ p ∈ (pairsOf vs).toList, p.1 ∈ vs := fun p m => by rw [pairsOf_toList] at m; exact (mem_zip_self m).2
   have ndk : NDk (fstI g6) (pairsOf vs) := by
     unfold NDk
     have ez : ((pairsOf vs).toList.map fun p => fstI g6 p.1) = vs.map (fstI s.heap) := by
       have z1 : ((pairsOf vs).toList.map fun p => fstI g6 p.1) = ((vs.zip vs).map Prod.fst).map (fstI g6) := by rw [pairsOf_toList, List.map_map]; rfl
       rw [z1, List.map_fst_zip (Nat.le_refl _)]
       exact List.map_congr_left fe
     rw [ez]
     exact nd
   refine wpAny_bind (wpAny_mono (runs_of (s := { s with heap := g6 }) (t := SortSt.mk' (tuples' true) (vs.toArray.zip vs.toArray) #[] 7 none) (Q := fun _ t' => (arrOf t').Perm (pairsOf vs) /\ failedOf t' = none /\ Up (fstI g6) (arrOf t') (pairsOf vs).size)
     (orc_tups (s := { s with heap := g6 }) (fun p m => let ⟨y, k, _⟩ := hv6 p.1 (mz p m); ⟨y, k⟩) ndk) ndk ⟨Array.Perm.refl _, rfl, rfl, rfl⟩ (by rw [pairsOf_size]; omega) (by rw [pairsOf_size]; exact h64) fun t' a1 a2 a3 => ⟨a1, a2, a3⟩) ?_ fun _ _ e => e)
   rintro ⟨⟨⟩, t'⟩ s' ⟨rfl, hp, hf, hs⟩
   dsimp only
   refine wpAny_bind (seqEpoch_at ho6 rfl ?_)
   refine wpAny_bind (listUpdate_at ho6 rfl ?_ (hsz2 := by refine Nat.le_trans (Nat.le_of_eq ((Array.size_map ..).trans (hp.size_eq.trans (pairsOf_size _)))) ?_; rw [sizeLine_eq]; omega))
   rw [hf]
   simp only [bne_self_eq_false, Bool.false_eq_true, if_false]
   have := out_of (arrOf t') hp hs
   unfold sortedHeap at this
   rw [e6] at this
   exact wpAny_pure this
end
section
variable {X : Cx}
theorem vals_refs : ∀ {ps : List Addr} {us : List Value}, Vals (ps.map V.ref) us -> us = ps.map Value.ref
 | [], _, .nil => rfl
 | p :: ps, u :: us, .cons r t => by
   cases (show u = Value.ref p from r)
   rw [vals_refs t]
   rfl
theorem call_sortedT : CallR X (.builtin "sorted") (fun xs H Q => ∃ (a : Addr) (ps : List Addr) (num : Addr -> Int), xs = [V.ref a] /\ H a = some (.lst (ps.map V.ref)) /\ (∀ p ∈ ps, ∃ rest, H p = some (.tup (V.int (num p) :: rest))) /\ (ps.map num).Nodup /\ ps.length < 64 /\
   ∀ (l : Addr) (out : List Addr), H l = none -> out.Perm ps -> out.Pairwise (fun p q => num p < num q) -> Q (.ref l) (upd H l (.lst (out.map V.ref)))) := by
 intro pins s σ H xs us Q I r h
 obtain ⟨a, ps, num, rfl, ha, hp, nd, h64, q⟩ := h
 obtain ⟨u, rfl, ru⟩ := vals1 r
 cases (show u = Value.ref a from ru)
 obtain ⟨z, its, n, rv, hl, e⟩ := I.lstM ha
 obtain rfl := vals_refs rv
 have isl : s.heap.IsList a (ps.map Value.ref).toArray := ⟨_, e, rfl, n, rfl⟩
 have tk : ∀ p ∈ ps, TK s.heap (.ref p) (num p) := fun p m => by
   obtain ⟨rest, hr⟩ := hp p m
   obtain ⟨_, its, ri, it⟩ := (show ObjOk X.prog X.w H s.heap p (.tup (V.int (num p) :: rest)) from I.hok p _ hr)
   cases ri with
   | @cons _ u _ us r0 rt =>
     obtain ⟨t, rfl⟩ := r0
     exact ⟨p, us, t, rfl, it⟩
 have tk' : ∀ v ∈ ps.map Value.ref, ∃ m, TK s.heap v m := fun v m => by
   obtain ⟨p, mp, rfl⟩ := List.mem_map.mp m
   exact ⟨_, tk p mp⟩
 have fe : ∀ p ∈ ps, fstI s.heap (.ref p) = num p := fun p m => (tk p m).fst
 refine Calls.call_function_entry kind_sorted plain_sorted entry_sorted (args_sorted1 _) ?_
 unfold Builtin.«sorted»
 refine wpAny_bind (m := checkCount "sorted" 1 1 _) (wpAny_pure ?_)
 refine wpAny_bind (collect_list isl ?_ (hsz := by rw [List.length_map, sizeLine_eq]; omega))
 refine wpAny_bind (wpAny_newList ?_)
 generalize e2 : (s.heap.push (seqObj "list" #[] 0)).update s.heap.objs.size (Obj.mapSeq (· ++ (ps.map Value.ref).toArray)) = g2
 have z2 : g2.objs.size = s.heap.objs.size + 1 := by rw [<- e2, Heap.size_update, size_push']
 have kp2 : ∀ b o, s.heap.get? b = some o -> g2.get? b = some o := fun b o eb => by
   rw [<- e2, Heap.get?_update_other _ _ (Nat.ne_of_gt (Heap.lt_size eb))]
   exact Heap.get?_push_of_some _ eb
 have hoL : (g2.push (seqObj "list" (ps.map Value.ref).toArray 0)).get? (s.heap.objs.size + 1) = some (seqObj "list" (ps.map Value.ref).toArray 0) := by
   rw [<- z2]; exact Heap.get?_push_size _ rfl
 show wpAny _ _ _ _ _ { s with heap := g2.push (seqObj "list" (ps.map Value.ref).toArray 0) }
 rw [z2]
 have kp3 : ∀ b o, s.heap.get? b = some o -> (g2.push (seqObj "list" (ps.map Value.ref).toArray 0)).get? b = some o := fun b o eb => Heap.get?_push_of_some _ (kp2 b o eb)
 have tk3 : ∀ p ∈ ps, TK (g2.push (seqObj "list" (ps.map Value.ref).toArray 0)) (.ref p) (num p) := fun p m => (tk p m).keep fun b o _ eb => kp3 b o eb
 have nd3 : ((ps.map Value.ref).map (fstI (g2.push (seqObj "list" (ps.map Value.ref).toArray 0)))).Nodup := by
   rw [List.map_map, show ps.map (fstI (g2.push (seqObj "list" (ps.map Value.ref).toArray 0)) ∘ Value.ref) = ps.map num from List.map_congr_left fun p m => (tk3 p m).fst]
   exact nd
 refine wpAny_bind (wpAny_holding (wpAny_call_entry slot_list_sort ⟨_, hoL, rfl⟩ entry_list_sort (sort_tups hoL (fun v m => ?_) nd3 (by rw [List.length_map]; exact h64) fun out op os => ⟨_, rfl, ?_⟩) (args_list_sort _)))
 . obtain ⟨p, mp, rfl⟩ := List.mem_map.mp m
   exact ⟨_, tk3 p mp⟩
 . refine wpAny_pure ⟨_, rfl, ?_⟩
   obtain ⟨ps', rfl⟩ : ∃ ps' : List Addr, out = ps'.map Value.ref := by
     have all : ∀ v ∈ out, ∃ p, v = Value.ref p := fun v m => by
       obtain ⟨p, _, rfl⟩ := List.mem_map.mp (op.mem_iff.mp m)
       exact ⟨p, rfl⟩
     have gen : ∀ l : List Value, (∀ v ∈ l, ∃ p, v = Value.ref p) -> ∃ ps' : List Addr, l = ps'.map Value.ref := fun l => by
       induction l with
       | nil => exact fun _ => ⟨[], rfl⟩
       | cons v l ih =>
         intro all
         obtain ⟨p, rfl⟩ := all v (by simp)
         obtain ⟨ps', rfl⟩ := ih fun u m => all u (List.mem_cons_of_mem _ m)
         exact ⟨p :: ps', rfl⟩
     exact gen out all
   have op' : ps'.Perm ps := by
     have e1 : ∀ l : List Addr, (l.map Value.ref).map (fun v => match v with | Value.ref p => p | _ => 0) = l := fun l => by rw [List.map_map]; exact List.map_id _
     have := op.map (fun v => match v with | Value.ref p => p | _ => (0 : Addr))
     rwa [e1, e1] at this
   have os' : ps'.Pairwise (fun p q => num p < num q) := by
     rw [List.pairwise_map] at os
     refine os.imp_of_mem fun {p q} mp mq h => ?_
     rwa [(tk3 p (op'.mem_iff.mp mp)).fst, (tk3 q (op'.mem_iff.mp mq)).fst] at h
   have hall : (sortedAll s.heap (ps.map Value.ref) (ps'.map Value.ref).toArray) = sortedHeap (g2.push (seqObj "list" (ps.map Value.ref).toArray 0)) (s.heap.objs.size + 1) (ps.map Value.ref) (ps'.map Value.ref).toArray := by
     unfold sortedAll; rw [e2]
   obtain ⟨ep, he⟩ := sortedAll_at s.heap (ps.map Value.ref) (ps'.map Value.ref).toArray
   have rv' : Vals (ps'.map V.ref) (ps'.map Value.ref) := by
     have gen : ∀ l : List Addr, Vals (l.map V.ref) (l.map Value.ref) := fun l => by
       induction l with
       | nil => exact .nil
       | cons p l ih => exact .cons rfl ih
     exact gen ps'
   have hlen := op'.length_eq
   show EP X pins σ Q _ { s with heap := sortedHeap (g2.push (seqObj "list" (ps.map Value.ref).toArray 0)) (s.heap.objs.size + 1) (ps.map Value.ref) (ps'.map Value.ref).toArray }
   rw [<- hall]
   refine ⟨.ref (s.heap.objs.size + 1), _, I.laid (t' := s.toks) (fun b o eb => sortedAll_old eb) (Nat.le_succ _) (show ObjOk X.prog X.w _ _ _ (.lst (ps'.map V.ref)) from ⟨by rw [List.length_map, sizeLine_eq]; omega, _, ep, rv', he⟩), rfl, q _ ps' (I.hok.fresh (Nat.le_succ _)) op' os'⟩
theorem walk_bls {bs : List Bool} {us : List Value} (r : Vals (bs.map V.bl) us) : us = bs.map Value.bool := by
 induction bs generalizing us with
 | nil => cases r; rfl
 | cons b bs ih =>
   cases r with
   | cons r0 rt =>
     rw [ih rt]
     cases r0
     rfl
theorem all_get {bs : List Bool} : ((List.range bs.length).all fun i => bs.getD i true) = bs.all id := by
 induction bs with
 | nil => rfl
 | cons b bs ih =>
   rw [List.length_cons, List.range_succ_eq_map, List.all_cons, List.all_map, List.all_cons, <- ih]
   rfl
theorem any_get {bs : List Bool} : ((List.range bs.length).any fun i => bs.getD i true) = bs.any id := by
 induction bs with
 | nil => rfl
 | cons b bs ih =>
   rw [List.length_cons, List.range_succ_eq_map, List.any_cons, List.any_map, List.any_cons, <- ih]
   rfl
theorem call_allB (hc : X.calm = true) : CallR X (.builtin "all") (fun xs H Q => ∃ (a : Addr) (bs : List Bool), xs = [V.ref a] /\ H a = some (.lst (bs.map V.bl)) /\ Q (.bl (bs.all id)) H) := by
 intro pins s σ H xs us Q I r h
 obtain ⟨a, bs, rfl, ha, q⟩ := h
 obtain ⟨u, rfl, ru⟩ := vals1 r
 cases (show u = Value.ref a from ru)
 obtain ⟨z, its, n, rv, hl, e⟩ := I.lstM ha
 obtain rfl := walk_bls rv
 have na : a ≠ s.heap.objs.size := Nat.ne_of_lt (Heap.lt_size e)
 have isl : s.heap.IsList a (bs.map Value.bool).toArray := ⟨_, e, rfl, n, rfl⟩
 refine call_all_walk (wpAny_pyIter_list isl ?_)
 refine ⟨s.heap.objs.size, _, _, _, _, _, fun i => bs.getD i true, rfl, Walks.list (A := X.A.in1) (I.ok.hd hc) s.heap.objs.size a na (bs.map Value.bool).toArray, ⟨⟨_, Heap.get?_push_size _ rfl, rfl, rfl⟩, ⟨_, Heap.get?_push_of_some _ e, rfl, n, rfl⟩⟩, ?_, fun h' tk k => ?_⟩
 . intro i v s Q E hv hQ
   have hv' : (bs.map Value.bool)[i]? = some v := by simpa using hv
   rw [List.getElem?_map] at hv'
   obtain ⟨b, eb, rfl⟩ := Option.map_eq_some_iff.mp hv'
   refine wpAny_truthy_bool ?_
   have hQ' : Q (bs.getD i true) s := hQ
   rw [List.getD_eq_getElem?_getD, eb] at hQ'
   exact hQ'
 . refine ⟨.bl (bs.all id), H, I.kept (t' := tk) (fun b o e => k b o (fun m => ?_) (Heap.get?_push_of_some _ e)), ?_, q⟩
   . obtain rfl : b = s.heap.objs.size := by simpa using m
     exact absurd (Heap.lt_size e) (Nat.lt_irrefl _)
   . show Value.bool _ = Value.bool _
     rw [List.size_toArray, List.length_map, all_get]
theorem call_anyB (hc : X.calm = true) : CallR X (.builtin "any") (fun xs H Q => ∃ (a : Addr) (bs : List Bool), xs = [V.ref a] /\ H a = some (.lst (bs.map V.bl)) /\ Q (.bl (bs.any id)) H) := by
 intro pins s σ H xs us Q I r h
 obtain ⟨a, bs, rfl, ha, q⟩ := h
 obtain ⟨u, rfl, ru⟩ := vals1 r
 cases (show u = Value.ref a from ru)
 obtain ⟨z, its, n, rv, hl, e⟩ := I.lstM ha
 obtain rfl := walk_bls rv
 have na : a ≠ s.heap.objs.size := Nat.ne_of_lt (Heap.lt_size e)
 have isl : s.heap.IsList a (bs.map Value.bool).toArray := ⟨_, e, rfl, n, rfl⟩
 refine call_any_walk (wpAny_pyIter_list isl ?_)
 refine ⟨s.heap.objs.size, _, _, _, _, _, fun i => bs.getD i true, rfl, Walks.list (A := X.A.in1) (I.ok.hd hc) s.heap.objs.size a na (bs.map Value.bool).toArray, ⟨⟨_, Heap.get?_push_size _ rfl, rfl, rfl⟩, ⟨_, Heap.get?_push_of_some _ e, rfl, n, rfl⟩⟩, ?_, fun h' tk k => ?_⟩
 . intro i v s Q E hv hQ
   have hv' : (bs.map Value.bool)[i]? = some v := by simpa using hv
   rw [List.getElem?_map] at hv'
   obtain ⟨b, eb, rfl⟩ := Option.map_eq_some_iff.mp hv'
   refine wpAny_truthy_bool ?_
   have hQ' : Q (bs.getD i true) s := hQ
   rw [List.getD_eq_getElem?_getD, eb] at hQ'
   exact hQ'
 . refine ⟨.bl (bs.any id), H, I.kept (t' := tk) (fun b o e => k b o (fun m => ?_) (Heap.get?_push_of_some _ e)), ?_, q⟩
   . obtain rfl : b = s.heap.objs.size := by simpa using m
     exact absurd (Heap.lt_size e) (Nat.lt_irrefl _)
   . show Value.bool _ = Value.bool _
     rw [List.size_toArray, List.length_map, any_get]
theorem call_isinst : CallR X (.builtin "isinstance") (fun xs H Q => ∃ x c u t b, xs = [x, c] /\ (∀ u', RelV c u' -> u' = u) /\ TyOf X.K H x t /\ PySem.W.kitOne X.K t u = some b /\ Q (.bl b) H) := by
 intro pins s σ H xs us Q I r h
 obtain ⟨x, c, u, t, b, rfl, uq, ty, e, q⟩ := h
 obtain ⟨u1, u2, rfl, r1, r2⟩ := vals2 r
 cases uq u2 r2
 exact isinst_ok I r1 ty e fun tk => ⟨.bl b, H, I.tok _, rfl, q⟩
theorem xWx {K : PySem.W.Frag} (hK : X.K = K) : CallR X (.builtin "isinstance") (fun xs H Q => ∃ x c u t b, xs = [x, c] /\ (∀ u', RelV c u' -> u' = u) /\ TyOf K H x t /\ PySem.W.kitOne K t u = some b /\ Q (.bl b) H) := by
 subst hK
 exact call_isinst
inductive PlV (H : Hp) : V -> Option (Int × Int) -> Prop
 | non : PlV H .non none
 | at_ {a : Addr} {b g : Int} (e : H a = some (.tup [.int b, .int g])) : PlV H (.ref a) (some (b, g))
def PlVs (H : Hp) : List V -> List (Option (Int × Int)) -> Prop := Paired (PlV H)
theorem op_inPl (hu : X.A.units + 1 < cLine) : OpR X (compareOp .In) (fun x y H Q => ∃ a p xs os b g, x = .ref a /\ y = .ref p /\ H a = some (.tup [.int b, .int g]) /\ H p = some (.lst xs) /\ PlVs H xs os /\ Q (.bl (os.any fun o => decide (o = some (b, g)))) H) := by
 intro pins s σ H x y v u Q I rx ry h
 obtain ⟨a, p, xs, os, b, g, rfl, rfl, ha, hp, pl, q⟩ := h
 cases (show v = Value.ref a from rx)
 cases (show u = Value.ref p from ry)
 obtain ⟨z, its, n, rv, hl, e⟩ := I.lstM hp
 have tupAt : ∀ (c : Addr) (b g : Int), H c = some (.tup [.int b, .int g]) -> ∃ t1 t2, s.heap.IsTuple c #[.int b t1, .int g t2] := fun c b g hc => by
   obtain ⟨_, its, ri, it⟩ := (show ObjOk X.prog X.w H s.heap c (.tup [.int b, .int g]) from I.hok c _ hc)
   obtain ⟨u1, u2, rfl, ⟨t1, rfl⟩, ⟨t2, rfl⟩⟩ := vals2 ri
   exact ⟨t1, t2, it⟩
 obtain ⟨s1, s2, ita⟩ := tupAt a b g ha
 have eq2 : ∀ (w : V) (o : Option (Int × Int)) (u : Value), PlV H w o -> RelV w u -> SeqAt.EqAt X.A.in1 s u (.ref a) (decide (o = some (b, g))) := fun w o u pv ru => by
   cases pv with
   | non =>
     cases (show u = Value.none from ru)
     have := SeqAt.EqAt.none_tuple (A := X.A.in1) ita (by show X.A.units + 1 < cLine; exact hu)
     simpa using this
   | @at_ c b' g' ec =>
     cases (show u = Value.ref c from ru)
     by_cases zc : c = a
     . subst zc
       rw [ha] at ec
       have : b = b' /\ g = g' := by simpa using ec
       obtain ⟨rfl, rfl⟩ := this
       simpa using SeqAt.EqAt.same (A := X.A.in1) (s := s) (Value.ref c)
     . obtain ⟨t1, t2, itc⟩ := tupAt c b' g' ec
       have := SeqAt.EqAt.of_refs zc (SeqAt.RcAt.tuples (A := X.A.in1) (e := fun j => if j = 0 then b' == b else g' == g) itc ita (by show X.A.units + 1 < cLine; exact hu) (fun j h1 h2 => by
         match j, h1, h2 with
         | 0, _, _ => exact SeqAt.EqAt.int_int b' t1 b s1
         | 1, _, _ => exact SeqAt.EqAt.int_int g' t2 g s2))
       have e3 : ((List.range (min (#[Value.int b' t1, Value.int g' t2]).size (#[Value.int b s1, Value.int g s2]).size)).all (fun j => if j = 0 then b' == b else g' == g) && (#[Value.int b' t1, Value.int g' t2]).size == (#[Value.int b s1, Value.int g s2]).size) = decide (some (b', g') = some (b, g)) := by
         show ((List.range 2).all (fun j => if j = 0 then b' == b else g' == g) && true) = _
         have : List.range 2 = [0, 1] := rfl
         rw [this]
         simp only [List.all_cons, List.all_nil, if_true, Bool.and_true, Option.some.injEq, Prod.mk.injEq]
         by_cases x1 : b' = b <;> by_cases x2 : g' = g <;> simp [x1, x2]
       rwa [e3] at this
 have pick : ∃ f : Value -> Bool, (∀ u ∈ its, SeqAt.EqAt X.A.in1 s u (.ref a) (f u)) /\ its.any f = os.any fun o => decide (o = some (b, g)) := by
   classical
   have one : ∀ (w w' : V) (o o' : Option (Int × Int)) (u : Value), PlV H w o -> PlV H w' o' -> RelV w u -> RelV w' u -> o = o' := fun w w' o o' u p1 p2 r1 r2 => by
     cases p1 with
     | non =>
       cases (show u = Value.none from r1)
       cases p2 with
       | non => rfl
       | at_ e => cases r2
     | @at_ c1 _ _ e1 =>
       cases (show u = Value.ref c1 from r1)
       cases p2 with
       | non => cases r2
       | @at_ c2 _ _ e2 =>
         cases (show Value.ref c1 = Value.ref c2 from r2)
         rw [e1] at e2
         cases e2
         rfl
   refine ⟨fun u => if h : ∃ w o, PlV H w o /\ RelV w u then decide (h.choose_spec.choose = some (b, g)) else false, ?_, ?_⟩
   . intro u mu
     have gen : ∀ (ws : List V) (us : List Value) (os : List (Option (Int × Int))), Vals ws us -> PlVs H ws os -> u ∈ us -> ∃ w o, PlV H w o /\ RelV w u := fun ws => by
       induction ws with
       | nil => intro us os r p m; cases r; cases m
       | cons w0 ws ih =>
         intro us os r p m
         cases r with
         | @cons _ u0 _ us' r0 rt =>
           cases p with
           | @cons _ o0 _ os' p0 pt =>
             rcases List.mem_cons.mp m with rfl | m
             . exact ⟨w0, o0, p0, r0⟩
             . exact ih _ _ rt pt m
     obtain ⟨w, o, pv, ru⟩ := gen _ _ _ rv pl mu
     have hx : ∃ w o, PlV H w o /\ RelV w u := ⟨w, o, pv, ru⟩
     dsimp only
     rw [dif_pos hx]
     have sp := hx.choose_spec.choose_spec
     exact eq2 _ _ u sp.1 sp.2
   . have gen : ∀ (ws : List V) (us : List Value) (os : List (Option (Int × Int))), Vals ws us -> PlVs H ws os -> (us.any fun u => if h : ∃ w o, PlV H w o /\ RelV w u then decide (h.choose_spec.choose = some (b, g)) else false) = os.any fun o => decide (o = some (b, g)) := fun ws => by
       induction ws with
       | nil => intro us os r p; cases r; cases p; rfl
       | cons w0 ws ih =>
         intro us os r p
         cases r with
         | @cons _ u0 _ us' r0 rt =>
           cases p with
           | @cons _ o0 _ os' p0 pt =>
             rw [List.any_cons, List.any_cons, ih _ _ rt pt]
             congr 1
             have hx : ∃ w o, PlV H w o /\ RelV w u0 := ⟨w0, o0, p0, r0⟩
             rw [dif_pos hx]
             have sp := hx.choose_spec.choose_spec
             have := one _ _ _ _ u0 sp.1 p0 sp.2 r0
             rw [this]
     exact gen _ _ _ rv pl
 obtain ⟨f, hf, hany⟩ := pick
 refine SeqAt.in_listAt f ⟨_, e, rfl, n, rfl⟩ (fun w hw => hf w (by simpa using hw)) ⟨.bl _, H, I, rfl, ?_⟩
 rw [show its.toArray.any f = its.any f by simp, hany]
 exact q
end
section
variable {X : Cx}
theorem op_fdivB : OpR X (binaryOp .FloorDiv) (rI (fun _ j => 0 < j /\ j.natAbs < 2 ^ 200) fun i j => .int (i / j)) := opI fun i j _ _ _ _ _ hc q => by
 have h1 : (0 : Int) < j := hc.1
 have h2 := hc.2
 have h0 : j.natAbs ≠ 0 := by omega
 exact floordiv_int (by omega) (by rw [Int.fdiv_eq_ediv_of_nonneg i (by omega)]; exact q) (.inl (PyProof.noPylong_of_log2 (Nat.lt_trans ((Nat.log2_lt h0).mpr h2) (by decide))))
end
section
variable {X : Cx} {elt iter : Expr} {x : Str} {px pos : Pos} {ifs : List Expr} {scope : Scope} {ci : List Nat} {caps : List Str} {wi : TI} {tt : TT} {te : TE}
end
theorem get_vals {xs : List V} {us : List Value} (r : Vals xs us) {j : Nat} (h : j < us.toArray.size) : ∃ x, xs[j]? = some x /\ RelV x us.toArray[j] := by
 rw [List.size_toArray] at h
 have hj : j < xs.length := by rw [r.length]; exact h
 obtain ⟨u, e1, q1⟩ := r.get (i := j) (x := xs[j]) (by simp [hj])
 refine ⟨xs[j], by simp [hj], ?_⟩
 have := (List.getElem?_eq_some_iff.mp e1).2
 have z : us.toArray[j] = u := by simpa using this
 rw [z]; exact q1
section
variable {X : Cx} {pins : List (Addr × Obj)} {σ : St} {H : Hp} {s : Shared}
end
section
variable {X : Cx}
end
end L2
namespace L2
open PySem PySem.StrLaws
open Builtin Builtin.Str
def posOf (c : Nat) : Nat -> List Nat -> List Nat
 | _, [] => []
 | k, a :: r => if a = c then k :: posOf c (k + 1) r else posOf c (k + 1) r
def cutAt (c : Nat) : List Nat -> List Nat -> List (List Nat)
 | acc, [] => [acc]
 | acc, a :: r => if a = c then acc :: cutAt c [] r else cutAt c (acc ++ [a]) r
theorem occ_pos (x : Str) (c : Nat) : ∀ (m i : Nat) (st : Array Nat × Nat), i + m = x.length + 1 -> st.1.size <= i -> st.2 <= i ->
   (forIn (List.range' i m) st (occBody x ⟨#[c]⟩ x.length (x.length + 1))).run.1.toList = st.1.toList ++ posOf c i (x.cps.toList.drop i)
 | 0, i, st, e, _, _ => by
   have hn : x.cps.toList.length = x.length := by simp [Str.length]
   have : x.cps.toList.drop i = [] := List.drop_eq_nil_of_le (by omega)
   rw [this]
   simp [posOf]
 | m + 1, i, st, e, h1, h2 => by
   have hn : x.cps.toList.length = x.length := by simp [Str.length]
   rw [List.range'_succ, List.forIn_cons]
   unfold occBody
   have one : (⟨#[c]⟩ : Str).length = 1 := rfl
   split
   . rename_i hc
     refine (occ_pos x c m (i + 1) (st.1.push i, i + 1) (by omega) (by simp; omega) (Nat.le_refl _)).trans ?_
     have hi : i < x.cps.toList.length := by rw [hn]; have := hc.1.2; omega
     have hs := hc.2
     rw [subAt_eq, one, List.drop_eq_getElem_cons hi] at hs
     have hs : x.cps.toList[i] = c := by simpa using hs
     rw [List.drop_eq_getElem_cons hi, hs]
     simp [posOf]
   . rename_i hc
     refine (occ_pos x c m (i + 1) (st.1, st.2) (by omega) (by show st.1.size <= i + 1; omega) (by show st.2 <= i + 1; omega)).trans ?_
     by_cases hi : i < x.cps.toList.length
     . have hs : ¬ x.cps.toList[i] = c := fun z => hc ⟨⟨⟨by omega, h2⟩, by rw [one]; omega⟩, by
         rw [subAt_eq, one, List.drop_eq_getElem_cons hi, z]
         simp⟩
       rw [List.drop_eq_getElem_cons hi]
       have e : posOf c i (x.cps.toList[i] :: x.cps.toList.drop (i + 1)) = posOf c (i + 1) (x.cps.toList.drop (i + 1)) := by
         conv => lhs; unfold posOf
         rw [if_neg hs]
       rw [e]
     . rw [List.drop_eq_nil_of_le (by omega), List.drop_eq_nil_of_le (by omega)]
       rfl
theorem occ_posOf (x : Str) (c : Nat) : occurrences x ⟨#[c]⟩ 0 x.length (x.length + 1) = posOf c 0 x.cps.toList := by
 rw [occ_eq]
 have := occ_pos x c (x.length + 1) 0 (#[], 0) (by omega) (Nat.le_refl _) (Nat.le_refl _)
 simpa using this
theorem posOf_le (c : Nat) : ∀ (k : Nat) (l : List Nat), (posOf c k l).length <= l.length
 | _, [] => Nat.le_refl _
 | k, a :: r => by
   have := posOf_le c (k + 1) r
   unfold posOf
   split <;> simp <;> omega
theorem xZj (x : Str) (c : Nat) : ∀ (l : List Nat) (a k : Nat), a <= k -> x.cps.toList.drop k = l -> k + l.length = x.length ->
   (partsFrom x 1 a (posOf c k l)).map (·.cps.toList) = cutAt c ((x.cps.toList.drop a).take (k - a)) l
 | [], a, k, h, e, n => by
   have hk : k = x.length := by simpa using n
   subst hk
   show [(strSub x a x.length).cps.toList] = _
   rw [strSub_toList]
   rfl
 | z :: r, a, k, h, e, n => by
   have hn : x.cps.toList.length = x.length := by simp [Str.length]
   simp only [List.length_cons] at n
   have hk : k < x.cps.toList.length := by omega
   have e' := e
   rw [List.drop_eq_getElem_cons hk] at e'
   injection e' with e1 e2
   unfold posOf cutAt
   by_cases hz : z = c
   . rw [if_pos hz, if_pos hz]
     have ih := xZj x c r (k + 1) (k + 1) (Nat.le_refl _) e2 (by omega)
     rw [Nat.sub_self, List.take_zero] at ih
     show (strSub x a k).cps.toList :: (partsFrom x 1 (k + 1) (posOf c (k + 1) r)).map (·.cps.toList) = _
     rw [ih, strSub_toList]
   . rw [if_neg hz, if_neg hz]
     have ih := xZj x c r a (k + 1) (by omega) e2 (by omega)
     rw [ih]
     congr 1
     rw [show k + 1 - a = (k - a) + 1 by omega, List.take_succ_eq_append_getElem (by rw [List.length_drop]; omega)]
     congr 1
     rw [List.getElem_drop]
     congr 1
     rw [<- e1]
     congr 1
     omega
theorem cutAt_no {c : Nat} : ∀ {l acc : List Nat}, posOf c 0 l = [] -> cutAt c acc l = [acc ++ l]
 | [], acc, _ => by simp [cutAt]
 | a :: r, acc, h => by
   unfold posOf at h
   split at h
   . cases h
   . rename_i hz
     have h0 : ∀ (k j : Nat) (l : List Nat), posOf c k l = [] -> posOf c j l = [] := fun k j l => by
       induction l generalizing k j with
       | nil => exact fun _ => rfl
       | cons b t ih =>
         unfold posOf
         split
         . exact fun z => nomatch z
         . exact ih _ _
     unfold cutAt
     rw [if_neg hz, cutAt_no (h0 _ 0 _ h)]
     simp
theorem split_cut (x : Str) {c : Nat} (hc : c < 256) : Txt.split x ⟨#[c]⟩ = (cutAt c [] x.cps.toList).map fun l => ⟨l.toArray⟩ := by
 have back : ∀ (y : Str), (⟨y.cps.toList.toArray⟩ : Str) = y := fun y => by cases y; simp
 unfold Txt.split
 have k1 : Builtin.Str.strKind ⟨#[c]⟩ = 1 := by
   unfold Builtin.Str.strKind
   rw [if_pos (by simp [hc])]
 have k2 : decide (Builtin.Str.strKind x < Builtin.Str.strKind ⟨#[c]⟩) = false := by
   rw [k1]
   apply decide_eq_false
   unfold Builtin.Str.strKind
   split
   . omega
   . split <;> omega
 rw [k2, Bool.or_false, occ_posOf]
 by_cases h1 : x.length < (⟨#[c]⟩ : Str).length
 . rw [if_pos (decide_eq_true h1)]
   have h0 : x.cps.toList = [] := by
     have : x.length < 1 := h1
     have hn : x.cps.toList.length = x.length := by simp [Str.length]
     exact List.length_eq_zero_iff.mp (by omega)
   rw [h0]
   show [x] = [⟨([] : List Nat).toArray⟩]
   have := back x
   rw [h0] at this
   rw [this]
 . rw [if_neg (by simpa using h1)]
   split
   . rename_i he
     rw [cutAt_no (List.isEmpty_iff.mp he)]
     simp
   . have := xZj x c x.cps.toList 0 0 (Nat.le_refl _) rfl (by simp [Str.length])
     rw [partsBetween_eq]
     have one : (⟨#[c]⟩ : Str).length = 1 := rfl
     rw [one]
     rw [Nat.sub_self, List.take_zero] at this
     rw [<- this, List.map_map]
     conv => lhs; rw [<- List.map_id (partsFrom x 1 0 _)]
     exact List.map_congr_left fun y _ => (back y).symm
theorem parts_few (x : Str) (c : Nat) : (partsBetween x (occurrences x ⟨#[c]⟩ 0 x.length (x.length + 1)) (⟨#[c]⟩ : Str).length).length <= x.length + 1 := by
 rw [partsBetween_eq, occ_posOf]
 have : ∀ (w a : Nat) (l : List Nat), (partsFrom x w a l).length = l.length + 1 := fun w a l => by
   induction l generalizing a with
   | nil => rfl
   | cons b t ih => simp [partsFrom, ih]
 rw [this]
 have := posOf_le c 0 x.cps.toList
 have hn : x.cps.toList.length = x.length := by simp [Str.length]
 omega
theorem cut_app {c : Nat} : ∀ {p acc rest : List Nat}, c ∉ p -> cutAt c acc (p ++ c :: rest) = (acc ++ p) :: cutAt c [] rest
 | [], acc, rest, _ => by simp [cutAt]
 | a :: r, acc, rest, h => by
   have ha : ¬ a = c := fun z => h (by simp [z])
   have hr : c ∉ r := fun z => h (by simp [z])
   have e : cutAt c acc (a :: (r ++ c :: rest)) = cutAt c (acc ++ [a]) (r ++ c :: rest) := by
     conv => lhs; unfold cutAt
     rw [if_neg ha]
   show cutAt c acc (a :: (r ++ c :: rest)) = _
   rw [e, cut_app hr]
   simp
theorem cut_end {c : Nat} : ∀ {p acc : List Nat}, c ∉ p -> cutAt c acc p = [acc ++ p]
 | [], acc, _ => by simp [cutAt]
 | a :: r, acc, h => by
   have ha : ¬ a = c := fun z => h (by simp [z])
   have hr : c ∉ r := fun z => h (by simp [z])
   unfold cutAt
   rw [if_neg ha, cut_end hr]
   simp
theorem split_join {c : Nat} (hc : c < 256) : ∀ {L : List Str}, L ≠ [] -> (∀ x ∈ L, c ∉ x.cps.toList) -> Txt.split (Txt.join ⟨#[c]⟩ L) ⟨#[c]⟩ = L := fun {L} ne h => by
 rw [split_cut _ hc]
 have e : Txt.join ⟨#[c]⟩ L = Str.join ⟨#[c]⟩ L := glued_eq_join _ _
 rw [e]
 have back : ∀ (y : Str), (⟨y.cps.toList.toArray⟩ : Str) = y := fun y => by cases y; simp
 clear e
 induction L with
 | nil => exact absurd rfl ne
 | cons x r ih =>
   have hx : c ∉ x.cps.toList := h x (by simp)
   cases r with
   | nil =>
     show (cutAt c [] x.cps.toList).map _ = _
     rw [cut_end hx]
     simp
   | cons y t =>
     have ih := ih (by simp) fun z hz => h z (by simp [hz])
     show (cutAt c [] (x ++ ⟨#[c]⟩ ++ Str.join ⟨#[c]⟩ (y :: t)).cps.toList).map _ = _
     have e : (x ++ (⟨#[c]⟩ : Str) ++ Str.join ⟨#[c]⟩ (y :: t)).cps.toList = x.cps.toList ++ c :: (Str.join ⟨#[c]⟩ (y :: t)).cps.toList := by
       simp [Str.cps_append]
     rw [e, cut_app hx, List.map_cons, ih]
     simp
end L2
namespace L2
open PySem PySem.Spec PyProof.Rows
open Builtin Builtin.Str
theorem vals_strs : ∀ {l : List (Str × Tok)}, Vals ((l.map (·.1)).map V.str) (strValues l)
 | [] => .nil
 | (x, t) :: r => .cons ⟨t, rfl⟩ (vals_strs (l := r))
theorem xQk : ∀ {ts : List Str} {us : List Value}, Vals (ts.map V.str) us -> ∃ l : List (Str × Tok), us = strValues l /\ l.map (·.1) = ts
 | [], _, .nil => ⟨[], rfl, rfl⟩
 | x :: r, _, .cons ⟨t, e⟩ q => by
   obtain ⟨l, e1, e2⟩ := xQk q
   subst e e1
   exact ⟨(x, t) :: l, rfl, by rw [<- e2]; rfl⟩
section
variable {X : Cx}
theorem split_at {prog : Program} {w : World} {A : Around} {E : Value -> Shared -> Prop} {s : Shared} {x y : Str} {t u : Tok} {Q : Value -> Shared -> Prop} (hy : (y.length == 0) = false)
   (hq : ∀ (l : List (Str × Tok)) (tk : Nat), l.map (·.1) = Txt.split x y -> Q (.ref s.heap.objs.size) { s with heap := s.heap.push { cls := .type "list", data := .seq (strValues l).toArray }, toks := tk })
   (hsz : x.length <= sizeLine) (hsz2 : (partsBetween x (occurrences x y 0 x.length (x.length + 1)) y.length).length <= sizeLine) :
   wpAny (model prog w) A (call (.builtin "str.split") [.str x t, .str y u]) Q E s := by
 cases h1 : (decide (x.length < y.length) || decide (strKind x < strKind y))
 . cases hf : (occurrences x y 0 x.length (x.length + 1)).isEmpty
   . refine call_meets F.slot_str_split (typeIs_str _ _ _) F.entry_str_split (F.args_str_split_2 _ _) (meets_str_split_sep x y t u h1 hy hf hsz hsz2) ?_
     show wants Q E _ { s with toks := _, heap := s.heap.push { cls := .type "list", data := .seq (strsFrom s.toks (partsBetween x (occurrences x y 0 x.length (x.length + 1)) y.length)).toArray } }
     rw [strsFrom_eq]
     exact hq (numbered s.toks _) _ ((numbered_texts _ _).trans ((if_neg (ne_true_of_eq_false h1)).trans (if_neg (ne_true_of_eq_false hf))).symm)
   . exact call_meets F.slot_str_split (typeIs_str _ _ _) F.entry_str_split (F.args_str_split_2 _ _) (meets_str_split_not_found x y t u h1 hy hf)
       (hq [(x, t)] s.toks ((if_neg (ne_true_of_eq_false h1)).trans (if_pos hf)).symm)
 . exact call_meets F.slot_str_split (typeIs_str _ _ _) F.entry_str_split (F.args_str_split_2 _ _) (meets_str_split_cannot_occur x y t u h1)
     (hq [(x, t)] s.toks (if_pos h1).symm)
theorem mt_split : MtR X "str.split" (fun x xs H Q => ∃ z y : Str, x = .str z /\ xs = [.str y] /\ (y.length == 0) = false /\ z.length <= sizeLine /\ (partsBetween z (occurrences z y 0 z.length (z.length + 1)) y.length).length <= sizeLine /\ (Txt.split z y).length <= sizeLine /\
   ∀ l, H l = none -> Q (.ref l) (upd H l (.lst ((Txt.split z y).map V.str)))) := by
 intro pins s σ H x xs v us Q I rx rv h
 obtain ⟨z, y, rfl, rfl, hy, h1, h2, h3, q⟩ := h
 obtain ⟨t, rfl⟩ := rx
 obtain ⟨u, rfl, t2, rfl⟩ := rv.one
 refine split_at hy (fun l tk e => ?_) h1 h2
 rw [<- e] at q h3
 exact ⟨.ref _, _, I.lnew (vals_strs (l := l)) (by rw [List.length_map]; exact h3), rfl, q _ I.fresh⟩
theorem mt_join : MtR X "str.join" (fun x xs H Q => ∃ (z : Str) (a : Addr) (ts : List Str), x = .str z /\ xs = [.ref a] /\ H a = some (.lst (ts.map V.str)) /\ JoinOk z ts = true /\ Q (.str (Txt.join z ts)) H) := by
 intro pins s σ H x xs v us Q I rx rv h
 obtain ⟨z, a, ts, rfl, rfl, ha, hj, q⟩ := h
 obtain ⟨t, rfl⟩ := rx
 obtain ⟨u, rfl, ru⟩ := rv.one
 cases (show u = Value.ref a from ru)
 obtain ⟨hz, its, n, r, hl, e⟩ := I.lstM ha
 obtain ⟨l, rfl, el⟩ := xQk r
 exact SC.join (l := l) ⟨_, e, rfl, n, rfl⟩ el hj fun t' k => ⟨.str _, H, I.tok k, ⟨t', rfl⟩, q⟩
theorem mt_strip : MtR X "str.strip" (fun x xs H Q => ∃ z y : Str, x = .str z /\ xs = [.str y] /\ z.length <= sizeLine /\ Q (.str (Txt.stripChars z y)) H) := by
 intro pins s σ H x xs v us Q I rx rv h
 obtain ⟨z, y, rfl, rfl, h1, q⟩ := h
 obtain ⟨t, rfl⟩ := rx
 obtain ⟨u, rfl, t2, rfl⟩ := rv.one
 refine call_meets F.slot_str_strip (typeIs_str _ _ _) F.entry_str_strip (F.args_str_strip_2 _ _) (gives_str_strip_chars z y t t2).meets ?_
 have e : Txt.stripChars z y = if stripSame y.cps.contains true true z then z else stripped y.cps.contains true true z := rfl
 rw [e] at q
 cases hs : stripSame y.cps.contains true true z with
 | true =>
   rw [hs] at q
   exact ⟨.str z, H, I, ⟨t, rfl⟩, q⟩
 | false =>
   rw [hs] at q
   exact ⟨fits_stripped _ _ _ h1, ⟨.str _, H, I.tok _, ⟨_, rfl⟩, q⟩⟩
theorem call_int_text : CallR X (.type "int") (fun xs H Q => ∃ (x : Str) (n : Int), xs = [.str x] /\ PySem.intText? x = some n /\ x.length <= 640 /\ Q (.int n) H) := by
 intro pins s σ H xs us Q I r h
 obtain ⟨x, n, rfl, hn, hl, q⟩ := h
 obtain ⟨u, rfl, t, rfl⟩ := r.one
 exact PySem.W.KIN.call_text hn hl ⟨.int n, H, I.tok _, ⟨_, rfl⟩, q⟩
def Its (x : Str) : It := ⟨fun i _ => i < x.cps.size, fun i H v H' => H' = H /\ ∃ c, x.cps[i]? = some c /\ v = .str ⟨#[c]⟩, fun i _ => x.cps.size <= i⟩
def iStr (tl : TE) : TI := fun σ H R => tl σ H fun x H1 => ∃ z : Str, x = .str z /\ R (Its z) H1
theorem turn_str {P : Program} {w : World} {K : PySem.W.Frag} {tg : Expr} (it : Addr) (x : Str) (t : Tok) (nm : String) (hn : nm = "str_ascii_iterator" \/ nm = "str_iterator") : Turn P w K tg (Its x) [it] it (fun i h => i <= x.cps.size /\ h.IsStrIter it nm x t i) where
 mem := by simp
 obj := fun i h st b hb => by
   have e : b = it := by simpa using hb
   subst e
   obtain ⟨_, o, eo, ec, ed⟩ := st
   exact ⟨o, eo, fun v z => by rw [ed] at z; cases z⟩
 keep := fun i h h' st k => by
   obtain ⟨l, o, eo, r⟩ := st
   exact ⟨l, o, k it (by simp) o eo, r⟩
 item := by
   intro X hP hw hK hc i pins s σ H E I hf st hg
   subst hP hw hK
   obtain ⟨f0, f1, f2, f3, f4, f5⟩ := hf it (by simp)
   have W : Walks X.prog X.w X.A it [it] [it] x.cps.size (SignAt x) (fun i h => h.IsStrIter it nm x t i) := by
     rcases hn with rfl | rfl
     . exact Walks.strAscii (I.ok.hd hc) it x t
     . exact Walks.strWide (I.ok.hd hc) it x t
   refine W.item i s _ _ hg st.2 fun v h' tk hv st' kk => ?_
   obtain ⟨c, u, ec, rfl⟩ := hv
   have I1 : Inv X pins σ H { s with heap := h', toks := tk } := I.turned (fun b o hb e => kk b o (by simpa using hb) e) f0 f1 f3 f4 f5
   obtain ⟨o, eo, e1, e2⟩ := id st'
   refine ⟨_, rfl, go_of (s := { s with heap := h', toks := tk }) (n := nm) eo e1 e2 (by rcases hn with rfl | rfl <;> decide) ⟨.str ⟨#[c]⟩, H, I1, ⟨u, rfl⟩, ⟨rfl, c, ec, rfl⟩, ⟨hg, st'⟩, fun b hb => (hf b hb).1⟩⟩
 done := by
   intro X hP hw hK hc i pins s σ H E I hf st hg
   subst hP hw hK
   obtain ⟨f0, f1, f2, f3, f4, f5⟩ := hf it (by simp)
   have hi : i = x.cps.size := Nat.le_antisymm st.1 hg
   have W : Walks X.prog X.w X.A it [it] [it] x.cps.size (SignAt x) (fun i h => h.IsStrIter it nm x t i) := by
     rcases hn with rfl | rfl
     . exact Walks.strAscii (I.ok.hd hc) it x t
     . exact Walks.strWide (I.ok.hd hc) it x t
   rw [hi] at st
   exact W.done s _ _ st.2 fun h' tk kk => ⟨rfl, I.turned (t' := tk) (fun b o hb e => kk b o (by simpa using hb) e) f0 f1 f3 f4 f5⟩
 self := fun A i s Q E st h => by
   rcases hn with rfl | rfl
   . exact wpAny_pyIter_striter_ascii st.2 h
   . exact wpAny_pyIter_striter_wide st.2 h
theorem pi_str {tg l : Expr} {tl : TE} (hl : PE X l tl) : PI X tg l (iStr tl) := by
 intro pins s σ H R I h
 refine thn (hl pins s σ H _ I h) fun v s1 ⟨x, H1, I1, r1, z, e, q⟩ => ?_
 subst e
 obtain ⟨t, rfl⟩ := r1
 have fin : ∀ (nm : String), (nm = "str_ascii_iterator" \/ nm = "str_iterator") -> ∀ o : Obj, (s1.heap.push o).IsStrIter s1.heap.objs.size nm z t 0 -> PIE X pins σ tg R (.ref s1.heap.objs.size) { s1 with heap := s1.heap.push o } := fun nm hn o st => by
   refine ⟨s1.heap.objs.size, [s1.heap.objs.size], _, _, H1, rfl, I1.kept (t' := s1.toks) fun b o e => Heap.get?_push_of_some _ e, turn_str _ z t nm hn, ⟨Nat.zero_le _, st⟩, fun b hb => ?_, q⟩
   have e : b = s1.heap.objs.size := by simpa using hb
   subst e
   exact I1.fpOk (Nat.le_refl _) (I1.hok.fresh (Nat.le_refl _))
 cases ha : z.cps.all (· < 128)
 . exact wpAny_pyIter_wide ha (fin "str_iterator" (.inr rfl) _ ⟨_, Heap.get?_push_size _ rfl, rfl, rfl⟩)
 . exact wpAny_pyIter_ascii ha (fin "str_ascii_iterator" (.inl rfl) _ ⟨_, Heap.get?_push_size _ rfl, rfl, rfl⟩)
end
end L2
namespace L2
open PySem PySem.Spec PyProof.Rows
theorem all_str : ∀ {xs ys : List Str}, xs.length = ys.length -> ((List.range xs.length).all fun j => decide (xs.getD j Str.empty = ys.getD j Str.empty)) = decide (xs = ys)
 | [], [], _ => rfl
 | x :: xs, y :: ys, h => by
   have ih := all_str (xs := xs) (ys := ys) (by simpa using h)
   rw [List.length_cons, List.range_succ_eq_map, List.all_cons, List.all_map]
   have e : (List.range xs.length).all ((fun j => decide ((x :: xs).getD j Str.empty = (y :: ys).getD j Str.empty)) ∘ Nat.succ) = decide (xs = ys) := by rw [<- ih]; rfl
   rw [e]
   by_cases hx : x = y
   . subst hx
     by_cases hs : xs = ys <;> simp [hs]
   . simp [hx]
section
variable {X : Cx}
theorem op_eqS (hu : X.A.units < cLine) : OpR X (compareOp .Eq) (fun x y H Q => ∃ (a b : Addr) (xs ys : List Str), x = .ref a /\ y = .ref b /\ H a = some (.lst (xs.map V.str)) /\ H b = some (.lst (ys.map V.str)) /\ Q (.bl (decide (xs = ys))) H) := by
 intro pins s σ H x y v u Q I rx ry h
 obtain ⟨a, b, xs, ys, rfl, rfl, ha, hb, q⟩ := h
 cases (show v = Value.ref a from rx)
 cases (show u = Value.ref b from ry)
 obtain ⟨its, r1, p1, _⟩ := I.list (SqL.of ha)
 obtain ⟨its', r2, p2, _⟩ := I.list (SqL.of hb)
 by_cases hl : xs.length = ys.length
 . have l1 : its.toArray.size = xs.length := by rw [List.size_toArray, <- r1.length, List.length_map]
   refine SeqAt.eq_listAt (e := fun j => decide (xs.getD j Str.empty = ys.getD j Str.empty)) p1.isList p2.isList (by rw [List.size_toArray, List.size_toArray, <- r1.length, <- r2.length, List.length_map, List.length_map, hl]) hu (fun j h1 h2 => ?_) ?_
   . obtain ⟨x, ex, qx⟩ := get_vals r1 h1
     obtain ⟨y, ey, qy⟩ := get_vals r2 h2
     rw [List.getElem?_map] at ex ey
     cases e1 : xs[j]? with
     | none => rw [e1] at ex; cases ex
     | some m =>
       cases e2 : ys[j]? with
       | none => rw [e2] at ey; cases ey
       | some n =>
         rw [e1] at ex
         rw [e2] at ey
         cases ex
         cases ey
         rw [List.getD_eq_getElem?_getD, List.getD_eq_getElem?_getD, e1, e2]
         have := eqAt_V (A := X.A.in1) (s := s) (x := .str n) (y := .str m) qx qy rfl rfl
         have e : (m == n) = decide (m = n) := by
           by_cases h : m = n
           . subst h; simp
           . simp [h]
         have e2 : eqV (V.str m) (V.str n) = decide (m = n) := by rw [<- e]; rfl
         rw [e2] at this
         exact this
   . rw [l1, all_str hl]
     exact ⟨.bl _, H, I, rfl, q⟩
 . refine SeqAt.eq_list_lengthsAt p1.isList p2.isList ?_ hu ⟨.bl false, H, I, rfl, ?_⟩
   . rw [List.size_toArray, List.size_toArray, <- r1.length, <- r2.length, List.length_map, List.length_map]
     exact bne_iff_ne.mpr hl
   . rw [decide_eq_false (fun z => hl (by rw [z]))] at q
     exact q
end
def pickH (K : PySem.W.Frag) (cls : Value) (x : Addr) (rt : VK) (σ : St) (H : Hp) : List (Value × (Addr -> TS)) -> Prop
 | [] => False
 | (c, ts) :: r => (PySem.W.exmOne K cls c = some true /\ ts x { nx := fun _ _ => False, rt := rt } σ H) \/ (PySem.W.exmOne K cls c = some false /\ pickH K cls x rt σ H r)
inductive PHs (X : Cx) : List ExceptHandler -> List (Value × (Addr -> TS)) -> Prop where
 | nil : PHs X [] []
 | cons {cn : Str} {np pos : Pos} {b₀ : Stmt} {suite : List Stmt} {c : Value} {ts : Addr -> TS} {hs : List ExceptHandler} {rs : List (Value × (Addr -> TS))} (hg : Gl X cn) (hm : X.mg cn = some c) (hdb : (cn == ("__debug__" : Str)) = false) (h : ∀ x pn, PSs (X.hand x pn) (b₀ :: suite) (ts x))
     (r : PHs X hs rs) : PHs X (.ExceptHandler (some (.Name cn np)) none (b₀ :: suite) pos :: hs) ((c, ts) :: rs)
def PassesAt (X : Cx) (σ : St) (E : XK) : Prop := ∀ (pins : List (Addr × Obj)) (H : Hp) (s : Shared) (e : Value) (s' : Shared), Inv X pins σ H s -> CXw X.prog X.w X.stack H s E e s' -> X.xe e s'
def PEat (X : Cx) (σ : St) (e : Expr) (t : TE) : Prop := ∀ (pins : List (Addr × Obj)) (s : Shared) (H : Hp) (Q : VK), Inv X pins σ H s -> t σ H Q -> wpAny (model X.prog X.w) X.A (eval e X.env) (EP X pins σ Q) X.xe s
section
variable {X : Cx}
theorem handles {hs : List ExceptHandler} {rs : List (Value × (Addr -> TS))} (P : PHs X hs rs) {pins : List (Addr × Obj)} {σ1 : St} {H1 H' : Hp} {s1 s' : Shared} {x T T1 : Addr} {cls : Value} {g2 : Heap} {D : Ends} (J : Inv X pins σ1 H1 s1) (u : Un (frs X.stack) [] H1 H' s1.heap s'.heap) (hok : HOk X.prog X.w H' s'.heap)
   (S12 : Stays (frs X.stack) [x, T] s'.heap g2) (nx : s1.heap.get? x = none) (nT : s1.heap.get? T = none) (hx : H' x = none) (hT : H' T = none) (X2 : ExT g2 x cls T1 .none) (n1 : s'.heap.get? T1 = none) (ho : s'.os = s1.os) (hg' : AllBare s'.gens)
   (hp : pickH X.K cls x D.rt σ1 (upd H' x (excO x cls)) rs) : wpAny (model X.prog X.w) X.A (handleBy (.ref x) X.env hs) (SP X pins D) X.xe { s' with heap := g2 } := by
 have J2 : Inv X pins σ1 (upd H' x (excO x cls)) { s' with heap := g2 } := J.catch (T' := T1) u hok S12 nx nT hx hT X2.exc ho hg'
 have Y2 : Inv (X.hand x (X.pn ++ pins)) [] σ1 (upd H' x (excO x cls)) { s' with heap := g2 } := J2.toHand
 induction P with
 | nil => exact hp.elim
 | cons hg hm hdb h r ih =>
   rcases hp with ⟨hm1, hrest⟩ | ⟨hm0, hp⟩
   . refine wpAny_handleBy_cons (codeAny_handlers_test (yZj Y2 hg hm ((PySem.W.exm_one Y2.kIn X2.exc.ty hm1).here ?_) hdb)) (by intro z; cases z)
     refine codeAny_handlers_suite (xQw (s := { s' with heap := g2 }) X2 fun g3 X3 S3 => ?_)
     have S13 : Stays (frs X.stack) [x, T] s'.heap g3 := S12.trans (S3.more (by simp)) fun b m => .inr (by simp at m; rw [m]; exact n1)
     have J3 : Inv X pins σ1 (upd H' x (excO x cls)) { s' with heap := g3 } := J.catch (T' := T1) u hok S13 nx nT hx hT X3.exc ho hg'
     have Y3 : Inv (X.hand x (X.pn ++ pins)) [] σ1 (upd H' x (excO x cls)) { s' with heap := g3 } := J3.toHand
     refine wpAny_mono (h x (X.pn ++ pins) [] _ _ _ _ Y3 hrest) (fun f s5 q5 => ?_) fun _ _ z => False.elim z
     cases f with
     | next => obtain ⟨_, _, _, z⟩ := q5; exact False.elim z
     | brk => obtain ⟨_, _, _, z⟩ := q5; exact False.elim z
     | cont => obtain ⟨_, _, _, z⟩ := q5; exact False.elim z
     | ret v =>
       obtain ⟨v', σ5, H5, y5, rv, z⟩ := q5
       exact ⟨v', σ5, H5, y5.ofHand J.ok, rv, z⟩
   . exact wpAny_handleBy_cons (codeAny_handlers_test (yZj Y2 hg hm ((PySem.W.exm_one Y2.kIn X2.exc.ty hm0).here (ih hp)) hdb)) (by intro z; cases z)
def tTryR (K : PySem.W.Frag) (rs : List (Value × (Addr -> TS))) (E1 E2 : XK) (t1 : TS) (te : TE) : TS := fun D σ H =>
 t1 { nx := fun σ2 H2 => te σ2 H2 D.rt /\ ∀ cls x H', E2 cls (some x) H' -> H' x = none -> pickH K cls x D.rt σ2 (upd H' x (excO x cls)) rs, rt := D.rt, bk := fun _ _ => False, ct := fun _ _ => False } σ H /\
 ∀ cls x H', E1 cls (some x) H' -> H' x = none -> ∀ σ', σ'.length = σ.length -> pickH K cls x D.rt σ' (upd H' x (excO x cls)) rs
theorem ps_tryR {st : Stmt} {e : Expr} {rpos tpos : Pos} {hs : List ExceptHandler} {rs : List (Value × (Addr -> TS))} {E1 E2 : XK} {t1 : TS} {te : TE} (hst : X.stack = X.env :: X.outer /\ X.env.frame = some X.env.locals) (P : PHs X hs rs) (hne : hs ≠ [])
   (h1 : ∀ pn xe, Passes (CXw X.prog X.w) (X.tr pn xe) E1 -> PS (X.tr pn xe) st t1) (h2 : ∀ pn xe σ, PassesAt (X.tr pn xe) σ E2 -> PEat (X.tr pn xe) σ e te) :
   PS X (.Try [st, .Return (some e) rpos] hs [] [] tpos) (tTryR X.K rs E1 E2 t1 te) := by
 intro pins s σ H D I h
 obtain ⟨ha, hb⟩ := h
 obtain ⟨hd0, hs0, rfl⟩ : ∃ a b, hs = a :: b := by
   cases hs with
   | nil => exact absurd rfl hne
   | cons a b => exact ⟨a, b, rfl⟩
 have caught : ∀ (E : XK) (σ1 : St) (pins' : List (Addr × Obj)) (H1 : Hp) (s1 : Shared) (ev : Value) (s' : Shared), Inv X pins σ1 H1 s1 -> (∀ cls x H', E cls (some x) H' -> H' x = none -> pickH X.K cls x D.rt σ1 (upd H' x (excO x cls)) rs) -> CXw X.prog X.w X.stack H1 s1 E ev s' ->
     wpAny (model X.prog X.w) X.A (noteFrame ev X.env) (fun _ s2 => wpAny (model X.prog X.w) X.A (setFlight ev none) (fun _ s3 => wpAny (model X.prog X.w) X.A (handleBy ev X.env (hd0 :: hs0)) (SP X pins D) X.xe s3) X.xe s2) X.xe s' := by
   rintro E σ1 pins' H1 s1 ev s' J hp ⟨x, T, cls, H', rfl, ho, hg', u, hok, nx, nT, hx, hT, XT, q⟩
   have J1 : Inv X pins σ1 H' s' := J.call' ho u hok hg' fun b z => absurd z (by simp)
   have hfr : X.A.frames = some (X.env :: X.outer) := by rw [J.ok.frames, hst.1]
   have hfun : s'.heap.FunFrames X.base (X.env :: X.outer) := by
     have z := J1.stack
     rw [hst.1] at z
     exact z
   refine note_next hfr hfun hst.2 XT fun g1 T1 n1 X1 S1 => ?_
   refine xQw (s := { s' with heap := g1 }) X1 fun g2 X2 S2 => ?_
   have S12 : Stays (frs X.stack) [x, T] s'.heap g2 := by
     rw [hst.1]
     exact S1.trans (S2.more (by simp)) fun b m => .inr (by simp at m; rw [m]; exact n1)
   exact handles (s' := s') P J u hok S12 nx nT hx hT X2 n1 ho hg' (hp cls x H' q hx)
 refine wpAny_Try_except ?_
 refine wpAny_execs_cons (thn (h1 (X.pn ++ pins) _ ?_ [] s σ H _ I.toTr ha) fun f s1 q => ?_)
 . intro pins' σ1 H1 s1 ev s' J hq
   exact caught E1 σ1 pins' H1 s1 ev s' J.ofTr (fun cls x H' z n => hb cls x H' z n σ1 (by rw [J.len, I.len])) hq
 . cases f with
   | next =>
     obtain ⟨σ2, H2, J, te2, hh⟩ := q
     refine wpAny_execs_cons (wpAny_Return_some (thn (h2 (X.pn ++ pins) _ σ2 ?_ [] s1 H2 _ J te2) fun v s2 ⟨x, H3, I3, r3, q3⟩ => ?_))
     . intro pins' H1 s1 ev s' J hq
       exact caught E2 σ2 pins' H1 s1 ev s' J.ofTr hh hq
     . exact ⟨x, σ2, H3, I3.ofTr, r3, q3⟩
   | brk => obtain ⟨_, _, _, z⟩ := q; exact False.elim z
   | cont => obtain ⟨_, _, _, z⟩ := q; exact False.elim z
   | ret u => exact SP.ofTr q
theorem pe_methAt {pl : Sem Bool} {C : Addr} {k : Nat} {m : Str} {ps : List Str} {sp : Sp} {E : XK} {o e : Expr} {es : List Expr} {ta : TE} {t : TA} {pos apos : Pos} {σ : St} (c : Cls X.K C) (B : MtB X.prog X.w X.K X.mg X.base C k m ps sp) (hr : Room k X.A) (hx : PassesAt X σ E) (he : PE X o ta) (ha : PA X (e :: es) t)
   (hst : starEach (e :: es) X.env = (false, eval e X.env) :: starEach es X.env := by exact zQq rfl) (hpl : (backTo pos (starEach es X.env)).any (·.1) = false := by exact zQx rfl)
   (ht : eval (.Call (.Attribute o m apos) (e :: es) [] pos) X.env = (do
     let ov <- eval o X.env
     standAt apos.atName
     let (f, first) <- holding [ov] (getMethod ov m pl)
     callWith pos f first (backTo pos (starEach (e :: es) X.env)) (backToKw pos (keywordEach [] X.env))) := by rfl) :
   PEat X σ (.Call (.Attribute o m apos) (e :: es) [] pos) (tMeth C m sp [] E ta t) := by
 obtain ⟨f, fd, F, hb, hm⟩ := B.ex
 intro pins s H Q I h
 refine PySem.W.methodCall_KW (pl := pl) (thn (he pins s σ H _ I h) fun u s1 ⟨x, H1, I1, rx, a, dx, fs, ex, ea, l, q⟩ => ?_) ht
 subst ex
 obtain rfl : u = Value.ref a := rx
 refine yKw I1 ea c hm l ?_
 refine PySem.W.callWith_K (first := [.ref a]) (h₀ := X.base) I.ok.mod.kin hm.kp (thn (ha pos pins s1 σ H1 _ I1 q) fun us s2 ⟨vs, H2, I2, r, q2⟩ => ⟨I2.kIn, ?_⟩) hst hpl
 have q2 : sp (.ref a :: vs) H2 Q E := by
   have z : sp ((.ref a :: vs) ++ []) H2 Q E := q2
   rw [List.append_nil] at z
   exact z
 have r2 : Vals (.ref a :: vs) (.ref a :: us) := .cons rfl r
 have hl : ((Value.ref a :: us) ++ []).length = ps.length := by rw [List.append_nil, <- r2.length]; exact F.len _ _ _ _ q2
 have bb := hb s2 (.ref a :: us) I2.kIn hl
 rw [List.append_nil] at bb
 refine wpAny_call (codeAny_mono (F.run X.A X.stack s2 H2 ⟨.ref a :: us, []⟩ (.ref a :: us) (.ref a :: vs) Q E hr I2.env0 bb r2 q2) fun r s' hq => ?_)
 cases r with
 | error e => exact hx pins H2 s2 e s' I2 hq
 | ok fl =>
   cases fl with
   | ret u => exact I2.after hq
   | next => exact False.elim hq
   | brk => exact False.elim hq
   | cont => exact False.elim hq
end
def GD (P : Program) (w : World) (K : PySem.W.Frag) (a : Addr) (kvs : List (Key × V)) : Prop := (a == sysModules) = false /\ ∃ vs, KV kvs vs /\ ∀ h : Heap, K.In h -> h.DictOf (mixKind P w) a vs
def tGGet (kvs : List (Key × V)) (ty : TE) : TE := fun σ H Q => ty σ H fun y H1 => ∃ k, y = kV k /\ Q ((valV kvs k).getD .non) H1
section
variable {X : Cx} {k : Nat} {C : Addr} {ps : List Str} {sp : Sp} {E : XK} {x : Str} {p pos apos np : Pos} {e : Expr} {ty : TE}
theorem pe_callF0 (B : FnB X.prog X.w X.K X.mg X.base k x ps sp) (hr : Room k X.A) (hg : Gl X x) (hx : Passes (CXw X.prog X.w) X E)
   (hdb : (x == ("__debug__" : Str)) = false := by decide) : PE X (.Call (.Name x p) [] [] pos) (tCall sp [] E tNil) := by
 obtain ⟨f, fd, F, b, hm, hk⟩ := B.ex
 exact pe_call0 F hr hg hm hk b .nil hx hdb
theorem pe_makeF0 (B : MkB X.prog X.w X.K X.mg X.base C k x ps sp) (hr : Room (k + 1) X.A) (hg : Gl X x) (hx : Passes (CXw X.prog X.w) X E)
   (hdb : (x == ("__debug__" : Str)) = false := by decide) : PE X (.Call (.Name x p) [] [] pos) (tMake C sp [] E tNil) := by
 obtain ⟨f, fd, F, b, M, hm⟩ := B.ex
 exact pe_make0 M F hr hg hm b .nil hx hdb
theorem pe_bmK {K : PySem.W.Frag} {name : Str} {id : String} {T' : String} {r : V -> List V -> Hp -> VK -> Prop} {o e : Expr} {es : List Expr} {to : TE} {t : TA} {cpos : Pos} (hK : X.K = K) (pa : PlainAttrs T') (slot : Slot T' name id) (hty : typeOf (.builtin id) = pure (.type "method_descriptor")) (hm : MtR X id r) (ho : PE X o to) (ha : PA X (e :: es) t)
   (hbase : attributeBase o name X.env (eval o X.env) = eval o X.env := by rfl)
   (hfew : ((backTo cpos (starEach (e :: es) X.env)).all (fun x => !x.1) && (backToKw cpos (keywordEach [] X.env)).all (fun x => x.1.isSome)
     && decide ((e :: es).length + ([] : List Keyword).length + (if ([] : List Keyword).isEmpty then 0 else 1) < 30)) = true := by rfl)
   (hline : (apos.endLine == cpos.line) = true := by rfl) (hs : starEach (e :: es) X.env = (false, eval e X.env) :: starEach es X.env := by exact zQq rfl) (hplain : (backTo cpos (starEach es X.env)).any (·.1) = false := by exact zQx rfl) :
   PE X (.Call (.Attribute o name apos) (e :: es) [] cpos) (tBM K T' r to t) := by
 subst hK
 exact pe_bm pa slot hty hm ho ha hbase hfew hline hs hplain
theorem pe_gget {a : Addr} {kvs : List (Key × V)} (hd : GD X.prog X.w X.K a kvs) (hg : Gl X x) (hm : X.mg x = some (.ref a)) (he : PE X e ty) (m : M1 X (.Name x np) "get" apos e pos)
   (hdb : (x == ("__debug__" : Str)) = false := by decide) : PE X (.Call (.Attribute (.Name x np) "get" apos) [e] [] pos) (tGGet kvs ty) := by
 obtain ⟨hs, vs, rel, dd⟩ := hd
 intro pins s σ H Q I h
 refine wpAny_Call_method m.base m.few m.line PySem.F.plainAttrs_dict PySem.F.slot_dict_get PySem.F.type_dict_get (yZj I hg hm ?_ hdb)
 have d0 := dd s.heap I.kIn
 refine ⟨d0.typeIs, fun b q => ?_, ?_⟩
 . cases q
   obtain ⟨ob, _, _, h1, h2, _⟩ := d0
   exact ⟨ob, h1, h2.2.1⟩
 rw [m.trees]
 refine Calls.callWith_builtin rfl (Calls.evalArgs_plain (Calls.spliced_cons (thn (he pins s σ H _ I h) fun iv s2 ⟨y, H2, I2, ry, k, ey, q2⟩ => Calls.spliced_nil ?_)))
 subst ey
 have d2 := dd s2.heap I2.kIn
 exact call_meetsIn PySem.F.slot_dict_get d2.typeIs PySem.F.entry_dict_get (PySem.F.args_dict_get_2 _ _) (meets_dict_get (mixKind X.prog X.w) a (kV_is ry) hs) ⟨_, d2.mapOf, ⟨(valV kvs k).getD .non, H2, I2.tok _, (rel.val k).getD (show RelV V.non Value.none from rfl), q2⟩⟩
end
end L2
namespace Ev
inductive Pg where
 | er | torn | wh (s : Nat) (c n : Int)
 deriving DecidableEq
structure GS where
 nb : Nat
 np : Nat
 pg : Nat -> Nat -> Pg
 worn : Nat -> Int
 many : Int
 left : Option Int
 dark : Bool
def nx (nb b : Nat) : Nat := if b + 1 = nb then 0 else b + 1
def set2 (f : Nat -> Nat -> Pg) (b i : Nat) (g : Pg) : Nat -> Nat -> Pg := fun b' i' => if b' = b /\ i' = i then g else f b' i'
def setB (f : Nat -> Nat -> Pg) (b : Nat) (g : Pg) : Nat -> Nat -> Pg := fun b' i' => if b' = b then g else f b' i'
def set1 {α : Type} (f : Nat -> α) (b : Nat) (v : α) : Nat -> α := fun b' => if b' = b then v else f b'
def GS.draw (G : GS) : Option (Bool × GS) :=
 if G.dark then none
 else match G.left with
   | none => some (true, G)
   | some k => if k <= 0 then some (false, { G with dark := true }) else some (true, { G with left := some (k - 1) })
def GS.put (G : GS) (b i : Nat) (g : Pg) : Bool × GS := match G.draw with
 | none => (false, G)
 | some (l, G1) => (l, { G1 with many := G1.many + 1, pg := set2 G1.pg b i (if l then g else .torn) })
def GS.era (G : GS) (b : Nat) : Bool × GS := match G.draw with
 | none => (false, G)
 | some (l, G1) => (l, { G1 with worn := set1 G1.worn b (G1.worn b + 1), pg := setB G1.pg b (if l then .er else .torn) })
def GS.Er (G : GS) (b : Nat) : Prop := ∀ i, i < G.np -> G.pg b i = .er
def GS.Wh (G : GS) (b : Nat) : Prop := ∃ i, i < G.np /\ ∃ s c n, G.pg b i = .wh s c n
def GS.Clear (G : GS) (b i : Nat) : Prop := ∀ j, i <= j -> j < G.np -> G.pg b j = .er
def GS.fill (G : GS) (b : Nat) : Nat := ((List.range G.np).filter fun i => decide (G.pg b i ≠ .er)).length
structure DS where
 G : GS
 many : Nat
 pl : Nat -> Option (Nat × Nat)
 h : Nat
 f : Nat
instance (G : GS) (b : Nat) : Decidable (G.Er b) := by unfold GS.Er; exact inferInstanceAs (Decidable (∀ i, i < G.np -> _))
instance (G : GS) (b i : Nat) : Decidable (G.Clear b i) := decidable_of_iff (∀ j, j < G.np -> i <= j -> G.pg b j = .er) ⟨fun h j a b => h j b a, fun h j a b => h j b a⟩
open Classical in
noncomputable def DS.put (D : DS) (s : Nat) (c : Int) : Option (Bool × DS) :=
 if D.h < D.G.nb /\ D.f < D.G.np /\ D.G.Clear D.h D.f /\ s < D.many then
   some (if (D.G.put D.h D.f (.wh s c D.G.many)).1 then (true, { D with G := (D.G.put D.h D.f (.wh s c D.G.many)).2, pl := set1 D.pl s (some (D.h, D.f)), f := D.f + 1 })
     else (false, { D with G := (D.G.put D.h D.f (.wh s c D.G.many)).2 }))
 else none
def DS.Live (D : DS) (b i : Nat) : Prop := ∃ s, s < D.many /\ D.pl s = some (b, i)
open Classical in
noncomputable def DS.move (b : Nat) : Nat -> DS -> Option (Bool × DS)
 | 0, D => some (true, D)
 | n + 1, D =>
   if D.Live b (D.G.np - (n + 1)) then
     match D.G.pg b (D.G.np - (n + 1)) with
     | .wh s c _ => match D.put s c with
       | some (true, D') => DS.move b n D'
       | r => r
     | _ => none
   else DS.move b n D
noncomputable def DS.clean (D : DS) (b : Nat) : Option (Bool × DS) := match D.move b D.G.np with
 | some (true, D') => if b < D'.G.nb then some ((D'.G.era b).1, { D' with G := (D'.G.era b).2 }) else none
 | r => r
open Classical in
noncomputable def DS.begin (D : DS) : Option (Bool × DS) :=
 if D.G.Er (nx D.G.nb (nx D.G.nb D.h)) then some (true, { D with h := nx D.G.nb D.h, f := 0 })
 else DS.clean { D with h := nx D.G.nb D.h, f := 0 } (nx D.G.nb (nx D.G.nb D.h))
noncomputable def DS.write : Nat -> DS -> Nat -> Int -> Option (Bool × DS)
 | 0, _, _, _ => none
 | n + 1, D, s, c => if D.f = D.G.np then match D.begin with
     | some (true, D') => DS.write n D' s c
     | r => r
   else D.put s c
def GS.Newest (G : GS) (N : Nat) : Prop :=
 ((∀ b, b < G.nb -> ¬ G.Wh b) /\ N + 1 = G.nb) \/
   (N < G.nb /\ ∃ i s c n, i < G.np /\ G.pg N i = .wh s c n /\ ∀ b j s' c' n', b < G.nb -> j < G.np -> G.pg b j = .wh s' c' n' -> n' <= n)
open Classical in
noncomputable def GS.mend (G : GS) (N : Nat) : Bool × GS :=
 if ∃ b, b < G.nb /\ G.Er b then (true, G)
 else G.era (if G.Wh (nx G.nb N) then N else nx G.nb N)
def GS.Pl (G : GS) (many : Nat) (pl : Nat -> Option (Nat × Nat)) : Prop := ∀ s, s < many -> match pl s with
 | none => ∀ b i c n, b < G.nb -> i < G.np -> G.pg b i ≠ .wh s c n
 | some (b, i) => b < G.nb /\ i < G.np /\ ∃ c n, G.pg b i = .wh s c n /\ ∀ b' i' c' n', b' < G.nb -> i' < G.np -> G.pg b' i' = .wh s c' n' -> n' <= n
open Classical in
noncomputable def GS.last (G : GS) : Nat := ((List.range G.nb).find? fun b => decide (¬ G.Er b /\ G.Er (nx G.nb b))).getD 0
def DS.read (D : DS) (s : Nat) : Int := match D.pl s with
 | none => 0
 | some (b, i) => match D.G.pg b i with
   | .wh _ c _ => c
   | _ => 0
end Ev
namespace Ev
def GS.wp (G : GS) (b j : Nat) : List (Int × Nat × Nat) := match G.pg b j with
 | .wh _ _ n => [(n, b, j)]
 | _ => []
def GS.wr (G : GS) (b i : Nat) : List (Int × Nat × Nat) := (List.range i).flatMap (G.wp b)
def GS.wb (G : GS) (b : Nat) : List (Int × Nat × Nat) := (List.range b).flatMap fun b => G.wr b G.np
def GS.wl (G : GS) : List (Int × Nat × Nat) := G.wb G.nb
theorem wr_succ {G : GS} {b i : Nat} : G.wr b (i + 1) = G.wr b i ++ G.wp b i := by
 unfold GS.wr; rw [List.range_succ, List.flatMap_append, List.flatMap_singleton]
theorem wb_succ {G : GS} {b : Nat} : G.wb (b + 1) = G.wb b ++ G.wr b G.np := by
 unfold GS.wb; rw [List.range_succ, List.flatMap_append, List.flatMap_singleton]
theorem xKv {G : GS} {b j : Nat} {t : Int × Nat × Nat} : t ∈ G.wp b j ↔ ∃ s c, G.pg b j = .wh s c t.1 /\ t.2 = (b, j) := by
 unfold GS.wp
 split
 . rename_i s c n e
   constructor
   . intro m
     obtain rfl := List.mem_singleton.mp m
     exact ⟨s, c, e, rfl⟩
   . rintro ⟨s', c', e', h⟩
     rw [e] at e'
     injection e' with z1 z2 z3
     obtain ⟨t1, t2⟩ := t
     dsimp only at h z3
     subst h z3
     exact List.mem_singleton.mpr rfl
 . rename_i h
   constructor
   . intro m; cases m
   . rintro ⟨s, c, e, _⟩
     exact absurd e (h s c t.1)
theorem yKx {G : GS} {t : Int × Nat × Nat} : t ∈ G.wl ↔ t.2.1 < G.nb /\ t.2.2 < G.np /\ ∃ s c, G.pg t.2.1 t.2.2 = .wh s c t.1 := by
 unfold GS.wl GS.wb
 rw [List.mem_flatMap]
 constructor
 . rintro ⟨b, mb, m⟩
   unfold GS.wr at m
   obtain ⟨j, mj, m⟩ := List.mem_flatMap.mp m
   obtain ⟨s, c, e, h⟩ := xKv.mp m
   rw [h]
   exact ⟨List.mem_range.mp mb, List.mem_range.mp mj, s, c, e⟩
 . rintro ⟨h1, h2, s, c, e⟩
   refine ⟨t.2.1, List.mem_range.mpr h1, ?_⟩
   unfold GS.wr
   exact List.mem_flatMap.mpr ⟨t.2.2, List.mem_range.mpr h2, xKv.mpr ⟨s, c, e, rfl⟩⟩
structure GS.Rdy (G : GS) (many : Nat) : Prop where
 sec : ∀ b i s c n, b < G.nb -> i < G.np -> G.pg b i = .wh s c n -> s < many
 nd : (G.wl.map (·.1)).Nodup
 few : G.wl.length < 64
theorem newest_of {G : GS} {ts : List (Int × Nat × Nat)} (hp : ts.Perm G.wl) (hs : ts.Pairwise fun a b => a.1 < b.1) {t : Int × Nat × Nat} (hl : ts.getLast? = some t) : G.Newest t.2.1 := by
 have m : t ∈ ts := List.mem_of_getLast? hl
 obtain ⟨h1, h2, s, c, e⟩ := yKx.mp (hp.mem_iff.mp m)
 refine .inr ⟨h1, t.2.2, s, c, t.1, h2, e, fun b j s' c' n' hb hj e' => ?_⟩
 have m' : (n', b, j) ∈ ts := hp.mem_iff.mpr (yKx.mpr ⟨hb, hj, s', c', e'⟩)
 obtain ⟨l', rfl⟩ : ∃ l', ts = l' ++ [t] := List.getLast?_eq_some_iff.mp hl
 rcases List.mem_append.mp m' with m' | m'
 . have := (List.pairwise_append.mp hs).2.2 _ m' t (by simp)
   exact Int.le_of_lt this
 . obtain rfl := List.mem_singleton.mp m'
   exact Int.le_refl _
theorem newest_none {G : GS} {ts : List (Int × Nat × Nat)} (hp : ts.Perm G.wl) (hl : ts = []) {N : Nat} (hN : N + 1 = G.nb) : G.Newest N := by
 subst hl
 have e : G.wl = [] := List.eq_nil_of_length_eq_zero (by simpa using hp.length_eq.symm)
 refine .inl ⟨fun b hb ⟨i, hi, s, c, n, h⟩ => ?_, hN⟩
 have : (n, b, i) ∈ G.wl := yKx.mpr ⟨hb, hi, s, c, h⟩
 rw [e] at this
 cases this
def PlTo (G : GS) (many : Nat) (ts : List (Int × Nat × Nat)) (pl : Nat -> Option (Nat × Nat)) : Prop := ∀ s, s < many -> match pl s with
 | none => ∀ t ∈ ts, ∀ c, G.pg t.2.1 t.2.2 ≠ .wh s c t.1
 | some (b, i) => ∃ n c, (n, b, i) ∈ ts /\ G.pg b i = .wh s c n /\ ∀ t ∈ ts, ∀ c', G.pg t.2.1 t.2.2 = .wh s c' t.1 -> t.1 <= n
theorem PlTo.start {G : GS} {many : Nat} : PlTo G many [] fun _ => none := fun s _ t m => nomatch m
theorem PlTo.step {G : GS} {many : Nat} {ts : List (Int × Nat × Nat)} {pl : Nat -> Option (Nat × Nat)} (h : PlTo G many ts pl) {t : Int × Nat × Nat} {s : Nat} {c : Int} (e : G.pg t.2.1 t.2.2 = .wh s c t.1) (hs : ∀ u ∈ ts, u.1 < t.1) : PlTo G many (ts ++ [t]) (set1 pl s (some t.2)) := by
 intro s' hs'
 unfold set1
 by_cases z : s' = s
 . subst z
   rw [if_pos rfl]
   refine ⟨t.1, c, List.mem_append.mpr (.inr (by simp)), e, fun u mu c' eu => ?_⟩
   rcases List.mem_append.mp mu with mu | mu
   . exact Int.le_of_lt (hs u mu)
   . obtain rfl := List.mem_singleton.mp mu
     exact Int.le_refl _
 . rw [if_neg z]
   have := h s' hs'
   cases hp : pl s' with
   | none =>
     rw [hp] at this
     intro u mu c' eu
     rcases List.mem_append.mp mu with mu | mu
     . exact this u mu c' eu
     . obtain rfl := List.mem_singleton.mp mu
       rw [e] at eu
       injection eu with z1
       exact z z1.symm
   | some bi =>
     rw [hp] at this
     obtain ⟨b, i⟩ := bi
     obtain ⟨n, c2, m2, e2, q⟩ := this
     refine ⟨n, c2, List.mem_append.mpr (.inl m2), e2, fun u mu c' eu => ?_⟩
     rcases List.mem_append.mp mu with mu | mu
     . exact q u mu c' eu
     . obtain rfl := List.mem_singleton.mp mu
       rw [e] at eu
       injection eu with z1
       exact absurd z1.symm z
theorem PlTo.done {G : GS} {many : Nat} {ts : List (Int × Nat × Nat)} {pl : Nat -> Option (Nat × Nat)} (h : PlTo G many ts pl) (hp : ts.Perm G.wl) : G.Pl many pl := by
 intro s hs
 have := h s hs
 cases e : pl s with
 | none =>
   rw [e] at this
   intro b i c n hb hi z
   exact this (n, b, i) (hp.mem_iff.mpr (yKx.mpr ⟨hb, hi, s, c, z⟩)) c z
 | some bi =>
   rw [e] at this
   obtain ⟨b, i⟩ := bi
   obtain ⟨n, c, m, z, q⟩ := this
   obtain ⟨h1, h2, _⟩ := yKx.mp (hp.mem_iff.mp m)
   exact ⟨h1, h2, c, n, z, fun b' i' c' n' hb' hi' z' => q (n', b', i') (hp.mem_iff.mpr (yKx.mpr ⟨hb', hi', s, c', z'⟩)) c' z'⟩
end Ev
namespace Ev
theorem gput_t {G : GS} {b i : Nat} {g : Pg} (h : (G.put b i g).1 = true) : (G.put b i g).2.pg = set2 G.pg b i g /\ (G.put b i g).2.many = G.many + 1 /\ (G.put b i g).2.nb = G.nb /\ (G.put b i g).2.np = G.np /\ (G.put b i g).2.worn = G.worn := by
 unfold GS.put GS.draw at h ⊢
 by_cases hd : G.dark = true
 . rw [if_pos hd] at h; cases h
 . rw [if_neg hd] at h ⊢
   cases hl : G.left with
   | none => exact ⟨rfl, rfl, rfl, rfl, rfl⟩
   | some k =>
     rw [hl] at h
     dsimp only at h ⊢
     by_cases hk : k <= 0
     . rw [if_pos hk] at h; cases h
     . rw [if_neg hk]; exact ⟨rfl, rfl, rfl, rfl, rfl⟩
theorem gput_f {G : GS} {b i : Nat} {g : Pg} (h : (G.put b i g).1 = false) : (G.put b i g).2 = G \/ ((G.put b i g).2.pg = set2 G.pg b i .torn /\ (G.put b i g).2.many = G.many + 1 /\ (G.put b i g).2.nb = G.nb /\ (G.put b i g).2.np = G.np /\ (G.put b i g).2.worn = G.worn) := by
 unfold GS.put GS.draw at h ⊢
 by_cases hd : G.dark = true
 . rw [if_pos hd]; exact .inl rfl
 . rw [if_neg hd] at h ⊢
   cases hl : G.left with
   | none => rw [hl] at h; cases h
   | some k =>
     rw [hl] at h
     dsimp only at h ⊢
     by_cases hk : k <= 0
     . rw [if_pos hk]; exact .inr ⟨rfl, rfl, rfl, rfl, rfl⟩
     . rw [if_neg hk] at h; cases h
theorem gera_t {G : GS} {b : Nat} (h : (G.era b).1 = true) : (G.era b).2.pg = setB G.pg b .er /\ (G.era b).2.many = G.many /\ (G.era b).2.nb = G.nb /\ (G.era b).2.np = G.np /\ (G.era b).2.worn = set1 G.worn b (G.worn b + 1) := by
 unfold GS.era GS.draw at h ⊢
 by_cases hd : G.dark = true
 . rw [if_pos hd] at h; cases h
 . rw [if_neg hd] at h ⊢
   cases hl : G.left with
   | none => exact ⟨rfl, rfl, rfl, rfl, rfl⟩
   | some k =>
     rw [hl] at h
     dsimp only at h ⊢
     by_cases hk : k <= 0
     . rw [if_pos hk] at h; cases h
     . rw [if_neg hk]; exact ⟨rfl, rfl, rfl, rfl, rfl⟩
theorem gera_f {G : GS} {b : Nat} (h : (G.era b).1 = false) : (G.era b).2 = G \/ ((G.era b).2.pg = setB G.pg b .torn /\ (G.era b).2.many = G.many /\ (G.era b).2.nb = G.nb /\ (G.era b).2.np = G.np /\ (G.era b).2.worn = set1 G.worn b (G.worn b + 1)) := by
 unfold GS.era GS.draw at h ⊢
 by_cases hd : G.dark = true
 . rw [if_pos hd]; exact .inl rfl
 . rw [if_neg hd] at h ⊢
   cases hl : G.left with
   | none => rw [hl] at h; cases h
   | some k =>
     rw [hl] at h
     dsimp only at h ⊢
     by_cases hk : k <= 0
     . rw [if_pos hk]; exact .inr ⟨rfl, rfl, rfl, rfl, rfl⟩
     . rw [if_neg hk] at h; cases h
def GS.W (G : GS) (b i s : Nat) (c n : Int) : Prop := b < G.nb /\ i < G.np /\ G.pg b i = .wh s c n
def dst (nb h b : Nat) : Nat := if h < b then b - h - 1 else b + nb - h - 1
structure Base (G : GS) (many : Nat) : Prop where
 b4 : 4 <= G.nb
 p2 : 2 <= G.np
 m1 : 1 <= many
 ms : many <= (G.nb - 2) * G.np
 num : ∀ {b i s c n}, G.W b i s c n -> s < many /\ n < G.many
 dis : ∀ {b i s c b' i' s' c' n}, G.W b i s c n -> G.W b' i' s' c' n -> b = b' /\ i = i'
 gap : ∀ {b i j}, b < G.nb -> i <= j -> j < G.np -> G.pg b i = .er -> G.pg b j = .er
structure Ord (G : GS) (h : Nat) : Prop where
 lt : ∀ {b i s c n b' i' s' c' n'}, G.W b i s c n -> G.W b' i' s' c' n' -> dst G.nb h b < dst G.nb h b' -> n < n'
structure Good (G : GS) (many h : Nat) : Prop where
 base : Base G many
 hh : h < G.nb
 ord : Ord G h
 er1 : G.Er (nx G.nb h)
 run : ∀ {b}, b < G.nb -> b ≠ h -> ¬ G.Er b -> ¬ G.Er (nx G.nb b)
structure Mid (G : GS) (many h : Nat) : Prop where
 base : Base G many
 hh : h < G.nb
 ord : Ord G h
 non : ∀ {b}, b < G.nb -> ¬ G.Er b
 cop : ∀ {i s c n}, G.W h i s c n -> G.Wh (nx G.nb h) -> ∃ b' i' n', b' ≠ h /\ G.W b' i' s c n' /\ ∀ {b'' i'' c'' n''}, b'' ≠ h -> G.W b'' i'' s c'' n'' -> n'' <= n'
def Ok (G : GS) (many : Nat) : Prop := ∃ h, Good G many h \/ Mid G many h
def Val (G : GS) (s : Nat) (v : Int) : Prop := ((∀ b i c n, ¬ G.W b i s c n) /\ v = 0) \/ ∃ b i n, G.W b i s v n /\ ∀ {b' i' c' n'}, G.W b' i' s c' n' -> n' <= n
theorem Val.one {G : GS} {many s : Nat} {v v' : Int} (B : Base G many) (h : Val G s v) (h' : Val G s v') : v = v' := by
 rcases h with ⟨h, rfl⟩ | ⟨b, i, n, w, q⟩
 . rcases h' with ⟨_, rfl⟩ | ⟨b', i', n', w', _⟩
   . rfl
   . exact absurd w' (h _ _ _ _)
 . rcases h' with ⟨h', _⟩ | ⟨b', i', n', w', q'⟩
   . exact absurd w (h' _ _ _ _)
   . have e : n = n' := Int.le_antisymm (q' w) (q w')
     subst e
     obtain ⟨rfl, rfl⟩ := B.dis w w'
     have := w.2.2
     rw [w'.2.2] at this
     injection this with _ z _
     exact z.symm
theorem yWq {n b : Nat} (h : b < n) : nx n b < n := by unfold nx; split <;> omega
theorem nx_inj {n a b : Nat} (ha : a < n) (hb : b < n) (h : nx n a = nx n b) : a = b := by unfold nx at h; split at h <;> split at h <;> omega
theorem nx_ne {n b : Nat} (hn : 2 <= n) (hb : b < n) : nx n b ≠ b := by unfold nx; split <;> omega
def prv (n b : Nat) : Nat := if b = 0 then n - 1 else b - 1
theorem prv_lt {n b : Nat} (h : b < n) : prv n b < n := by unfold prv; split <;> omega
theorem nx_prv {n b : Nat} (h : b < n) : nx n (prv n b) = b := by unfold nx prv; split <;> split <;> omega
theorem prv_nx {n b : Nat} (h : b < n) : prv n (nx n b) = b := by unfold nx prv; split <;> split <;> omega
theorem yZq (n h b : Nat) : (h < b /\ dst n h b = b - h - 1) \/ (b <= h /\ dst n h b = b + n - h - 1) := by unfold dst; split <;> omega
theorem nx_s (n b : Nat) : (b + 1 = n /\ nx n b = 0) \/ (b + 1 ≠ n /\ nx n b = b + 1) := by unfold nx; split <;> omega
theorem prv_s (n b : Nat) : (b = 0 /\ prv n b = n - 1) \/ (b ≠ 0 /\ prv n b = b - 1) := by unfold prv; split <;> omega
theorem xZq {G : GS} {b i s : Nat} {c n : Int} (w : G.W b i s c n) : G.Wh b := ⟨i, w.2.1, s, c, n, w.2.2⟩
theorem er_no {G : GS} {b i s : Nat} {c n : Int} (e : G.Er b) (w : G.W b i s c n) : False := by
 have := e i w.2.1
 rw [w.2.2] at this
 cases this
structure PutW (G G' : GS) (b i : Nat) (g : Pg) : Prop where
 nb : G'.nb = G.nb
 np : G'.np = G.np
 pg : G'.pg = set2 G.pg b i g
 many : G'.many = G.many + 1
structure EraW (G G' : GS) (b : Nat) (g : Pg) : Prop where
 nb : G'.nb = G.nb
 np : G'.np = G.np
 pg : G'.pg = setB G.pg b g
 many : G'.many = G.many
theorem PutW.at_ {G G' : GS} {b i : Nat} {g : Pg} (h : PutW G G' b i g) : G'.pg b i = g := by rw [h.pg]; unfold set2; rw [if_pos ⟨rfl, rfl⟩]
theorem PutW.ne {G G' : GS} {b i : Nat} {g : Pg} (h : PutW G G' b i g) {b' i' : Nat} (n : ¬ (b' = b /\ i' = i)) : G'.pg b' i' = G.pg b' i' := by rw [h.pg]; unfold set2; rw [if_neg n]
theorem EraW.at_ {G G' : GS} {b i : Nat} {g : Pg} (h : EraW G G' b g) : G'.pg b i = g := by rw [h.pg]; unfold setB; rw [if_pos rfl]
theorem EraW.ne {G G' : GS} {b : Nat} {g : Pg} (h : EraW G G' b g) {b' i' : Nat} (n : b' ≠ b) : G'.pg b' i' = G.pg b' i' := by rw [h.pg]; unfold setB; rw [if_neg n]
theorem PutW.torn {G G' : GS} {b i : Nat} (h : PutW G G' b i .torn) (e : G.pg b i = .er) {b' i' s : Nat} {c n : Int} : G'.W b' i' s c n ↔ G.W b' i' s c n := by
 unfold GS.W
 rw [h.nb, h.np]
 by_cases z : b' = b /\ i' = i
 . obtain ⟨rfl, rfl⟩ := z
   rw [h.at_, e]
   constructor <;> (rintro ⟨_, _, q⟩; cases q)
 . rw [h.ne z]
theorem PutW.whole {G G' : GS} {b i s0 : Nat} {c0 n0 : Int} (h : PutW G G' b i (.wh s0 c0 n0)) (e : G.pg b i = .er) (hb : b < G.nb) (hi : i < G.np) {b' i' s : Nat} {c n : Int} : G'.W b' i' s c n ↔ G.W b' i' s c n \/ (b' = b /\ i' = i /\ s = s0 /\ c = c0 /\ n = n0) := by
 unfold GS.W
 rw [h.nb, h.np]
 by_cases z : b' = b /\ i' = i
 . obtain ⟨rfl, rfl⟩ := z
   rw [h.at_, e]
   constructor
   . rintro ⟨_, _, q⟩
     injection q with q1 q2 q3
     exact .inr ⟨rfl, rfl, q1.symm, q2.symm, q3.symm⟩
   . rintro (⟨_, _, q⟩ | ⟨_, _, rfl, rfl, rfl⟩)
     . cases q
     . exact ⟨hb, hi, rfl⟩
 . rw [h.ne z]
   constructor
   . exact .inl
   . rintro (q | ⟨q1, q2, _⟩)
     . exact q
     . exact absurd ⟨q1, q2⟩ z
theorem EraW.whole {G G' : GS} {b : Nat} {g : Pg} (h : EraW G G' b g) (hg : ∀ s c n, g ≠ .wh s c n) {b' i' s : Nat} {c n : Int} : G'.W b' i' s c n ↔ b' ≠ b /\ G.W b' i' s c n := by
 unfold GS.W
 rw [h.nb, h.np]
 by_cases z : b' = b
 . subst z
   rw [h.at_]
   constructor
   . rintro ⟨_, _, q⟩
     exact absurd q (hg _ _ _)
   . rintro ⟨q, _⟩
     exact absurd rfl q
 . rw [h.ne z]
   exact ⟨fun q => ⟨z, q⟩, fun q => q.2⟩
theorem EraW.er {G G' : GS} {b : Nat} {g : Pg} (h : EraW G G' b g) {b' : Nat} (n : b' ≠ b) : G'.Er b' ↔ G.Er b' := by
 unfold GS.Er
 rw [h.np]
 exact ⟨fun q i hi => by rw [<- h.ne n]; exact q i hi, fun q i hi => by rw [h.ne n]; exact q i hi⟩
theorem PutW.er {G G' : GS} {b i : Nat} {g : Pg} (h : PutW G G' b i g) {b' : Nat} (n : b' ≠ b) : G'.Er b' ↔ G.Er b' := by
 unfold GS.Er
 rw [h.np]
 exact ⟨fun q j hj => by rw [<- h.ne fun z => n z.1]; exact q j hj, fun q j hj => by rw [h.ne fun z => n z.1]; exact q j hj⟩
theorem Base.torn {G G' : GS} {many b i : Nat} (B : Base G many) (h : PutW G G' b i .torn) (e : G.pg b i = .er) (hi : i < G.np) (hb : b < G.nb) (pre : ∀ j, j < i -> G.pg b j ≠ .er) : Base G' many := by
 refine ⟨by rw [h.nb]; exact B.b4, by rw [h.np]; exact B.p2, B.m1, by rw [h.nb, h.np]; exact B.ms, fun w => ?_, fun w w' => B.dis ((h.torn e).mp w) ((h.torn e).mp w'), fun {b' i' j} hb' hij hj z => ?_⟩
 . obtain ⟨q1, q2⟩ := B.num ((h.torn e).mp w)
   exact ⟨q1, by rw [h.many]; omega⟩
 . rw [h.nb] at hb'
   rw [h.np] at hj
   by_cases z1 : b' = b /\ i' = i
   . obtain ⟨rfl, rfl⟩ := z1
     rw [h.at_] at z; cases z
   . rw [h.ne z1] at z
     have n2 : ¬ (b' = b /\ j = i) := fun ⟨q1, q2⟩ => by
       subst q1 q2
       by_cases i' = j
       . exact z1 ⟨rfl, by assumption⟩
       . exact pre i' (by omega) z
     rw [h.ne n2]
     exact B.gap hb' hij hj z
theorem Base.put {G G' : GS} {many b i s : Nat} {c : Int} (B : Base G many) (h : PutW G G' b i (.wh s c G.many)) (e : G.pg b i = .er) (hi : i < G.np) (hb : b < G.nb) (hs : s < many) (pre : ∀ j, j < i -> G.pg b j ≠ .er) : Base G' many := by
 refine ⟨by rw [h.nb]; exact B.b4, by rw [h.np]; exact B.p2, B.m1, by rw [h.nb, h.np]; exact B.ms, fun w => ?_, fun w w' => ?_, fun {b' i' j} hb' hij hj z => ?_⟩
 . rw [h.many]
   rcases (h.whole e hb hi).mp w with w | ⟨_, _, rfl, _, rfl⟩
   . obtain ⟨q1, q2⟩ := B.num w
     exact ⟨q1, by omega⟩
   . exact ⟨hs, by omega⟩
 . rcases (h.whole e hb hi).mp w with w | ⟨rfl, rfl, _, _, rfl⟩
   . rcases (h.whole e hb hi).mp w' with w' | ⟨_, _, _, _, rfl⟩
     . exact B.dis w w'
     . have := (B.num w).2; omega
   . rcases (h.whole e hb hi).mp w' with w' | ⟨rfl, rfl, _, _, _⟩
     . have := (B.num w').2; omega
     . exact ⟨rfl, rfl⟩
 . rw [h.nb] at hb'
   rw [h.np] at hj
   by_cases z1 : b' = b /\ i' = i
   . obtain ⟨rfl, rfl⟩ := z1
     rw [h.at_] at z; cases z
   . rw [h.ne z1] at z
     have n2 : ¬ (b' = b /\ j = i) := fun ⟨q1, q2⟩ => by
       subst q1 q2
       by_cases i' = j
       . exact z1 ⟨rfl, by assumption⟩
       . exact pre i' (by omega) z
     rw [h.ne n2]
     exact B.gap hb' hij hj z
theorem Base.era {G G' : GS} {many b : Nat} {g : Pg} (B : Base G many) (h : EraW G G' b g) (hg : ∀ s c n, g ≠ .wh s c n) : Base G' many := by
 refine ⟨by rw [h.nb]; exact B.b4, by rw [h.np]; exact B.p2, B.m1, by rw [h.nb, h.np]; exact B.ms, fun w => ?_, fun w w' => B.dis ((h.whole hg).mp w).2 ((h.whole hg).mp w').2, fun {b' i' j} hb' hij hj z => ?_⟩
 . rw [h.many]
   exact B.num ((h.whole hg).mp w).2
 . rw [h.nb] at hb'
   rw [h.np] at hj
   by_cases z1 : b' = b
   . subst z1
     rw [h.at_] at z ⊢
     exact z
   . rw [h.ne z1] at z ⊢
     exact B.gap hb' hij hj z
theorem Ord.torn {G G' : GS} {b i hd : Nat} (O : Ord G hd) (h : PutW G G' b i .torn) (e : G.pg b i = .er) : Ord G' hd := ⟨fun w w' l => by
 rw [h.nb] at l
 exact O.lt ((h.torn e).mp w) ((h.torn e).mp w') l⟩
theorem Ord.era {G G' : GS} {b hd : Nat} {g : Pg} (O : Ord G hd) (h : EraW G G' b g) (hg : ∀ s c n, g ≠ .wh s c n) : Ord G' hd := ⟨fun w w' l => by
 rw [h.nb] at l
 exact O.lt ((h.whole hg).mp w).2 ((h.whole hg).mp w').2 l⟩
theorem Ord.put {G G' : GS} {many hd i s : Nat} {c : Int} (B : Base G many) (O : Ord G hd) (h : PutW G G' hd i (.wh s c G.many)) (e : G.pg hd i = .er) (hi : i < G.np) (hb : hd < G.nb) : Ord G' hd := ⟨fun {b1 i1 s1 c1 n1 b2 i2 s2 c2 n2} w w' l => by
 rw [h.nb] at l
 rcases (h.whole e hb hi).mp w with w | ⟨rfl, _, _, _, rfl⟩
 . rcases (h.whole e hb hi).mp w' with w' | ⟨_, _, _, _, rfl⟩
   . exact O.lt w w' l
   . exact (B.num w).2
 . rcases (h.whole e hb hi).mp w' with w' | ⟨rfl, _, _, _, rfl⟩
   . have := w'.1
     unfold dst at l
     rw [if_neg (by omega)] at l
     split at l <;> omega
   . omega⟩
theorem Ord.fwd {G : GS} {hd : Nat} (O : Ord G hd) (hh : hd < G.nb) (e : ¬ G.Wh (nx G.nb hd)) : Ord G (nx G.nb hd) := ⟨fun {b1 i1 s1 c1 n1 b2 i2 s2 c2 n2} w w' l => by
 refine O.lt w w' ?_
 have a1 : b1 ≠ nx G.nb hd := fun z => e (z ▸ xZq w)
 have a2 : b2 ≠ nx G.nb hd := fun z => e (z ▸ xZq w')
 have h1 := w.1
 have h2 := w'.1
 have := nx_s G.nb hd
 have := yZq G.nb (nx G.nb hd) b1
 have := yZq G.nb (nx G.nb hd) b2
 have := yZq G.nb hd b1
 have := yZq G.nb hd b2
 omega⟩
theorem Ord.bwd {G : GS} {hd : Nat} (O : Ord G hd) (hh : hd < G.nb) (e : ¬ G.Wh hd) : Ord G (prv G.nb hd) := ⟨fun {b1 i1 s1 c1 n1 b2 i2 s2 c2 n2} w w' l => by
 refine O.lt w w' ?_
 have a1 : b1 ≠ hd := fun z => e (z ▸ xZq w)
 have a2 : b2 ≠ hd := fun z => e (z ▸ xZq w')
 have h1 := w.1
 have h2 := w'.1
 have := prv_s G.nb hd
 have := yZq G.nb (prv G.nb hd) b1
 have := yZq G.nb (prv G.nb hd) b2
 have := yZq G.nb hd b1
 have := yZq G.nb hd b2
 omega⟩
theorem Val.torn {G G' : GS} {b i s : Nat} {v : Int} (V : Val G s v) (h : PutW G G' b i .torn) (e : G.pg b i = .er) : Val G' s v := by
 rcases V with ⟨q, rfl⟩ | ⟨b1, i1, n1, w, q⟩
 . exact .inl ⟨fun b' i' c' n' w => q _ _ _ _ ((h.torn e).mp w), rfl⟩
 . exact .inr ⟨b1, i1, n1, (h.torn e).mpr w, fun w' => q ((h.torn e).mp w')⟩
theorem Val.putO {G G' : GS} {b i s s0 : Nat} {v c0 n0 : Int} (V : Val G s v) (h : PutW G G' b i (.wh s0 c0 n0)) (e : G.pg b i = .er) (hb : b < G.nb) (hi : i < G.np) (ne : s ≠ s0) : Val G' s v := by
 rcases V with ⟨q, rfl⟩ | ⟨b1, i1, n1, w, q⟩
 . refine .inl ⟨fun b' i' c' n' w => ?_, rfl⟩
   rcases (h.whole e hb hi).mp w with w | ⟨_, _, z, _⟩
   . exact q _ _ _ _ w
   . exact ne z
 . refine .inr ⟨b1, i1, n1, (h.whole e hb hi).mpr (.inl w), fun w' => ?_⟩
   rcases (h.whole e hb hi).mp w' with w' | ⟨_, _, z, _⟩
   . exact q w'
   . exact absurd z ne
theorem Val.putS {G G' : GS} {many b i s : Nat} {c : Int} (B : Base G many) (h : PutW G G' b i (.wh s c G.many)) (e : G.pg b i = .er) (hb : b < G.nb) (hi : i < G.np) : Val G' s c := by
 refine .inr ⟨b, i, G.many, (h.whole e hb hi).mpr (.inr ⟨rfl, rfl, rfl, rfl, rfl⟩), fun w' => ?_⟩
 rcases (h.whole e hb hi).mp w' with w' | ⟨_, _, _, _, rfl⟩
 . exact Int.le_of_lt (B.num w').2
 . exact Int.le_refl _
theorem Val.era {G G' : GS} {b s : Nat} {g : Pg} {v : Int} (V : Val G s v) (h : EraW G G' b g) (hg : ∀ s c n, g ≠ .wh s c n) (old : ∀ i c n, G.W b i s c n -> ∃ b' i' n', b' ≠ b /\ G.W b' i' s v n' /\ ∀ {b'' i'' c'' n''}, b'' ≠ b -> G.W b'' i'' s c'' n'' -> n'' <= n') : Val G' s v := by
 rcases V with ⟨q, rfl⟩ | ⟨b1, i1, n1, w, q⟩
 . exact .inl ⟨fun b' i' c' n' w => q _ _ _ _ ((h.whole hg).mp w).2, rfl⟩
 . by_cases z : b1 = b
   . subst z
     obtain ⟨b', i', n', nb, w', q'⟩ := old _ _ _ w
     exact .inr ⟨b', i', n', (h.whole hg).mpr ⟨nb, w'⟩, fun w'' => q' ((h.whole hg).mp w'').1 ((h.whole hg).mp w'').2⟩
   . exact .inr ⟨b1, i1, n1, (h.whole hg).mpr ⟨z, w⟩, fun w'' => q ((h.whole hg).mp w'').2⟩
end Ev
namespace Ev
theorem yZx {G : GS} {many s b i : Nat} {pl : Nat -> Option (Nat × Nat)} (P : G.Pl many pl) (hs : s < many) (e : pl s = some (b, i)) : ∃ c n, G.W b i s c n /\ ∀ {b' i' c' n'}, G.W b' i' s c' n' -> n' <= n := by
 have := P s hs
 rw [e] at this
 obtain ⟨h1, h2, c, n, e1, q⟩ := this
 exact ⟨c, n, ⟨h1, h2, e1⟩, fun w => q _ _ _ _ w.1 w.2.1 w.2.2⟩
theorem xZz {G : GS} {many s : Nat} {pl : Nat -> Option (Nat × Nat)} (P : G.Pl many pl) (hs : s < many) (e : pl s = none) : ∀ b i c n, ¬ G.W b i s c n := by
 have := P s hs
 rw [e] at this
 exact fun b i c n w => this _ _ _ _ w.1 w.2.1 w.2.2
theorem pl_mk {G : GS} {many : Nat} {pl : Nat -> Option (Nat × Nat)} (h1 : ∀ s, s < many -> pl s = none -> ∀ b i c n, ¬ G.W b i s c n) (h2 : ∀ s b i, s < many -> pl s = some (b, i) -> ∃ c n, G.W b i s c n /\ ∀ {b' i' c' n'}, G.W b' i' s c' n' -> n' <= n) : G.Pl many pl := by
 intro s hs
 cases e : pl s with
 | none => exact fun b i c n a b' z => h1 s hs e _ _ _ _ ⟨a, b', z⟩
 | some bi =>
   obtain ⟨b, i⟩ := bi
   obtain ⟨c, n, w, q⟩ := h2 s b i hs e
   exact ⟨w.1, w.2.1, c, n, w.2.2, fun b' i' c' n' a a' z => q ⟨a, a', z⟩⟩
theorem read_val {D : DS} {s : Nat} (P : D.G.Pl D.many D.pl) (hs : s < D.many) : Val D.G s (D.read s) := by
 unfold DS.read
 cases e : D.pl s with
 | none => exact .inl ⟨xZz P hs e, rfl⟩
 | some bi =>
   obtain ⟨b, i⟩ := bi
   obtain ⟨c, n, w, q⟩ := yZx P hs e
   dsimp only
   rw [w.2.2]
   exact .inr ⟨b, i, n, w, q⟩
structure Fill (D : DS) : Prop where
 f1 : D.f <= D.G.np
 fa : ∀ i, i < D.f -> D.G.pg D.h i ≠ .er
 fb : ∀ i, D.f <= i -> i < D.G.np -> D.G.pg D.h i = .er
structure WI (D : DS) : Prop where
 base : Base D.G D.many
 hh : D.h < D.G.nb
 ord : Ord D.G D.h
 pl : D.G.Pl D.many D.pl
 fl : Fill D
 er1 : D.G.Er (nx D.G.nb D.h)
 run : ∀ {b}, b < D.G.nb -> b ≠ D.h -> nx D.G.nb b ≠ D.h -> ¬ D.G.Er b -> ¬ D.G.Er (nx D.G.nb b)
theorem Fill.er {D : DS} (F : Fill D) (z : D.f = 0) : D.G.Er D.h := fun i hi => F.fb i (by omega) hi
theorem Fill.ner {D : DS} (F : Fill D) (z : 0 < D.f) : ¬ D.G.Er D.h := fun e => F.fa 0 z (e 0 (by have := F.f1; omega))
theorem no_wh {G : GS} {b : Nat} (e : G.Er b) : ¬ G.Wh b := fun ⟨i, hi, s, c, n, z⟩ => by
 rw [e i hi] at z; cases z
theorem WI.ok {D : DS} (I : WI D) : Ok D.G D.many := by
 have b4 := I.base.b4
 by_cases z : D.f = 0
 . refine ⟨prv D.G.nb D.h, .inl ⟨I.base, prv_lt I.hh, I.ord.bwd I.hh (no_wh (I.fl.er z)), by rw [nx_prv I.hh]; exact I.fl.er z, fun {b} hb nb ne => ?_⟩⟩
   have n1 : nx D.G.nb b ≠ D.h := fun q => nb (by rw [<- q, prv_nx hb])
   have n2 : b ≠ D.h := fun q => ne (by rw [q]; exact I.fl.er z)
   exact I.run hb n2 n1 ne
 . refine ⟨D.h, .inl ⟨I.base, I.hh, I.ord, I.er1, fun {b} hb nb ne => ?_⟩⟩
   by_cases n1 : nx D.G.nb b = D.h
   . rw [n1]
     exact I.fl.ner (by omega)
   . exact I.run hb nb n1 ne
structure Left (D : DS) (r : Bool × DS) : Prop where
 many : r.2.many = D.many
 ok : r.1 = false -> Ok r.2.G D.many
theorem putw_t {G : GS} {b i : Nat} {g : Pg} (h : (G.put b i g).1 = true) : PutW G (G.put b i g).2 b i g := let ⟨a, b, c, d, _⟩ := gput_t h; ⟨c, d, a, b⟩
theorem wQx {G : GS} {b : Nat} (h : (G.era b).1 = true) : EraW G (G.era b).2 b .er := let ⟨a, b, c, d, _⟩ := gera_t h; ⟨c, d, a, b⟩
theorem putw_f {G : GS} {b i : Nat} {g : Pg} (h : (G.put b i g).1 = false) : (G.put b i g).2 = G \/ PutW G (G.put b i g).2 b i .torn := (gput_f h).imp id fun ⟨a, b, c, d, _⟩ => ⟨c, d, a, b⟩
theorem wQz {G : GS} {b : Nat} (h : (G.era b).1 = false) : (G.era b).2 = G \/ EraW G (G.era b).2 b .torn := (gera_f h).imp id fun ⟨a, b, c, d, _⟩ => ⟨c, d, a, b⟩
theorem ntw : ∀ (s : Nat) (c n : Int), Pg.torn ≠ .wh s c n := fun _ _ _ z => nomatch z
theorem new_ : ∀ (s : Nat) (c n : Int), Pg.er ≠ .wh s c n := fun _ _ _ z => nomatch z
theorem Pl.put {D : DS} {G' : GS} {s : Nat} {c : Int} (B : Base D.G D.many) (P : D.G.Pl D.many D.pl) (h : PutW D.G G' D.h D.f (.wh s c D.G.many)) (e : D.G.pg D.h D.f = .er) (hb : D.h < D.G.nb) (hi : D.f < D.G.np) : G'.Pl D.many (set1 D.pl s (some (D.h, D.f))) := by
 refine pl_mk (fun s' hs' z => ?_) fun s' b i hs' z => ?_
 . unfold set1 at z
   by_cases q : s' = s
   . rw [if_pos q] at z; cases z
   . rw [if_neg q] at z
     intro b i c' n w
     rcases (h.whole e hb hi).mp w with w | ⟨_, _, q', _⟩
     . exact xZz P hs' z _ _ _ _ w
     . exact q q'
 . unfold set1 at z
   by_cases q : s' = s
   . subst q
     rw [if_pos rfl] at z
     cases z
     refine ⟨c, D.G.many, (h.whole e hb hi).mpr (.inr ⟨rfl, rfl, rfl, rfl, rfl⟩), fun w => ?_⟩
     rcases (h.whole e hb hi).mp w with w | ⟨_, _, _, _, rfl⟩
     . exact Int.le_of_lt (B.num w).2
     . exact Int.le_refl _
   . rw [if_neg q] at z
     obtain ⟨c', n', w, q'⟩ := yZx P hs' z
     refine ⟨c', n', (h.whole e hb hi).mpr (.inl w), fun w' => ?_⟩
     rcases (h.whole e hb hi).mp w' with w' | ⟨_, _, q2, _⟩
     . exact q' w'
     . exact absurd q2 q
theorem Fill.put {D : DS} {G' : GS} {g : Pg} {pl : Nat -> Option (Nat × Nat)} (F : Fill D) (h : PutW D.G G' D.h D.f g) (hg : g ≠ .er) (hi : D.f < D.G.np) : Fill { D with G := G', pl := pl, f := D.f + 1 } := by
 refine ⟨by show D.f + 1 <= G'.np; rw [h.np]; omega, fun i hi' => ?_, fun i h1 h2 => ?_⟩
 . show G'.pg D.h i ≠ .er
   by_cases z : i = D.f
   . subst z
     rw [h.at_]; exact hg
   . rw [h.ne fun q => z q.2]
     exact F.fa i (by have : i < D.f + 1 := hi'; omega)
 . show G'.pg D.h i = .er
   have h1' : D.f + 1 <= i := h1
   have h2' : i < D.G.np := by rw [<- h.np]; exact h2
   rw [h.ne fun q => by omega]
   exact F.fb i (by omega) h2'
theorem put_some {D : DS} {s : Nat} {c : Int} (hh : D.h < D.G.nb) (F : Fill D) (hf : D.f < D.G.np) (hs : s < D.many) : ∃ r, D.put s c = some r := by
 unfold DS.put
 rw [if_pos ⟨hh, hf, fun j h1 h2 => F.fb j h1 h2, hs⟩]
 exact ⟨_, rfl⟩
theorem put_is {D : DS} {s : Nat} {c : Int} {r : Bool × DS} (h : D.put s c = some r) : (D.h < D.G.nb /\ D.f < D.G.np /\ D.G.Clear D.h D.f /\ s < D.many) /\
   ((r.1 = true /\ PutW D.G r.2.G D.h D.f (.wh s c D.G.many) /\ r.2 = { D with G := r.2.G, pl := set1 D.pl s (some (D.h, D.f)), f := D.f + 1 }) \/
    (r.1 = false /\ r.2 = { D with G := r.2.G } /\ (r.2.G = D.G \/ PutW D.G r.2.G D.h D.f .torn))) := by
 unfold DS.put at h
 split at h
 . rename_i hc
   refine ⟨hc, ?_⟩
   cases e : (D.G.put D.h D.f (.wh s c D.G.many)).1 with
   | true =>
     rw [if_pos e] at h
     have := (Option.some.inj h).symm
     subst this
     exact .inl ⟨rfl, putw_t e, rfl⟩
   | false =>
     rw [if_neg (by rw [e]; exact Bool.false_ne_true)] at h
     have := (Option.some.inj h).symm
     subst this
     exact .inr ⟨rfl, rfl, putw_f e⟩
 . cases h
theorem WI.put {D : DS} (I : WI D) {s : Nat} {c : Int} {r : Bool × DS} (h : D.put s c = some r) : r.2.many = D.many /\ (r.1 = true -> WI r.2 /\ Val r.2.G s c /\ ∀ s' v, s' ≠ s -> Val D.G s' v -> Val r.2.G s' v) /\ (r.1 = false -> Ok r.2.G D.many /\ ∀ s' v, Val D.G s' v -> Val r.2.G s' v) := by
 have b4 := I.base.b4
 obtain ⟨⟨hh, hf, cl, hs⟩, hr⟩ := put_is h
 have e : D.G.pg D.h D.f = .er := cl _ (Nat.le_refl _) hf
 rcases hr with ⟨rt, pw, er⟩ | ⟨rf, er, hc⟩
 . refine ⟨by rw [er], fun _ => ?_, fun z => (by rw [rt] at z; cases z)⟩
   have nxh : nx D.G.nb D.h ≠ D.h := nx_ne (by omega) hh
   refine ⟨?_, Val.putS I.base pw e hh hf, fun s' v ne V => V.putO pw e hh hf ne⟩
   rw [er]
   refine ⟨I.base.put pw e hf hh hs I.fl.fa, by show D.h < r.2.G.nb; rw [pw.nb]; exact hh, Ord.put I.base I.ord pw e hf hh, Pl.put I.base I.pl pw e hh hf, I.fl.put pw (fun z => nomatch z) hf, ?_, fun {b} hb n1 n2 n3 => ?_⟩
   . show r.2.G.Er (nx r.2.G.nb D.h)
     rw [pw.nb, pw.er nxh]
     exact I.er1
   . have hb' : b < D.G.nb := by rw [<- pw.nb]; exact hb
     show ¬ r.2.G.Er (nx r.2.G.nb b)
     have n2' : nx D.G.nb b ≠ D.h := by rw [<- pw.nb]; exact n2
     rw [pw.nb, pw.er n2']
     have n3' : ¬ D.G.Er b := by rw [<- pw.er n1]; exact n3
     exact I.run hb' n1 n2' n3'
 . refine ⟨by rw [er], fun z => (by rw [rf] at z; cases z), fun _ => ?_⟩
   rcases hc with hc | pw
   . rw [hc]
     exact ⟨I.ok, fun _ _ V => V⟩
   . refine ⟨⟨D.h, .inl ⟨I.base.torn pw e hf hh I.fl.fa, by rw [pw.nb]; exact hh, I.ord.torn pw e, ?_, fun {b} hb n1 n3 => ?_⟩⟩, fun s' v V => V.torn pw e⟩
     . rw [pw.nb, pw.er (nx_ne (by omega) hh)]
       exact I.er1
     . rw [pw.nb] at hb ⊢
       by_cases n2 : nx D.G.nb b = D.h
       . rw [n2]
         intro q
         have := q D.f (by rw [pw.np]; exact hf)
         rw [pw.at_] at this
         cases this
       . rw [pw.er n2]
         exact I.run hb n1 n2 (by rw [<- pw.er n1]; exact n3)
structure CI (D : DS) (j : Nat) : Prop where
 base : Base D.G D.many
 hh : D.h < D.G.nb
 ord : Ord D.G D.h
 pl : D.G.Pl D.many D.pl
 fl : Fill D
 fj : D.f <= j
 live : ∀ {s i}, s < D.many -> D.pl s = some (nx D.G.nb D.h, i) -> j <= i
 lv : ∀ {i}, i < D.f -> D.Live D.h i
 cop : ∀ {i s c n}, D.G.W D.h i s c n -> ∃ b' i' n', b' ≠ D.h /\ D.G.W b' i' s c n' /\ ∀ {b'' i'' c'' n''}, b'' ≠ D.h -> D.G.W b'' i'' s c'' n'' -> n'' <= n'
 ne : ∀ {b}, b < D.G.nb -> b ≠ D.h -> ¬ D.G.Er b
theorem CI.ok {D : DS} {j : Nat} (I : CI D j) : Ok D.G D.many := by
 by_cases z : D.f = 0
 . refine ⟨prv D.G.nb D.h, .inl ⟨I.base, prv_lt I.hh, I.ord.bwd I.hh (no_wh (I.fl.er z)), by rw [nx_prv I.hh]; exact I.fl.er z, fun {b} hb nb ne => ?_⟩⟩
   exact I.ne (yWq hb) fun q => nb (by rw [<- q, prv_nx hb])
 . refine ⟨D.h, .inr ⟨I.base, I.hh, I.ord, fun {b} hb => ?_, fun w _ => I.cop w⟩⟩
   by_cases q : b = D.h
   . rw [q]; exact I.fl.ner (by omega)
   . exact I.ne hb q
theorem CI.put {D : DS} {j s : Nat} {c m : Int} (I : CI D j) (hj : j < D.G.np) (hs : s < D.many) (hp : D.pl s = some (nx D.G.nb D.h, j)) (eg : D.G.pg (nx D.G.nb D.h) j = .wh s c m) {r : Bool × DS} (h : D.put s c = some r) :
   r.2.many = D.many /\ r.2.h = D.h /\ r.2.G.nb = D.G.nb /\ r.2.G.np = D.G.np /\ (∀ s' v, Val D.G s' v -> Val r.2.G s' v) /\ (r.1 = true -> CI r.2 (j + 1) /\ r.2.f = D.f + 1 /\ ∀ b i, b ≠ nx D.G.nb D.h -> D.Live b i -> r.2.Live b i) /\ (r.1 = false -> Ok r.2.G D.many) := by
 have b4 := I.base.b4
 obtain ⟨⟨hh, hf, cl, _⟩, hr⟩ := put_is h
 have e : D.G.pg D.h D.f = .er := cl _ (Nat.le_refl _) hf
 have nxh : nx D.G.nb D.h ≠ D.h := nx_ne (by omega) hh
 obtain ⟨c', n', w', q'⟩ := yZx I.pl hs hp
 have ec : c' = c /\ n' = m := by
   have := w'.2.2
   rw [eg] at this
   injection this with _ z1 z2
   exact ⟨z1.symm, z2.symm⟩
 obtain ⟨rfl, rfl⟩ := ec
 rcases hr with ⟨rt, pw, er⟩ | ⟨rf, er, hc⟩
 . refine ⟨by rw [er], by rw [er], pw.nb, pw.np, fun s' v V => ?_, fun _ => ⟨?_, by rw [er], fun b i nb ⟨s', hs', z⟩ => ?_⟩, fun z => (by rw [rt] at z; cases z)⟩
   . by_cases z : s' = s
     . subst z
       have hv : v = c' := by
         refine Val.one I.base V (.inr ⟨_, _, _, w', q'⟩)
       rw [hv]
       exact Val.putS I.base pw e hh hf
     . exact V.putO pw e hh hf z
   . rw [er]
     refine ⟨I.base.put pw e hf hh hs I.fl.fa, by show D.h < r.2.G.nb; rw [pw.nb]; exact hh, Ord.put I.base I.ord pw e hf hh, Pl.put I.base I.pl pw e hh hf, I.fl.put pw (fun z => nomatch z) hf, by show D.f + 1 <= j + 1; have := I.fj; omega, fun {s' i} hs' z => ?_, fun {i} hi => ?_, fun {i s' c2 n2} w => ?_, fun {b} hb n1 => ?_⟩
     . have z' : set1 D.pl s (some (D.h, D.f)) s' = some (nx r.2.G.nb D.h, i) := z
       unfold set1 at z'
       rw [pw.nb] at z'
       by_cases q : s' = s
       . rw [if_pos q] at z'
         injection z' with z'
         injection z' with z1 z2
         exact absurd z1.symm nxh
       . rw [if_neg q] at z'
         have hs2 : s' < D.many := hs'
         have h1 := I.live hs2 z'
         by_cases q2 : i = j
         . subst q2
           obtain ⟨c3, n3, w3, _⟩ := yZx I.pl hs2 z'
           have := w3.2.2
           rw [eg] at this
           injection this with z1
           exact absurd z1.symm q
         . omega
     . have hi' : i < D.f + 1 := hi
       by_cases q : i = D.f
       . subst q
         exact ⟨s, hs, by show set1 D.pl s (some (D.h, D.f)) s = _; unfold set1; rw [if_pos rfl]⟩
       . obtain ⟨s2, hs2, z2⟩ := I.lv (i := i) (by omega)
         refine ⟨s2, hs2, ?_⟩
         show set1 D.pl s (some (D.h, D.f)) s2 = _
         unfold set1
         rw [if_neg fun q3 => by
           rw [q3, hp] at z2
           injection z2 with z2
           injection z2 with z1 _
           exact nxh z1]
         exact z2
     . have tr : ∀ {b'' i'' c'' n''}, b'' ≠ D.h -> r.2.G.W b'' i'' s' c'' n'' -> D.G.W b'' i'' s' c'' n'' := fun {b'' i'' c'' n''} nb w2 => by
         rcases (pw.whole e hh hf).mp w2 with w2 | ⟨z, _⟩
         . exact w2
         . exact absurd z nb
       rcases (pw.whole e hh hf).mp w with w | ⟨_, _, rfl, rfl, _⟩
       . obtain ⟨b1, i1, n1, nb1, w1, q1⟩ := I.cop w
         exact ⟨b1, i1, n1, nb1, (pw.whole e hh hf).mpr (.inl w1), fun nb w2 => q1 nb (tr nb w2)⟩
       . exact ⟨nx D.G.nb D.h, j, n', nxh, (pw.whole e hh hf).mpr (.inl w'), fun nb w2 => q' (tr nb w2)⟩
     . show ¬ r.2.G.Er b
       rw [pw.er n1]
       exact I.ne (by rw [<- pw.nb]; exact hb) n1
   . rw [er]
     refine ⟨s', hs', ?_⟩
     show set1 D.pl s (some (D.h, D.f)) s' = _
     unfold set1
     rw [if_neg fun q => by
       rw [q, hp] at z
       injection z with z
       injection z with z1 _
       exact nb z1.symm]
     exact z
 . rcases hc with hc | pw
   . refine ⟨by rw [er], by rw [er], by rw [hc], by rw [hc], fun s' v V => by rw [hc]; exact V, fun z => (by rw [rf] at z; cases z), fun _ => ?_⟩
     rw [hc]
     exact I.ok
   . refine ⟨by rw [er], by rw [er], pw.nb, pw.np, fun s' v V => V.torn pw e, fun z => (by rw [rf] at z; cases z), fun _ => ?_⟩
     refine ⟨D.h, .inr ⟨I.base.torn pw e hf hh I.fl.fa, by rw [pw.nb]; exact hh, I.ord.torn pw e, fun {b} hb => ?_, fun {i s' c2 n2} w _ => ?_⟩⟩
     . rw [pw.nb] at hb
       by_cases q : b = D.h
       . subst q
         intro z
         have := z D.f (by rw [pw.np]; exact hf)
         rw [pw.at_] at this
         cases this
       . rw [pw.er q]
         exact I.ne hb q
     . obtain ⟨b1, i1, n1, nb1, w1, q1⟩ := I.cop ((pw.torn e).mp w)
       exact ⟨b1, i1, n1, nb1, (pw.torn e).mpr w1, fun nb w2 => q1 nb ((pw.torn e).mp w2)⟩
end Ev
namespace Ev
theorem move_l {D : DS} {b n : Nat} (h : D.Live b (D.G.np - (n + 1))) {s : Nat} {c m : Int} (eg : D.G.pg b (D.G.np - (n + 1)) = .wh s c m) {r1 : Bool × DS} (ep : D.put s c = some r1) : DS.move b (n + 1) D = if r1.1 = true then DS.move b n r1.2 else some r1 := by
 conv => lhs; unfold DS.move
 rw [if_pos h, eg]
 dsimp only
 rw [ep]
 obtain ⟨k, D1⟩ := r1
 cases k <;> rfl
theorem move_d {D : DS} {b n : Nat} (h : ¬ D.Live b (D.G.np - (n + 1))) : DS.move b (n + 1) D = DS.move b n D := by
 conv => lhs; unfold DS.move
 rw [if_neg h]
theorem CI.move : ∀ (n : Nat) {D : DS} {j : Nat}, CI D j -> j + n = D.G.np -> ∃ r, DS.move (nx D.G.nb D.h) n D = some r /\ r.2.many = D.many /\ r.2.h = D.h /\ r.2.G.nb = D.G.nb /\ r.2.G.np = D.G.np /\ (∀ s' v, Val D.G s' v -> Val r.2.G s' v) /\
   (r.1 = true -> CI r.2 D.G.np /\ ∀ b i, b ≠ nx D.G.nb D.h -> D.Live b i -> r.2.Live b i) /\ (r.1 = false -> Ok r.2.G D.many)
 | 0, D, j, I, hj => by
   refine ⟨(true, D), rfl, rfl, rfl, rfl, rfl, fun _ _ V => V, fun _ => ⟨?_, fun _ _ _ l => l⟩, fun z => nomatch z⟩
   have : j = D.G.np := by omega
   rw [<- this]; exact I
 | n + 1, D, j, I, hj => by
   have hjj : D.G.np - (n + 1) = j := by omega
   by_cases lv : D.Live (nx D.G.nb D.h) j
   . obtain ⟨s, hs, hp⟩ := lv
     obtain ⟨c, m, w, q⟩ := yZx I.pl hs hp
     have hf : D.f < D.G.np := by have := I.fj; omega
     obtain ⟨r1, ep⟩ := put_some (c := c) I.hh I.fl hf hs
     obtain ⟨a1, a2, a3, a4, a5, a6, a7⟩ := I.put (by omega) hs hp w.2.2 ep
     have em := move_l (D := D) (b := nx D.G.nb D.h) (n := n) (by rw [hjj]; exact ⟨s, hs, hp⟩) (by rw [hjj]; exact w.2.2) ep
     cases k : r1.1 with
     | true =>
       rw [if_pos k] at em
       obtain ⟨I1, _, lk⟩ := a6 k
       obtain ⟨r, e, b1, b2, b3, b4, b5, b6, b7⟩ := CI.move n I1 (by rw [a4]; omega)
       rw [a2, a3] at e
       refine ⟨r, by rw [em]; exact e, by omega, by omega, by omega, by omega, fun s' v V => b5 s' v (a5 s' v V), fun z => ?_, fun z => ?_⟩
       . obtain ⟨c1, c2⟩ := b6 z
         rw [a4] at c1
         rw [a2, a3] at c2
         exact ⟨c1, fun b i nb l => c2 b i nb (lk b i nb l)⟩
       . rw [<- a1]; exact b7 z
     | false =>
       rw [if_neg (by rw [k]; exact Bool.false_ne_true)] at em
       exact ⟨r1, em, a1, a2, a3, a4, a5, fun z => (by rw [k] at z; cases z), fun _ => a7 k⟩
   . have em := move_d (D := D) (b := nx D.G.nb D.h) (n := n) (by rw [hjj]; exact lv)
     have I1 : CI D (j + 1) := ⟨I.base, I.hh, I.ord, I.pl, I.fl, by have := I.fj; omega, fun {s i} hs hp => by
       have := I.live hs hp
       by_cases q : i = j
       . subst q; exact absurd ⟨s, hs, hp⟩ lv
       . omega, I.lv, I.cop, I.ne⟩
     obtain ⟨r, e, b⟩ := CI.move n I1 (by omega)
     exact ⟨r, by rw [em]; exact e, b⟩
theorem CI.clean {D : DS} (I : CI D 0) : ∃ r, D.clean (nx D.G.nb D.h) = some r /\ r.2.many = D.many /\ r.2.h = D.h /\ r.2.G.nb = D.G.nb /\ r.2.G.np = D.G.np /\ (∀ s' v, s' < D.many -> Val D.G s' v -> Val r.2.G s' v) /\
   (r.1 = true -> WI r.2 /\ (∀ i, i < r.2.f -> r.2.Live D.h i) /\ ∀ b i, b ≠ nx D.G.nb D.h -> D.Live b i -> r.2.Live b i) /\ (r.1 = false -> Ok r.2.G D.many) := by
 obtain ⟨r, e, a1, a2, a3, a4, a5, a6, a7⟩ := CI.move D.G.np I (by omega)
 unfold DS.clean
 rw [e]
 obtain ⟨k, D1⟩ := r
 dsimp only at a1 a2 a3 a4 a5 a6 a7
 cases k with
 | false => exact ⟨_, rfl, a1, a2, a3, a4, fun s' v _ V => a5 s' v V, fun z => (nomatch z), fun _ => a7 rfl⟩
 | true =>
   obtain ⟨I1, lk⟩ := a6 rfl
   have b4 := I1.base.b4
   have p2 := I1.base.p2
   dsimp only
   have oo : nx D.G.nb D.h = nx D1.G.nb D1.h := by rw [a2, a3]
   have olt : nx D1.G.nb D1.h < D1.G.nb := yWq I1.hh
   have one : nx D1.G.nb D1.h ≠ D1.h := nx_ne (by omega) I1.hh
   rw [oo, if_pos olt]
   have nolive : ∀ s i, s < D1.many -> D1.pl s = some (nx D1.G.nb D1.h, i) -> False := fun s i hs hp => by
     have h1 := I1.live hs hp
     obtain ⟨c, n, w, _⟩ := yZx I1.pl hs hp
     have := w.2.1
     omega
   have old : ∀ {s v}, s < D1.many -> Val D1.G s v -> ∀ i c n, D1.G.W (nx D1.G.nb D1.h) i s c n -> ∃ b' i' n', b' ≠ nx D1.G.nb D1.h /\ D1.G.W b' i' s v n' /\ ∀ {b'' i'' c'' n''}, b'' ≠ nx D1.G.nb D1.h -> D1.G.W b'' i'' s c'' n'' -> n'' <= n' := fun {s v} hs V i c n w => by
     cases hp : D1.pl s with
     | none => exact absurd w (xZz I1.pl hs hp _ _ _ _)
     | some bi =>
       obtain ⟨b, i'⟩ := bi
       obtain ⟨c', n', w', q'⟩ := yZx I1.pl hs hp
       have hv : v = c' := Val.one I1.base V (.inr ⟨_, _, _, w', q'⟩)
       subst hv
       exact ⟨b, i', n', fun z => nolive s i' hs (by rw [<- z]; exact hp), w', fun _ w'' => q' w''⟩
   refine ⟨_, rfl, a1, a2, ?_, ?_, fun s' v hs' V => ?_, fun z => ?_, fun z => ?_⟩
   . show (D1.G.era _).2.nb = _
     cases k : (D1.G.era (nx D1.G.nb D1.h)).1 with
     | true => rw [(wQx k).nb]; exact a3
     | false =>
       rcases wQz k with q | q
       . rw [q]; exact a3
       . rw [q.nb]; exact a3
   . show (D1.G.era _).2.np = _
     cases k : (D1.G.era (nx D1.G.nb D1.h)).1 with
     | true => rw [(wQx k).np]; exact a4
     | false =>
       rcases wQz k with q | q
       . rw [q]; exact a4
       . rw [q.np]; exact a4
   . have V1 := a5 s' v V
     show Val (D1.G.era _).2 s' v
     cases k : (D1.G.era (nx D1.G.nb D1.h)).1 with
     | true => exact V1.era (wQx k) new_ (old (by rw [a1]; exact hs') V1)
     | false =>
       rcases wQz k with q | q
       . rw [q]; exact V1
       . exact V1.era q ntw (old (by rw [a1]; exact hs') V1)
   . have ew := wQx z
     dsimp only at z ⊢
     refine ⟨⟨?_, ?_, ?_, ?_, ?_, ?_, ?_⟩, fun i hi => ?_, fun b i nb l => ?_⟩
     . exact I1.base.era ew new_
     . show D1.h < (D1.G.era _).2.nb
       rw [ew.nb]; exact I1.hh
     . exact I1.ord.era ew new_
     . refine pl_mk (fun s hs hp b i c n w => xZz I1.pl hs hp _ _ _ _ ((ew.whole new_).mp w).2) fun s b i hs hp => ?_
       obtain ⟨c, n, w, q⟩ := yZx I1.pl hs hp
       exact ⟨c, n, (ew.whole new_).mpr ⟨fun z => nolive s i hs (by rw [<- z]; exact hp), w⟩, fun w' => q ((ew.whole new_).mp w').2⟩
     . refine ⟨by show D1.f <= (D1.G.era _).2.np; rw [ew.np]; exact I1.fl.f1, fun i hi => ?_, fun i h1 h2 => ?_⟩
       . show (D1.G.era _).2.pg D1.h i ≠ .er
         rw [ew.ne one.symm]
         exact I1.fl.fa i hi
       . show (D1.G.era _).2.pg D1.h i = .er
         rw [ew.ne one.symm]
         exact I1.fl.fb i h1 (by rw [<- ew.np]; exact h2)
     . show (D1.G.era _).2.Er (nx (D1.G.era _).2.nb D1.h)
       rw [ew.nb]
       exact fun i _ => ew.at_
     . intro b hb n1 n2 n3
       have hb' : b < D1.G.nb := by rw [<- ew.nb]; exact hb
       show ¬ (D1.G.era _).2.Er (nx (D1.G.era _).2.nb b)
       have n2' : nx D1.G.nb b ≠ D1.h := by rw [<- ew.nb]; exact n2
       rw [ew.nb, ew.er fun z => n1 (nx_inj hb' I1.hh z)]
       exact I1.ne (yWq hb') n2'
     . rw [<- a2]; exact I1.lv hi
     . exact lk b i (by rw [oo]; exact nb) l
   . show Ok (D1.G.era _).2 D.many
     rw [<- a1]
     have z' : (D1.G.era (nx D1.G.nb D1.h)).1 = false := z
     rcases wQz z' with q | ew
     . rw [q]; exact I1.ok
     . have oner : ¬ (D1.G.era (nx D1.G.nb D1.h)).2.Er (nx D1.G.nb D1.h) := fun q => by
         have := q 0 (by rw [ew.np]; omega)
         rw [ew.at_] at this
         cases this
       by_cases z0 : D1.f = 0
       . refine ⟨prv D1.G.nb D1.h, .inl ⟨I1.base.era ew ntw, by rw [ew.nb]; exact prv_lt I1.hh, ?_, ?_, fun {b} hb n1 n3 => ?_⟩⟩
         . exact (I1.ord.bwd I1.hh (no_wh (I1.fl.er z0))).era ew ntw
         . rw [ew.nb, nx_prv I1.hh, ew.er one.symm]
           exact I1.fl.er z0
         . rw [ew.nb] at hb ⊢
           by_cases q : nx D1.G.nb b = nx D1.G.nb D1.h
           . rw [q]; exact oner
           . rw [ew.er q]
             exact I1.ne (yWq hb) fun q2 => n1 (by rw [<- q2, prv_nx hb])
       . refine ⟨D1.h, .inr ⟨I1.base.era ew ntw, by rw [ew.nb]; exact I1.hh, I1.ord.era ew ntw, fun {b} hb => ?_, fun {i s c n} w hw => ?_⟩⟩
         . rw [ew.nb] at hb
           by_cases q : b = nx D1.G.nb D1.h
           . rw [q]; exact oner
           . rw [ew.er q]
             by_cases q2 : b = D1.h
             . rw [q2]; exact I1.fl.ner (by omega)
             . exact I1.ne hb q2
         . obtain ⟨i', hi', s', c', n', e'⟩ := hw
           rw [ew.nb, ew.at_] at e'
           cases e'
theorem WI.ring {D : DS} (I : WI D) (hf : D.f = D.G.np) (ne : ¬ D.G.Er (nx D.G.nb (nx D.G.nb D.h))) : ∀ k b, dst D.G.nb (nx D.G.nb D.h) b = k -> b < D.G.nb -> b ≠ nx D.G.nb D.h -> ¬ D.G.Er b := by
 have b4 := I.base.b4
 have p2 := I.base.p2
 have hner : ¬ D.G.Er D.h := I.fl.ner (by omega)
 intro k
 induction k with
 | zero =>
   intro b hd hb nb
   have : b = nx D.G.nb (nx D.G.nb D.h) := by
     have := nx_s D.G.nb D.h
     have := nx_s D.G.nb (nx D.G.nb D.h)
     have := yZq D.G.nb (nx D.G.nb D.h) b
     have := I.hh
     omega
   rw [this]; exact ne
 | succ k ih =>
   intro b hd hb nb
   have e := nx_prv hb
   have l := prv_lt hb
   have := nx_s D.G.nb D.h
   have := yZq D.G.nb (nx D.G.nb D.h) b
   have := yZq D.G.nb (nx D.G.nb D.h) (prv D.G.nb b)
   have := prv_s D.G.nb b
   have := I.hh
   by_cases q : b = D.h
   . rw [q]; exact hner
   . have h1 := ih (prv D.G.nb b) (by omega) l (by omega)
     have := I.run l (by omega) (by rw [e]; exact q) h1
     rwa [e] at this
theorem WI.begin {D : DS} (I : WI D) (hf : D.f = D.G.np) : ∃ r, D.begin = some r /\ r.2.many = D.many /\ r.2.h = nx D.G.nb D.h /\ r.2.G.nb = D.G.nb /\ r.2.G.np = D.G.np /\ (∀ s' v, s' < D.many -> Val D.G s' v -> Val r.2.G s' v) /\
   (r.1 = true -> WI r.2 /\ (∀ i, i < r.2.f -> r.2.Live (nx D.G.nb D.h) i) /\ ∀ b i, b ≠ nx D.G.nb (nx D.G.nb D.h) -> D.Live b i -> r.2.Live b i) /\ (r.1 = false -> Ok r.2.G D.many) := by
 have b4 := I.base.b4
 have p2 := I.base.p2
 have hner : ¬ D.G.Er D.h := I.fl.ner (by omega)
 have h2 := yWq I.hh
 have fl2 : Fill { D with h := nx D.G.nb D.h, f := 0 } := ⟨Nat.zero_le _, fun i hi => absurd hi (Nat.not_lt_zero _), fun i _ hi => I.er1 i hi⟩
 have ord2 : Ord D.G (nx D.G.nb D.h) := I.ord.fwd I.hh (no_wh I.er1)
 unfold DS.begin
 by_cases he : D.G.Er (nx D.G.nb (nx D.G.nb D.h))
 . rw [if_pos he]
   refine ⟨_, rfl, rfl, rfl, rfl, rfl, fun _ _ _ V => V, fun _ => ⟨⟨I.base, h2, ord2, I.pl, fl2, he, fun {b} hb n1 n2 n3 => ?_⟩, fun i hi => absurd hi (Nat.not_lt_zero _), fun _ _ _ l => l⟩, fun z => nomatch z⟩
   have nb : b ≠ D.h := fun q => n2 (by rw [q])
   by_cases q : nx D.G.nb b = D.h
   . show ¬ D.G.Er (nx D.G.nb b)
     rw [q]; exact hner
   . exact I.run hb nb q n3
 . rw [if_neg he]
   have C0 : CI { D with h := nx D.G.nb D.h, f := 0 } 0 := ⟨I.base, h2, ord2, I.pl, fl2, Nat.le_refl _, fun _ _ => Nat.zero_le _, fun hi => absurd hi (Nat.not_lt_zero _), fun w => (er_no I.er1 w).elim, fun {b} hb nb => I.ring hf he _ b rfl hb nb⟩
   exact C0.clean
end Ev
namespace Ev
theorem pigeon : ∀ (M N : Nat) (g : Nat -> Nat), (∀ m, m < N -> g m < M) -> (∀ m m', m < N -> m' < N -> g m = g m' -> m = m') -> N <= M
 | 0, N, g, hb, _ => by
   cases N with
   | zero => exact Nat.le_refl _
   | succ n => exact absurd (hb 0 (by omega)) (Nat.not_lt_zero _)
 | M + 1, N, g, hb, hi => by
   by_cases h : ∃ m, m < N /\ g m = M
   . obtain ⟨m0, h0, e0⟩ := h
     have := pigeon M (N - 1) (fun m => if m < m0 then g m else g (m + 1)) (fun m hm => by
       split
       . have a := hb m (by omega)
         have b : g m ≠ M := fun z => by have := hi m m0 (by omega) h0 (by omega); omega
         omega
       . have a := hb (m + 1) (by omega)
         have b : g (m + 1) ≠ M := fun z => by have := hi (m + 1) m0 (by omega) h0 (by omega); omega
         omega) (fun m m' hm hm' e => by
       split at e <;> split at e
       . exact hi m m' (by omega) (by omega) e
       . have := hi m (m' + 1) (by omega) (by omega) e; omega
       . have := hi (m + 1) m' (by omega) (by omega) e; omega
       . have := hi (m + 1) (m' + 1) (by omega) (by omega) e; omega)
     omega
   . have := pigeon M N g (fun m hm => by
       have a := hb m hm
       have b : g m ≠ M := fun z => h ⟨m, hm, z⟩
       omega) hi
     omega
def bk (nb h t : Nat) : Nat := if t <= h then h - t else h + nb - t
theorem bk_s (nb h t : Nat) : (t <= h /\ bk nb h t = h - t) \/ (h < t /\ bk nb h t = h + nb - t) := by unfold bk; split <;> omega
theorem bk_inj {nb h t t' : Nat} (hh : h < nb) (ht : t < nb) (ht' : t' < nb) (e : bk nb h t = bk nb h t') : t = t' := by
 have := bk_s nb h t
 have := bk_s nb h t'
 omega
def Full (D : DS) (k : Nat) : Prop := ∀ t, t < k -> ∀ i, i < D.G.np -> D.Live (bk D.G.nb D.h t) i
theorem full_few {D : DS} (P : D.G.Pl D.many D.pl) (hh : D.h < D.G.nb) {k : Nat} (hk : k <= D.G.nb) (hp : 0 < D.G.np) (F : Full D k) : k * D.G.np <= D.many := by
 have ex : ∀ m, m < k * D.G.np -> ∃ s, s < D.many /\ D.pl s = some (bk D.G.nb D.h (m / D.G.np), m % D.G.np) := fun m hm => F (m / D.G.np) ((Nat.div_lt_iff_lt_mul hp).mpr hm) (m % D.G.np) (Nat.mod_lt _ hp)
 classical
 refine pigeon D.many (k * D.G.np) (fun m => if h : m < k * D.G.np then (ex m h).choose else 0) (fun m hm => ?_) fun m m' hm hm' e => ?_
 . rw [dif_pos hm]
   exact (ex m hm).choose_spec.1
 . rw [dif_pos hm, dif_pos hm'] at e
   have e1 := (ex m hm).choose_spec.2
   have e2 := (ex m' hm').choose_spec.2
   rw [e, e2] at e1
   injection e1 with e1
   injection e1 with e3 e4
   have d1 : m / D.G.np < k := (Nat.div_lt_iff_lt_mul hp).mpr hm
   have d2 : m' / D.G.np < k := (Nat.div_lt_iff_lt_mul hp).mpr hm'
   have e5 : m / D.G.np = m' / D.G.np := (bk_inj hh (Nat.lt_of_lt_of_le d2 hk) (Nat.lt_of_lt_of_le d1 hk) e3).symm
   rw [<- Nat.div_add_mod m D.G.np, <- Nat.div_add_mod m' D.G.np, e5, e4]
theorem write_r {n : Nat} {D : DS} {s : Nat} {c : Int} (hf : D.f ≠ D.G.np) : DS.write (n + 1) D s c = D.put s c := by
 conv => lhs; unfold DS.write
 rw [if_neg hf]
theorem write_b {n : Nat} {D : DS} {s : Nat} {c : Int} (hf : D.f = D.G.np) {r1 : Bool × DS} (hb : D.begin = some r1) : DS.write (n + 1) D s c = if r1.1 = true then DS.write n r1.2 s c else some r1 := by
 conv => lhs; unfold DS.write
 rw [if_pos hf, hb]
 obtain ⟨k, D1⟩ := r1
 cases k <;> rfl
structure WLeft (D : DS) (s : Nat) (c : Int) (r : Bool × DS) : Prop where
 many : r.2.many = D.many
 nb : r.2.G.nb = D.G.nb
 np : r.2.G.np = D.G.np
 t : r.1 = true -> WI r.2 /\ Val r.2.G s c /\ ∀ s' v, s' < D.many -> s' ≠ s -> Val D.G s' v -> Val r.2.G s' v
 f : r.1 = false -> Ok r.2.G D.many /\ ∀ s' v, s' < D.many -> Val D.G s' v -> Val r.2.G s' v
theorem WI.writeR {D : DS} (I : WI D) (hf : D.f ≠ D.G.np) (n : Nat) {s : Nat} {c : Int} (hs : s < D.many) : ∃ r, DS.write (n + 1) D s c = some r /\ WLeft D s c r := by
 have f1 := I.fl.f1
 obtain ⟨r, ep⟩ := put_some (c := c) I.hh I.fl (by omega) hs
 obtain ⟨a1, a2, a3⟩ := I.put ep
 have nbp : r.2.G.nb = D.G.nb /\ r.2.G.np = D.G.np := by
   obtain ⟨_, ⟨_, pw, _⟩ | ⟨_, _, q | pw⟩⟩ := put_is ep
   . exact ⟨pw.nb, pw.np⟩
   . rw [q]; exact ⟨rfl, rfl⟩
   . exact ⟨pw.nb, pw.np⟩
 refine ⟨r, by rw [write_r hf]; exact ep, a1, nbp.1, nbp.2, fun z => ?_, fun z => ?_⟩
 . obtain ⟨b1, b2, b3⟩ := a2 z
   exact ⟨b1, b2, fun s' v _ ne V => b3 s' v ne V⟩
 . obtain ⟨b1, b2⟩ := a3 z
   exact ⟨b1, fun s' v _ V => b2 s' v V⟩
theorem WI.writeF : ∀ (m : Nat) {D : DS} {k : Nat} (I : WI D) (hf : D.f = D.G.np) (F : Full D k) (hk : k + m = D.G.nb) (hm : 2 <= m) {s : Nat} {c : Int} (hs : s < D.many), ∃ r, DS.write m D s c = some r /\ WLeft D s c r
 | 0, D, k, I, hf, F, hk, hm, s, c, hs => by omega
 | m + 1, D, k, I, hf, F, hk, hm, s, c, hs => by
   have b4 := I.base.b4
   have p2 := I.base.p2
   obtain ⟨r1, hb, a1, a2, a3, a4, a5, a6, a7⟩ := I.begin hf
   have eb := write_b (n := m) (s := s) (c := c) hf hb
   cases q : r1.1 with
   | false =>
     rw [if_neg (by rw [q]; exact Bool.false_ne_true)] at eb
     exact ⟨r1, eb, a1, a3, a4, fun z => (by rw [q] at z; cases z), fun _ => ⟨a7 q, a5⟩⟩
   | true =>
     rw [if_pos q] at eb
     obtain ⟨I1, l1, l2⟩ := a6 q
     have back : ∀ {r}, WLeft r1.2 s c r -> WLeft D s c r := fun {r} L => ⟨by rw [L.many, a1], by rw [L.nb, a3], by rw [L.np, a4], fun z => by
       obtain ⟨b1, b2, b3⟩ := L.t z
       exact ⟨b1, b2, fun s' v hs' ne V => b3 s' v (by rw [a1]; exact hs') ne (a5 s' v hs' V)⟩, fun z => by
       obtain ⟨b1, b2⟩ := L.f z
       exact ⟨by rw [<- a1]; exact b1, fun s' v hs' V => b2 s' v (by rw [a1]; exact hs') (a5 s' v hs' V)⟩⟩
     by_cases hf1 : r1.2.f = r1.2.G.np
     . have F1 : Full r1.2 (k + 1) := fun t ht i hi => by
         rw [a2, a3]
         have hi' : i < D.G.np := by rw [<- a4]; exact hi
         cases t with
         | zero =>
           have : bk D.G.nb (nx D.G.nb D.h) 0 = nx D.G.nb D.h := by unfold bk; rw [if_pos (Nat.zero_le _)]; omega
           rw [this]
           exact l1 i (by rw [hf1]; exact hi)
         | succ t =>
           have := nx_s D.G.nb D.h
           have := nx_s D.G.nb (nx D.G.nb D.h)
           have := bk_s D.G.nb (nx D.G.nb D.h) (t + 1)
           have := bk_s D.G.nb D.h t
           have := I.hh
           have e : bk D.G.nb (nx D.G.nb D.h) (t + 1) = bk D.G.nb D.h t := by omega
           rw [e]
           exact l2 _ _ (by omega) (F t (by omega) i hi')
       have few := full_few I1.pl I1.hh (k := k + 1) (by rw [a3]; omega) (by rw [a4]; omega) F1
       have ms := I1.base.ms
       rw [a1, a4] at few
       rw [a1, a3, a4] at ms
       have hk1 : k + 1 <= D.G.nb - 2 := Nat.le_of_mul_le_mul_right (Nat.le_trans few ms) (by omega)
       obtain ⟨r, e, L⟩ := WI.writeF m (k := k + 1) I1 hf1 F1 (by rw [a3]; omega) (by omega) (s := s) (c := c) (by rw [a1]; exact hs)
       exact ⟨r, by rw [eb]; exact e, back L⟩
     . obtain ⟨m', rfl⟩ : ∃ m', m = m' + 1 := ⟨m - 1, by omega⟩
       obtain ⟨r, e, L⟩ := I1.writeR hf1 m' (c := c) (by rw [a1]; exact hs)
       exact ⟨r, by rw [eb]; exact e, back L⟩
theorem WI.write {D : DS} (I : WI D) {s : Nat} {c : Int} (hs : s < D.many) : ∃ r, DS.write D.G.nb D s c = some r /\ WLeft D s c r := by
 have b4 := I.base.b4
 by_cases hf : D.f = D.G.np
 . exact WI.writeF D.G.nb (k := 0) I hf (fun t ht => absurd ht (Nat.not_lt_zero _)) (by omega) (by omega) hs
 . obtain ⟨r, e, L⟩ := I.writeR hf (D.G.nb - 1) (c := c) hs
   rw [show D.G.nb - 1 + 1 = D.G.nb by omega] at e
   exact ⟨r, e, L⟩
theorem Newest.blk {G : GS} {N : Nat} (h : G.Newest N) : N < G.nb := by
 rcases h with ⟨_, h⟩ | ⟨h, _⟩ <;> omega
theorem last_is {G : GS} {b : Nat} (hb : b < G.nb) (h : ¬ G.Er b /\ G.Er (nx G.nb b)) (one : ∀ b', b' < G.nb -> ¬ G.Er b' -> G.Er (nx G.nb b') -> b' = b) : G.last = b := by
 unfold GS.last
 cases e : (List.range G.nb).find? fun b => decide (¬ G.Er b /\ G.Er (nx G.nb b)) with
 | none =>
   have := List.find?_eq_none.mp e b (List.mem_range.mpr hb)
   rw [decide_eq_true h] at this
   exact absurd rfl this
 | some b' =>
   have h0 := List.find?_some e
   have h1 : ¬ G.Er b' /\ G.Er (nx G.nb b') := of_decide_eq_true h0
   have h2 := List.mem_range.mp (List.mem_of_find?_eq_some e)
   exact one b' h2 h1.1 h1.2
theorem last_zero {G : GS} (h : ∀ b, b < G.nb -> G.Er b) : G.last = 0 := by
 unfold GS.last
 cases e : (List.range G.nb).find? fun b => decide (¬ G.Er b /\ G.Er (nx G.nb b)) with
 | none => rfl
 | some b' =>
   have h0 := List.find?_some e
   have h1 : ¬ G.Er b' /\ G.Er (nx G.nb b') := of_decide_eq_true h0
   exact absurd (h b' (List.mem_range.mp (List.mem_of_find?_eq_some e))) h1.1
theorem fill_is {G : GS} {many b : Nat} (B : Base G many) (hb : b < G.nb) : G.fill b <= G.np /\ (∀ i, i < G.fill b -> G.pg b i ≠ .er) /\ ∀ i, G.fill b <= i -> i < G.np -> G.pg b i = .er := by
 have key : ∀ n, n <= G.np -> ∃ k, k <= n /\ ((List.range n).filter fun i => decide (G.pg b i ≠ .er)).length = k /\ (∀ i, i < k -> G.pg b i ≠ .er) /\ ∀ i, k <= i -> i < n -> G.pg b i = .er := fun n => by
   induction n with
   | zero => intro _; exact ⟨0, Nat.le_refl _, rfl, fun i hi => absurd hi (Nat.not_lt_zero _), fun i _ hi => absurd hi (Nat.not_lt_zero _)⟩
   | succ n ih =>
     intro hn
     obtain ⟨k, hk, e, h1, h2⟩ := ih (by omega)
     rw [List.range_succ, List.filter_append, List.length_append, e]
     by_cases q : G.pg b n = .er
     . refine ⟨k, by omega, by simp [q], h1, fun i hi1 hi2 => ?_⟩
       by_cases z : i = n
       . rw [z]; exact q
       . exact h2 i hi1 (by omega)
     . have hkn : k = n := by
         by_cases z : k = n
         . exact z
         . exact absurd (B.gap hb (i := k) (j := n) hk (by omega) (h2 k (Nat.le_refl _) (by omega))) q
       subst hkn
       refine ⟨k + 1, Nat.le_refl _, by simp [q], fun i hi => ?_, fun i hi1 hi2 => by omega⟩
       by_cases z : i = k
       . rw [z]; exact q
       . exact h1 i (by omega)
 obtain ⟨k, hk, e, h1, h2⟩ := key G.np (Nat.le_refl _)
 have e' : G.fill b = k := e
 rw [e']
 exact ⟨hk, h1, h2⟩
theorem Good.around {G : GS} {many h : Nat} (g : Good G many h) (he : G.Er h) : ∀ b, b < G.nb -> G.Er b := by
 have b4 := g.base.b4
 have hh := g.hh
 have key : ∀ k b, G.nb - 1 - dst G.nb h b = k -> b < G.nb -> G.Er b := fun k => by
   induction k with
   | zero =>
     intro b hd hb
     have := yZq G.nb h b
     have : b = h := by omega
     rw [this]; exact he
   | succ k ih =>
     intro b hd hb
     have := yZq G.nb h b
     have := nx_s G.nb b
     have := yZq G.nb h (nx G.nb b)
     have := yWq hb
     have h1 := ih (nx G.nb b) (by omega) this
     exact Decidable.byContradiction fun ne => g.run hb (by omega) ne h1
 exact fun b hb => key _ b rfl hb
theorem Good.mount {G : GS} {many h : Nat} (g : Good G many h) {pl : Nat -> Option (Nat × Nat)} (P : G.Pl many pl) : WI { G := G, many := many, pl := pl, h := G.last, f := G.fill G.last } := by
 have b4 := g.base.b4
 by_cases he : G.Er h
 . have all := g.around he
   have e0 : G.last = 0 := last_zero all
   have h0 : 0 < G.nb := by omega
   obtain ⟨f1, f2, f3⟩ := fill_is g.base h0
   rw [e0]
   exact ⟨g.base, h0, ⟨fun w => (er_no (all _ w.1) w).elim⟩, P, ⟨f1, f2, f3⟩, all _ (yWq h0), fun {b} hb _ _ ne => absurd (all b hb) ne⟩
 . have el : G.last = h := last_is g.hh ⟨he, g.er1⟩ fun b' hb' ne e => Decidable.byContradiction fun q => g.run hb' q ne e
   obtain ⟨f1, f2, f3⟩ := fill_is g.base g.hh
   rw [el]
   exact ⟨g.base, g.hh, g.ord, P, ⟨f1, f2, f3⟩, g.er1, fun hb n1 _ ne => g.run hb n1 ne⟩
theorem mend_go {G : GS} {N b : Nat} (hb : b < G.nb) (e : G.Er b) : G.mend N = (true, G) := by unfold GS.mend; rw [if_pos ⟨b, hb, e⟩]
theorem Mid.newest {G : GS} {many h N : Nat} (m : Mid G many h) (hN : G.Newest N) : (N = h /\ G.Wh h) \/ (¬ G.Wh (nx G.nb N) /\ Ord G N) := by
 have hh := m.hh
 rcases hN with ⟨no, hN⟩ | ⟨hN, i, s, c, n, hi, e, q⟩
 . exact .inr ⟨no _ (yWq (by omega)), ⟨fun w => absurd (xZq w) (no _ w.1)⟩⟩
 . have w : G.W N i s c n := ⟨hN, hi, e⟩
   by_cases z : N = h
   . exact .inl ⟨z, z ▸ xZq w⟩
   . -- no whole page lies behind N in the ring
     have none : ∀ b, b < G.nb -> dst G.nb h N < dst G.nb h b -> ¬ G.Wh b := fun b hb l ⟨i', hi', s', c', n', e'⟩ => by
       have := m.ord.lt w (⟨hb, hi', e'⟩ : G.W b i' s' c' n') l
       have := q b i' s' c' n' hb hi' e'
       omega
     have := nx_s G.nb N
     have := yWq hN
     have := yZq G.nb h N
     have := yZq G.nb h (nx G.nb N)
     refine .inr ⟨none _ (yWq hN) (by omega), ⟨fun {b1 i1 s1 c1 n1 b2 i2 s2 c2 n2} w1 w2 l => m.ord.lt w1 w2 ?_⟩⟩
     have a1 : ¬ dst G.nb h N < dst G.nb h b1 := fun l => none _ w1.1 l (xZq w1)
     have a2 : ¬ dst G.nb h N < dst G.nb h b2 := fun l => none _ w2.1 l (xZq w2)
     have := w1.1
     have := w2.1
     have := yZq G.nb h b1
     have := yZq G.nb h b2
     have := yZq G.nb N b1
     have := yZq G.nb N b2
     omega
theorem Ok.mend {G : GS} {many N : Nat} (o : Ok G many) (hN : G.Newest N) : (G.mend N).2.nb = G.nb /\ (G.mend N).2.np = G.np /\ (∀ s v, Val G s v -> Val (G.mend N).2 s v) /\ ((G.mend N).1 = true -> ∃ h, Good (G.mend N).2 many h) /\ Ok (G.mend N).2 many := by
 obtain ⟨h, g | m⟩ := o
 . have e := mend_go (N := N) (yWq g.hh) g.er1
   rw [e]
   exact ⟨rfl, rfl, fun _ _ V => V, fun _ => ⟨h, g⟩, h, .inl g⟩
 . have b4 := m.base.b4
   have p2 := m.base.p2
   have hh := m.hh
   have hNl := Newest.blk hN
   have no : ¬ ∃ b, b < G.nb /\ G.Er b := fun ⟨b, hb, e⟩ => m.non hb e
   have torner : ∀ {b : Nat}, EraW G (G.era b).2 b .torn -> ∀ {b'}, b' < (G.era b).2.nb -> ¬ (G.era b).2.Er b' := fun {b} ew {b'} hb' z => by
     rw [ew.nb] at hb'
     by_cases q : b' = b
     . subst q
       have := z 0 (by rw [ew.np]; omega)
       rw [ew.at_] at this; cases this
     . exact m.non hb' ((ew.er q).mp z)
   unfold GS.mend
   rw [if_neg no]
   by_cases hw : G.Wh (nx G.nb N)
   . rw [if_pos hw]
     rcases m.newest hN with ⟨rfl, hwh⟩ | ⟨q, _⟩
     rotate_left
     . exact absurd hw q
     have old : ∀ {s v}, Val G s v -> ∀ i c n, G.W N i s c n -> ∃ b' i' n', b' ≠ N /\ G.W b' i' s v n' /\ ∀ {b'' i'' c'' n''}, b'' ≠ N -> G.W b'' i'' s c'' n'' -> n'' <= n' := fun {s v} V i c n w => by
       rcases V with ⟨q, _⟩ | ⟨b1, i1, n1, w1, q1⟩
       . exact absurd w (q _ _ _ _)
       . by_cases z : b1 = N
         . subst z
           obtain ⟨b', i', n', nb, w', q'⟩ := m.cop w1 hw
           exact ⟨b', i', n', nb, w', q'⟩
         . exact ⟨b1, i1, n1, z, w1, fun _ w'' => q1 w''⟩
     cases k : (G.era N).1 with
     | true =>
       have ew := wQx k
       have gd : Good (G.era N).2 many (prv G.nb N) := by
         refine ⟨m.base.era ew new_, by rw [ew.nb]; exact prv_lt hh, ?_, ?_, fun {b} hb nb ne => ?_⟩
         . have o1 := m.ord.era ew new_
           have := o1.bwd (by rw [ew.nb]; exact hh) (fun ⟨i, hi, s, c, n, e⟩ => by rw [ew.at_] at e; cases e)
           rwa [ew.nb] at this
         . rw [ew.nb, nx_prv hh]
           exact fun i _ => ew.at_
         . rw [ew.nb] at hb ⊢
           have n1 : nx G.nb b ≠ N := fun q => nb (by rw [<- q, prv_nx hb])
           rw [ew.er n1]
           exact m.non (yWq hb)
       exact ⟨ew.nb, ew.np, fun s v V => V.era ew new_ (old V), fun _ => ⟨_, gd⟩, _, .inl gd⟩
     | false =>
       rcases wQz k with q | ew
       . rw [q]
         exact ⟨rfl, rfl, fun _ _ V => V, fun z => (nomatch z), N, .inr m⟩
       . refine ⟨ew.nb, ew.np, fun s v V => V.era ew ntw (old V), fun z => (nomatch z), N, .inr ⟨m.base.era ew ntw, by rw [ew.nb]; exact hh, m.ord.era ew ntw, fun hb => torner ew hb, fun w => absurd rfl ((ew.whole ntw).mp w).1⟩⟩
   . rw [if_neg hw]
     have ord : Ord G N := by
       rcases m.newest hN with ⟨rfl, _⟩ | ⟨_, q⟩
       . exact m.ord
       . exact q
     have old : ∀ {s v}, ∀ i c n, G.W (nx G.nb N) i s c n -> ∃ b' i' n', b' ≠ nx G.nb N /\ G.W b' i' s v n' /\ ∀ {b'' i'' c'' n''}, b'' ≠ nx G.nb N -> G.W b'' i'' s c'' n'' -> n'' <= n' := fun i c n w => absurd (xZq w) hw
     cases k : (G.era (nx G.nb N)).1 with
     | true =>
       have ew := wQx k
       have gd : Good (G.era (nx G.nb N)).2 many N := by
         refine ⟨m.base.era ew new_, by rw [ew.nb]; exact hNl, ord.era ew new_, ?_, fun {b} hb nb ne => ?_⟩
         . rw [ew.nb]
           exact fun i _ => ew.at_
         . rw [ew.nb] at hb ⊢
           rw [ew.er fun q => nb (nx_inj hb hNl q)]
           exact m.non (yWq hb)
       exact ⟨ew.nb, ew.np, fun s v V => V.era ew new_ old, fun _ => ⟨_, gd⟩, _, .inl gd⟩
     | false =>
       rcases wQz k with q | ew
       . rw [q]
         exact ⟨rfl, rfl, fun _ _ V => V, fun z => (nomatch z), h, .inr m⟩
       . refine ⟨ew.nb, ew.np, fun s v V => V.era ew ntw old, fun z => (nomatch z), h, .inr ⟨m.base.era ew ntw, by rw [ew.nb]; exact hh, m.ord.era ew ntw, fun hb => torner ew hb, fun {i s c n} w hw2 => ?_⟩⟩
         have w0 := ((ew.whole ntw).mp w)
         have hw3 : G.Wh (nx G.nb h) := by
           obtain ⟨i', hi', s', c', n', e'⟩ := hw2
           rw [ew.nb] at e'
           have hn : nx G.nb h < G.nb := yWq hh
           have := (ew.whole ntw).mp (⟨by rw [ew.nb]; exact hn, hi', e'⟩ : (G.era (nx G.nb N)).2.W (nx G.nb h) i' s' c' n')
           exact xZq this.2
         obtain ⟨b', i', n', nb, w', q'⟩ := m.cop w0.2 hw3
         refine ⟨b', i', n', nb, (ew.whole ntw).mpr ⟨fun z => hw (z ▸ xZq w'), w'⟩, fun nb2 w2 => q' nb2 ((ew.whole ntw).mp w2).2⟩
theorem Base.rdy {G : GS} {many : Nat} (B : Base G many) (few : G.wl.length < 64) : G.Rdy many := by
 refine ⟨fun b i s c n hb hi e => (B.num ⟨hb, hi, e⟩).1, ?_, few⟩
 have key : G.wl.Pairwise fun x y => x.1 ≠ y.1 := by
   unfold GS.wl GS.wb
   rw [List.pairwise_flatMap]
   refine ⟨fun b mb => ?_, ?_⟩
   . unfold GS.wr
     rw [List.pairwise_flatMap]
     refine ⟨fun j mj => ?_, ?_⟩
     . unfold GS.wp
       split
       . exact List.pairwise_singleton _ _
       . exact List.Pairwise.nil
     . refine List.Pairwise.imp_of_mem (fun {j j'} m1 m2 l => ?_) (List.pairwise_lt_range (n := G.np))
       intro x hx y hy e
       obtain ⟨s, c, e1, h1⟩ := xKv.mp hx
       obtain ⟨s', c', e2, h2⟩ := xKv.mp hy
       rw [<- e] at e2
       have := (B.dis (⟨List.mem_range.mp mb, List.mem_range.mp m1, e1⟩ : G.W b j s c x.1) (⟨List.mem_range.mp mb, List.mem_range.mp m2, e2⟩ : G.W b j' s' c' x.1)).2
       omega
   . refine List.Pairwise.imp_of_mem (fun {b b'} m1 m2 l => ?_) (List.pairwise_lt_range (n := G.nb))
     intro x hx y hy e
     unfold GS.wr at hx hy
     obtain ⟨j, mj, hx⟩ := List.mem_flatMap.mp hx
     obtain ⟨j', mj', hy⟩ := List.mem_flatMap.mp hy
     obtain ⟨s, c, e1, h1⟩ := xKv.mp hx
     obtain ⟨s', c', e2, h2⟩ := xKv.mp hy
     rw [<- e] at e2
     have := (B.dis (⟨List.mem_range.mp m1, List.mem_range.mp mj, e1⟩ : G.W b j s c x.1) (⟨List.mem_range.mp m2, List.mem_range.mp mj', e2⟩ : G.W b' j' s' c' x.1)).1
     omega
 unfold List.Nodup
 rw [List.pairwise_map]
 exact key
end Ev
namespace Ev
def Lit (G : GS) : Prop := G.left = none /\ G.dark = false
theorem Lit.draw {G : GS} (h : Lit G) : G.draw = some (true, G) := by
 unfold GS.draw
 rw [h.2, h.1]
 rfl
theorem Lit.put {G : GS} (h : Lit G) {b i : Nat} {g : Pg} : (G.put b i g).1 = true /\ Lit (G.put b i g).2 := by
 unfold GS.put
 rw [h.draw]
 exact ⟨rfl, h⟩
theorem Lit.era {G : GS} (h : Lit G) {b : Nat} : (G.era b).1 = true /\ Lit (G.era b).2 := by
 unfold GS.era
 rw [h.draw]
 exact ⟨rfl, h⟩
theorem Lit.dput {D : DS} (h : Lit D.G) {s : Nat} {c : Int} {r : Bool × DS} (e : D.put s c = some r) : r.1 = true /\ Lit r.2.G := by
 unfold DS.put at e
 split at e
 . have := (Option.some.inj e).symm
   subst this
   rw [if_pos h.put.1]
   exact ⟨rfl, h.put.2⟩
 . cases e
theorem Lit.move {b : Nat} : ∀ {n : Nat} {D : DS} {r : Bool × DS}, Lit D.G -> DS.move b n D = some r -> r.1 = true /\ Lit r.2.G
 | 0, D, r, h, e => by cases e; exact ⟨rfl, h⟩
 | n + 1, D, r, h, e => by
   unfold DS.move at e
   split at e
   . split at e
     . split at e
       . rename_i ep
         exact Lit.move (h.dput ep).2 e
       . rename_i x hx
         have := h.dput e
         obtain ⟨k, D'⟩ := r
         cases k with
         | true => exact absurd e (hx D')
         | false => exact absurd this.1 Bool.false_ne_true
     . cases e
   . exact Lit.move h e
theorem Lit.clean {b : Nat} {D : DS} {r : Bool × DS} (h : Lit D.G) (e : D.clean b = some r) : r.1 = true /\ Lit r.2.G := by
 unfold DS.clean at e
 split at e
 . rename_i D' em
   have h1 := (Lit.move h em).2
   split at e
   . have := (Option.some.inj e).symm
     subst this
     exact h1.era
   . cases e
 . rename_i x hx
   have := Lit.move h e
   obtain ⟨k, D'⟩ := r
   cases k with
   | true => exact absurd e (hx D')
   | false => exact absurd this.1 Bool.false_ne_true
theorem Lit.begin {D : DS} {r : Bool × DS} (h : Lit D.G) (e : D.begin = some r) : r.1 = true /\ Lit r.2.G := by
 unfold DS.begin at e
 split at e
 . have := (Option.some.inj e).symm
   subst this
   exact ⟨rfl, h⟩
 . exact Lit.clean (D := { D with h := nx D.G.nb D.h, f := 0 }) h e
theorem Lit.write {s : Nat} {c : Int} : ∀ {n : Nat} {D : DS} {r : Bool × DS}, Lit D.G -> DS.write n D s c = some r -> r.1 = true /\ Lit r.2.G
 | 0, D, r, h, e => by cases e
 | n + 1, D, r, h, e => by
   unfold DS.write at e
   split at e
   . split at e
     . rename_i eb
       exact Lit.write (h.begin eb).2 e
     . rename_i x hx
       have := h.begin e
       obtain ⟨k, D'⟩ := r
       cases k with
       | true => exact absurd e (hx D')
       | false => exact absurd this.1 Bool.false_ne_true
   . exact h.dput e
theorem Lit.mend {G : GS} {N : Nat} (h : Lit G) : (G.mend N).1 = true /\ Lit (G.mend N).2 := by
 unfold GS.mend
 split
 . exact ⟨rfl, h⟩
 . exact h.era
structure SameG (G G' : GS) : Prop where
 nb : G'.nb = G.nb
 np : G'.np = G.np
 pg : G'.pg = G.pg
 many : G'.many = G.many
theorem SameG.w {G G' : GS} (h : SameG G G') {b i s : Nat} {c n : Int} : G'.W b i s c n ↔ G.W b i s c n := by unfold GS.W; rw [h.nb, h.np, h.pg]
theorem SameG.er {G G' : GS} (h : SameG G G') {b : Nat} : G'.Er b ↔ G.Er b := by unfold GS.Er; rw [h.np, h.pg]
theorem SameG.wh {G G' : GS} (h : SameG G G') {b : Nat} : G'.Wh b ↔ G.Wh b := by unfold GS.Wh; rw [h.np, h.pg]
theorem SameG.base {G G' : GS} (h : SameG G G') {many : Nat} (B : Base G many) : Base G' many :=
 ⟨by rw [h.nb]; exact B.b4, by rw [h.np]; exact B.p2, B.m1, by rw [h.nb, h.np]; exact B.ms, fun w => by rw [h.many]; exact B.num (h.w.mp w), fun w w' => B.dis (h.w.mp w) (h.w.mp w'), fun hb hij hj e => by
   rw [h.nb] at hb
   rw [h.np] at hj
   rw [h.pg] at e ⊢
   exact B.gap hb hij hj e⟩
theorem SameG.ord {G G' : GS} (h : SameG G G') {hd : Nat} (O : Ord G hd) : Ord G' hd := ⟨fun w w' l => by rw [h.nb] at l; exact O.lt (h.w.mp w) (h.w.mp w') l⟩
theorem SameG.good {G G' : GS} (h : SameG G G') {many hd : Nat} (g : Good G many hd) : Good G' many hd :=
 ⟨h.base g.base, by rw [h.nb]; exact g.hh, h.ord g.ord, by rw [h.nb, h.er]; exact g.er1, fun hb nb ne => by
   rw [h.nb] at hb ⊢
   rw [h.er] at ne ⊢
   exact g.run hb nb ne⟩
theorem SameG.mid {G G' : GS} (h : SameG G G') {many hd : Nat} (g : Mid G many hd) : Mid G' many hd :=
 ⟨h.base g.base, by rw [h.nb]; exact g.hh, h.ord g.ord, fun hb => by rw [h.nb] at hb; rw [h.er]; exact g.non hb, fun w hw => by
   rw [h.nb, h.wh] at hw
   obtain ⟨b', i', n', nb, w', q⟩ := g.cop (h.w.mp w) hw
   exact ⟨b', i', n', nb, h.w.mpr w', fun nb2 w2 => q nb2 (h.w.mp w2)⟩⟩
theorem SameG.ok {G G' : GS} (h : SameG G G') {many : Nat} (o : Ok G many) : Ok G' many := by
 obtain ⟨hd, g | g⟩ := o
 . exact ⟨hd, .inl (h.good g)⟩
 . exact ⟨hd, .inr (h.mid g)⟩
theorem SameG.val {G G' : GS} (h : SameG G G') {s : Nat} {v : Int} (V : Val G s v) : Val G' s v := by
 rcases V with ⟨q, rfl⟩ | ⟨b, i, n, w, q⟩
 . exact .inl ⟨fun b i c n w => q _ _ _ _ (h.w.mp w), rfl⟩
 . exact .inr ⟨b, i, n, h.w.mpr w, fun w' => q (h.w.mp w')⟩
theorem SameG.pl {G G' : GS} (h : SameG G G') {many : Nat} {pl : Nat -> Option (Nat × Nat)} (P : G.Pl many pl) : G'.Pl many pl :=
 pl_mk (fun s hs e b i c n w => xZz P hs e _ _ _ _ (h.w.mp w)) fun s b i hs e => by
   obtain ⟨c, n, w, q⟩ := yZx P hs e
   exact ⟨c, n, h.w.mpr w, fun w' => q (h.w.mp w')⟩
theorem SameG.wi {D : DS} {G' : GS} (h : SameG D.G G') (I : WI D) : WI { D with G := G' } :=
 ⟨h.base I.base, by show D.h < G'.nb; rw [h.nb]; exact I.hh, h.ord I.ord, h.pl I.pl, ⟨by show D.f <= G'.np; rw [h.np]; exact I.fl.f1, fun i hi => by show G'.pg D.h i ≠ .er; rw [h.pg]; exact I.fl.fa i hi, fun i h1 h2 => by
     have h2' : i < G'.np := h2
     rw [h.np] at h2'
     show G'.pg D.h i = .er
     rw [h.pg]
     exact I.fl.fb i h1 h2'⟩, by show G'.Er (nx G'.nb D.h); rw [h.nb, h.er]; exact I.er1, fun {b} hb n1 n2 n3 => by
     have hb' : b < G'.nb := hb
     have n2' : nx G'.nb b ≠ D.h := n2
     have n3' : ¬ G'.Er b := n3
     show ¬ G'.Er (nx G'.nb b)
     rw [h.nb] at hb' n2' ⊢
     rw [h.er] at n3' ⊢
     exact I.run hb' n1 n2' n3'⟩
theorem wl_few {G : GS} (h : G.nb * G.np < 64) : G.wl.length < 64 := by
 have l1 : ∀ b i, (G.wr b i).length <= i := fun b i => by
   induction i with
   | zero => unfold GS.wr; simp
   | succ i ih =>
     rw [wr_succ, List.length_append]
     have : (G.wp b i).length <= 1 := by unfold GS.wp; split <;> simp
     omega
 have l2 : ∀ b, (G.wb b).length <= b * G.np := fun b => by
   induction b with
   | zero => unfold GS.wb; simp
   | succ b ih =>
     rw [wb_succ, List.length_append, Nat.succ_mul]
     have := l1 b G.np
     omega
 have := l2 G.nb
 unfold GS.wl
 omega
theorem fresh_good {G : GS} {many : Nat} (b4 : 4 <= G.nb) (p2 : 2 <= G.np) (m1 : 1 <= many) (ms : many <= (G.nb - 2) * G.np) (h : ∀ b i, G.pg b i = .er) : Good G many 0 /\ ∀ s, Val G s 0 := by
 have no : ∀ {b i s c n}, ¬ G.W b i s c n := fun {b i s c n} w => by
   have := w.2.2
   rw [h] at this
   cases this
 refine ⟨⟨⟨b4, p2, m1, ms, fun w => absurd w no, fun w => absurd w no, fun _ _ _ _ => h _ _⟩, by omega, ⟨fun w => absurd w no⟩, fun i _ => h _ i, fun _ _ ne => absurd (fun i _ => h _ i) ne⟩, fun s => .inl ⟨fun b i c n => no, rfl⟩⟩
end Ev
namespace Ev
def Dead (G : GS) : Prop := ∀ G1, G.draw ≠ some (true, G1)
theorem Dead.put {G : GS} (h : Dead G) {b i : Nat} {g : Pg} : (G.put b i g).1 = false := by
 unfold GS.put
 split
 . rfl
 . rename_i l G1 e
   cases l with
   | false => rfl
   | true => exact absurd e (h G1)
theorem Dead.era {G : GS} (h : Dead G) {b : Nat} : (G.era b).1 = false := by
 unfold GS.era
 split
 . rfl
 . rename_i l G1 e
   cases l with
   | false => rfl
   | true => exact absurd e (h G1)
theorem Dead.dput {D : DS} (h : Dead D.G) {s : Nat} {c : Int} {r : Bool × DS} (e : D.put s c = some r) : r.1 = false := by
 unfold DS.put at e
 split at e
 . have := (Option.some.inj e).symm
   subst this
   rw [if_neg (by rw [h.put]; intro z; cases z)]
 . cases e
theorem Dead.move {b : Nat} : ∀ {n : Nat} {D : DS} {r : Bool × DS}, Dead D.G -> DS.move b n D = some r -> r.1 = false \/ r = (true, D)
 | 0, D, r, h, e => by cases e; exact .inr rfl
 | n + 1, D, r, h, e => by
   unfold DS.move at e
   split at e
   . split at e
     . rename_i s c m eq
       cases ep : D.put s c with
       | none => rw [ep] at e; cases e
       | some q =>
         rw [ep] at e
         have z := h.dput ep
         obtain ⟨k, D1⟩ := q
         cases z
         have e : some (false, D1) = some r := e
         cases e
         exact .inl rfl
     . cases e
   . exact Dead.move h e
theorem Dead.clean {D : DS} {b : Nat} {r : Bool × DS} (h : Dead D.G) (e : D.clean b = some r) : r.1 = false := by
 unfold DS.clean at e
 cases em : D.move b D.G.np with
 | none => rw [em] at e; cases e
 | some q =>
   rw [em] at e
   rcases h.move em with z | z
   . obtain ⟨k, D1⟩ := q
     cases z
     have e : some (false, D1) = some r := e
     cases e
     rfl
   . subst z
     dsimp only at e
     split at e
     . have := (Option.some.inj e).symm
       subst this
       exact h.era
     . cases e
theorem Dead.begin {D : DS} {r : Bool × DS} (h : Dead D.G) (e : D.begin = some r) : r.1 = false \/ r.2.G = D.G := by
 unfold DS.begin at e
 split at e
 . cases e
   exact .inr rfl
 . exact .inl (Dead.clean (D := { D with h := nx D.G.nb D.h, f := 0 }) h e)
theorem Dead.write {s : Nat} {c : Int} : ∀ {n : Nat} {D : DS} {r : Bool × DS}, Dead D.G -> DS.write n D s c = some r -> r.1 = false
 | 0, D, r, h, e => by cases e
 | n + 1, D, r, h, e => by
   unfold DS.write at e
   split at e
   . cases eb : D.begin with
     | none => rw [eb] at e; cases e
     | some q =>
       rw [eb] at e
       obtain ⟨k, D1⟩ := q
       cases k with
       | false =>
         have e : some (false, D1) = some r := e
         cases e
         rfl
       | true =>
         rcases h.begin eb with z | z
         . cases z
         . have hd : Dead D1.G := by
             have z : D1.G = D.G := z
             rw [z]; exact h
           exact Dead.write hd e
   . exact h.dput e
end Ev
namespace Ev
open PySem L2
def top (i : Nat) : Stmt := PySem.Challenge.pw_evenwear_k17_desk_refusals.main.body.getD i (.Pass ⟨0, 0, 0, 0⟩)
abbrev sInit : Stmt := inClass (top 16) 0
abbrev sSize : Stmt := inClass (top 16) 1
abbrev sPage : Stmt := inClass (top 16) 2
abbrev sWorn : Stmt := inClass (top 16) 3
abbrev sWritten : Stmt := inClass (top 16) 4
abbrev sPower : Stmt := inClass (top 16) 5
abbrev sWrite : Stmt := inClass (top 16) 6
abbrev sErase : Stmt := inClass (top 16) 7
abbrev sCB : Stmt := inClass (top 16) 8
abbrev sCP : Stmt := inClass (top 16) 9
abbrev sCE : Stmt := inClass (top 16) 10
abbrev sDraw : Stmt := inClass (top 16) 11
structure CS where
 nb : Nat
 np : Nat
 rows : List (List V)
 worn : List Int
 many : Int
 left : Option Int
 dark : Bool
def leftV : Option Int -> V
 | none => .non
 | some k => .int k
def torn : V := .str "torn"
def chipF (S : CS) (hl el : Addr) : List (Str × V) := [("blocks", .int S.nb), ("pages", .int S.np), ("held", .ref hl), ("erasures", .ref el), ("writes", .int S.many), ("left", leftV S.left), ("dark", .bl S.dark)]
structure Wf (S : CS) : Prop where
 b1 : 4 <= S.nb
 b2 : S.nb <= 32
 p1 : 2 <= S.np
 p2 : S.np <= 16
 rl : S.rows.length = S.nb
 rp : ∀ r ∈ S.rows, r.length = S.np /\ r.all plainV = true
 wl : S.worn.length = S.nb
 lf : ∀ k, S.left = some k -> 0 <= k
structure RowsAt (H : Hp) (rl : List Addr) (rows : List (List V)) : Prop where
 ln : rl.length = rows.length
 at_ : ∀ (i : Nat) (a : Addr), rl[i]? = some a -> ∃ r, rows[i]? = some r /\ H a = some (.lst r)
theorem RowsAt.row {H : Hp} {rl : List Addr} {rows : List (List V)} (R : RowsAt H rl rows) {i : Nat} {r : List V} (e : rows[i]? = some r) : ∃ a, rl[i]? = some a /\ H a = some (.lst r) := by
 have hi : i < rl.length := by rw [R.ln]; exact (List.getElem?_eq_some_iff.mp e).1
 obtain ⟨r', e', h⟩ := R.at_ i rl[i] (by simp [hi])
 rw [e] at e'
 cases e'
 exact ⟨rl[i], by simp [hi], h⟩
theorem RowsAt.keep {H H' : Hp} {rl : List Addr} {rows : List (List V)} (R : RowsAt H rl rows) (k : ∀ b ∈ rl, ∀ o, H b = some o -> H' b = some o) : RowsAt H' rl rows :=
 ⟨R.ln, fun i a e => let ⟨r, e', h⟩ := R.at_ i a e; ⟨r, e', k a (List.mem_of_getElem? e) _ h⟩⟩
theorem RowsAt.put {H : Hp} {rl : List Addr} {rows : List (List V)} (R : RowsAt H rl rows) (nd : rl.Nodup) {i : Nat} {a : Addr} (e : rl[i]? = some a) (r : List V) : RowsAt (upd H a (.lst r)) rl (rows.set i r) := by
 refine ⟨by rw [List.length_set]; exact R.ln, fun j b ej => ?_⟩
 have hi : i < rows.length := by rw [<- R.ln]; exact (List.getElem?_eq_some_iff.mp e).1
 by_cases z : j = i
 . subst z
   rw [e] at ej
   cases ej
   exact ⟨r, List.getElem?_set_self hi, zQz⟩
 . have nb : b ≠ a := fun q => z (nodup_at nd ej (q ▸ e))
   obtain ⟨r', e', h⟩ := R.at_ j b ej
   exact ⟨r', by rw [List.getElem?_set_ne (Ne.symm z)]; exact e', by rw [zWx nb]; exact h⟩
where
 nodup_at {l : List Addr} (hn : l.Nodup) {i j : Nat} {x : Addr} (a : l[i]? = some x) (b : l[j]? = some x) : i = j := by
   obtain ⟨h1, e1⟩ := List.getElem?_eq_some_iff.mp a
   obtain ⟨h2, e2⟩ := List.getElem?_eq_some_iff.mp b
   exact (List.getElem_inj hn).mp (e1.trans e2.symm)
theorem RowsAt.swap {H : Hp} {rl : List Addr} {rows : List (List V)} (R : RowsAt H rl rows) {i : Nat} (hi : i < rl.length) {a : Addr} {r : List V} (h : H a = some (.lst r)) : RowsAt H (rl.set i a) (rows.set i r) := by
 refine ⟨by rw [List.length_set, List.length_set]; exact R.ln, fun j b ej => ?_⟩
 by_cases z : j = i
 . subst z
   rw [List.getElem?_set_self hi] at ej
   cases ej
   exact ⟨r, List.getElem?_set_self (by rw [<- R.ln]; exact hi), h⟩
 . rw [List.getElem?_set_ne (Ne.symm z)] at ej
   obtain ⟨r', e', h'⟩ := R.at_ j b ej
   exact ⟨r', by rw [List.getElem?_set_ne (Ne.symm z)]; exact e', h'⟩
structure ChipAt (C : Addr) (H : Hp) (p : Addr) (S : CS) (hl el : Addr) (rl : List Addr) : Prop where
 ob : ∃ dx, H p = some (.ins C dx (chipF S hl el))
 hd : H hl = some (.lst (rl.map V.ref))
 er : H el = some (.lst (S.worn.map V.int))
 rw : RowsAt H rl S.rows
 nd : (hl :: el :: rl).Nodup
 wf : Wf S
abbrev fpC (p hl el : Addr) (rl : List Addr) : List Addr := p :: hl :: el :: rl
theorem ChipAt.keep {C : Addr} {H H' : Hp} {p : Addr} {S : CS} {hl el : Addr} {rl : List Addr} (A : ChipAt C H p S hl el rl) (k : ∀ b ∈ fpC p hl el rl, ∀ o, H b = some o -> H' b = some o) : ChipAt C H' p S hl el rl := by
 obtain ⟨dx, e⟩ := A.ob
 exact ⟨⟨dx, k p (by simp) _ e⟩, k hl (by simp) _ A.hd, k el (by simp) _ A.er, A.rw.keep fun b m => k b (by simp [m]), A.nd, A.wf⟩
theorem ChipAt.same {C : Addr} {H H' : Hp} {p : Addr} {S : CS} {hl el : Addr} {rl : List Addr} (A : ChipAt C H p S hl el rl) (k : Same H H') : ChipAt C H' p S hl el rl := A.keep fun b _ o e => k b o e
section
variable {C : Addr} {H : Hp} {p : Addr} {S : CS} {hl el : Addr} {rl : List Addr} (A : ChipAt C H p S hl el rl)
include A
theorem ChipAt.tr {b : Addr} (m : b ∈ fpC p hl el rl) : ∃ o, H b = some o := by
 rcases List.mem_cons.mp m with z | m
 . subst z; obtain ⟨dx, e⟩ := A.ob; exact ⟨_, e⟩
 rcases List.mem_cons.mp m with z | m
 . subst z; exact ⟨_, A.hd⟩
 rcases List.mem_cons.mp m with z | m
 . subst z; exact ⟨_, A.er⟩
 obtain ⟨i, hi, e⟩ := List.mem_iff_getElem.mp m
 obtain ⟨r, _, h⟩ := A.rw.at_ i b (by rw [<- e]; simp [hi])
 exact ⟨_, h⟩
theorem ChipAt.np_ {b : Addr} (m : b ∈ hl :: el :: rl) : b ≠ p := by
 obtain ⟨dx, e⟩ := A.ob
 rcases List.mem_cons.mp m with z | m
 . subst z; exact yJz A.hd e (by intro z; cases z)
 rcases List.mem_cons.mp m with z | m
 . subst z; exact yJz A.er e (by intro z; cases z)
 obtain ⟨i, hi, e'⟩ := List.mem_iff_getElem.mp m
 obtain ⟨r, _, h⟩ := A.rw.at_ i b (by rw [<- e']; simp [hi])
 exact yJz h e (by intro z; cases z)
end
structure Did (H H' : Hp) (fp fp' : List Addr) : Prop where
 keep : SameBut fp H H'
 new : ∀ b ∈ fp', b ∈ fp \/ H b = none
theorem Did.refl {H : Hp} {fp : List Addr} : Did H H fp fp := ⟨SameBut.refl _ _, fun _ m => .inl m⟩
theorem Did.same {H H' : Hp} {fp : List Addr} (h : Same H H') : Did H H' fp fp := ⟨SameBut.of h, fun _ m => .inl m⟩
inductive Ref where
 | bs | np | ne | cut
 deriving DecidableEq
def CS.okB (S : CS) (b : Int) : Prop := 0 <= b /\ b < S.nb
def CS.okP (S : CS) (b g : Int) : Prop := S.okB b /\ 0 <= g /\ g < S.np
instance (S : CS) (b : Int) : Decidable (S.okB b) := by unfold CS.okB; infer_instance
instance (S : CS) (b g : Int) : Decidable (S.okP b g) := by unfold CS.okP; infer_instance
def CS.row (S : CS) (b : Int) : List V := S.rows.getD b.toNat []
def CS.draw (S : CS) : Option (Bool × CS) :=
 if S.dark then none
 else match S.left with
   | none => some (true, S)
   | some k => if k <= 0 then some (false, { S with dark := true }) else some (true, { S with left := some (k - 1) })
def CS.clear (S : CS) (b g : Int) : Bool := ((S.row b).drop g.toNat).all fun v => decide (v = .non)
def CS.write (S : CS) (b g : Int) (t : V) : Option Ref × CS :=
 if ¬ S.okP b g then (some .np, S)
 else if S.clear b g = false then (some .ne, S)
 else match S.draw with
   | none => (some .cut, S)
   | some (l, S1) => (if l then none else some .cut, { S1 with many := S1.many + 1, rows := S1.rows.set b.toNat ((S1.row b).set g.toNat (if l then t else torn)) })
def CS.erase (S : CS) (b : Int) : Option Ref × CS :=
 if ¬ S.okB b then (some .np, S)
 else match S.draw with
   | none => (some .cut, S)
   | some (l, S1) => (if l then none else some .cut, { S1 with worn := S1.worn.set b.toNat (S1.worn.getD b.toNat 0 + 1), rows := S1.rows.set b.toNat (List.replicate S1.np (if l then V.non else torn)) })
structure Txt (K : PySem.W.Frag) (mg : Str -> Option Value) (C cBS cNP cNE cNS cBC cCu cWE : Addr) : Prop where
 cl : Cls K C
 aB : NoAttr K C "blocks"
 aP : NoAttr K C "pages"
 aH : NoAttr K C "held"
 aE : NoAttr K C "erasures"
 aW : NoAttr K C "writes"
 aL : NoAttr K C "left"
 aD : NoAttr K C "dark"
 g_Chip : mg "Chip" = some (.ref C)
 g_BadSize : mg "BadSize" = some (.ref cBS)
 g_NoPage : mg "NoPage" = some (.ref cNP)
 g_NotErased : mg "NotErased" = some (.ref cNE)
 g_NoSector : mg "NoSector" = some (.ref cNS)
 g_BadContent : mg "BadContent" = some (.ref cBC)
 g_Cut : mg "Cut" = some (.ref cCu)
 g_WearError : mg "WearError" = some (.ref cWE)
 x_BadSize : XCls K cBS
 x_NoPage : XCls K cNP
 x_NotErased : XCls K cNE
 x_Cut : XCls K cCu
 g_LB : ∃ u, mg "LEAST_BLOCKS" = some u /\ RelV (.int 4) u
 g_MB : ∃ u, mg "MOST_BLOCKS" = some u /\ RelV (.int 32) u
 g_LP : ∃ u, mg "LEAST_PAGES" = some u /\ RelV (.int 2) u
 g_MP : ∃ u, mg "MOST_PAGES" = some u /\ RelV (.int 16) u
 g_TO : ∃ u, mg "TORN" = some u /\ RelV (.str "torn") u
 n_len : mg "len" = none
 n_range : mg "range" = none
 n_int : mg "int" = none
 n_list : mg "list" = none
 n_sum : mg "sum" = none
 n_max : mg "max" = none
 n_min : mg "min" = none
 n_isinstance : mg "isinstance" = none
 n_ValueError : mg "ValueError" = none
theorem xJv {X : Cx} {x : Str} {v : V} {pos : Pos} (hg : Gl X x) (h : ∃ u, X.mg x = some u /\ RelV v u) (hd : (x == ("__debug__" : Str)) = false := by decide) : PE X (.Name x pos) (tC v) := by
 obtain ⟨u, a, b⟩ := h
 exact pe_glob hg a b hd
section
variable {P : Program} {w : World} {K : PySem.W.Frag} {mg : Str -> Option Value} {base : Heap} {C cBS cNP cNE cNS cBC cCu cWE : Addr}
def spCB (C cNP : Addr) : Sp := fun vs H Q E => ∃ (p : Addr) (b : Int) (S : CS) (hl el : Addr) (rl : List Addr), vs = [.ref p, .int b] /\ ChipAt C H p S hl el rl /\ if S.okB b then Q .non H else ∀ x, E (.ref cNP) (some x) H
theorem scCB : FnScope ["self", "block"] ["self", "block"] (defScope sCB) := ⟨rfl, rfl, rfl, by decide +kernel, rfl, by decide +kernel, by decide +kernel⟩
theorem xKq {f : Addr} {fd : FuncData} (F : Fun K "check_block" "Chip.check_block" sCB f fd) (T : Txt K mg C cBS cNP cNE cNS cBC cCu cWE) : FnOk P w K mg base (CXw P w) 51 f fd ["self", "block"] (spCB C cNP) := by
 refine F.okX (by decide) scCB (fun vs H Q E h => ?_) (fun cdv A outer s H vs Q E hr h => ?_)
 . obtain ⟨p, b, S, hl, el, rl, rfl, _⟩ := h
   rfl
 . obtain ⟨p, b, S, hl, el, rl, rfl, A1, h⟩ := h
   obtain ⟨dx, h1⟩ := A1.ob
   refine ⟨_, (@zWw _ _ _ (@yQq _ _ _ _ _ _ _ _ (@yWk _ _ _ _ (@yQv _ _ _ _ _ _ _ _ _ _ _ _ (@xQq _) (@op_lt _) zWz (pv 1) (@zZq _ _ _ _ _ (pv 0) rfl) (by with_unfolding_all rfl))) (@zWw _ _ _ (@zKk _ _ _ _ _ _ _ _ _ _ zKj T.x_NoPage rfl rfl T.g_NoPage (@zQw _ _ _ _ _ (@zQv _ _ _ _) zQk (by exact zQq rfl)) (by decide) (by exact zQq rfl) (by exact zQx rfl))) (@zZw _))), ?_⟩
   refine ⟨_, rfl, _, _, rfl, rfl, _, rfl, ite2 (fun h0 => ?_) fun h0 => ?_⟩
   . refine ⟨_, rfl, p, C, dx, _, _, rfl, h1, T.cl, T.aB, rfl, _, _, rfl, rfl, _, rfl, ?_⟩
     have h0' : 0 <= b := by simpa using h0
     by_cases hb : b < S.nb
     . rw [decide_eq_true hb]
       rw [if_pos ⟨h0', hb⟩] at h
       exact iteF h
     . rw [decide_eq_false hb]
       rw [if_neg fun z => hb z.2] at h
       exact iteT ⟨by decide, h⟩
   . have h0' : ¬ 0 <= b := by simpa using h0
     rw [if_neg fun z => h0' z.1] at h
     exact ⟨_, rfl, iteT ⟨by decide, h⟩⟩
end
theorem ChipAt.put {C : Addr} {H : Hp} {p dx : Addr} {S S' : CS} {hl el : Addr} {rl : List Addr} (A : ChipAt C H p S hl el rl) (hr : S'.rows = S.rows) (hw : S'.worn = S.worn) (wf : Wf S') : ChipAt C (upd H p (.ins C dx (chipF S' hl el))) p S' hl el rl := by
 have ne : ∀ b ∈ hl :: el :: rl, ∀ o, H b = some o -> upd H p (.ins C dx (chipF S' hl el)) b = some o := fun b m o e => by rw [zWx (A.np_ m)]; exact e
 refine ⟨⟨dx, zQz⟩, ne _ (by simp) _ A.hd, ?_, ?_, A.nd, wf⟩
 . rw [hw]
   exact ne _ (by simp) _ A.er
 . rw [hr]
   exact A.rw.keep fun b m => ne b (by simp [m])
theorem yZw {α : Type} {xs : List α} {i : Int} {v : α} (h0 : 0 <= i) (h : xs[i.toNat]? = some v) : atI xs i = some v := by
 obtain ⟨n, rfl⟩ := Int.eq_ofNat_of_zero_le h0
 exact atI_nat h
theorem ixN_of {n : Nat} {i : Int} (h0 : 0 <= i) (h : i < n) : ixN n i = some i.toNat := by
 unfold ixN
 rw [if_pos h0, if_pos h]
theorem Wf.row {S : CS} (W : Wf S) {b : Int} (h : S.okB b) : S.rows[b.toNat]? = some (S.row b) /\ (S.row b).length = S.np /\ (S.row b).all plainV = true := by
 have hb : b.toNat < S.rows.length := by
   rw [W.rl]
   have := h.1
   have := h.2
   omega
 have e : S.rows[b.toNat]? = some (S.row b) := by
   unfold CS.row
   rw [List.getD_eq_getElem?_getD, List.getElem?_eq_getElem hb]
   rfl
 exact ⟨e, W.rp _ (List.mem_of_getElem? e)⟩
section
variable {P : Program} {w : World} {K : PySem.W.Frag} {mg : Str -> Option Value} {base : Heap} {C cBS cNP cNE cNS cBC cCu cWE : Addr}
def spCP (C cNP : Addr) : Sp := fun vs H Q E => ∃ (p : Addr) (b g : Int) (S : CS) (hl el : Addr) (rl : List Addr), vs = [.ref p, .int b, .int g] /\ ChipAt C H p S hl el rl /\ if S.okP b g then Q .non H else ∀ x, E (.ref cNP) (some x) H
theorem scCP : FnScope ["self", "block", "page"] ["self", "block", "page"] (defScope sCP) := ⟨rfl, rfl, rfl, by decide +kernel, rfl, by decide +kernel, by decide +kernel⟩
theorem ok_check_page {f : Addr} {fd : FuncData} (F : Fun K "check_page" "Chip.check_page" sCP f fd) (T : Txt K mg C cBS cNP cNE cNS cBC cCu cWE)
   (M_check_block : MtB P w K mg base C 51 "check_block" ["self", "block"] (spCB C cNP)) : FnOk P w K mg base (CXw P w) 52 f fd ["self", "block", "page"] (spCP C cNP) := by
 refine F.okX (by decide) scCP (fun vs H Q E h => ?_) (fun cdv A outer s H vs Q E hr h => ?_)
 . obtain ⟨p, b, g, S, hl, el, rl, rfl, _⟩ := h
   rfl
 . obtain ⟨p, b, g, S, hl, el, rl, rfl, A1, h⟩ := h
   obtain ⟨dx, h1⟩ := A1.ob
   refine ⟨_, (@zQj _ _ _ _ _ (@zJj _ _ _ _ (@zZj _ _ _ _ _ _ _ _ _ _ _ _ _ _ _ T.cl M_check_block (hr.mono (by decide)) zWj (pv 0) (@zQw _ _ _ _ _ (pv 1) zQk (by exact zQq rfl)) (by exact zQq rfl) (by exact zQx rfl) (by rfl)) (by rfl)) (@zWw _ _ _ (@yQq _ _ _ _ _ _ _ _ (@yWk _ _ _ _ (@yQv _ _ _ _ _ _ _ _ _ _ _ _ (@xQq _) (@op_lt _) zWz (pv 2) (@zZq _ _ _ _ _ (pv 0) rfl) (by with_unfolding_all rfl))) (@zWw _ _ _ (@zKk _ _ _ _ _ _ _ _ _ _ zKj T.x_NoPage rfl rfl T.g_NoPage (@zQw _ _ _ _ _ (@zQv _ _ _ _) zQk (by exact zQq rfl)) (by decide) (by exact zQq rfl) (by exact zQx rfl))) (@zZw _)))), ?_⟩
   refine ⟨_, rfl, p, dx, _, rfl, h1, rfl, _, rfl, p, b, S, hl, el, rl, rfl, A1, ?_⟩
   by_cases hb : S.okB b
   . rw [if_pos hb]
     refine ⟨_, rfl, _, _, rfl, rfl, _, rfl, ite2 (fun h0 => ?_) fun h0 => ?_⟩
     . refine ⟨_, rfl, p, C, dx, _, _, rfl, h1, T.cl, T.aP, rfl, _, _, rfl, rfl, _, rfl, ?_⟩
       have h0' : 0 <= g := by simpa using h0
       by_cases hg : g < S.np
       . rw [decide_eq_true hg]
         rw [if_pos ⟨hb, h0', hg⟩] at h
         exact iteF h
       . rw [decide_eq_false hg]
         rw [if_neg fun z => hg z.2.2] at h
         exact iteT ⟨by decide, h⟩
     . have h0' : ¬ 0 <= g := by simpa using h0
       rw [if_neg fun z => h0' z.2.1] at h
       exact ⟨_, rfl, iteT ⟨by decide, h⟩⟩
   . rw [if_neg hb]
     rw [if_neg fun z => hb z.1] at h
     exact h
def spSize (C : Addr) : Sp := fun vs H Q _ => ∃ (p : Addr) (S : CS) (hl el : Addr) (rl : List Addr), vs = [.ref p] /\ ChipAt C H p S hl el rl /\ ∀ t, H t = none -> Q (.ref t) (upd H t (.tup [.int S.nb, .int S.np]))
theorem scSz : FnScope ["self"] ["self"] (defScope sSize) := ⟨rfl, rfl, rfl, by decide +kernel, rfl, by decide +kernel, by decide +kernel⟩
theorem ok_size {f : Addr} {fd : FuncData} (F : Fun K "size" "Chip.size" sSize f fd) (T : Txt K mg C cBS cNP cNE cNS cBC cCu cWE) : FnOk P w K mg base (CXw P w) 51 f fd ["self"] (spSize C) := by
 refine F.okX (by decide) scSz (fun vs H Q E h => ?_) (fun cdv A outer s H vs Q E hr h => ?_)
 . obtain ⟨p, S, hl, el, rl, rfl, _⟩ := h
   rfl
 . obtain ⟨p, S, hl, el, rl, rfl, A1, h⟩ := h
   obtain ⟨dx, h1⟩ := A1.ob
   refine ⟨_, (@zWw _ _ _ (@zWv _ _ _ _ (@zJz _ _ _ _ _ (@zQw _ _ _ _ _ (@zZq _ _ _ _ _ (pv 0) rfl) (@zQw _ _ _ _ _ (@zZq _ _ _ _ _ (pv 0) rfl) zQk (by exact zQq rfl)) (by exact zQq rfl))))), ?_⟩
   exact ⟨_, rfl, p, C, dx, _, _, rfl, h1, T.cl, T.aB, rfl, _, rfl, p, C, dx, _, _, rfl, h1, T.cl, T.aP, rfl, by show 2 <= sizeLine; decide, fun t ht => h t ht⟩
def spWritten (C : Addr) : Sp := fun vs H Q _ => ∃ (p : Addr) (S : CS) (hl el : Addr) (rl : List Addr), vs = [.ref p] /\ ChipAt C H p S hl el rl /\ Q (.int S.many) H
theorem scWn : FnScope ["self"] ["self"] (defScope sWritten) := ⟨rfl, rfl, rfl, by decide +kernel, rfl, by decide +kernel, by decide +kernel⟩
theorem ok_written {f : Addr} {fd : FuncData} (F : Fun K "written" "Chip.written" sWritten f fd) (T : Txt K mg C cBS cNP cNE cNS cBC cCu cWE) : FnOk P w K mg base (CXw P w) 51 f fd ["self"] (spWritten C) := by
 refine F.okX (by decide) scWn (fun vs H Q E h => ?_) (fun cdv A outer s H vs Q E hr h => ?_)
 . obtain ⟨p, S, hl, el, rl, rfl, _⟩ := h
   rfl
 . obtain ⟨p, S, hl, el, rl, rfl, A1, h⟩ := h
   obtain ⟨dx, h1⟩ := A1.ob
   exact ⟨_, (@zWw _ _ _ (@zWv _ _ _ _ (@zZq _ _ _ _ _ (pv 0) rfl))), _, rfl, p, C, dx, _, _, rfl, h1, T.cl, T.aW, rfl, h⟩
def spPage (C cNP : Addr) : Sp := fun vs H Q E => ∃ (p : Addr) (b g : Int) (S : CS) (hl el : Addr) (rl : List Addr), vs = [.ref p, .int b, .int g] /\ ChipAt C H p S hl el rl /\ if S.okP b g then Q ((S.row b).getD g.toNat .non) H else ∀ x, E (.ref cNP) (some x) H
theorem scPg : FnScope ["self", "block", "page"] ["self", "block", "page"] (defScope sPage) := ⟨rfl, rfl, rfl, by decide +kernel, rfl, by decide +kernel, by decide +kernel⟩
theorem ok_page {f : Addr} {fd : FuncData} (F : Fun K "page" "Chip.page" sPage f fd) (T : Txt K mg C cBS cNP cNE cNS cBC cCu cWE)
   (M_check_page : MtB P w K mg base C 52 "check_page" ["self", "block", "page"] (spCP C cNP)) : FnOk P w K mg base (CXw P w) 53 f fd ["self", "block", "page"] (spPage C cNP) := by
 refine F.okX (by decide) scPg (fun vs H Q E h => ?_) (fun cdv A outer s H vs Q E hr h => ?_)
 . obtain ⟨p, b, g, S, hl, el, rl, rfl, _⟩ := h
   rfl
 . obtain ⟨p, b, g, S, hl, el, rl, rfl, A1, h⟩ := h
   obtain ⟨dx, h1⟩ := A1.ob
   refine ⟨_, (@zQj _ _ _ _ _ (@zJj _ _ _ _ (@zZj _ _ _ _ _ _ _ _ _ _ _ _ _ _ _ T.cl M_check_page (hr.mono (by decide)) zWj (pv 0) (@zQw _ _ _ _ _ (pv 1) (@zQw _ _ _ _ _ (pv 2) zQk (by exact zQq rfl)) (by exact zQq rfl)) (by exact zQq rfl) (by exact zQx rfl) (by rfl)) (by rfl)) (@zWw _ _ _ (@zWv _ _ _ _ (@zJw _ _ _ _ _ _ _ (@zJx _) (@zJw _ _ _ _ _ _ _ (@zJx _) (@zZq _ _ _ _ _ (pv 0) rfl) (pv 1) (fun _ _ => rfl)) (pv 2) (fun _ _ => rfl))))), ?_⟩
   refine ⟨_, rfl, p, dx, _, rfl, h1, rfl, _, rfl, _, rfl, p, b, g, S, hl, el, rl, rfl, A1, ?_⟩
   by_cases hb : S.okP b g
   . rw [if_pos hb]
     rw [if_pos hb] at h
     obtain ⟨r1, r2, _⟩ := A1.wf.row hb.1
     obtain ⟨a, ea, ha⟩ := A1.rw.row r1
     have eg : (S.row b)[g.toNat]? = some ((S.row b).getD g.toNat .non) := by
       have : g.toNat < (S.row b).length := by
         rw [r2]
         have := hb.2.1
         have := hb.2.2
         omega
       rw [List.getD_eq_getElem?_getD, List.getElem?_eq_getElem this]
       rfl
     exact ⟨_, rfl, p, C, dx, _, _, rfl, h1, T.cl, T.aH, rfl, _, rfl, hl, _, b, _, rfl, rfl, SqL.of A1.hd, yZw hb.1.1 (by rw [List.getElem?_map, ea]; rfl), _, rfl, a, _, g, _, rfl, rfl, SqL.of ha, yZw hb.2.1 eg, h⟩
   . rw [if_neg hb]
     rw [if_neg hb] at h
     exact h
def spWorn (C cNP : Addr) : Sp := fun vs H Q E => ∃ (p : Addr) (b : Int) (S : CS) (hl el : Addr) (rl : List Addr), vs = [.ref p, .int b] /\ ChipAt C H p S hl el rl /\ if S.okB b then Q (.int (S.worn.getD b.toNat 0)) H else ∀ x, E (.ref cNP) (some x) H
theorem scWo : FnScope ["self", "block"] ["self", "block"] (defScope sWorn) := ⟨rfl, rfl, rfl, by decide +kernel, rfl, by decide +kernel, by decide +kernel⟩
theorem Wf.worn_at {S : CS} (W : Wf S) {b : Int} (h : S.okB b) : S.worn[b.toNat]? = some (S.worn.getD b.toNat 0) := by
 have hb : b.toNat < S.worn.length := by
   rw [W.wl]
   have := h.1
   have := h.2
   omega
 rw [List.getD_eq_getElem?_getD, List.getElem?_eq_getElem hb]
 rfl
theorem ok_worn {f : Addr} {fd : FuncData} (F : Fun K "worn" "Chip.worn" sWorn f fd) (T : Txt K mg C cBS cNP cNE cNS cBC cCu cWE)
   (M_check_block : MtB P w K mg base C 51 "check_block" ["self", "block"] (spCB C cNP)) : FnOk P w K mg base (CXw P w) 52 f fd ["self", "block"] (spWorn C cNP) := by
 refine F.okX (by decide) scWo (fun vs H Q E h => ?_) (fun cdv A outer s H vs Q E hr h => ?_)
 . obtain ⟨p, b, S, hl, el, rl, rfl, _⟩ := h
   rfl
 . obtain ⟨p, b, S, hl, el, rl, rfl, A1, h⟩ := h
   obtain ⟨dx, h1⟩ := A1.ob
   refine ⟨_, (@zQj _ _ _ _ _ (@zJj _ _ _ _ (@zZj _ _ _ _ _ _ _ _ _ _ _ _ _ _ _ T.cl M_check_block (hr.mono (by decide)) zWj (pv 0) (@zQw _ _ _ _ _ (pv 1) zQk (by exact zQq rfl)) (by exact zQq rfl) (by exact zQx rfl) (by rfl)) (by rfl)) (@zWw _ _ _ (@zWv _ _ _ _ (@zJw _ _ _ _ _ _ _ (@zJx _) (@zZq _ _ _ _ _ (pv 0) rfl) (pv 1) (fun _ _ => rfl))))), ?_⟩
   refine ⟨_, rfl, p, dx, _, rfl, h1, rfl, _, rfl, p, b, S, hl, el, rl, rfl, A1, ?_⟩
   by_cases hb : S.okB b
   . rw [if_pos hb]
     rw [if_pos hb] at h
     exact ⟨_, rfl, p, C, dx, _, _, rfl, h1, T.cl, T.aE, rfl, _, rfl, el, _, b, _, rfl, rfl, SqL.of A1.er, yZw hb.1 (by rw [List.getElem?_map, A1.wf.worn_at hb]; rfl), h⟩
   . rw [if_neg hb]
     rw [if_neg hb] at h
     exact h
def CS.powered (S : CS) (l : Option Int) : CS := { S with left := l, dark := false }
theorem Wf.powered {S : CS} (W : Wf S) {l : Option Int} (h : ∀ k, l = some k -> 0 <= k) : Wf (S.powered l) := ⟨W.b1, W.b2, W.p1, W.p2, W.rl, W.rp, W.wl, h⟩
def spPower (C : Addr) : Sp := fun vs H Q _ => ∃ (p : Addr) (l : Option Int) (S : CS) (hl el : Addr) (rl : List Addr), vs = [.ref p, leftV l] /\ (∀ k, l = some k -> 0 <= k) /\ ChipAt C H p S hl el rl /\
 ∀ H', ChipAt C H' p (S.powered l) hl el rl -> SameBut [p] H H' -> Q .non H'
theorem scPw : FnScope ["self", "many"] ["self", "many"] (defScope sPower) := ⟨rfl, rfl, rfl, by decide +kernel, rfl, by decide +kernel, by decide +kernel⟩
theorem ok_power {f : Addr} {fd : FuncData} (F : Fun K "power" "Chip.power" sPower f fd) (T : Txt K mg C cBS cNP cNE cNS cBC cCu cWE) : FnOk P w K mg base (CXw P w) 51 f fd ["self", "many"] (spPower C) := by
 refine F.okX (by decide) scPw (fun vs H Q E h => ?_) (fun cdv A outer s H vs Q E hr h => ?_)
 . obtain ⟨p, l, S, hl, el, rl, rfl, _⟩ := h
   rfl
 . obtain ⟨p, l, S, hl, el, rl, rfl, hk, A1, h⟩ := h
   obtain ⟨dx, h1⟩ := A1.ob
   refine ⟨_, (@zQj _ _ _ _ _ (@zKw _ _ _ _ _ _ _ _ (pv 0) (pv 1) rfl) (@zWw _ _ _ (@zKw _ _ _ _ _ _ _ _ (pv 0) (@pe_bl _ _ _ _) rfl))), ?_⟩
   refine ⟨_, rfl, _, rfl, p, C, dx, _, rfl, h1, T.cl, T.aL, by show 7 < 1000; decide, _, rfl, p, C, dx, _, rfl, zQz, T.cl, T.aD, by show 7 < 1000; decide, ?_⟩
   rw [yZv]
   exact h _ (A1.put (S' := S.powered l) rfl rfl (A1.wf.powered hk)) (yWj (by simp))
def spDraw (C cCu : Addr) : Sp := fun vs H Q E => ∃ (p : Addr) (S : CS) (hl el : Addr) (rl : List Addr), vs = [.ref p] /\ ChipAt C H p S hl el rl /\ match S.draw with
 | none => ∀ x, E (.ref cCu) (some x) H
 | some (l, S1) => ∀ H', ChipAt C H' p S1 hl el rl -> SameBut [p] H H' -> Q (.bl l) H'
theorem scDr : FnScope ["self"] ["self"] (defScope sDraw) := ⟨rfl, rfl, rfl, by decide +kernel, rfl, by decide +kernel, by decide +kernel⟩
theorem ok_draw {f : Addr} {fd : FuncData} (F : Fun K "draw_power" "Chip.draw_power" sDraw f fd) (T : Txt K mg C cBS cNP cNE cNS cBC cCu cWE) : FnOk P w K mg base (CXw P w) 51 f fd ["self"] (spDraw C cCu) := by
 refine F.okX (by decide) scDr (fun vs H Q E h => ?_) (fun cdv A outer s H vs Q E hr h => ?_)
 . obtain ⟨p, S, hl, el, rl, rfl, _⟩ := h
   rfl
 . obtain ⟨p, S, hl, el, rl, rfl, A1, h⟩ := h
   obtain ⟨dx, h1⟩ := A1.ob
   have W := A1.wf
   refine ⟨_, (@zQj _ _ _ _ _ (@yQq _ _ _ _ _ _ _ _ (@yZk _ _ _ (@zZq _ _ _ _ _ (pv 0) rfl) (by intro _; rfl)) (@zWw _ _ _ (@zKk _ _ _ _ _ _ _ _ _ _ zKj T.x_Cut rfl rfl T.g_Cut (@zQw _ _ _ _ _ (@zQv _ _ _ _) zQk (by exact zQq rfl)) (by decide) (by exact zQq rfl) (by exact zQx rfl))) (@zZw _)) (@zQj _ _ _ _ _ (@yQq _ _ _ _ _ _ _ _ (@xKj _ _ _ _ _ _ (@pc_isN _ _ _ _ _ (@zZq _ _ _ _ _ (pv 0) rfl)) (by first | exact nobehind _ (by decide) (by decide) | rfl)) (@zWw _ _ _ (@zWv _ _ _ _ (@pe_bl _ _ _ _))) (@zZw _)) (@zQj _ _ _ _ _ (@yQq _ _ _ _ _ _ _ _ (@zKz _ _ _ _ _ _ _ _ (@xQq _) (@zZq _ _ _ _ _ (pv 0) rfl) zWz (@nomark _ _ (by decide) (by decide))) (@zQj _ _ _ _ _ (@zKw _ _ _ _ _ _ _ _ (pv 0) (@pe_bl _ _ _ _) rfl) (@zWw _ _ _ (@zWv _ _ _ _ (@pe_bl _ _ _ _)))) (@zZw _)) (@zQj _ _ _ _ _ (@zKw _ _ _ _ _ _ _ _ (pv 0) (@zJk _ _ _ _ _ _ _ _ (@op_sub _) (@zZq _ _ _ _ _ (pv 0) rfl) zWz) rfl) (@zWw _ _ _ (@zWv _ _ _ _ (@pe_bl _ _ _ _))))))), ?_⟩
   obtain ⟨nb, np, rows, worn, many, left, dark⟩ := S
   refine ⟨_, rfl, p, C, dx, _, _, rfl, h1, T.cl, T.aD, rfl, _, rfl, ?_⟩
   unfold CS.draw at h
   cases dark with
   | true => exact iteT ⟨by decide, h⟩
   | false =>
     rw [if_neg Bool.false_ne_true] at h
     refine iteF ⟨_, rfl, p, C, dx, _, _, rfl, h1, T.cl, T.aL, rfl, _, rfl, ?_⟩
     cases left with
     | none => exact iteT (h H A1 (SameBut.refl _ _))
     | some k =>
       refine iteF ⟨_, rfl, p, C, dx, _, _, rfl, h1, T.cl, T.aL, rfl, k, 0, rfl, rfl, _, rfl, ?_⟩
       by_cases h0 : k <= 0
       . rw [decide_eq_true h0]
         simp only [h0, if_true] at h
         refine iteT ⟨_, rfl, p, C, dx, _, rfl, h1, T.cl, T.aD, by show 7 < 1000; decide, ?_⟩
         exact h _ (A1.put (S' := ⟨nb, np, rows, worn, many, some k, true⟩) rfl rfl ⟨W.b1, W.b2, W.p1, W.p2, W.rl, W.rp, W.wl, W.lf⟩) (yWj (by simp))
       . rw [decide_eq_false h0]
         simp only [h0, if_false] at h
         refine iteF ⟨_, rfl, p, C, dx, _, _, rfl, h1, T.cl, T.aL, rfl, k, 1, rfl, rfl, _, rfl, p, C, dx, _, rfl, h1, T.cl, T.aL, by show 7 < 1000; decide, ?_⟩
         exact h _ (A1.put (S' := ⟨nb, np, rows, worn, many, some (k - 1), false⟩) rfl rfl ⟨W.b1, W.b2, W.p1, W.p2, W.rl, W.rp, W.wl, fun j e => by cases e; omega⟩) (yWj (by simp))
end
theorem cut_from (xs : List V) {g : Int} (h : 0 <= g) : cutV xs (some g) none = xs.drop g.toNat := by
 obtain ⟨n, rfl⟩ := Int.eq_ofNat_of_zero_le h
 unfold cutV
 rw [HT.sIx_none, HT.sIx_nat, Int.toNat_natCast]
 by_cases hn : n <= xs.length
 . rw [Nat.min_eq_left hn]
   exact List.take_of_length_le (by rw [List.length_drop]; exact Nat.le_refl _)
 . have hn' : xs.length <= n := by omega
   rw [Nat.min_eq_right hn', List.drop_of_length_le (Nat.le_refl _), List.drop_of_length_le hn']
   simp
section
variable {P : Program} {w : World} {K : PySem.W.Frag} {mg : Str -> Option Value} {base : Heap} {C cBS cNP cNE cNS cBC cCu cWE : Addr}
def spCE (C cNE : Addr) : Sp := fun vs H Q E => ∃ (p : Addr) (b g : Int) (S : CS) (hl el : Addr) (rl : List Addr), vs = [.ref p, .int b, .int g] /\ ChipAt C H p S hl el rl /\ S.okP b g /\
 ∀ H', Same H H' -> if S.clear b g = true then Q .non H' else ∀ x, E (.ref cNE) (some x) H'
theorem scCE : FnScope ["self", "block", "page", "thing"] ["self", "block", "page"] (defScope sCE) := ⟨rfl, rfl, rfl, by decide +kernel, rfl, by decide +kernel, by decide +kernel⟩
theorem xZk {f : Addr} {fd : FuncData} (F : Fun K "check_erased_from" "Chip.check_erased_from" sCE f fd) (T : Txt K mg C cBS cNP cNE cNS cBC cCu cWE) : FnOk P w K mg base (CXw P w) 51 f fd ["self", "block", "page"] (spCE C cNE) := by
 refine F.okX (by decide) scCE (fun vs H Q E h => ?_) (fun cdv A outer s H vs Q E hr h => ?_)
 . obtain ⟨p, b, g, S, hl, el, rl, rfl, _⟩ := h
   rfl
 . obtain ⟨p, b, g, S, hl, el, rl, rfl, A1, hb, h⟩ := h
   obtain ⟨dx, h1⟩ := A1.ob
   obtain ⟨r1, r2, _⟩ := A1.wf.row hb.1
   obtain ⟨a, ea, ha⟩ := A1.rw.row r1
   refine ⟨_, (@zWw _ _ _ (@yKj _ _ _ _ _ _ _ _ PassesOwn.leaving rfl (@yWw _ _ _ _ (@wZq _ _ _ _ _ _ _ _ _ _ (@sl_list _) (@zJw _ _ _ _ _ _ _ (@zJx _) (@zZq _ _ _ _ _ (pv 0) rfl) (pv 1) (fun _ _ => rfl)) (@po_some _ _ _ (pv 2)) (@po_none _))) (@yQk _ _ (3) _ scCE.nd rfl (Or.inl rfl) (by first | exact .inl rfl | exact .inr rfl | assumption)) (@zWw _ _ _ (@yQq _ _ _ _ _ _ _ _ (@xKj _ _ _ _ _ _ (@pc_notN _ _ _ _ _ (pv 3)) (by first | exact nobehind _ (by decide) (by decide) | rfl)) (@zWw _ _ _ (@zKk _ _ _ _ _ _ _ _ _ _ zKj T.x_NotErased rfl rfl T.g_NotErased (@zQw _ _ _ _ _ (@zQv _ _ _ _) zQk (by exact zQq rfl)) (by decide) (by exact zQq rfl) (by exact zQx rfl))) (@zZw _))) (by intro _; rfl))), ?_⟩
   refine ⟨_, rfl, p, C, dx, _, _, rfl, h1, T.cl, T.aH, rfl, _, rfl, hl, _, b, _, rfl, rfl, SqL.of A1.hd, yZw hb.1.1 (by rw [List.getElem?_map, ea]; rfl), _, rfl, g, rfl, a, _, rfl, SqL.of ha, fun l nl => ?_⟩
   rw [cut_from _ hb.2.1]
   have s1 : Same H (upd H l (.lst ((S.row b).drop g.toNat))) := zWq nl
   have hh := h _ s1
   refine ⟨l, rfl, ⟨_, SqL.of zQz⟩, for_list (K := K) (a := l) (xs := (S.row b).drop g.toNat) (fun i σ H2 => H2 = upd H l (.lst ((S.row b).drop g.toNat)) /\ (∃ v, σ = [some (.ref p), some (.int b), some (.int g), v]) /\ ∀ j v, j < i -> ((S.row b).drop g.toNat)[j]? = some v -> v = .non)
     ⟨rfl, ⟨none, rfl⟩, fun j _ z => absurd z (Nat.not_lt_zero _)⟩ (fun i σ H2 _ ⟨e, _⟩ => by rw [e]; exact SqL.of zQz) ?_ ?_⟩
   . rintro i x σ H2 hi ⟨rfl, ⟨v, rfl⟩, hall⟩
     refine ⟨_, rfl, _, rfl, ?_⟩
     by_cases hx : x = .non
     . rw [decide_eq_true hx]
       refine iteF ⟨rfl, ⟨_, rfl⟩, fun j v hj ev => ?_⟩
       rcases Nat.lt_succ_iff_lt_or_eq.mp hj with z | z
       . exact hall j v z ev
       . rw [z, hi] at ev
         cases ev
         exact hx
     . rw [decide_eq_false hx]
       have nc : S.clear b g = false := by
         unfold CS.clear
         refine Bool.eq_false_iff.mpr fun z => ?_
         have := List.all_eq_true.mp z x (List.mem_of_getElem? hi)
         exact hx (of_decide_eq_true this)
       rw [if_neg (by rw [nc]; exact Bool.false_ne_true)] at hh
       exact iteT ⟨by decide, hh⟩
   . rintro σ H2 ⟨rfl, _, hall⟩
     have yc : S.clear b g = true := by
       unfold CS.clear
       refine List.all_eq_true.mpr fun v hv => ?_
       obtain ⟨j, hj, e⟩ := List.mem_iff_getElem.mp hv
       exact decide_eq_true (hall j v hj (by rw [<- e]; simp [hj]))
     rw [if_pos yc] at hh
     exact hh
end
def CompW (H1 : Hp) (acc : Addr) (n : Nat) (f : Nat -> List V) (i m : Nat) (ys : List V) (H2 : Hp) : Prop := m = n - i /\ i <= n /\ ∃ rl : List Addr, ys = rl.map V.ref /\ rl.length = i /\ rl.Nodup /\ acc ∉ rl /\ (∀ j a, rl[j]? = some a -> H2 a = some (.lst (f j)) /\ H1 a = none) /\ H2 acc = some (.lst ys) /\ Same H1 H2
theorem comp_lists {J : It} {H1 : Hp} {acc : Addr} {tt : TT} {te : TE} {Q : VK} {σc : St} (n : Nat) (hn : n < 1000) (f : Nat -> List V) (nacc : H1 acc = none)
   (stop : ∀ H2, Same H1 H2 -> J.stop n H2) (go : ∀ i H2, i < n -> Same H1 H2 -> J.go i H2)
   (elt : ∀ i x H2 H3 (R : V -> Hp -> Prop), i < n -> Same H1 H2 -> J.yld i H2 x H3 -> (∀ p H5, H2 p = none -> H5 p = some (.lst (f i)) -> Same H2 H5 -> R (.ref p) H5) -> tt (some x :: σc) H3 fun b H4 =>
     if b = true then te (some x :: σc) H4 R else False)
   (mono : ∀ σ H (R R' : Bool -> Hp -> Prop), (∀ b H', R b H' -> R' b H') -> tt σ H R -> tt σ H R')
   (fin : ∀ (rl : List Addr) (H2 : Hp), rl.length = n -> rl.Nodup -> acc ∉ rl -> (∀ i a, rl[i]? = some a -> H2 a = some (.lst (f i)) /\ H1 a = none) -> H2 acc = some (.lst (rl.map V.ref)) -> Same H1 H2 -> Q (.ref acc) H2) :
   ∃ W : Nat -> Nat -> List V -> Hp -> Prop, (∃ m, W 0 m [] (upd H1 acc (.lst []))) /\
     ∀ i m ys H2, W i m ys H2 -> (J.stop i H2 /\ Q (.ref acc) H2) \/ (J.go i H2 /\ ∀ x H3, J.yld i H2 x H3 -> tt (some x :: σc) H3 fun b H4 =>
       if b = true then te (some x :: σc) H4 fun y H5 => H5 acc = some (.lst ys) /\ ys.length < sizeLine /\ ∃ m', m' < m /\ W (i + 1) m' (ys ++ [y]) (upd H5 acc (.lst (ys ++ [y])))
       else ∃ m', m' < m /\ W (i + 1) m' ys H4) := by
 refine ⟨CompW H1 acc n f,
   ⟨n, by simp, Nat.zero_le _, [], rfl, rfl, List.nodup_nil, by simp, fun j a e => by simp at e, zQz, zWq nacc⟩, ?_⟩
 rintro i m ys H2 ⟨rfl, hi, rl, rfl, hl, nd, na, hat, hacc, s2⟩
 by_cases hlt : i < n
 . refine .inr ⟨go i H2 hlt s2, fun x H3 y => mono _ _ _ _ (fun b H4 q => ?_) (elt i x H2 H3 (fun y H5 => H5 acc = some (.lst (rl.map V.ref)) /\ (rl.map V.ref).length < sizeLine /\ ∃ m', m' < n - i /\ CompW H1 acc n f (i + 1) m' (rl.map V.ref ++ [y]) (upd H5 acc (.lst (rl.map V.ref ++ [y])))) hlt s2 y fun p H5 np hp s5 => ?_)⟩
   . by_cases hb : b = true
     . rw [if_pos hb] at q ⊢
       exact q
     . rw [if_neg hb] at q
       exact q.elim
   . have pa : p ≠ acc := (zWk hacc np).symm
     have prl : p ∉ rl := fun m => by
       obtain ⟨j, hj, e⟩ := List.mem_iff_getElem.mp m
       have := (hat j p (by rw [<- e]; simp [hj])).1
       rw [np] at this
       cases this
     refine ⟨s5 _ _ hacc, by rw [List.length_map, hl]; exact small1000 (by omega), n - (i + 1), by omega, rfl, hlt, rl ++ [p], by rw [List.map_append]; rfl, by rw [List.length_append, hl]; rfl, ?_, ?_, ?_, zQz, fun b o e => ?_⟩
     . refine List.nodup_append.mpr ⟨nd, by simp, fun a ha b hb => ?_⟩
       obtain rfl : b = p := by simpa using hb
       exact fun z => prl (z ▸ ha)
     . intro m
       rcases List.mem_append.mp m with z | z
       . exact na z
       . exact pa (by simpa using z : acc = p).symm
     . intro j a e
       have aacc : a ≠ acc := by
         intro z
         have m := List.mem_of_getElem? e
         rcases List.mem_append.mp m with q | q
         . exact na (z ▸ q)
         . exact pa (by rw [<- z]; exact (by simpa using q : a = p).symm)
       rw [zWx aacc]
       by_cases hj : j < rl.length
       . rw [List.getElem?_append_left hj] at e
         obtain ⟨q1, q2⟩ := hat j a e
         exact ⟨s5 _ _ q1, q2⟩
       . have ej : j = rl.length := by
           have := (List.getElem?_eq_some_iff.mp e).1
           rw [List.length_append] at this
           simp at this
           omega
         rw [ej, List.getElem?_append_right (Nat.le_refl _)] at e
         simp at e
         subst e
         rw [ej, hl]
         exact ⟨hp, s2.free np⟩
     . have ba : b ≠ acc := zWk e nacc
       rw [zWx ba]
       exact s5 _ _ (s2 _ _ e)
 . have e : i = n := by omega
   subst e
   exact .inl ⟨stop H2 s2, fin rl H2 hl nd na hat hacc s2⟩
theorem xWj {ta : TA} {ci : List Nat} {tt : TT} {te : TE} {σ : St} {H : Hp} {Q : VK} (j : Int) (h1 : 0 <= j) (h2 : j < 1000) (hta : ∀ R : List V -> Hp -> Prop, R [.int j] H -> ta σ H R) (f : Nat -> List V)
   (mono : ∀ σ H (R R' : Bool -> Hp -> Prop), (∀ b H', R b H' -> R' b H') -> tt σ H R -> tt σ H R')
   (elt : ∀ (i : Nat) H2 (R : V -> Hp -> Prop), (i : Int) < j -> Same H H2 -> (∀ p H5, H2 p = none -> H5 p = some (.lst (f i)) -> Same H2 H5 -> R (.ref p) H5) -> tt (some (.int (0 + (i : Int))) :: capt ci σ) H2 fun b H4 =>
     if b = true then te (some (.int (0 + (i : Int))) :: capt ci σ) H4 R else False)
   (fin : ∀ (acc : Addr) (rl : List Addr) (H2 : Hp), H acc = none -> (rl.length : Int) = j -> rl.Nodup -> acc ∉ rl -> (∀ i a, rl[i]? = some a -> H2 a = some (.lst (f i)) /\ H a = none) -> H2 acc = some (.lst (rl.map V.ref)) -> Same H H2 -> Q (.ref acc) H2) :
   tComp (iRng1 ta) ci tt te σ H Q := by
 unfold tComp
 refine hta _ ⟨j, rfl, by omega, by omega, fun acc nacc => ?_⟩
 refine comp_lists (Q := Q) (J := Itr 0 j.toNat) (σc := capt ci σ) j.toNat (by omega) f nacc (fun _ _ => Nat.le_refl _) (fun _ _ h _ => h) (fun i x H2 H3 R hi s2 y k => ?_) mono fun rl H2 a b c d e g => fin acc rl H2 nacc (by omega) b c d e g
 obtain ⟨rfl, rfl⟩ := y
 exact elt i _ R (by omega) s2 k
theorem tyes {σ : St} {H : Hp} {A : Hp -> Prop} (h : A H) : tYes σ H (fun b H4 => if b = true then A H4 else False) := iteT (B := False) h
theorem yes_mono : ∀ σ H (R R' : Bool -> Hp -> Prop), (∀ b H', R b H' -> R' b H') -> tYes σ H R -> tYes σ H R' := fun _ H _ _ k h => k true H h
theorem wWv (k : Nat) (v : V) : (List.replicate k [v]).flatten = List.replicate k v := by
 induction k with
 | zero => rfl
 | succ k ih => rw [List.replicate_succ, List.flatten_cons, ih, List.replicate_succ]; rfl
def fresh (nb np : Nat) : CS := ⟨nb, np, List.replicate nb (List.replicate np .non), List.replicate nb 0, 0, none, false⟩
theorem rep_get {α : Type} {n i : Nat} {v : α} (h : i < n) : (List.replicate n v)[i]? = some v := by rw [List.getElem?_replicate, if_pos h]
theorem wf_fresh {nb np : Nat} (b1 : 4 <= nb) (b2 : nb <= 32) (p1 : 2 <= np) (p2 : np <= 16) : Wf (fresh nb np) :=
 ⟨b1, b2, p1, p2, List.length_replicate, fun r m => by
   obtain rfl := (List.mem_replicate.mp m).2
   exact ⟨List.length_replicate, List.all_eq_true.mpr fun v hv => by rw [(List.mem_replicate.mp hv).2]; rfl⟩, List.length_replicate, fun k e => by cases e⟩
section
variable {P : Program} {w : World} {K : PySem.W.Frag} {mg : Str -> Option Value} {base : Heap} {C cBS cNP cNE cNS cBC cCu cWE : Addr}
def spInit (C cBS : Addr) : Sp := fun vs H Q E => ∃ (p dx : Addr) (b g : Int), vs = [.ref p, .int b, .int g] /\ H p = some (.ins C dx []) /\
 if 4 <= b /\ b <= 32 /\ 2 <= g /\ g <= 16 then ∀ H' hl el rl, ChipAt C H' p (fresh b.toNat g.toNat) hl el rl -> Did H H' [p] (fpC p hl el rl) -> Q .non H' else ∀ x, E (.ref cBS) (some x) H
theorem scIn : FnScope ["self", "blocks", "pages"] ["self", "blocks", "pages"] (defScope sInit) := ⟨rfl, rfl, rfl, by decide +kernel, rfl, by decide +kernel, by decide +kernel⟩
theorem ok_init {f : Addr} {fd : FuncData} (F : Fun K "__init__" "Chip.__init__" sInit f fd) (T : Txt K mg C cBS cNP cNE cNS cBC cCu cWE) : FnOk P w K mg base (CXw P w) 51 f fd ["self", "blocks", "pages"] (spInit C cBS) := by
 refine F.okX (by decide) scIn (fun vs H Q E h => ?_) (fun cdv A outer s H vs Q E hr h => ?_)
 . obtain ⟨p, dx, b, g, rfl, _⟩ := h
   rfl
 . obtain ⟨p, dx, b, g, rfl, h1, h⟩ := h
   refine ⟨_, (@zQj _ _ _ _ _ (@yQq _ _ _ _ _ _ _ _ (@yWk _ _ _ _ (@yQv _ _ _ _ _ _ _ _ _ _ _ _ (@xQq _) (@xQq _) (@xJv _ _ _ _ rfl T.g_LB (by decide)) (pv 1) (@xJv _ _ _ _ rfl T.g_MB (by decide)) (by with_unfolding_all rfl))) (@zWw _ _ _ (@zKk _ _ _ _ _ _ _ _ _ _ zKj T.x_BadSize rfl rfl T.g_BadSize (@zQw _ _ _ _ _ (@zQv _ _ _ _) zQk (by exact zQq rfl)) (by decide) (by exact zQq rfl) (by exact zQx rfl))) (@zZw _)) (@zQj _ _ _ _ _ (@yQq _ _ _ _ _ _ _ _ (@yWk _ _ _ _ (@yQv _ _ _ _ _ _ _ _ _ _ _ _ (@xQq _) (@xQq _) (@xJv _ _ _ _ rfl T.g_LP (by decide)) (pv 2) (@xJv _ _ _ _ rfl T.g_MP (by decide)) (by with_unfolding_all rfl))) (@zWw _ _ _ (@zKk _ _ _ _ _ _ _ _ _ _ zKj T.x_BadSize rfl rfl T.g_BadSize (@zQw _ _ _ _ _ (@zQv _ _ _ _) zQk (by exact zQq rfl)) (by decide) (by exact zQq rfl) (by exact zQx rfl))) (@zZw _)) (@zQj _ _ _ _ _ (@zKw _ _ _ _ _ _ _ _ (pv 0) (pv 1) rfl) (@zQj _ _ _ _ _ (@zKw _ _ _ _ _ _ _ _ (pv 0) (pv 2) rfl) (@zQj _ _ _ _ _ (@zKw _ _ _ _ _ _ _ _ (pv 0) (@yJw _ _ _ _ _ _ _ _ ([2]) (["pages"]) _ _ _ rfl (@yQj _ _ _ _ _ _ rfl T.n_range (@zQw _ _ _ _ _ (pv 1) zQk (by exact zQq rfl)) (by exact zQq rfl)) rfl (by decide +kernel) (by decide +kernel) (by decide +kernel) (by show ∀ y : Str × NameKind, y ∈ _ -> y.2 = NameKind.free -> List.lookup y.1 (defScope sInit).names = some NameKind.cell; decide +kernel) (by show ∀ p : Str × Nat, p ∈ _ -> List.lookup p.1 _ = some NameKind.free /\ (["self", "blocks", "pages"] : List Str)[p.2]? = some p.1; decide +kernel) rfl (by decide +kernel) (fun _ _ _ _ _ => (@yJq _)) (fun _ _ _ _ _ => (@zJk _ _ _ _ _ _ _ _ (@op_rep _) (@zJv _ _ _ _ (@zQw _ _ _ _ _ (@xQv _ _ _) zQk (by exact zQq rfl))) (pv 1))) (by intro _; rfl)) rfl) (@zQj _ _ _ _ _ (@zKw _ _ _ _ _ _ _ _ (pv 0) (@zJk _ _ _ _ _ _ _ _ (@op_rep _) (@zJv _ _ _ _ (@zQw _ _ _ _ _ zWz zQk (by exact zQq rfl))) (pv 1)) rfl) (@zQj _ _ _ _ _ (@zKw _ _ _ _ _ _ _ _ (pv 0) zWz rfl) (@zQj _ _ _ _ _ (@zKw _ _ _ _ _ _ _ _ (pv 0) (@xQv _ _ _) rfl) (@zWw _ _ _ (@zKw _ _ _ _ _ _ _ _ (pv 0) (@pe_bl _ _ _ _) rfl)))))))))), ?_⟩
   refine ⟨_, rfl, _, _, rfl, rfl, _, rfl, ite2 (fun h0 => ?_) fun h0 => ?_⟩
   rotate_left
   . rw [if_neg fun z => h0 (decide_eq_true z.1)] at h
     exact ⟨_, rfl, iteT ⟨by decide, h⟩⟩
   refine ⟨_, _, rfl, rfl, _, rfl, ?_⟩
   have b1 : 4 <= b := of_decide_eq_true h0
   by_cases b2 : b <= 32
   rotate_left
   . rw [decide_eq_false b2]
     rw [if_neg fun z => b2 z.2.1] at h
     exact iteT ⟨by decide, h⟩
   rw [decide_eq_true b2]
   refine iteF ?_
   refine ⟨_, rfl, _, _, rfl, rfl, _, rfl, ite2 (fun h0 => ?_) fun h0 => ?_⟩
   rotate_left
   . rw [if_neg fun z => h0 (decide_eq_true z.2.2.1)] at h
     exact ⟨_, rfl, iteT ⟨by decide, h⟩⟩
   refine ⟨_, _, rfl, rfl, _, rfl, ?_⟩
   have p1 : 2 <= g := of_decide_eq_true h0
   by_cases p2 : g <= 16
   rotate_left
   . rw [decide_eq_false p2]
     rw [if_neg fun z => p2 z.2.2.2] at h
     exact iteT ⟨by decide, h⟩
   rw [decide_eq_true p2]
   refine iteF ?_
   rw [if_pos ⟨b1, b2, p1, p2⟩] at h
   obtain ⟨bn, rfl⟩ := Int.eq_ofNat_of_zero_le (show 0 <= b by omega)
   obtain ⟨gn, rfl⟩ := Int.eq_ofNat_of_zero_le (show 0 <= g by omega)
   rw [Int.toNat_natCast, Int.toNat_natCast] at h
   refine ⟨_, rfl, _, rfl, p, C, dx, _, rfl, h1, T.cl, T.aB, by show 0 < 1000; decide, _, rfl, _, rfl, p, C, dx, _, rfl, zQz, T.cl, T.aP, by show 1 < 1000; decide, ?_⟩
   rw [yZv]
   generalize hH1 : upd H p _ = H1
   have e1 : H1 p = some (.ins C dx [("blocks", .int bn), ("pages", .int gn)]) := by rw [<- hH1]; exact zQz
   have s1 : SameBut [p] H H1 := by rw [<- hH1]; exact yWj (by simp)
   have f1 : ∀ a, H1 a = none -> H a = none := fun a e => by
     rw [<- hH1] at e
     by_cases z : a = p
     . rw [z, zQz] at e; cases e
     . rw [zWx z] at e; exact e
   refine xWj (bn : Int) (by omega) (by omega) (fun R h => ⟨_, rfl, h⟩) (fun _ => List.replicate gn V.non) yes_mono (fun i H2 R hi s2 k => ?_) fun acc rl H2 nacc hl2 nd2 na2 hat2 hacc2 s2 => ?_
   . refine tyes ⟨by show 1 <= sizeLine; decide, fun l nl => ⟨_, rfl, l, (gn : Int), [.non], rfl, rfl, zQz, by omega, by omega, ?_, fun q nq => ?_⟩⟩
     . show 1 * gn <= sizeLine
       exact Nat.le_of_lt (small1000 (by omega))
     . rw [wWv]
       exact k q _ ((zWq nl).free nq) zQz ((zWq nl).trans (zWq nq))
   have e2 := s2 _ _ e1
   have pacc : p ≠ acc := zWk e1 nacc
   refine ⟨_, rfl, p, C, dx, _, rfl, e2, T.cl, T.aH, by show 2 < 1000; decide, ?_⟩
   refine ⟨by show 1 <= sizeLine; decide, fun l nl => ⟨_, rfl, l, (bn : Int), [.int 0], rfl, rfl, zQz, by omega, by omega, ?_, fun el nel => ?_⟩⟩
   . show 1 * bn <= sizeLine
     exact Nat.le_of_lt (small1000 (by omega))
   rw [wWv]
   have npl : p ≠ l := fun z => by
     rw [<- z, zQz] at nl
     cases nl
   have npe : p ≠ el := fun z => by
     rw [<- z, zWx npl, zQz] at nel
     cases nel
   have pH2 : upd (upd (upd H2 p (HO.ins C dx (putF "held" (V.ref acc) [("blocks", V.int bn), ("pages", V.int gn)]))) l (.lst [.int 0])) el (.lst (List.replicate bn (.int 0))) p = some (.ins C dx [("blocks", V.int bn), ("pages", V.int gn), ("held", V.ref acc)]) := by
     rw [zWx npe, zWx npl, zQz]
     rfl
   refine ⟨_, rfl, p, C, dx, _, rfl, pH2, T.cl, T.aE, by show 3 < 1000; decide, _, rfl, p, C, dx, _, rfl, zQz, T.cl, T.aW, by show 4 < 1000; decide, _, rfl, p, C, dx, _, rfl, zQz, T.cl, T.aL, by show 5 < 1000; decide, _, rfl, p, C, dx, _, rfl, zQz, T.cl, T.aD, by show 6 < 1000; decide, ?_⟩
   rw [yZv, yZv, yZv]
   have tr2 : ∀ a o, H2 a = some o -> a ≠ p -> (upd (upd (upd H2 p (HO.ins C dx (putF "held" (V.ref acc) [("blocks", V.int bn), ("pages", V.int gn)]))) l (.lst [.int 0])) el (.lst (List.replicate bn (.int 0)))) a = some o := fun a o e na => by
     have al : a ≠ l := fun z => by
       rw [z] at na e
       rw [zWx na, e] at nl
       cases nl
     have ae : a ≠ el := fun z => by
       rw [z] at na e al
       rw [zWx al, zWx na, e] at nel
       cases nel
     rw [zWx ae, zWx al, zWx na]
     exact e
   have elacc : el ≠ acc := fun z => by
     rw [z, zWx (fun q => by rw [<- q, zWx (Ne.symm pacc), hacc2] at nl; cases nl), zWx (Ne.symm pacc), hacc2] at nel
     cases nel
   have elrl : el ∉ rl := fun m => by
     obtain ⟨j, hj, e⟩ := List.mem_iff_getElem.mp m
     have q := (hat2 j el (by rw [<- e]; simp [hj])).1
     have nq : el ≠ p := Ne.symm npe
     have ql : el ≠ l := fun z => by
       rw [<- z, zWx nq, q] at nl
       cases nl
     rw [zWx ql, zWx nq, q] at nel
     cases nel
   have nprl : ∀ a ∈ rl, a ≠ p := fun a m z => by
     obtain ⟨j, hj, e⟩ := List.mem_iff_getElem.mp m
     have q := (hat2 j a (by rw [<- e]; simp [hj])).2
     rw [z, e1] at q
     cases q
   have H2n : ∀ a, H2 a = none -> H1 a = none := fun a e => s2.free e
   refine h _ acc el rl ⟨⟨dx, zQz⟩, ?_, ?_, ⟨?_, fun i a e => ?_⟩, ?_, wf_fresh (by omega) (by omega) (by omega) (by omega)⟩ ⟨fun a o e na => ?_, fun a m => ?_⟩
   . rw [zWx (Ne.symm pacc)]
     exact tr2 _ _ hacc2 (Ne.symm pacc)
   . rw [zWx (Ne.symm npe), zQz]
     show _ = some (HO.lst ((List.replicate bn 0).map V.int))
     rw [List.map_replicate]
     rfl
   . show rl.length = (List.replicate bn _).length
     rw [List.length_replicate]
     exact Int.ofNat.inj hl2
   . have hi : i < bn := by rw [<- Int.ofNat.inj hl2]; exact (List.getElem?_eq_some_iff.mp e).1
     refine ⟨_, rep_get hi, ?_⟩
     rw [zWx (nprl a (List.mem_of_getElem? e))]
     exact tr2 _ _ (hat2 i a e).1 (nprl a (List.mem_of_getElem? e))
   . refine List.nodup_cons.mpr ⟨fun m => ?_, List.nodup_cons.mpr ⟨elrl, nd2⟩⟩
     rcases List.mem_cons.mp m with z | z
     . exact elacc z.symm
     . exact na2 z
   . have nap : a ≠ p := by simpa using na
     rw [zWx nap]
     exact tr2 _ _ (s2 _ _ (s1 a o e (by simpa using na))) nap
   . rcases List.mem_cons.mp m with z | m
     . exact .inl (by simp [z])
     rcases List.mem_cons.mp m with z | m
     . exact .inr (by rw [z]; exact f1 _ nacc)
     rcases List.mem_cons.mp m with z | m
     . refine .inr (by
         rw [z]
         refine f1 _ (H2n _ ?_)
         have nq : el ≠ p := Ne.symm npe
         by_cases ql : el = l
         . rw [ql, zWx (fun q => npl q.symm)] at *
           exact nl
         . rw [zWx ql, zWx nq] at nel
           exact nel)
     . obtain ⟨j, hj, e⟩ := List.mem_iff_getElem.mp m
       exact .inr (f1 _ (hat2 j a (by rw [<- e]; simp [hj])).2)
end
def clsOf (cBS cNP cNE cCu : Addr) : Ref -> Addr
 | .bs => cBS
 | .np => cNP
 | .ne => cNE
 | .cut => cCu
theorem draw_eq {S S1 : CS} {l : Bool} (h : S.draw = some (l, S1)) : S1.nb = S.nb /\ S1.np = S.np /\ S1.rows = S.rows /\ S1.worn = S.worn /\ S1.many = S.many := by
 unfold CS.draw at h
 split at h
 . cases h
 . split at h
   . cases h; exact ⟨rfl, rfl, rfl, rfl, rfl⟩
   . split at h
     . cases h; exact ⟨rfl, rfl, rfl, rfl, rfl⟩
     . cases h; exact ⟨rfl, rfl, rfl, rfl, rfl⟩
theorem Wf.setRow {S : CS} (W : Wf S) {i : Nat} {r : List V} (h1 : r.length = S.np) (h2 : r.all plainV = true) : Wf { S with rows := S.rows.set i r } :=
 ⟨W.b1, W.b2, W.p1, W.p2, by rw [List.length_set]; exact W.rl, fun q m => by
   rcases List.mem_or_eq_of_mem_set m with z | z
   . exact W.rp q z
   . rw [z]; exact ⟨h1, h2⟩, W.wl, W.lf⟩
theorem ChipAt.putRow {C : Addr} {H : Hp} {p : Addr} {S : CS} {hl el : Addr} {rl : List Addr} (A : ChipAt C H p S hl el rl) {i : Nat} {a : Addr} (e : rl[i]? = some a) {r : List V} (h1 : r.length = S.np) (h2 : r.all plainV = true) :
   ChipAt C (upd H a (.lst r)) p { S with rows := S.rows.set i r } hl el rl := by
 obtain ⟨dx, h⟩ := A.ob
 have nd := A.nd
 obtain ⟨n1, n2⟩ := List.nodup_cons.mp nd
 obtain ⟨n3, n4⟩ := List.nodup_cons.mp n2
 have m := List.mem_of_getElem? e
 have pa : p ≠ a := (A.np_ (by simp [m])).symm
 have ha : hl ≠ a := fun z => n1 (by rw [z]; simp [m])
 have ea : el ≠ a := fun z => n3 (by rw [z]; exact m)
 exact ⟨⟨dx, by rw [zWx pa]; exact h⟩, by rw [zWx ha]; exact A.hd, by rw [zWx ea]; exact A.er, A.rw.put n4 e r, nd, A.wf.setRow h1 h2⟩
theorem all_set {l : List V} {i : Nat} {v : V} (h : l.all plainV = true) (hv : plainV v = true) : (l.set i v).all plainV = true :=
 List.all_eq_true.mpr fun x m => by
   rcases List.mem_or_eq_of_mem_set m with z | z
   . exact List.all_eq_true.mp h x z
   . rw [z]; exact hv
section
variable {P : Program} {w : World} {K : PySem.W.Frag} {mg : Str -> Option Value} {base : Heap} {C cBS cNP cNE cNS cBC cCu cWE : Addr}
def EndsAs (cl : Ref -> Addr) (Q : VK) (E : XK) (H' : Hp) : Option Ref -> Prop
 | none => Q .non H'
 | some k => ∀ x, E (.ref (cl k)) (some x) H'
def spWrite (C : Addr) (cl : Ref -> Addr) : Sp := fun vs H Q E => ∃ (p : Addr) (b g : Int) (t : V) (S : CS) (hl el : Addr) (rl : List Addr), vs = [.ref p, .int b, .int g, t] /\ plainV t = true /\ ChipAt C H p S hl el rl /\
 ∀ H', ChipAt C H' p (S.write b g t).2 hl el rl -> SameBut (fpC p hl el rl) H H' -> EndsAs cl Q E H' (S.write b g t).1
theorem scWr : FnScope ["self", "block", "page", "thing", "lasts"] ["self", "block", "page", "thing"] (defScope sWrite) := ⟨rfl, rfl, rfl, by decide +kernel, rfl, by decide +kernel, by decide +kernel⟩
theorem ok_write {f : Addr} {fd : FuncData} (F : Fun K "write" "Chip.write" sWrite f fd) (T : Txt K mg C cBS cNP cNE cNS cBC cCu cWE)
   (M_check_page : MtB P w K mg base C 52 "check_page" ["self", "block", "page"] (spCP C cNP)) (M_check_erased_from : MtB P w K mg base C 51 "check_erased_from" ["self", "block", "page"] (spCE C cNE)) (M_draw_power : MtB P w K mg base C 51 "draw_power" ["self"] (spDraw C cCu)) :
   FnOk P w K mg base (CXw P w) 53 f fd ["self", "block", "page", "thing"] (spWrite C (clsOf cBS cNP cNE cCu)) := by
 refine F.okX (by decide) scWr (fun vs H Q E h => ?_) (fun cdv A outer s H vs Q E hr h => ?_)
 . obtain ⟨p, b, g, t, S, hl, el, rl, rfl, _⟩ := h
   rfl
 . obtain ⟨p, b, g, t, S, hl, el, rl, rfl, ht, A1, h⟩ := h
   obtain ⟨dx, h1⟩ := A1.ob
   refine ⟨_, (@zQj _ _ _ _ _ (@zJj _ _ _ _ (@zZj _ _ _ _ _ _ _ _ _ _ _ _ _ _ _ T.cl M_check_page (hr.mono (by decide)) zWj (pv 0) (@zQw _ _ _ _ _ (pv 1) (@zQw _ _ _ _ _ (pv 2) zQk (by exact zQq rfl)) (by exact zQq rfl)) (by exact zQq rfl) (by exact zQx rfl) (by rfl)) (by rfl)) (@zQj _ _ _ _ _ (@zJj _ _ _ _ (@zZj _ _ _ _ _ _ _ _ _ _ _ _ _ _ _ T.cl M_check_erased_from (hr.mono (by decide)) zWj (pv 0) (@zQw _ _ _ _ _ (pv 1) (@zQw _ _ _ _ _ (pv 2) zQk (by exact zQq rfl)) (by exact zQq rfl)) (by exact zQq rfl) (by exact zQx rfl) (by rfl)) (by rfl)) (@zQj _ _ _ _ _ (@zJq _ _ (4) _ _ _ _ scWr.nd rfl (Or.inl rfl) (@zZk _ _ _ _ _ _ _ _ _ _ _ _ T.cl M_draw_power (hr.mono (by decide)) zWj (pv 0) (by rfl)) (by rfl) (by first | exact .inl rfl | exact .inr rfl | assumption)) (@zQj _ _ _ _ _ (@zKw _ _ _ _ _ _ _ _ (pv 0) (@zJk _ _ _ _ _ _ _ _ (@xWq _) (@zZq _ _ _ _ _ (pv 0) rfl) zWz) rfl) (@zQj _ _ _ _ _ (@xKk _ _ _ _ _ _ (@xWv _ _ _ _ _ _ _ _ (@yZk _ _ _ (pv 4) (by intro _; rfl)) (pv 3) (@xJv _ _ _ _ rfl T.g_TO (by decide))) (@pg_sub _ _ _ _ _ _ _ (@zJw _ _ _ _ _ _ _ (@zJx _) (@zZq _ _ _ _ _ (pv 0) rfl) (pv 1) (fun _ _ => rfl)) (pv 2) (@yKz _) (by intro _; rfl)) (by rfl) (by rfl) (by rfl)) (@zWw _ _ _ (@yQq _ _ _ _ _ _ _ _ (@yWk _ _ _ _ (@yZk _ _ _ (pv 4) (by intro _; rfl))) (@zWw _ _ _ (@zKk _ _ _ _ _ _ _ _ _ _ zKj T.x_Cut rfl rfl T.g_Cut (@zQw _ _ _ _ _ (@zQv _ _ _ _) zQk (by exact zQq rfl)) (by decide) (by exact zQq rfl) (by exact zQx rfl))) (@zZw _)))))))), ?_⟩
   refine ⟨_, rfl, p, dx, _, rfl, h1, rfl, _, rfl, _, rfl, p, b, g, S, hl, el, rl, rfl, A1, ?_⟩
   by_cases hb : S.okP b g
   rotate_left
   . rw [if_neg hb]
     have e : S.write b g t = (some .np, S) := by unfold CS.write; rw [if_pos hb]
     rw [e] at h
     exact h H A1 (SameBut.refl _ _)
   rw [if_pos hb]
   refine ⟨_, rfl, p, dx, _, rfl, h1, rfl, _, rfl, _, rfl, p, b, g, S, hl, el, rl, rfl, A1, hb, fun H1 s1 => ?_⟩
   have A2 := A1.same s1
   obtain ⟨dx2, h2⟩ := A2.ob
   by_cases hc : S.clear b g = true
   rotate_left
   . rw [if_neg hc]
     have e : S.write b g t = (some .ne, S) := by unfold CS.write; rw [if_neg (fun z => z hb), if_pos (by simpa using hc)]
     rw [e] at h
     exact h H1 A2 (SameBut.of s1)
   rw [if_pos hc]
   refine ⟨_, rfl, p, dx2, _, rfl, h2, rfl, p, S, hl, el, rl, rfl, A2, ?_⟩
   cases hd : S.draw with
   | none =>
     have e : S.write b g t = (some .cut, S) := by unfold CS.write; rw [if_neg (fun z => z hb), if_neg (by rw [hc]; decide), hd]
     rw [e] at h
     exact h H1 A2 (SameBut.of s1)
   | some q =>
     obtain ⟨l, S1⟩ := q
     obtain ⟨d1, d2, d3, d4, d5⟩ := draw_eq hd
     intro H2 A3 s2
     have e : S.write b g t = (if l then none else some .cut, { S1 with many := S1.many + 1, rows := S1.rows.set b.toNat ((S1.row b).set g.toNat (if l then t else torn)) }) := by
       unfold CS.write; rw [if_neg (fun z => z hb), if_neg (by rw [hc]; decide), hd]
     rw [e] at h
     obtain ⟨dx3, h3⟩ := A3.ob
     have W := A3.wf
     refine ⟨_, rfl, p, C, dx3, _, _, rfl, h3, T.cl, T.aW, rfl, _, _, rfl, rfl, _, rfl, p, C, dx3, _, rfl, h3, T.cl, T.aW, by show 7 < 1000; decide, ?_⟩
     have A4 : ChipAt C (upd H2 p (.ins C dx3 (chipF { S1 with many := S1.many + 1 } hl el))) p { S1 with many := S1.many + 1 } hl el rl := A3.put rfl rfl ⟨W.b1, W.b2, W.p1, W.p2, W.rl, W.rp, W.wl, W.lf⟩
     have hb1 : S1.okB b := ⟨hb.1.1, by rw [d1]; exact hb.1.2⟩
     obtain ⟨r1, r2, r3⟩ := W.row hb1
     obtain ⟨a, ea, ha⟩ := A4.rw.row (i := b.toNat) (r := S1.row b) r1
     have hg : g < (S1.row b).length := by rw [r2, d2]; exact hb.2.2
     refine ⟨_, rfl, _, rfl, ?_⟩
     have store : ∀ v : V, plainV v = true -> v = (if l then t else torn) -> gSub (tOp (rIxL K) (tFld K (tVar 0) "held") (tVar 1)) (tVar 2) rSetL v [some (.ref p), some (.int b), some (.int g), some t, some (.bl l)] (upd H2 p (.ins C dx3 (chipF { S1 with many := S1.many + 1 } hl el)))
         (fun σ H3 => ∃ y, σ[4]? = some (some y) /\ ∃ c, y = .bl c /\ if (!c) = true then (1 : Nat) <= sizeLine /\ (∀ x, E (.ref cCu) (some x) H3) else Q .non H3) := by
       intro v hv ev
       refine ⟨_, rfl, p, C, dx3, _, _, rfl, zQz, T.cl, T.aH, rfl, _, rfl, hl, _, b, _, rfl, rfl, SqL.of A4.hd, yZw hb.1.1 (by rw [List.getElem?_map, ea]; rfl), _, rfl, a, _, g, _, rfl, rfl, ha, ixN_of hb.2.1 hg, _, rfl, _, rfl, ?_⟩
       have A5 := A4.putRow ea (r := (S1.row b).set g.toNat v) (by rw [List.length_set]; exact r2) (all_set r3 hv)
       rw [<- ev] at h
       have q := h _ A5 (fun c o z n => by
         have nc : c ≠ a := fun y => n (by rw [y]; simp [List.mem_of_getElem? ea])
         have np : c ≠ p := fun y => n (by rw [y]; simp)
         rw [zWx nc, zWx np]
         exact s2 c o (s1 c o z) (by simpa using np))
       cases l with
       | true => exact iteF q
       | false => exact iteT ⟨by decide, q⟩
     cases l with
     | true => exact iteT ⟨_, rfl, store t ht rfl⟩
     | false => exact iteF (store torn rfl rfl)
end
theorem nodup_set {l : List Addr} (nd : l.Nodup) {q : Addr} (nq : q ∉ l) (i : Nat) : (l.set i q).Nodup := by
 induction l generalizing i with
 | nil => exact List.nodup_nil
 | cons a r ih =>
   obtain ⟨n1, n2⟩ := List.nodup_cons.mp nd
   cases i with
   | zero => exact List.nodup_cons.mpr ⟨fun m => nq (List.mem_cons_of_mem _ m), n2⟩
   | succ i =>
     refine List.nodup_cons.mpr ⟨fun m => ?_, ih n2 (fun m => nq (List.mem_cons_of_mem _ m)) i⟩
     rcases List.mem_or_eq_of_mem_set m with z | z
     . exact n1 z
     . exact nq (by rw [<- z]; exact List.mem_cons_self)
section
variable {P : Program} {w : World} {K : PySem.W.Frag} {mg : Str -> Option Value} {base : Heap} {C cBS cNP cNE cNS cBC cCu cWE : Addr}
def spErase (C : Addr) (cl : Ref -> Addr) : Sp := fun vs H Q E => ∃ (p : Addr) (b : Int) (S : CS) (hl el : Addr) (rl : List Addr), vs = [.ref p, .int b] /\ ChipAt C H p S hl el rl /\
 ∀ H' rl', ChipAt C H' p (S.erase b).2 hl el rl' -> Did H H' (fpC p hl el rl) (fpC p hl el rl') -> EndsAs cl Q E H' (S.erase b).1
theorem scEr : FnScope ["self", "block", "lasts"] ["self", "block"] (defScope sErase) := ⟨rfl, rfl, rfl, by decide +kernel, rfl, by decide +kernel, by decide +kernel⟩
theorem erased_at {H H1 H2 : Hp} {p dx hl el l1 q : Addr} {rl : List Addr} {S S1 : CS} {b : Int} {v : V} (A3 : ChipAt C H2 p S1 hl el rl) (hv : plainV v = true) (hb : S1.okB b) (s1 : SameBut (fpC p hl el rl) H H2)
   (nl : upd H2 el (.lst ((S1.worn.map V.int).set b.toNat (.int (S1.worn.getD b.toNat 0 + 1)))) l1 = none)
   (nq : upd (upd H2 el (.lst ((S1.worn.map V.int).set b.toNat (.int (S1.worn.getD b.toNat 0 + 1))))) l1 (.lst [v]) q = none) (H5 : Hp)
   (e5 : H5 = upd (upd (upd (upd H2 el (.lst ((S1.worn.map V.int).set b.toNat (.int (S1.worn.getD b.toNat 0 + 1))))) l1 (.lst [v])) q (.lst (List.replicate S1.np v))) hl (.lst ((rl.map V.ref).set b.toNat (.ref q)))) :
   ChipAt C H5 p { S1 with worn := S1.worn.set b.toNat (S1.worn.getD b.toNat 0 + 1), rows := S1.rows.set b.toNat (List.replicate S1.np v) } hl el (rl.set b.toNat q) /\ Did H H5 (fpC p hl el rl) (fpC p hl el (rl.set b.toNat q)) := by
 have W := A3.wf
 have tr : ∀ a o, H2 a = some o -> a ≠ l1 /\ a ≠ q := fun a o e => by
   have h1 : a ≠ l1 := fun z => by
     rw [<- z] at nl
     by_cases y : a = el
     . rw [y, zQz] at nl; cases nl
     . rw [zWx y, e] at nl; cases nl
   refine ⟨h1, fun z => ?_⟩
   rw [<- z, zWx h1] at nq
   by_cases y : a = el
   . rw [y, zQz] at nq; cases nq
   . rw [zWx y, e] at nq; cases nq
 obtain ⟨dx, h3⟩ := A3.ob
 obtain ⟨n1, n2⟩ := List.nodup_cons.mp A3.nd
 obtain ⟨n3, n4⟩ := List.nodup_cons.mp n2
 have hle : hl ≠ el := fun z => n1 (by rw [z]; simp)
 have keep : ∀ a o, H2 a = some o -> a ≠ el -> a ≠ hl -> H5 a = some o := fun a o e y1 y2 => by
   obtain ⟨z1, z2⟩ := tr a o e
   rw [e5, zWx y2, zWx z2, zWx z1, zWx y1]
   exact e
 have nh : p ≠ hl := (A3.np_ (by simp)).symm
 have ne : p ≠ el := (A3.np_ (by simp)).symm
 have qhl : q ≠ hl := fun z => (tr _ _ A3.hd).2 z.symm
 have qel : q ≠ el := fun z => (tr _ _ A3.er).2 z.symm
 have qrl : q ∉ rl := fun m => by
   obtain ⟨o, e⟩ := A3.tr (b := q) (by simp [m])
   exact (tr _ _ e).2 rfl
 have bl : b.toNat < rl.length := by
   rw [A3.rw.ln, W.rl]
   have := hb.1
   have := hb.2
   omega
 have q5 : H5 q = some (.lst (List.replicate S1.np v)) := by rw [e5, zWx qhl, zQz]
 have rk : RowsAt H5 rl S1.rows := A3.rw.keep fun a m o e => keep a o e (fun z => n3 (by rw [<- z]; exact m)) (fun z => n1 (by rw [<- z]; simp [m]))
 refine ⟨⟨⟨dx, keep _ _ h3 ne nh⟩, ?_, ?_, rk.swap bl q5, ?_, ?_⟩, fun a o e n => ?_, fun a m => ?_⟩
 . rw [e5, zQz, List.map_set]
 . have z := tr _ _ A3.er
   rw [e5, zWx (Ne.symm hle), zWx z.2, zWx z.1, zQz, List.map_set]
 . refine List.nodup_cons.mpr ⟨fun m => ?_, List.nodup_cons.mpr ⟨fun m => ?_, nodup_set n4 qrl _⟩⟩
   . rcases List.mem_cons.mp m with z | m
     . exact hle z
     . rcases List.mem_or_eq_of_mem_set m with z | z
       . exact n1 (by simp [z])
       . exact qhl z.symm
   . rcases List.mem_or_eq_of_mem_set m with z | z
     . exact n3 z
     . exact qel z.symm
 . have w1 := W.setRow (i := b.toNat) (r := List.replicate S1.np v) List.length_replicate (List.all_eq_true.mpr fun x m => by rw [(List.mem_replicate.mp m).2]; exact hv)
   exact ⟨w1.b1, w1.b2, w1.p1, w1.p2, w1.rl, w1.rp, by rw [List.length_set]; exact w1.wl, w1.lf⟩
 . have n' : ∀ c, a = c -> c ∈ fpC p hl el rl -> False := fun c z m => n (by rw [z]; exact m)
   exact keep a o (s1 a o e n) (fun z => n' el z (by simp)) (fun z => n' hl z (by simp))
 . rcases List.mem_cons.mp m with z | m
   . exact .inl (by simp [z])
   rcases List.mem_cons.mp m with z | m
   . exact .inl (by simp [z])
   rcases List.mem_cons.mp m with z | m
   . exact .inl (by simp [z])
   rcases List.mem_or_eq_of_mem_set m with z | z
   . exact .inl (by simp [z])
   . by_cases y : a ∈ fpC p hl el rl
     . exact .inl y
     . refine .inr ?_
       cases e : H a with
       | none => rfl
       | some o =>
         have := (tr a o (s1 a o e y)).2
         exact absurd z this
theorem ok_erase {f : Addr} {fd : FuncData} (F : Fun K "erase" "Chip.erase" sErase f fd) (T : Txt K mg C cBS cNP cNE cNS cBC cCu cWE)
   (M_check_block : MtB P w K mg base C 51 "check_block" ["self", "block"] (spCB C cNP)) (M_draw_power : MtB P w K mg base C 51 "draw_power" ["self"] (spDraw C cCu)) :
   FnOk P w K mg base (CXw P w) 52 f fd ["self", "block"] (spErase C (clsOf cBS cNP cNE cCu)) := by
 refine F.okX (by decide) scEr (fun vs H Q E h => ?_) (fun cdv A outer s H vs Q E hr h => ?_)
 . obtain ⟨p, b, S, hl, el, rl, rfl, _⟩ := h
   rfl
 . obtain ⟨p, b, S, hl, el, rl, rfl, A1, h⟩ := h
   obtain ⟨dx, h1⟩ := A1.ob
   refine ⟨_, (@zQj _ _ _ _ _ (@zJj _ _ _ _ (@zZj _ _ _ _ _ _ _ _ _ _ _ _ _ _ _ T.cl M_check_block (hr.mono (by decide)) zWj (pv 0) (@zQw _ _ _ _ _ (pv 1) zQk (by exact zQq rfl)) (by exact zQq rfl) (by exact zQx rfl) (by rfl)) (by rfl)) (@zQj _ _ _ _ _ (@zJq _ _ (2) _ _ _ _ scEr.nd rfl (Or.inl rfl) (@zZk _ _ _ _ _ _ _ _ _ _ _ _ T.cl M_draw_power (hr.mono (by decide)) zWj (pv 0) (by rfl)) (by rfl) (by first | exact .inl rfl | exact .inr rfl | assumption)) (@zQj _ _ _ _ _ (@xKk _ _ _ _ _ _ (@zJk _ _ _ _ _ _ _ _ (@xWq _) (@zJw _ _ _ _ _ _ _ (@zJx _) (@zZq _ _ _ _ _ (pv 0) rfl) (pv 1) (fun _ _ => rfl)) zWz) (@pg_sub _ _ _ _ _ _ _ (@zZq _ _ _ _ _ (pv 0) rfl) (pv 1) (@yKz _) (by intro _; rfl)) (by rfl) (by rfl) (by rfl)) (@zQj _ _ _ _ _ (@xKk _ _ _ _ _ _ (@zJk _ _ _ _ _ _ _ _ (@op_rep _) (@zJv _ _ _ _ (@zQw _ _ _ _ _ (@xWv _ _ _ _ _ _ _ _ (@yZk _ _ _ (pv 2) (by intro _; rfl)) (@xQv _ _ _) (@xJv _ _ _ _ rfl T.g_TO (by decide))) zQk (by exact zQq rfl))) (@zZq _ _ _ _ _ (pv 0) rfl)) (@pg_sub _ _ _ _ _ _ _ (@zZq _ _ _ _ _ (pv 0) rfl) (pv 1) (@yKz _) (by intro _; rfl)) (by rfl) (by rfl) (by rfl)) (@zWw _ _ _ (@yQq _ _ _ _ _ _ _ _ (@yWk _ _ _ _ (@yZk _ _ _ (pv 2) (by intro _; rfl))) (@zWw _ _ _ (@zKk _ _ _ _ _ _ _ _ _ _ zKj T.x_Cut rfl rfl T.g_Cut (@zQw _ _ _ _ _ (@zQv _ _ _ _) zQk (by exact zQq rfl)) (by decide) (by exact zQq rfl) (by exact zQx rfl))) (@zZw _))))))), ?_⟩
   refine ⟨_, rfl, p, dx, _, rfl, h1, rfl, _, rfl, p, b, S, hl, el, rl, rfl, A1, ?_⟩
   by_cases hb : S.okB b
   rotate_left
   . rw [if_neg hb]
     have e : S.erase b = (some .np, S) := by unfold CS.erase; rw [if_pos hb]
     rw [e] at h
     exact h H rl A1 Did.refl
   rw [if_pos hb]
   refine ⟨_, rfl, p, dx, _, rfl, h1, rfl, p, S, hl, el, rl, rfl, A1, ?_⟩
   cases hd : S.draw with
   | none =>
     have e : S.erase b = (some .cut, S) := by unfold CS.erase; rw [if_neg (fun z => z hb), hd]
     rw [e] at h
     exact h H rl A1 Did.refl
   | some q =>
     obtain ⟨l, S1⟩ := q
     obtain ⟨d1, d2, d3, d4, d5⟩ := draw_eq hd
     intro H2 A3 s2
     have e : S.erase b = (if l then none else some .cut, { S1 with worn := S1.worn.set b.toNat (S1.worn.getD b.toNat 0 + 1), rows := S1.rows.set b.toNat (List.replicate S1.np (if l then V.non else torn)) }) := by
       unfold CS.erase; rw [if_neg (fun z => z hb), hd]
     rw [e] at h
     obtain ⟨dx3, h3⟩ := A3.ob
     have W := A3.wf
     have hb1 : S1.okB b := ⟨hb.1, by rw [d1]; exact hb.2⟩
     have wl : b < (S1.worn.map V.int).length := by rw [List.length_map, W.wl]; exact hb1.2
     have rll : b < (rl.map V.ref).length := by rw [List.length_map, A3.rw.ln, W.rl]; exact hb1.2
     refine ⟨_, rfl, p, C, dx3, _, _, rfl, h3, T.cl, T.aE, rfl, _, rfl, el, _, b, _, rfl, rfl, SqL.of A3.er, yZw hb.1 (by rw [List.getElem?_map, W.worn_at hb1]; rfl), _, _, rfl, rfl, _, rfl, p, C, dx3, _, _, rfl, h3, T.cl, T.aE, rfl, _, rfl, el, _, b, _, rfl, rfl, A3.er, ixN_of hb.1 wl, ?_⟩
     have pel : p ≠ el := (A3.np_ (by simp)).symm
     have phl : p ≠ hl := (A3.np_ (by simp)).symm
     have hle : hl ≠ el := fun z => (List.nodup_cons.mp A3.nd).1 (by rw [z]; simp)
     refine ⟨_, rfl, _, rfl, ?_⟩
     have two : ∀ v : V, v = (if l then V.non else torn) -> (1 : Nat) <= sizeLine /\ ∀ l1, upd H2 el (.lst ((S1.worn.map V.int).set b.toNat (.int (S1.worn.getD b.toNat 0 + 1)))) l1 = none ->
         tFld K (tVar 0) "pages" [some (.ref p), some (.int b), some (.bl l)] (upd (upd H2 el (.lst ((S1.worn.map V.int).set b.toNat (.int (S1.worn.getD b.toNat 0 + 1))))) l1 (.lst [v])) fun y H4 => rRep (.ref l1) y H4 fun z H6 =>
           gSub (tFld K (tVar 0) "held") (tVar 1) rSetL z [some (.ref p), some (.int b), some (.bl l)] H6 (fun σ H3 => ∃ y, σ[2]? = some (some y) /\ ∃ c, y = .bl c /\ if (!c) = true then (1 : Nat) <= sizeLine /\ (∀ x, E (.ref cCu) (some x) H3) else Q .non H3) := by
       intro v ev
       refine ⟨by decide, fun l1 nl => ?_⟩
       have pl : p ≠ l1 := fun z => by
         rw [<- z, zWx pel, h3] at nl
         cases nl
       refine ⟨_, rfl, p, C, dx3, _, _, rfl, by rw [zWx pl, zWx pel]; exact h3, T.cl, T.aP, rfl, l1, (S1.np : Int), [v], rfl, rfl, zQz, by omega, by have := W.p2; omega, ?_, fun q nq => ?_⟩
       . show 1 * (S1.np : Int).toNat <= sizeLine
         have := W.p2
         exact Nat.le_of_lt (small1000 (by omega))
       rw [wWv, Int.toNat_natCast]
       have pq : p ≠ q := fun z => by
         rw [<- z, zWx pl, zWx pel, h3] at nq
         cases nq
       have hll : hl ≠ l1 := fun z => by
         rw [<- z, zWx hle, A3.hd] at nl
         cases nl
       have hlq : hl ≠ q := fun z => by
         rw [<- z, zWx hll, zWx hle, A3.hd] at nq
         cases nq
       refine ⟨_, rfl, p, C, dx3, _, _, rfl, by rw [zWx pq, zWx pl, zWx pel]; exact h3, T.cl, T.aH, rfl, _, rfl, hl, _, b, _, rfl, rfl, by rw [zWx hlq, zWx hll, zWx hle]; exact A3.hd, ixN_of hb.1 rll, _, rfl, _, rfl, ?_⟩
       have pv : plainV v = true := by rw [ev]; cases l <;> rfl
       obtain ⟨A5, D5⟩ := erased_at (S := S) (H1 := H) (dx := dx3) A3 pv hb1 (fun c o z n => s2 c o z (by intro m; exact n (by simp at m; simp [m]))) nl nq _ rfl
       rw [<- ev] at h
       have q := h _ _ A5 D5
       cases l with
       | true => exact iteF q
       | false => exact iteT ⟨by decide, q⟩
     cases l with
     | true => exact iteT (two _ rfl)
     | false => exact iteF (two _ rfl)
end
inductive PgV (H : Hp) : V -> Pg -> Prop
 | er : PgV H .non .er
 | torn : PgV H torn .torn
 | wh {a : Addr} {s : Nat} {c n : Int} (e : H a = some (.tup [.int s, .int c, .int n])) : PgV H (.ref a) (.wh s c n)
def Tups (H H' : Hp) : Prop := ∀ a xs, H a = some (.tup xs) -> H' a = some (.tup xs)
theorem Tups.of {H H' : Hp} (h : Same H H') : Tups H H' := fun a xs e => h a _ e
theorem PgV.keep {H H' : Hp} {v : V} {g : Pg} (h : PgV H v g) (k : Tups H H') : PgV H' v g := by
 cases h with
 | er => exact .er
 | torn => exact .torn
 | wh e => exact .wh (k _ _ e)
structure AbsG (H : Hp) (S : CS) (G : GS) : Prop where
 nb : S.nb = G.nb
 np : S.np = G.np
 many : S.many = G.many
 left : S.left = G.left
 dark : S.dark = G.dark
 worn : ∀ b, b < G.nb -> S.worn[b]? = some (G.worn b)
 pg : ∀ b i, b < G.nb -> i < G.np -> ∃ r v, S.rows[b]? = some r /\ r[i]? = some v /\ PgV H v (G.pg b i)
theorem AbsG.keep {H H' : Hp} {S : CS} {G : GS} (A : AbsG H S G) (k : Tups H H') : AbsG H' S G :=
 ⟨A.nb, A.np, A.many, A.left, A.dark, A.worn, fun b i hb hi => let ⟨r, v, e1, e2, q⟩ := A.pg b i hb hi; ⟨r, v, e1, e2, q.keep k⟩⟩
def ChipX (C : Addr) (H : Hp) (p : Addr) (G : GS) (fp : List Addr) : Prop := ∃ hl el rl S, fp = fpC p hl el rl /\ ChipAt C H p S hl el rl /\ AbsG H S G
theorem ChipX.mem {C : Addr} {H : Hp} {p : Addr} {G : GS} {fp : List Addr} (A : ChipX C H p G fp) {b : Addr} (m : b ∈ fp) : (∃ xs, H b = some (.lst xs)) \/ b = p := by
 obtain ⟨hl, el, rl, S, rfl, A, _⟩ := A
 rcases List.mem_cons.mp m with z | m
 . exact .inr z
 rcases List.mem_cons.mp m with z | m
 . exact .inl ⟨_, by rw [z]; exact A.hd⟩
 rcases List.mem_cons.mp m with z | m
 . exact .inl ⟨_, by rw [z]; exact A.er⟩
 obtain ⟨i, hi, e⟩ := List.mem_iff_getElem.mp m
 obtain ⟨r, _, h⟩ := A.rw.at_ i b (by rw [<- e]; simp [hi])
 exact .inl ⟨r, h⟩
theorem ChipX.at_ {C : Addr} {H : Hp} {p : Addr} {G : GS} {fp : List Addr} (A : ChipX C H p G fp) : ∃ dx S hl el, H p = some (.ins C dx (chipF S hl el)) := by
 obtain ⟨hl, el, rl, S, rfl, A, _⟩ := A
 obtain ⟨dx, e⟩ := A.ob
 exact ⟨dx, S, hl, el, e⟩
theorem ChipX.pin {C : Addr} {H : Hp} {p : Addr} {G : GS} {fp : List Addr} (A : ChipX C H p G fp) : p ∈ fp := by
 obtain ⟨hl, el, rl, S, rfl, A, _⟩ := A
 simp
theorem ChipX.tr {C : Addr} {H : Hp} {p : Addr} {G : GS} {fp : List Addr} (A : ChipX C H p G fp) {b : Addr} (m : b ∈ fp) : ∃ o, H b = some o := by
 rcases A.mem m with ⟨xs, e⟩ | z
 . exact ⟨_, e⟩
 . obtain ⟨dx, S, hl, el, e⟩ := A.at_; exact ⟨_, by rw [z]; exact e⟩
theorem ChipX.noTup {C : Addr} {H : Hp} {p : Addr} {G : GS} {fp : List Addr} (A : ChipX C H p G fp) {a : Addr} {xs : List V} (e : H a = some (.tup xs)) : a ∉ fp := fun m => by
 rcases A.mem m with ⟨ys, z⟩ | z
 . rw [e] at z; cases z
 . obtain ⟨dx, S, hl, el, z'⟩ := A.at_
   rw [z, z'] at e; cases e
theorem ChipX.noIns {C C' dx : Addr} {H : Hp} {p : Addr} {G : GS} {fp : List Addr} {fs : List (Str × V)} (A : ChipX C H p G fp) {a : Addr} (e : H a = some (.ins C' dx fs)) (n : a ≠ p) : a ∉ fp := fun m => by
 rcases A.mem m with ⟨ys, z⟩ | z
 . rw [e] at z; cases z
 . exact n z
theorem ChipX.keep {C : Addr} {H H' : Hp} {p : Addr} {G : GS} {fp : List Addr} (A : ChipX C H p G fp) (k : ∀ b ∈ fp, ∀ o, H b = some o -> H' b = some o) (kt : Tups H H') : ChipX C H' p G fp := by
 obtain ⟨hl, el, rl, S, rfl, A, B⟩ := A
 exact ⟨hl, el, rl, S, rfl, A.keep k, B.keep kt⟩
theorem ChipX.same {C : Addr} {H H' : Hp} {p : Addr} {G : GS} {fp : List Addr} (A : ChipX C H p G fp) (k : Same H H') : ChipX C H' p G fp := A.keep (fun b _ o e => k b o e) (.of k)
theorem ChipX.but {C : Addr} {H H' : Hp} {p : Addr} {G : GS} {fp fp' : List Addr} (A : ChipX C H p G fp) (k : SameBut fp' H H') (d : ∀ b ∈ fp', b ∉ fp) (kt : Tups H H') : ChipX C H' p G fp := A.keep (fun b m o e => k b o e fun z => d b z m) kt
theorem ChipX.tups {C : Addr} {H H' : Hp} {p : Addr} {G : GS} {fp : List Addr} (A : ChipX C H p G fp) (k : SameBut fp H H') : Tups H H' := fun a xs e => k a _ e (A.noTup e)
theorem ChipX.lim {C : Addr} {H : Hp} {p : Addr} {G : GS} {fp : List Addr} (A : ChipX C H p G fp) : 4 <= G.nb /\ G.nb <= 32 /\ 2 <= G.np /\ G.np <= 16 := by
 obtain ⟨hl, el, rl, S, rfl, A, B⟩ := A
 have := A.wf.b1
 have := A.wf.b2
 have := A.wf.p1
 have := A.wf.p2
 rw [B.nb] at *
 rw [B.np] at *
 exact ⟨by assumption, by assumption, by assumption, by assumption⟩
theorem draw_abs {H : Hp} {S : CS} {G : GS} (B : AbsG H S G) : (S.draw = none /\ G.draw = none) \/ ∃ l S1 G1, S.draw = some (l, S1) /\ G.draw = some (l, G1) /\ AbsG H S1 G1 /\ S1.rows = S.rows /\ S1.worn = S.worn /\ S1.np = S.np /\ G1.pg = G.pg /\ G1.nb = G.nb /\ G1.np = G.np /\ G1.worn = G.worn := by
 unfold CS.draw GS.draw
 rw [<- B.dark, <- B.left]
 cases S.dark with
 | true => exact .inl ⟨rfl, rfl⟩
 | false =>
   refine .inr ?_
   cases e : S.left with
   | none => exact ⟨_, _, _, rfl, rfl, B, rfl, rfl, rfl, rfl, rfl, rfl, rfl⟩
   | some k =>
     show ∃ l S1 G1, (if k <= 0 then _ else _) = _ /\ (if k <= 0 then _ else _) = _ /\ _
     by_cases hk : k <= 0
     . rw [if_pos hk, if_pos hk]
       exact ⟨_, _, _, rfl, rfl, ⟨B.nb, B.np, B.many, rfl, rfl, B.worn, B.pg⟩, rfl, rfl, rfl, rfl, rfl, rfl, rfl⟩
     . rw [if_neg hk, if_neg hk]
       exact ⟨_, _, _, rfl, rfl, ⟨B.nb, B.np, B.many, rfl, rfl, B.worn, B.pg⟩, rfl, rfl, rfl, rfl, rfl, rfl, rfl⟩
@[irreducible] def xpSize (C : Addr) : Sp := spSize C
theorem xpSize_eq {C : Addr} : xpSize C = spSize C := by unfold xpSize; rfl
@[irreducible] def xpPage (C cNP : Addr) : Sp := spPage C cNP
theorem xpPage_eq {C cNP : Addr} : xpPage C cNP = spPage C cNP := by unfold xpPage; rfl
@[irreducible] def xpWritten (C : Addr) : Sp := spWritten C
theorem xpWritten_eq {C : Addr} : xpWritten C = spWritten C := by unfold xpWritten; rfl
@[irreducible] def xpWorn (C cNP : Addr) : Sp := spWorn C cNP
theorem xpWorn_eq {C cNP : Addr} : xpWorn C cNP = spWorn C cNP := by unfold xpWorn; rfl
@[irreducible] def xpPower (C : Addr) : Sp := spPower C
theorem xpPower_eq {C : Addr} : xpPower C = spPower C := by unfold xpPower; rfl
@[irreducible] def xpWrite (C : Addr) (cl : Ref -> Addr) : Sp := spWrite C cl
theorem xpWrite_eq {C : Addr} {cl : Ref -> Addr} : xpWrite C cl = spWrite C cl := by unfold xpWrite; rfl
@[irreducible] def xpErase (C : Addr) (cl : Ref -> Addr) : Sp := spErase C cl
theorem xpErase_eq {C : Addr} {cl : Ref -> Addr} : xpErase C cl = spErase C cl := by unfold xpErase; rfl
@[irreducible] def xpInit (C cBS : Addr) : Sp := spInit C cBS
theorem xpInit_eq {C cBS : Addr} : xpInit C cBS = spInit C cBS := by unfold xpInit; rfl
section
variable {C cBS cNP cNE cCu : Addr} {H : Hp} {p : Addr} {G : GS} {fp : List Addr} {Q : VK} {E : XK}
theorem yQz (A : ChipX C H p G fp) (q : ∀ t H', H' t = some (.tup [.int G.nb, .int G.np]) -> Same H H' -> Q (.ref t) H') : xpSize C [.ref p] H Q E := by
 unfold xpSize
 obtain ⟨hl, el, rl, S, rfl, A, B⟩ := A
 refine ⟨p, S, hl, el, rl, rfl, A, fun t ht => q t _ ?_ (zWq ht)⟩
 rw [<- B.nb, <- B.np]
 exact zQz
theorem use_written (A : ChipX C H p G fp) (q : Q (.int G.many) H) : xpWritten C [.ref p] H Q E := by
 unfold xpWritten
 obtain ⟨hl, el, rl, S, rfl, A, B⟩ := A
 rw [<- B.many] at q
 exact ⟨p, S, hl, el, rl, rfl, A, q⟩
theorem use_worn (A : ChipX C H p G fp) {b : Nat} (hb : b < G.nb) (q : Q (.int (G.worn b)) H) : xpWorn C cNP [.ref p, .int b] H Q E := by
 unfold xpWorn
 obtain ⟨hl, el, rl, S, rfl, A, B⟩ := A
 refine ⟨p, b, S, hl, el, rl, rfl, A, ?_⟩
 have := B.nb
 rw [if_pos ⟨by omega, by omega⟩, List.getD_eq_getElem?_getD, Int.toNat_natCast, B.worn b hb]
 exact q
theorem xWk (A : ChipX C H p G fp) {b i : Nat} (hb : b < G.nb) (hi : i < G.np) (q : ∀ v, PgV H v (G.pg b i) -> Q v H) : xpPage C cNP [.ref p, .int b, .int i] H Q E := by
 unfold xpPage
 obtain ⟨hl, el, rl, S, rfl, A, B⟩ := A
 refine ⟨p, b, i, S, hl, el, rl, rfl, A, ?_⟩
 have := B.nb
 have := B.np
 rw [if_pos ⟨⟨by omega, by omega⟩, by omega, by omega⟩]
 obtain ⟨r, v, e1, e2, pv⟩ := B.pg b i hb hi
 unfold CS.row
 rw [List.getD_eq_getElem?_getD (l := S.rows), Int.toNat_natCast, Int.toNat_natCast, e1, Option.getD_some, List.getD_eq_getElem?_getD, e2]
 exact q v pv
theorem use_pageS {S : CS} {hl el : Addr} {rl : List Addr} (A : ChipAt C H p S hl el rl) {b i : Nat} (h : S.okP b i) (q : Q ((S.row b).getD i .non) H) : xpPage C cNP [.ref p, .int b, .int i] H Q E := by
 unfold xpPage
 refine ⟨p, b, i, S, hl, el, rl, rfl, A, ?_⟩
 rw [if_pos h, Int.toNat_natCast]
 exact q
def GS.powered (G : GS) (l : Option Int) : GS := { G with left := l, dark := false }
theorem use_power (A : ChipX C H p G fp) {l : Option Int} (hk : ∀ k, l = some k -> 0 <= k) (q : ∀ H', ChipX C H' p (G.powered l) fp -> SameBut [p] H H' -> Q .non H') : xpPower C [.ref p, leftV l] H Q E := by
 unfold xpPower
 obtain ⟨hl, el, rl, S, rfl, A, B⟩ := A
 refine ⟨p, l, S, hl, el, rl, rfl, hk, A, fun H' A' k => q H' ⟨hl, el, rl, _, rfl, A', ?_⟩ k⟩
 have kt : Tups H H' := fun a xs e => k a _ e fun m => by
   obtain rfl : a = p := by simpa using m
   obtain ⟨dx, z⟩ := A.ob
   rw [z] at e; cases e
 exact ⟨B.nb, B.np, B.many, rfl, rfl, B.worn, (B.keep kt).pg⟩
theorem use_write (A : ChipX C H p G fp) {b i : Nat} {t : Addr} {s : Nat} {c n : Int} (hb : b < G.nb) (hi : i < G.np) (cl : G.Clear b i) (ht : H t = some (.tup [.int s, .int c, .int n]))
   (q1 : ∀ H', (G.put b i (.wh s c n)).1 = true -> ChipX C H' p (G.put b i (.wh s c n)).2 fp -> SameBut fp H H' -> Q .non H')
   (q2 : ∀ H' x, (G.put b i (.wh s c n)).1 = false -> ChipX C H' p (G.put b i (.wh s c n)).2 fp -> SameBut fp H H' -> E (.ref cCu) (some x) H') : xpWrite C (clsOf cBS cNP cNE cCu) [.ref p, .int b, .int i, .ref t] H Q E := by
 unfold xpWrite
 have A0 := A
 obtain ⟨hl, el, rl, S, rfl, A, B⟩ := A
 refine ⟨p, b, i, .ref t, S, hl, el, rl, rfl, rfl, A, fun H' A' k => ?_⟩
 have kt := A0.tups k
 have e1 := B.nb
 have e2 := B.np
 have okp : S.okP b i := ⟨⟨by omega, by omega⟩, by omega, by omega⟩
 obtain ⟨r0, v0, er0, ev0, _⟩ := B.pg b i hb hi
 have rw0 : S.row b = r0 := by
   unfold CS.row
   rw [List.getD_eq_getElem?_getD, Int.toNat_natCast, er0]
   rfl
 have r0l : r0.length = S.np := (A.wf.rp r0 (List.mem_of_getElem? er0)).1
 have clr : S.clear b i = true := by
   unfold CS.clear
   rw [rw0, Int.toNat_natCast, List.all_eq_true]
   intro v m
   obtain ⟨j, hj, ej⟩ := List.mem_iff_getElem.mp m
   rw [List.getElem_drop] at ej
   have hj' : i + j < S.np := by rw [List.length_drop] at hj; omega
   obtain ⟨r1, v1, er1, ev1, pv1⟩ := B.pg b (i + j) hb (by omega)
   rw [er0] at er1
   cases er1
   rw [cl (i + j) (by omega) (by omega)] at pv1
   have : v = v1 := by
     have := (List.getElem?_eq_some_iff.mp ev1).2
     rw [<- ej, <- this]
   rw [this]
   cases pv1
   rfl
 unfold CS.write at A' ⊢
 rw [if_neg (by simpa using okp), if_neg (by rw [clr]; decide)] at A' ⊢
 unfold GS.put at q1 q2
 rcases draw_abs B with ⟨d1, d2⟩ | ⟨l, S1, G1, d1, d2, B1, f1, f2, f3, f4, f5, f6, f7⟩
 . rw [d1] at A' ⊢
   rw [d2] at q1 q2
   exact fun x => q2 H' x rfl ⟨hl, el, rl, _, rfl, A', B.keep kt⟩ k
 . rw [d1] at A' ⊢
   rw [d2] at q1 q2
   dsimp only at A' q1 q2 ⊢
   have row1 : S1.row b = r0 := by
     unfold CS.row at rw0 ⊢
     rw [f1]; exact rw0
   have abs : AbsG H' { S1 with many := S1.many + 1, rows := S1.rows.set (b : Int).toNat ((S1.row b).set (i : Int).toNat (if l = true then V.ref t else torn)) } { G1 with many := G1.many + 1, pg := set2 G1.pg b i (if l = true then .wh s c n else .torn) } := by
     refine ⟨B1.nb, B1.np, by show S1.many + 1 = G1.many + 1; rw [B1.many], B1.left, B1.dark, B1.worn, fun b' i' hb' hi' => ?_⟩
     have hb'' : b' < G.nb := by rw [<- f5]; exact hb'
     have hi'' : i' < G.np := by rw [<- f6]; exact hi'
     obtain ⟨r2, v2, er2, ev2, pv2⟩ := B.pg b' i' hb'' hi''
     rw [row1, f1, Int.toNat_natCast, Int.toNat_natCast]
     show ∃ r v, (S.rows.set b (r0.set i _))[b']? = some r /\ r[i']? = some v /\ PgV H' v (set2 G1.pg b i _ b' i')
     unfold set2
     rw [f4]
     by_cases hbb : b' = b
     . subst hbb
       rw [er0] at er2
       cases er2
       have hlen : b' < S.rows.length := (List.getElem?_eq_some_iff.mp er0).1
       by_cases hii : i' = i
       . subst hii
         refine ⟨_, if l = true then V.ref t else torn, List.getElem?_set_self hlen, List.getElem?_set_self (by omega), ?_⟩
         rw [if_pos (show b' = b' /\ i' = i' from ⟨rfl, rfl⟩)]
         cases l with
         | true => exact .wh (kt _ _ ht)
         | false => exact .torn
       . refine ⟨_, v2, List.getElem?_set_self hlen, by rw [List.getElem?_set_ne (Ne.symm hii)]; exact ev2, ?_⟩
         rw [if_neg fun z => hii z.2]
         exact pv2.keep kt
     . refine ⟨r2, v2, by rw [List.getElem?_set_ne (Ne.symm hbb)]; exact er2, ev2, ?_⟩
       rw [if_neg fun z => hbb z.1]
       exact pv2.keep kt
   cases l with
   | true => exact q1 H' rfl ⟨hl, el, rl, _, rfl, A', abs⟩ k
   | false => exact fun x => q2 H' x rfl ⟨hl, el, rl, _, rfl, A', abs⟩ k
theorem use_erase (A : ChipX C H p G fp) {b : Nat} (hb : b < G.nb)
   (q1 : ∀ H' fp', (G.era b).1 = true -> ChipX C H' p (G.era b).2 fp' -> Did H H' fp fp' -> Q .non H')
   (q2 : ∀ H' fp' x, (G.era b).1 = false -> ChipX C H' p (G.era b).2 fp' -> Did H H' fp fp' -> E (.ref cCu) (some x) H') : xpErase C (clsOf cBS cNP cNE cCu) [.ref p, .int b] H Q E := by
 unfold xpErase
 have A0 := A
 obtain ⟨hl, el, rl, S, rfl, A, B⟩ := A
 refine ⟨p, b, S, hl, el, rl, rfl, A, fun H' rl' A' k => ?_⟩
 have kt := A0.tups k.keep
 have e1 := B.nb
 have e2 := B.np
 have okb : S.okB b := ⟨by omega, by omega⟩
 unfold CS.erase at A' ⊢
 rw [if_neg (by simpa using okb)] at A' ⊢
 unfold GS.era at q1 q2
 rcases draw_abs B with ⟨d1, d2⟩ | ⟨l, S1, G1, d1, d2, B1, f1, f2, f3, f4, f5, f6, f7⟩
 . rw [d1] at A' ⊢
   rw [d2] at q1 q2
   exact fun x => q2 H' _ x rfl ⟨hl, el, rl', _, rfl, A', B.keep kt⟩ k
 . rw [d1] at A' ⊢
   rw [d2] at q1 q2
   dsimp only at A' q1 q2 ⊢
   have hlen : b < S.rows.length := by rw [A.wf.rl]; omega
   have wlen : b < S.worn.length := by rw [A.wf.wl]; omega
   have abs : AbsG H' { S1 with worn := S1.worn.set (b : Int).toNat (S1.worn.getD (b : Int).toNat 0 + 1), rows := S1.rows.set (b : Int).toNat (List.replicate S1.np (if l = true then V.non else torn)) } { G1 with worn := set1 G1.worn b (G1.worn b + 1), pg := setB G1.pg b (if l = true then .er else .torn) } := by
     refine ⟨B1.nb, B1.np, B1.many, B1.left, B1.dark, fun b' hb' => ?_, fun b' i' hb' hi' => ?_⟩
     . have hb'' : b' < G.nb := by rw [<- f5]; exact hb'
       show (S1.worn.set (b : Int).toNat (S1.worn.getD (b : Int).toNat 0 + 1))[b']? = some (set1 G1.worn b (G1.worn b + 1) b')
       rw [Int.toNat_natCast, f2, f7]
       unfold set1
       by_cases hbb : b' = b
       . subst hbb
         rw [List.getElem?_set_self wlen, if_pos rfl, List.getD_eq_getElem?_getD, B.worn b' hb'']
         rfl
       . rw [List.getElem?_set_ne (Ne.symm hbb), if_neg hbb]
         exact B.worn b' hb''
     . have hb'' : b' < G.nb := by rw [<- f5]; exact hb'
       have hi'' : i' < G.np := by rw [<- f6]; exact hi'
       obtain ⟨r2, v2, er2, ev2, pv2⟩ := B.pg b' i' hb'' hi''
       show ∃ r v, (S1.rows.set (b : Int).toNat _)[b']? = some r /\ r[i']? = some v /\ PgV H' v (setB G1.pg b _ b' i')
       rw [Int.toNat_natCast, f1, f3]
       unfold setB
       by_cases hbb : b' = b
       . subst hbb
         refine ⟨_, if l = true then V.non else torn, List.getElem?_set_self hlen, by rw [List.getElem?_replicate, if_pos (by omega)], ?_⟩
         rw [if_pos rfl]
         cases l with
         | true => exact .er
         | false => exact .torn
       . refine ⟨r2, v2, by rw [List.getElem?_set_ne (Ne.symm hbb)]; exact er2, ev2, ?_⟩
         rw [if_neg hbb, f4]
         exact pv2.keep kt
   cases l with
   | true => exact q1 H' _ rfl ⟨hl, el, rl', _, rfl, A', abs⟩ k
   | false => exact fun x => q2 H' _ x rfl ⟨hl, el, rl', _, rfl, A', abs⟩ k
def GS.fresh (nb np : Nat) : GS := { nb := nb, np := np, pg := fun _ _ => .er, worn := fun _ => 0, many := 0, left := none, dark := false }
theorem use_init {dx : Addr} {nb np : Nat} (h : H p = some (.ins C dx [])) (h1 : 4 <= nb) (h2 : nb <= 32) (h3 : 2 <= np) (h4 : np <= 16) (q : ∀ H' fp', ChipX C H' p (GS.fresh nb np) fp' -> Did H H' [p] fp' -> Q .non H') : xpInit C cBS [.ref p, .int nb, .int np] H Q E := by
 unfold xpInit
 refine ⟨p, dx, nb, np, rfl, h, ?_⟩
 rw [if_pos ⟨by omega, by omega, by omega, by omega⟩]
 intro H' hl el rl A k
 refine q H' _ ⟨hl, el, rl, _, rfl, A, ?_⟩ k
 rw [Int.toNat_natCast, Int.toNat_natCast]
 refine ⟨rfl, rfl, rfl, rfl, rfl, fun b hb => ?_, fun b i hb hi => ⟨List.replicate np .non, .non, ?_, ?_, .er⟩⟩
 . show (List.replicate nb (0 : Int))[b]? = _
   rw [List.getElem?_replicate, if_pos (show b < nb from hb)]
   rfl
 . show (List.replicate nb (List.replicate np V.non))[b]? = _
   rw [List.getElem?_replicate, if_pos (show b < nb from hb)]
 . rw [List.getElem?_replicate, if_pos (show i < np from hi)]
end
def CompP (H1 : Hp) (acc : Addr) (xs : List V) (p : V -> Bool) (g : V -> V) (i m : Nat) (ys : List V) (H2 : Hp) : Prop := m = xs.length - i /\ i <= xs.length /\ ys = ((xs.take i).filter p).map g /\ H2 = upd H1 acc (.lst ys)
theorem yJk {J : It} {H1 : Hp} {acc : Addr} {tt : TT} {te : TE} {Q : VK} {σc : St} (xs : List V) (hn : xs.length < 1000) (p : V -> Bool) (g : V -> V) (nacc : H1 acc = none)
   (stop : ∀ H2, Same H1 H2 -> J.stop xs.length H2) (go : ∀ i H2, i < xs.length -> Same H1 H2 -> J.go i H2) (yld : ∀ i x H2 H3, i < xs.length -> Same H1 H2 -> J.yld i H2 x H3 -> H3 = H2 /\ xs[i]? = some x)
   (test : ∀ (i : Nat) x H2 (R : Bool -> Hp -> Prop), xs[i]? = some x -> Same H1 H2 -> R (p x) H2 -> tt (some x :: σc) H2 R)
   (elt : ∀ (i : Nat) x H2 (R : V -> Hp -> Prop), xs[i]? = some x -> p x = true -> Same H1 H2 -> R (g x) H2 -> te (some x :: σc) H2 R)
   (fin : Q (.ref acc) (upd H1 acc (.lst ((xs.filter p).map g)))) :
   ∃ W : Nat -> Nat -> List V -> Hp -> Prop, (∃ m, W 0 m [] (upd H1 acc (.lst []))) /\
     ∀ i m ys H2, W i m ys H2 -> (J.stop i H2 /\ Q (.ref acc) H2) \/ (J.go i H2 /\ ∀ x H3, J.yld i H2 x H3 -> tt (some x :: σc) H3 fun b H4 =>
       if b = true then te (some x :: σc) H4 fun y H5 => H5 acc = some (.lst ys) /\ ys.length < sizeLine /\ ∃ m', m' < m /\ W (i + 1) m' (ys ++ [y]) (upd H5 acc (.lst (ys ++ [y])))
       else ∃ m', m' < m /\ W (i + 1) m' ys H4) := by
 refine ⟨CompP H1 acc xs p g, ⟨xs.length, by simp, Nat.zero_le _, rfl, rfl⟩, ?_⟩
 rintro i m ys H2 ⟨rfl, hi, hys, hH⟩
 have s2 : Same H1 H2 := by rw [hH]; exact zWq nacc
 by_cases hlt : i < xs.length
 . refine .inr ⟨go i H2 hlt s2, fun x H3 y => ?_⟩
   obtain ⟨rfl, ex⟩ := yld i x H2 H3 hlt s2 y
   have tk : xs.take (i + 1) = xs.take i ++ [x] := by rw [List.take_add_one, ex]; rfl
   refine test i x H3 _ ex s2 ?_
   cases hp : p x with
   | false =>
     refine iteF ⟨xs.length - (i + 1), by omega, rfl, hlt, ?_, hH⟩
     rw [hys, tk, List.filter_append]
     simp [hp]
   | true =>
     have hl : ys.length <= xs.length := by
       rw [hys, List.length_map]
       exact Nat.le_trans (List.length_filter_le _ _) (by rw [List.length_take]; omega)
     refine iteT (elt i x H3 _ ex hp s2 ⟨by rw [hH]; exact zQz, small1000 (by omega), xs.length - (i + 1), by omega, rfl, hlt, ?_, ?_⟩)
     . rw [hys, tk, List.filter_append]
       simp [hp]
     . rw [hH, yZv]
 . have e : i = xs.length := by omega
   subst e
   rw [List.take_length] at hys
   refine .inl ⟨stop H2 s2, ?_⟩
   rw [hH, hys]
   exact fin
theorem comp_pure_range {ta : TA} {ci : List Nat} {tt : TT} {te : TE} {σ : St} {H : Hp} {Q : VK} (n : Nat) (hn : n < 1000) (hta : ∀ R : List V -> Hp -> Prop, R [.int n] H -> ta σ H R) (p : V -> Bool) (g : V -> V)
   (test : ∀ (i : Nat) H2 (R : Bool -> Hp -> Prop), i < n -> Same H H2 -> R (p (.int i)) H2 -> tt (some (.int i) :: capt ci σ) H2 R)
   (elt : ∀ (i : Nat) H2 (R : V -> Hp -> Prop), i < n -> p (.int i) = true -> Same H H2 -> R (g (.int i)) H2 -> te (some (.int i) :: capt ci σ) H2 R)
   (fin : ∀ acc, H acc = none -> Q (.ref acc) (upd H acc (.lst ((((List.range n).map fun i : Nat => V.int i).filter p).map g)))) : tComp (iRng1 ta) ci tt te σ H Q := by
 unfold tComp
 have len : ((List.range n).map fun i : Nat => V.int (i : Int)).length = n := by simp
 have get : ∀ {i : Nat} {x : V}, ((List.range n).map fun i : Nat => V.int (i : Int))[i]? = some x -> i < n /\ x = .int i := fun {i x} e => by
   have hi := (List.getElem?_eq_some_iff.mp e).1
   rw [len] at hi
   rw [List.getElem?_map, List.getElem?_range hi] at e
   exact ⟨hi, (Option.some.inj e).symm⟩
 refine hta _ ⟨n, rfl, by omega, by omega, fun acc nacc => ?_⟩
 refine yJk (Q := Q) (J := Itr 0 (n : Int).toNat) (σc := capt ci σ) _ (by rw [len]; exact hn) p g nacc (fun _ _ => by show (n : Int).toNat <= _; rw [len]; omega) (fun i _ h _ => by show i < (n : Int).toNat; rw [len] at h; omega) (fun i x H2 H3 hi s2 y => ?_) (fun i x H2 R e s2 r => ?_) (fun i x H2 R e hp s2 r => ?_) (fin acc nacc)
 . obtain ⟨e, y⟩ := y
   rw [len] at hi
   refine ⟨e, ?_⟩
   rw [y, List.getElem?_map, List.getElem?_range hi, Int.zero_add]
   rfl
 . obtain ⟨hi, rfl⟩ := get e
   exact test i H2 R hi s2 r
 . obtain ⟨hi, rfl⟩ := get e
   exact elt i H2 R hi hp s2 r
theorem iteD {c A B : Prop} [Decidable c] (h : c) (a : A) : if decide c = true then A else B := by rw [decide_eq_true h]; exact iteT a
theorem iteDn {c A B : Prop} [Decidable c] (h : ¬ c) (b : B) : if decide c = true then A else B := by rw [decide_eq_false h]; exact iteF b
theorem iteN {c A B : Prop} [Decidable c] (h : c) (b : B) : if (!decide c) = true then A else B := by rw [decide_eq_true h]; exact iteF b
theorem iteNn {c A B : Prop} [Decidable c] (h : ¬ c) (a : A) : if (!decide c) = true then A else B := by rw [decide_eq_false h]; exact iteT a
theorem at0 {α : Type} {a : α} {l : List α} : atI (a :: l) 0 = some a := yZw (i := 0) (by decide) rfl
theorem at1 {α : Type} {a b : α} {l : List α} : atI (a :: b :: l) 1 = some b := yZw (i := 1) (by decide) rfl
theorem at2 {α : Type} {a b c : α} {l : List α} : atI (a :: b :: c :: l) 2 = some c := yZw (i := 2) (by decide) rfl
theorem with_rest {Pr R : Hp -> Prop} {G : Prop} (main : (∀ H, Pr H -> R H) -> G) (rest : ∀ H, Pr H -> R H) : G := main rest
theorem comp_pure_new {K : PySem.W.Frag} {tl : TE} {ci : List Nat} {tt : TT} {te : TE} {σ : St} {H : Hp} {Q : VK} (xs : List V) (hn : xs.length < 1000) (htl : ∀ R : V -> Hp -> Prop, (∀ a, H a = none -> R (.ref a) (upd H a (.lst xs))) -> tl σ H R) (p : V -> Bool) (g : V -> V)
   (test : ∀ (i : Nat) x H2 (R : Bool -> Hp -> Prop), xs[i]? = some x -> Same H H2 -> R (p x) H2 -> tt (some x :: capt ci σ) H2 R)
   (elt : ∀ (i : Nat) x H2 (R : V -> Hp -> Prop), xs[i]? = some x -> p x = true -> Same H H2 -> R (g x) H2 -> te (some x :: capt ci σ) H2 R)
   (fin : ∀ acc H2, H2 acc = some (.lst ((xs.filter p).map g)) -> Same H H2 -> Q (.ref acc) H2) : tComp (iList K tl) ci tt te σ H Q := by
 unfold tComp
 refine htl _ fun a na => ⟨a, rfl, ⟨_, SqL.of zQz⟩, fun acc nacc => ?_⟩
 have s1 := zWq (o := .lst xs) na
 have hs : SqL K (upd H a (.lst xs)) a xs := SqL.of zQz
 refine yJk (Q := Q) (J := Itl K a) (σc := capt ci σ) xs hn p g nacc (fun _ s => ⟨xs, s.seq hs, Nat.le_refl _⟩) (fun i _ h s => ⟨xs, xs[i], s.seq hs, by simp [h]⟩) (fun i x H2 H3 hi s2 y => ?_) (fun i x H2 R e s2 q => test i x H2 R e (s1.trans s2) q) (fun i x H2 R e hp s2 q => elt i x H2 R e hp (s1.trans s2) q) (fin acc _ zQz (s1.trans (zWq nacc)))
 obtain ⟨e, y⟩ := y
 exact ⟨e, y xs (s2.seq hs)⟩
theorem xWz {ta : TA} {ci : List Nat} {tt : TT} {te : TE} {σ : St} {H : Hp} {Q : VK} (n : Nat) (hn : n < 1000) (hta : ∀ R : List V -> Hp -> Prop, (∀ H1, Same H H1 -> R [.int n] H1) -> ta σ H R) (p : V -> Bool) (g : V -> V)
   (test : ∀ (i : Nat) H2 (R : Bool -> Hp -> Prop), i < n -> Same H H2 -> R (p (.int i)) H2 -> tt (some (.int i) :: capt ci σ) H2 R)
   (elt : ∀ (i : Nat) H2 (R : V -> Hp -> Prop), i < n -> p (.int i) = true -> Same H H2 -> R (g (.int i)) H2 -> te (some (.int i) :: capt ci σ) H2 R)
   (fin : ∀ acc H2, H2 acc = some (.lst ((((List.range n).map fun i : Nat => V.int i).filter p).map g)) -> Same H H2 -> H acc = none -> Q (.ref acc) H2) : tComp (iRng1 ta) ci tt te σ H Q := by
 unfold tComp
 have len : ((List.range n).map fun i : Nat => V.int (i : Int)).length = n := by simp
 have get : ∀ {i : Nat} {x : V}, ((List.range n).map fun i : Nat => V.int (i : Int))[i]? = some x -> i < n /\ x = .int i := fun {i x} e => by
   have hi := (List.getElem?_eq_some_iff.mp e).1
   rw [len] at hi
   rw [List.getElem?_map, List.getElem?_range hi] at e
   exact ⟨hi, (Option.some.inj e).symm⟩
 refine hta _ fun H1 s1 => ⟨n, rfl, by omega, by omega, fun acc nacc => ?_⟩
 refine yJk (Q := Q) (J := Itr 0 (n : Int).toNat) (σc := capt ci σ) _ (by rw [len]; exact hn) p g nacc (fun _ _ => by show (n : Int).toNat <= _; rw [len]; omega) (fun i _ h _ => by show i < (n : Int).toNat; rw [len] at h; omega) (fun i x H2 H3 hi s2 y => ?_) (fun i x H2 R e s2 r => ?_) (fun i x H2 R e hp s2 r => ?_) (fin acc _ zQz (s1.trans (zWq nacc)) (s1.free nacc))
 . obtain ⟨e, y⟩ := y
   rw [len] at hi
   refine ⟨e, ?_⟩
   rw [y, List.getElem?_map, List.getElem?_range hi, Int.zero_add]
   rfl
 . obtain ⟨hi, rfl⟩ := get e
   exact test i H2 R hi (s1.trans s2) r
 . obtain ⟨hi, rfl⟩ := get e
   exact elt i H2 R hi hp (s1.trans s2) r
theorem yWz {K : PySem.W.Frag} {tl : TE} {ci : List Nat} {tt : TT} {te : TE} {σ : St} {H : Hp} {Q : VK} (Wx : Addr -> Hp -> Prop) (htl : ∀ R : V -> Hp -> Prop, (∀ a H1, Wx a H1 -> R (.ref a) H1) -> tl σ H R)
   (main : ∀ a H1, Wx a H1 -> ∃ xs p g, H1 a = some (.lst xs) /\ xs.length < 1000 /\
     (∀ (i : Nat) x H2 (R : Bool -> Hp -> Prop), xs[i]? = some x -> Same H1 H2 -> R (p x) H2 -> tt (some x :: capt ci σ) H2 R) /\
     (∀ (i : Nat) x H2 (R : V -> Hp -> Prop), xs[i]? = some x -> p x = true -> Same H1 H2 -> R (g x) H2 -> te (some x :: capt ci σ) H2 R) /\
     ∀ acc H2, H2 acc = some (.lst ((xs.filter p).map g)) -> Same H1 H2 -> Q (.ref acc) H2) : tComp (iList K tl) ci tt te σ H Q := by
 unfold tComp
 refine htl _ fun a H1 hw => ?_
 obtain ⟨xs, p, g, ha, hn, test, elt, fin⟩ := main a H1 hw
 have hs : SqL K H1 a xs := SqL.of ha
 refine ⟨a, rfl, ⟨_, hs⟩, fun acc nacc => ?_⟩
 refine yJk (Q := Q) (J := Itl K a) (σc := capt ci σ) xs hn p g nacc (fun _ s => ⟨xs, s.seq hs, Nat.le_refl _⟩) (fun i _ h s => ⟨xs, xs[i], s.seq hs, by simp [h]⟩) (fun i x H2 H3 hi s2 y => ?_) test elt (fin acc _ zQz (zWq nacc))
 obtain ⟨e, y⟩ := y
 exact ⟨e, y xs (s2.seq hs)⟩
abbrev sThings : Stmt := top 23
abbrev sIsEr : Stmt := top 24
abbrev sHasW : Stmt := top 25
abbrev sBehind : Stmt := top 26
structure TxtD (K : PySem.W.Frag) (mg : Str -> Option Value) (D cNS cBC : Addr) : Prop where
 cl : Cls K D
 aC : NoAttr K D "chip"
 aM : NoAttr K D "many"
 aP : NoAttr K D "places"
 aB : NoAttr K D "block"
 aF : NoAttr K D "filled"
 x_NoSector : XCls K cNS
 x_BadContent : XCls K cBC
 g_SB : ∃ u, mg "SPARE_BLOCKS" = some u /\ RelV (.int 2) u
 g_MC : ∃ u, mg "MOST_CONTENT" = some u /\ RelV (.int 999999999999) u
 n_sorted : mg "sorted" = none
 n_all : mg "all" = none
 n_any : mg "any" = none
 n_tuple : mg "tuple" = none
 kt_non : PySem.W.kitOne K (.type "NoneType") (.type "tuple") = some false
 kt_str : PySem.W.kitOne K (.type "str") (.type "tuple") = some false
 kt_tup : PySem.W.kitOne K (.type "tuple") (.type "tuple") = some true
section
variable {P : Program} {w : World} {K : PySem.W.Frag} {mg : Str -> Option Value} {base : Heap} {C D cBS cNP cNE cNS cBC cCu cWE : Addr}
def RowV (H : Hp) (xs : List V) (G : GS) (b : Nat) : Prop := xs.length = G.np /\ ∀ i v, xs[i]? = some v -> PgV H v (G.pg b i)
def spThings (C : Addr) : Sp := fun vs H Q _ => ∃ (p : Addr) (b : Nat) (G : GS) (fp : List Addr), vs = [.ref p, .int b] /\ ChipX C H p G fp /\ b < G.nb /\ ∀ l H' xs, H' l = some (.lst xs) -> RowV H' xs G b -> Same H H' -> Q (.ref l) H'
theorem scTh : FnScope ["chip", "block"] ["chip", "block"] (defScope sThings) := ⟨rfl, rfl, rfl, by decide +kernel, rfl, by decide +kernel, by decide +kernel⟩
theorem row_all {S : CS} {b : Int} (h : (S.row b).length = S.np) : ((((List.range S.np).map fun i : Nat => V.int (i : Int)).filter fun _ => true).map fun v => match v with | .int i => (S.row b).getD i.toNat .non | _ => .non) = S.row b := by
 rw [List.filter_eq_self.mpr fun _ _ => rfl, List.map_map]
 refine List.ext_getElem? fun i => ?_
 by_cases hi : i < S.np
 . rw [List.getElem?_map, List.getElem?_range hi]
   have hi' : i < (S.row b).length := by rw [h]; exact hi
   show some ((S.row b).getD (i : Int).toNat .non) = _
   rw [Int.toNat_natCast, List.getD_eq_getElem?_getD, List.getElem?_eq_getElem hi']
   rfl
 . rw [List.getElem?_eq_none (by simp; omega), List.getElem?_eq_none (by omega)]
theorem ok_things {f : Addr} {fd : FuncData} (F : Fun K "things_on" "things_on" sThings f fd) (T : Txt K mg C cBS cNP cNE cNS cBC cCu cWE)
   (M_size : MtB P w K mg base C 51 "size" ["self"] (xpSize C)) (M_page : MtB P w K mg base C 53 "page" ["self", "block", "page"] (xpPage C cNP)) : FnOk P w K mg base (CXw P w) 54 f fd ["chip", "block"] (spThings C) := by
 refine F.okX (by decide) scTh (fun vs H Q E h => ?_) (fun cdv A outer s H vs Q E hr h => ?_)
 . obtain ⟨p, b, G, fp, rfl, _⟩ := h
   rfl
 . obtain ⟨p, b, G, fp, rfl, A1, hb, h⟩ := h
   obtain ⟨dx, S0, hl0, el0, h1⟩ := A1.at_
   have lim := A1.lim
   refine ⟨_, (@zWw _ _ _ (@zWv _ _ _ _ (@yJw _ _ _ _ _ _ _ _ ([1, 0]) (["block", "chip"]) _ _ _ rfl (@yQj _ _ _ _ _ _ rfl T.n_range (@zQw _ _ _ _ _ (@zJw _ _ _ _ _ _ _ (@yQw _) (@zZk _ _ _ _ _ _ _ _ _ _ _ _ T.cl M_size (hr.mono (by decide)) (@passE _ _ _) (pv 0) (by rfl)) zWz (fun _ _ => rfl)) zQk (by exact zQq rfl)) (by exact zQq rfl)) rfl (by decide +kernel) (by decide +kernel) (by decide +kernel) (by show ∀ y : Str × NameKind, y ∈ _ -> y.2 = NameKind.free -> List.lookup y.1 (defScope sThings).names = some NameKind.cell; decide +kernel) (by show ∀ p : Str × Nat, p ∈ _ -> List.lookup p.1 _ = some NameKind.free /\ (["chip", "block"] : List Str)[p.2]? = some p.1; decide +kernel) rfl (by decide +kernel) (fun _ _ _ _ _ => (@yJq _)) (fun _ _ _ _ _ => (@zZj _ _ _ _ _ _ _ _ _ _ _ _ _ _ _ T.cl M_page (hr.mono (by decide)) (@passE _ _ _) (pv 2) (@zQw _ _ _ _ _ (pv 1) (@zQw _ _ _ _ _ (pv 0) zQk (by exact zQq rfl)) (by exact zQq rfl)) (by exact zQq rfl) (by exact zQx rfl) (by rfl))) (by intro _; rfl)))), ?_⟩
   have A0 := A1
   obtain ⟨hl, el, rl, S, rfl, AS, B⟩ := A1
   have okb : S.okB b := ⟨by omega, by have := B.nb; omega⟩
   obtain ⟨r1, r2, _⟩ := AS.wf.row okb
   have hnp := B.np
   refine xWz S.np (by omega) (fun R q => ?_) (fun _ => true) (fun v => match v with | .int j => (S.row b).getD j.toNat .non | _ => .non) (fun j H4 R hj s4 q => q) (fun j H4 R hj _ s4 q => ?_) fun acc H2 hacc s2 _ => ?_
   . refine ⟨_, rfl, p, dx, _, rfl, h1, rfl, yQz A0 fun t H' ht s' => ⟨t, _, _, _, rfl, rfl, SqT.of ht, at1, ?_⟩⟩
     rw [<- hnp]
     exact q H' s'
   . refine ⟨_, rfl, p, dx, _, rfl, s4 _ _ h1, rfl, _, rfl, _, rfl, use_pageS (AS.same s4) ⟨okb, by omega, by omega⟩ q⟩
   . rw [row_all r2] at hacc
     refine h acc H2 _ hacc ⟨by rw [r2]; exact hnp, fun i v e => ?_⟩ s2
     have hi : i < G.np := by
       have := (List.getElem?_eq_some_iff.mp e).1
       omega
     obtain ⟨r, v', e1, e2, pv⟩ := B.pg b i hb hi
     rw [Int.toNat_natCast] at r1
     rw [r1] at e1
     cases e1
     rw [e] at e2
     cases e2
     exact pv.keep (.of s2)
def spIsEr (C : Addr) : Sp := fun vs H Q _ => ∃ (p : Addr) (b : Nat) (G : GS) (fp : List Addr), vs = [.ref p, .int b] /\ ChipX C H p G fp /\ b < G.nb /\ ∀ H', Same H H' -> Q (.bl (decide (G.Er b))) H'
theorem scIE : FnScope ["chip", "block"] ["chip", "block"] (defScope sIsEr) := ⟨rfl, rfl, rfl, by decide +kernel, rfl, by decide +kernel, by decide +kernel⟩
theorem PgV.isEr {H : Hp} {v : V} {g : Pg} (h : PgV H v g) : decide (v = .non) = decide (g = .er) := by
 cases h <;> rfl
theorem RowV.er {H : Hp} {xs : List V} {G : GS} {b : Nat} (R : RowV H xs G b) : ((xs.map fun v => decide (v = V.non)).all id) = decide (G.Er b) := by
 rw [Bool.eq_iff_iff, decide_eq_true_iff, List.all_eq_true]
 constructor
 . intro h i hi
   have hi' : i < xs.length := by rw [R.1]; exact hi
   have e : xs[i]? = some xs[i] := by simp [hi']
   have := h (decide (xs[i] = .non)) (List.mem_map.mpr ⟨_, List.getElem_mem hi', rfl⟩)
   have pv := R.2 i _ e
   rw [pv.isEr] at this
   simpa using this
 . intro h c m
   obtain ⟨v, mv, rfl⟩ := List.mem_map.mp m
   obtain ⟨i, hi, e⟩ := List.mem_iff_getElem.mp mv
   have pv := R.2 i v (by rw [<- e]; simp [hi])
   have := h i (by rw [<- R.1]; exact hi)
   simp [pv.isEr, this]
theorem bools_of {xs : List V} {f : V -> Bool} : (xs.filter fun _ => true).map (fun v => V.bl (f v)) = (xs.map f).map V.bl := by
 rw [List.filter_eq_self.mpr fun _ _ => rfl, List.map_map]
 rfl
theorem ok_isEr {f : Addr} {fd : FuncData} (F : Fun K "is_erased" "is_erased" sIsEr f fd) (T : Txt K mg C cBS cNP cNE cNS cBC cCu cWE) (TD : TxtD K mg D cNS cBC)
   (B_things_on : FnB P w K mg base 54 "things_on" ["chip", "block"] (spThings C)) : FnOk P w K mg base (CXw P w) 55 f fd ["chip", "block"] (spIsEr C) := by
 refine F.okX (by decide) scIE (fun vs H Q E h => ?_) (fun cdv A outer s H vs Q E hr h => ?_)
 . obtain ⟨p, b, G, fp, rfl, _⟩ := h
   rfl
 . obtain ⟨p, b, G, fp, rfl, A1, hb, h⟩ := h
   have lim := A1.lim
   refine ⟨_, (@zWw _ _ _ (@zWv _ _ _ _ (@zKx _ _ _ _ _ _ _ _ _ (@call_allB _ rfl) rfl TD.n_all PyProof.Rows.Boot.«all» (@zQw _ _ _ _ _ (@yJw _ _ _ _ _ _ _ _ ([]) ([]) _ _ _ rfl (@yWw _ _ _ _ (@zZx _ _ _ _ _ _ _ _ _ _ _ B_things_on (hr.mono (by decide)) rfl (@passE _ _ _) (@zQw _ _ _ _ _ (pv 0) (@zQw _ _ _ _ _ (pv 1) zQk (by exact zQq rfl)) (by exact zQq rfl)) (by decide) (by exact zQq rfl) (by exact zQx rfl))) rfl (by decide +kernel) (by decide +kernel) (by decide +kernel) (by show ∀ y : Str × NameKind, y ∈ _ -> y.2 = NameKind.free -> List.lookup y.1 (defScope sIsEr).names = some NameKind.cell; decide +kernel) (by show ∀ p : Str × Nat, p ∈ _ -> List.lookup p.1 _ = some NameKind.free /\ (["chip", "block"] : List Str)[p.2]? = some p.1; decide +kernel) rfl (by decide +kernel) (fun _ _ _ _ _ => (@yJq _)) (fun _ _ _ _ _ => (@pe_cmp _ _ _ _ _ _ (@pc_isN _ _ _ _ _ (pv 0)) (by first | exact nobehind _ (by decide) (by decide) | rfl))) (by intro _; rfl)) zQk (by exact zQq rfl)) (by decide) (by decide) (by exact zQq rfl) (by exact zQx rfl)))), ?_⟩
   refine yWz (fun l H' => ∃ xs, H' l = some (.lst xs) /\ RowV H' xs G b /\ Same H H') (fun R q => ⟨_, rfl, _, rfl, p, b, G, fp, rfl, A1, hb, fun l H' xs e1 e2 e3 => q l H' ⟨xs, e1, e2, e3⟩⟩) ?_
   rintro a H1 ⟨xs, e1, rv, s1⟩
   refine ⟨xs, fun _ => true, fun v => .bl (decide (v = .non)), e1, by have := rv.1; omega, fun i x H2 R _ _ q => q, fun i x H2 R _ _ _ q => ⟨_, rfl, q⟩, fun acc H2 hacc s2 => ⟨acc, _, rfl, by rw [hacc, bools_of], ?_⟩⟩
   rw [rv.er]
   exact h H2 (s1.trans s2)
def spHasW (C : Addr) : Sp := fun vs H Q _ => ∃ (p : Addr) (b : Nat) (G : GS) (fp : List Addr), vs = [.ref p, .int b] /\ ChipX C H p G fp /\ b < G.nb /\ ∀ H' k, (k = true ↔ G.Wh b) -> Same H H' -> Q (.bl k) H'
theorem scHW : FnScope ["chip", "block"] ["chip", "block"] (defScope sHasW) := ⟨rfl, rfl, rfl, by decide +kernel, rfl, by decide +kernel, by decide +kernel⟩
def isTupV : V -> Bool
 | .ref _ => true
 | _ => false
theorem PgV.isWh {H : Hp} {v : V} {g : Pg} (h : PgV H v g) : isTupV v = true ↔ ∃ s c n, g = .wh s c n := by
 cases h with
 | er => exact ⟨fun z => (nomatch z), fun ⟨_, _, _, z⟩ => (nomatch z)⟩
 | torn => exact ⟨fun z => (nomatch z), fun ⟨_, _, _, z⟩ => (nomatch z)⟩
 | wh e => exact ⟨fun _ => ⟨_, _, _, rfl⟩, fun _ => rfl⟩
theorem PgV.ask {H : Hp} {v : V} {g : Pg} (h : PgV H v g) (TD : TxtD K mg D cNS cBC) : ∃ t, TyOf K H v t /\ PySem.W.kitOne K t (.type "tuple") = some (isTupV v) := by
 cases h with
 | er => exact ⟨_, .non, TD.kt_non⟩
 | torn => exact ⟨_, .str _, TD.kt_str⟩
 | wh e => exact ⟨_, .tup e, TD.kt_tup⟩
theorem RowV.wh {H : Hp} {xs : List V} {G : GS} {b : Nat} (R : RowV H xs G b) : ((xs.map isTupV).any id) = true ↔ G.Wh b := by
 rw [List.any_eq_true]
 constructor
 . rintro ⟨c, m, hc⟩
   obtain ⟨v, mv, rfl⟩ := List.mem_map.mp m
   obtain ⟨i, hi, e⟩ := List.mem_iff_getElem.mp mv
   have pv := R.2 i v (by rw [<- e]; simp [hi])
   exact ⟨i, by rw [<- R.1]; exact hi, pv.isWh.mp hc⟩
 . rintro ⟨i, hi, q⟩
   have hi' : i < xs.length := by rw [R.1]; exact hi
   have pv := R.2 i xs[i] (by simp [hi'])
   exact ⟨isTupV xs[i], List.mem_map.mpr ⟨_, List.getElem_mem hi', rfl⟩, pv.isWh.mpr q⟩
theorem ok_hasW {f : Addr} {fd : FuncData} (F : Fun K "has_whole_page" "has_whole_page" sHasW f fd) (T : Txt K mg C cBS cNP cNE cNS cBC cCu cWE) (TD : TxtD K mg D cNS cBC)
   (B_things_on : FnB P w K mg base 54 "things_on" ["chip", "block"] (spThings C)) : FnOk P w K mg base (CXw P w) 55 f fd ["chip", "block"] (spHasW C) := by
 refine F.okX (by decide) scHW (fun vs H Q E h => ?_) (fun cdv A outer s H vs Q E hr h => ?_)
 . obtain ⟨p, b, G, fp, rfl, _⟩ := h
   rfl
 . obtain ⟨p, b, G, fp, rfl, A1, hb, h⟩ := h
   have lim := A1.lim
   refine ⟨_, (@zWw _ _ _ (@zWv _ _ _ _ (@zKx _ _ _ _ _ _ _ _ _ (@call_anyB _ rfl) rfl TD.n_any PyProof.Rows.Boot.«any» (@zQw _ _ _ _ _ (@yJw _ _ _ _ _ _ _ _ ([]) ([]) _ _ _ rfl (@yWw _ _ _ _ (@zZx _ _ _ _ _ _ _ _ _ _ _ B_things_on (hr.mono (by decide)) rfl (@passE _ _ _) (@zQw _ _ _ _ _ (pv 0) (@zQw _ _ _ _ _ (pv 1) zQk (by exact zQq rfl)) (by exact zQq rfl)) (by decide) (by exact zQq rfl) (by exact zQx rfl))) rfl (by decide +kernel) (by decide +kernel) (by decide +kernel) (by show ∀ y : Str × NameKind, y ∈ _ -> y.2 = NameKind.free -> List.lookup y.1 (defScope sHasW).names = some NameKind.cell; decide +kernel) (by show ∀ p : Str × Nat, p ∈ _ -> List.lookup p.1 _ = some NameKind.free /\ (["chip", "block"] : List Str)[p.2]? = some p.1; decide +kernel) rfl (by decide +kernel) (fun _ _ _ _ _ => (@yJq _)) (fun _ _ _ _ _ => (@zKx _ _ _ _ _ _ _ _ _ (@xWx _ (K) rfl) rfl T.n_isinstance PyProof.Rows.Boot.«isinstance» (@zQw _ _ _ _ _ (pv 0) (@zQw _ _ _ _ _ (@pe_bltn _ _ (.ty "tuple") _ _ rfl TD.n_tuple PyProof.Rows.Boot.«tuple» rfl (by decide) (by decide)) zQk (by exact zQq rfl)) (by exact zQq rfl)) (by decide) (by decide) (by exact zQq rfl) (by exact zQx rfl))) (by intro _; rfl)) zQk (by exact zQq rfl)) (by decide) (by decide) (by exact zQq rfl) (by exact zQx rfl)))), ?_⟩
   refine yWz (fun l H' => ∃ xs, H' l = some (.lst xs) /\ RowV H' xs G b /\ Same H H') (fun R q => ⟨_, rfl, _, rfl, p, b, G, fp, rfl, A1, hb, fun l H' xs e1 e2 e3 => q l H' ⟨xs, e1, e2, e3⟩⟩) ?_
   rintro a H1 ⟨xs, e1, rv, s1⟩
   refine ⟨xs, fun _ => true, fun v => .bl (isTupV v), e1, by have := rv.1; omega, fun i x H2 R _ _ q => q, fun i x H2 R ei _ s2 q => ?_, fun acc H2 hacc s2 => ⟨acc, _, rfl, by rw [hacc, bools_of], h H2 _ rv.wh (s1.trans s2)⟩⟩
   obtain ⟨t, ty, k⟩ := ((rv.2 i x ei).keep (.of s2)).ask TD
   exact ⟨_, rfl, x, _, _, t, _, rfl, fun u' r => r, ty, k, q⟩
def spBehind (C : Addr) : Sp := fun vs H Q _ => ∃ (p : Addr) (b : Nat) (G : GS) (fp : List Addr), vs = [.ref p, .int b] /\ ChipX C H p G fp /\ b < G.nb /\ ∀ H', Same H H' -> Q (.int (nx G.nb b)) H'
theorem scBh : FnScope ["chip", "block"] ["chip", "block"] (defScope sBehind) := ⟨rfl, rfl, rfl, by decide +kernel, rfl, by decide +kernel, by decide +kernel⟩
theorem nx_mod {n b : Nat} (h : b < n) : ((b : Int) + 1) % (n : Int) = (nx n b : Int) := by
 unfold nx
 by_cases e : b + 1 = n
 . rw [if_pos e]
   have : (b : Int) + 1 = n := by omega
   rw [this, Int.emod_self]
   rfl
 . rw [if_neg e, Int.emod_eq_of_lt (by omega) (by omega)]
   rfl
theorem ok_behind {f : Addr} {fd : FuncData} (F : Fun K "block_behind" "block_behind" sBehind f fd) (T : Txt K mg C cBS cNP cNE cNS cBC cCu cWE)
   (M_size : MtB P w K mg base C 51 "size" ["self"] (xpSize C)) : FnOk P w K mg base (CXw P w) 52 f fd ["chip", "block"] (spBehind C) := by
 refine F.okX (by decide) scBh (fun vs H Q E h => ?_) (fun cdv A outer s H vs Q E hr h => ?_)
 . obtain ⟨p, b, G, fp, rfl, _⟩ := h
   rfl
 . obtain ⟨p, b, G, fp, rfl, A1, hb, h⟩ := h
   have lim := A1.lim
   obtain ⟨dx, S0, hl0, el0, h1⟩ := A1.at_
   refine ⟨_, (@zWw _ _ _ (@zWv _ _ _ _ (@zJk _ _ _ _ _ _ _ _ (@yKv _) (@zJk _ _ _ _ _ _ _ _ (@xWq _) (pv 1) zWz) (@zJw _ _ _ _ _ _ _ (@yQw _) (@zZk _ _ _ _ _ _ _ _ _ _ _ _ T.cl M_size (hr.mono (by decide)) (@passE _ _ _) (pv 0) (by rfl)) zWz (fun _ _ => rfl))))), ?_⟩
   refine ⟨_, rfl, _, _, rfl, rfl, _, rfl, p, dx, _, rfl, h1, rfl, yQz A1 fun t H' ht s' => ⟨t, _, _, _, rfl, rfl, SqT.of ht, at0, _, _, rfl, rfl, by show (0 : Int) < (G.nb : Int); omega, ?_⟩⟩
   have := h H' s'
   rw [<- nx_mod hb] at this
   exact this
end
abbrev sWholeP : Stmt := top 27
abbrev sNewB : Stmt := top 28
abbrev sNewP : Stmt := top 29
abbrev sLast : Stmt := top 30
def TrP (H : Hp) (a : Addr) (t : Int × Nat × Nat) : Prop := H a = some (.tup [.int t.1, .int t.2.1, .int t.2.2])
def TrAll (H : Hp) (ps : List Addr) (ts : List (Int × Nat × Nat)) : Prop := ps.length = ts.length /\ ∀ (i : Nat) (a : Addr) (t : Int × Nat × Nat), ps[i]? = some a -> ts[i]? = some t -> TrP H a t
theorem TrAll.keep {H H' : Hp} {ps : List Addr} {ts : List (Int × Nat × Nat)} (h : TrAll H ps ts) (k : Tups H H') : TrAll H' ps ts := ⟨h.1, fun i a t e1 e2 => k _ _ (h.2 i a t e1 e2)⟩
theorem TrAll.snoc {H : Hp} {ps : List Addr} {ts : List (Int × Nat × Nat)} (h : TrAll H ps ts) {a : Addr} {t : Int × Nat × Nat} (e : TrP H a t) : TrAll H (ps ++ [a]) (ts ++ [t]) := by
 refine ⟨by rw [List.length_append, List.length_append, h.1]; rfl, fun i b u e1 e2 => ?_⟩
 by_cases hi : i < ps.length
 . rw [List.getElem?_append_left hi] at e1
   rw [List.getElem?_append_left (by rw [<- h.1]; exact hi)] at e2
   exact h.2 i b u e1 e2
 . rw [List.getElem?_append_right (by omega)] at e1
   rw [List.getElem?_append_right (by rw [<- h.1]; omega), <- h.1] at e2
   cases hk : i - ps.length with
   | zero =>
     rw [hk] at e1 e2
     cases e1
     cases e2
     exact e
   | succ k =>
     rw [hk] at e1
     cases e1
def tripOf (H : Hp) (a : Addr) : Int × Nat × Nat := match H a with
 | some (.tup [.int n, .int b, .int i]) => (n, b.toNat, i.toNat)
 | _ => (0, 0, 0)
theorem TrP.of {H : Hp} {a : Addr} {t : Int × Nat × Nat} (h : TrP H a t) : tripOf H a = t := by
 unfold tripOf
 rw [h]
 obtain ⟨n, b, i⟩ := t
 simp
theorem TrAll.map {H : Hp} {ps : List Addr} {ts : List (Int × Nat × Nat)} (h : TrAll H ps ts) : ps.map (tripOf H) = ts := by
 refine List.ext_getElem? fun i => ?_
 rw [List.getElem?_map]
 by_cases hi : i < ps.length
 . have hi' : i < ts.length := by rw [<- h.1]; exact hi
   have e1 : ps[i]? = some ps[i] := by simp [hi]
   have e2 : ts[i]? = some ts[i] := by simp [hi']
   rw [e1, e2]
   exact congrArg some (h.2 i _ _ e1 e2).of
 . rw [List.getElem?_eq_none (by omega), List.getElem?_eq_none (by rw [<- h.1]; omega)]
   rfl
theorem TrAll.mem {H : Hp} {ps : List Addr} {ts : List (Int × Nat × Nat)} (h : TrAll H ps ts) {a : Addr} (m : a ∈ ps) : TrP H a (tripOf H a) := by
 obtain ⟨i, hi, e⟩ := List.mem_iff_getElem.mp m
 have hi' : i < ts.length := by rw [<- h.1]; exact hi
 have := h.2 i a ts[i] (by rw [<- e]; simp [hi]) (by simp [hi'])
 rw [this.of]
 exact this
section
variable {P : Program} {w : World} {K : PySem.W.Frag} {mg : Str -> Option Value} {base : Heap} {C D cBS cNP cNE cNS cBC cCu cWE : Addr}
def spWhole (C : Addr) : Sp := fun vs H Q _ => ∃ (p : Addr) (G : GS) (fp : List Addr) (many : Nat), vs = [.ref p] /\ ChipX C H p G fp /\ G.Rdy many /\ ∀ l H' ps ts, H l = none -> H' l = some (.lst (ps.map V.ref)) -> TrAll H' ps ts -> ts.Perm G.wl -> (ts.Pairwise fun a b => a.1 < b.1) -> Same H H' -> Q (.ref l) H'
theorem scWP : FnScope ["chip", "found", "block", "page", "thing"] ["chip"] (defScope sWholeP) := ⟨rfl, rfl, rfl, by decide +kernel, rfl, by decide +kernel, by decide +kernel⟩
theorem wr_len {G : GS} {b : Nat} : ∀ i, (G.wr b i).length <= i
 | 0 => by unfold GS.wr; simp
 | i + 1 => by
   rw [wr_succ, List.length_append]
   have := wr_len (G := G) (b := b) i
   have : (G.wp b i).length <= 1 := by unfold GS.wp; split <;> simp
   omega
theorem wb_len {G : GS} : ∀ b, (G.wb b).length <= b * G.np
 | 0 => by unfold GS.wb; simp
 | b + 1 => by
   rw [wb_succ, List.length_append]
   have := wb_len (G := G) b
   have := wr_len (G := G) (b := b) G.np
   rw [Nat.succ_mul]
   omega
theorem ok_whole {f : Addr} {fd : FuncData} (F : Fun K "whole_pages" "whole_pages" sWholeP f fd) (T : Txt K mg C cBS cNP cNE cNS cBC cCu cWE) (TD : TxtD K mg D cNS cBC)
   (M_size : MtB P w K mg base C 51 "size" ["self"] (xpSize C)) (M_page : MtB P w K mg base C 53 "page" ["self", "block", "page"] (xpPage C cNP)) : FnOk P w K mg base (CXw P w) 54 f fd ["chip"] (spWhole C) := by
 refine F.okX (by decide) scWP (fun vs H Q E h => ?_) (fun cdv A outer s H vs Q E hr h => ?_)
 . obtain ⟨p, G, fp, many, rfl, _⟩ := h
   rfl
 . obtain ⟨p, G, fp, many, rfl, A1, rdy, h⟩ := h
   have lim := A1.lim
   obtain ⟨dx, S0, hl0, el0, h1⟩ := A1.at_
   refine ⟨_, (@zQj _ _ _ _ _ (@zJq _ _ (1) _ _ _ _ scWP.nd rfl (Or.inl rfl) (@zJv _ _ _ _ zQk) (by rfl) (by first | exact .inl rfl | exact .inr rfl | assumption)) (@zQj _ _ _ _ _ (@yKj _ _ _ _ _ _ _ _ PassesOwn.leaving rfl (@yQj _ _ _ _ _ _ rfl T.n_range (@zQw _ _ _ _ _ (@zJw _ _ _ _ _ _ _ (@yQw _) (@zZk _ _ _ _ _ _ _ _ _ _ _ _ T.cl M_size (hr.mono (by decide)) (@passE _ _ _) (pv 0) (by rfl)) zWz (fun _ _ => rfl)) zQk (by exact zQq rfl)) (by exact zQq rfl)) (@yQk _ _ (2) _ scWP.nd rfl (Or.inl rfl) (by first | exact .inl rfl | exact .inr rfl | assumption)) (@zWw _ _ _ (@yKj _ _ _ _ _ _ _ _ PassesOwn.leaving rfl (@yQj _ _ _ _ _ _ rfl T.n_range (@zQw _ _ _ _ _ (@zJw _ _ _ _ _ _ _ (@yQw _) (@zZk _ _ _ _ _ _ _ _ _ _ _ _ T.cl M_size (hr.mono (by decide)) (@passE _ _ _) (pv 0) (by rfl)) zWz (fun _ _ => rfl)) zQk (by exact zQq rfl)) (by exact zQq rfl)) (@yQk _ _ (3) _ scWP.nd rfl (Or.inl rfl) (by first | exact .inl rfl | exact .inr rfl | assumption)) (@zQj _ _ _ _ _ (@zJq _ _ (4) _ _ _ _ scWP.nd rfl (Or.inl rfl) (@zZj _ _ _ _ _ _ _ _ _ _ _ _ _ _ _ T.cl M_page (hr.mono (by decide)) zWj (pv 0) (@zQw _ _ _ _ _ (pv 2) (@zQw _ _ _ _ _ (pv 3) zQk (by exact zQq rfl)) (by exact zQq rfl)) (by exact zQq rfl) (by exact zQx rfl) (by rfl)) (by rfl) (by first | exact .inl rfl | exact .inr rfl | assumption)) (@zWw _ _ _ (@yQq _ _ _ _ _ _ _ _ (@yZk _ _ _ (@zKx _ _ _ _ _ _ _ _ _ (@xWx _ (K) rfl) rfl T.n_isinstance PyProof.Rows.Boot.«isinstance» (@zQw _ _ _ _ _ (pv 4) (@zQw _ _ _ _ _ (@pe_bltn _ _ (.ty "tuple") _ _ rfl TD.n_tuple PyProof.Rows.Boot.«tuple» rfl (by decide) (by decide)) zQk (by exact zQq rfl)) (by exact zQq rfl)) (by decide) (by decide) (by exact zQq rfl) (by exact zQx rfl)) (by intro _; rfl)) (@zWw _ _ _ (@zJj _ _ _ _ (@pe_bm _ _ _ _ _ _ _ _ _ _ _ _ PySem.F.plainAttrs_list PySem.F.slot_list_append PySem.F.type_list_append (@yJj _) (pv 1) (@zQw _ _ _ _ _ (@zJz _ _ _ _ _ (@zQw _ _ _ _ _ (@zJw _ _ _ _ _ _ _ (@yQw _) (pv 4) zWz (fun _ _ => rfl)) (@zQw _ _ _ _ _ (pv 2) (@zQw _ _ _ _ _ (pv 3) zQk (by exact zQq rfl)) (by exact zQq rfl)) (by exact zQq rfl))) zQk (by exact zQq rfl)) (by rfl) (by rfl) (by rfl) (by exact zQq rfl) (by exact zQx rfl)) (by rfl))) (@zZw _)))) (by intro _; rfl))) (by intro _; rfl)) (@zWw _ _ _ (@zWv _ _ _ _ (@zKx _ _ _ _ _ _ _ _ _ (@call_sortedT _) rfl TD.n_sorted PyProof.Rows.Boot.«sorted» (@zQw _ _ _ _ _ (pv 1) zQk (by exact zQq rfl)) (by decide) (by decide) (by exact zQq rfl) (by exact zQx rfl)))))), ?_⟩
   refine ⟨Nat.zero_le _, fun fl nfl => ?_⟩
   have s1 := zWq (o := .lst []) nfl
   have hf : upd H fl (.lst []) fl = some (.lst []) := zQz
   generalize upd H fl (.lst []) = H1 at s1 hf ⊢
   refine ⟨_, rfl, p, dx, _, rfl, s1 _ _ h1, rfl, yQz (A1.same s1) fun t H2 ht s2 => ⟨t, _, _, _, rfl, rfl, SqT.of ht, at0, (G.nb : Int), rfl, by omega, by omega, ?_⟩⟩
   have step : ∀ {H3 H4 : Hp} {ps : List Addr} {ts : List (Int × Nat × Nat)}, Same H3 H4 -> (H3 fl = some (.lst (ps.map V.ref)) /\ TrAll H3 ps ts) -> H4 fl = some (.lst (ps.map V.ref)) /\ TrAll H4 ps ts := fun s ⟨a, b⟩ => ⟨s _ _ a, b.keep (.of s)⟩
   have len2 : ∀ b i, b < G.nb -> i < G.np -> (G.wb b ++ G.wr b i).length < 1000 := fun b i hb hi => by
     rw [List.length_append]
     have q1 := wb_len (G := G) b
     have q2 := wr_len (G := G) (b := b) i
     have q3 : b * G.np <= 31 * 16 := Nat.mul_le_mul (by omega) (by omega)
     omega
   refine yWv (lo := 0) (n := (G.nb : Int).toNat) (fun b σ H3 => Same H H3 /\ (∃ ps, H3 fl = some (.lst (ps.map V.ref)) /\ TrAll H3 ps (G.wb b)) /\ ∃ v1 v2 v3, σ = [some (.ref p), some (.ref fl), v1, v2, v3]) ⟨s1.trans s2, ⟨[], s2 _ _ hf, rfl, fun i a t e => by cases e⟩, _, _, _, rfl⟩ ?_ ?_
   . rintro b σ H3 hb ⟨s3, ⟨ps, hps, tr⟩, v1, v2, v3, rfl⟩
     rw [Int.zero_add]
     have A3 := A1.same s3
     refine ⟨_, rfl, p, dx, _, rfl, s3 _ _ h1, rfl, yQz A3 fun t H4 ht4 s4 => ⟨t, _, _, _, rfl, rfl, SqT.of ht4, at1, (G.np : Int), rfl, by omega, by omega, ?_⟩⟩
     refine yWv (lo := 0) (n := (G.np : Int).toNat) (fun i σ H5 => Same H H5 /\ (∃ ps, H5 fl = some (.lst (ps.map V.ref)) /\ TrAll H5 ps (G.wb b ++ G.wr b i)) /\ ∃ v2 v3, σ = [some (.ref p), some (.ref fl), some (.int (b : Int)), v2, v3]) ⟨s3.trans s4, ⟨ps, s4 _ _ hps, by
         have e : G.wb b ++ G.wr b 0 = G.wb b := by unfold GS.wr; simp
         rw [e]; exact tr.keep (.of s4)⟩, _, _, rfl⟩ ?_ ?_
     . rintro i σ H5 hi ⟨s5, ⟨ps5, hps5, tr5⟩, v2, v3, rfl⟩
       rw [Int.zero_add]
       have A5 := A1.same s5
       have hb' : b < G.nb := by omega
       have hi' : i < G.np := by omega
       refine ⟨_, rfl, p, dx, _, rfl, s5 _ _ h1, rfl, _, rfl, _, rfl, xWk A5 hb' hi' fun v pv => ?_⟩
       obtain ⟨ty, hty, hk⟩ := pv.ask TD
       refine ⟨_, rfl, v, _, _, ty, _, rfl, fun u' r => r, hty, hk, _, rfl, ?_⟩
       have eW : G.wb b ++ G.wr b (i + 1) = (G.wb b ++ G.wr b i) ++ G.wp b i := by rw [wr_succ, List.append_assoc]
       cases hg : G.pg b i with
       | er =>
         rw [hg] at pv
         cases pv
         refine iteF ⟨s5, ⟨ps5, hps5, ?_⟩, _, _, rfl⟩
         rw [eW]
         unfold GS.wp
         rw [hg, List.append_nil]
         exact tr5
       | torn =>
         rw [hg] at pv
         cases pv
         refine iteF ⟨s5, ⟨ps5, hps5, ?_⟩, _, _, rfl⟩
         rw [eW]
         unfold GS.wp
         rw [hg, List.append_nil]
         exact tr5
       | wh sc c n =>
         rw [hg] at pv
         cases pv with
         | @wh a _ _ _ e =>
           refine iteT ⟨_, rfl, .inl ⟨rfl, _, SqL.of hps5⟩, _, rfl, a, _, _, _, rfl, rfl, SqT.of e, at2, _, rfl, _, rfl, by show 3 <= sizeLine; decide, fun tt ntt => ⟨fl, _, _, rfl, rfl, zWq ntt _ _ hps5, ?_, ?_⟩⟩
           . rw [List.length_map, tr5.1]
             exact small1000 (Nat.le_of_lt (len2 b i hb' hi'))
           . have s6 := zWq (o := .tup [.int n, .int (b : Int), .int (i : Int)]) ntt
             have tt6 : TrP (upd H5 tt (.tup [.int n, .int (b : Int), .int (i : Int)])) tt (n, b, i) := zQz
             have hps6 := s6 _ _ hps5
             generalize upd H5 tt (.tup [.int n, .int (b : Int), .int (i : Int)]) = H6 at s6 tt6 hps6 ⊢
             have kt : Tups H6 (upd H6 fl (.lst (ps5.map V.ref ++ [.ref tt]))) := fun c xs ec => by
               rw [zWx (yJz ec hps6 (by intro z; cases z))]
               exact ec
             have sH : Same H (upd H6 fl (.lst (ps5.map V.ref ++ [.ref tt]))) := fun c o ec => by
               rw [zWx (zWk ec nfl)]
               exact s6 _ _ (s5 _ _ ec)
             refine ⟨sH, ⟨ps5 ++ [tt], by rw [List.map_append]; exact zQz, ?_⟩, _, _, rfl⟩
             rw [eW]
             have ew : G.wp b i = [(n, b, i)] := by unfold GS.wp; rw [hg]
             rw [ew]
             exact ((tr5.keep (.of s6)).snoc tt6).keep kt
     . rintro σ H5 ⟨s5, ⟨ps5, hps5, tr5⟩, v2, v3, rfl⟩
       rw [Int.toNat_natCast] at tr5
       exact ⟨s5, ⟨ps5, hps5, by rw [wb_succ]; exact tr5⟩, _, _, _, rfl⟩
   . rintro σ H3 ⟨s3, ⟨ps, hps, tr⟩, v1, v2, v3, rfl⟩
     rw [Int.toNat_natCast] at tr
     have trm := tr.map
     refine ⟨_, rfl, fl, ps, fun a => (tripOf H3 a).1, rfl, hps, fun a m => ⟨_, tr.mem m⟩, ?_, ?_, fun l out nl op os => ?_⟩
     . have e : ps.map (fun a => (tripOf H3 a).1) = G.wl.map (·.1) := by
         rw [show G.wl = ps.map (tripOf H3) from trm.symm, List.map_map]
         rfl
       rw [e]
       exact rdy.nd
     . rw [tr.1]
       exact rdy.few
     . have s4 := zWq (o := .lst (out.map V.ref)) nl
       have tro : TrAll H3 out (out.map (tripOf H3)) := ⟨by rw [List.length_map], fun i a t e1 e2 => by
         rw [List.getElem?_map, e1] at e2
         cases e2
         exact tr.mem (op.mem_iff.mp (List.mem_of_getElem? e1))⟩
       refine h l _ out (out.map (tripOf H3)) (s3.free nl) zQz (tro.keep (.of s4)) ?_ ?_ (s3.trans s4)
       . rw [show G.wl = ps.map (tripOf H3) from trm.symm]
         exact op.map _
       . rw [List.pairwise_map]
         exact os
end
theorem atI_last {α : Type} {xs : List α} {v : α} (h : xs.getLast? = some v) : atI xs (-1) = some v := by
 have hne : xs ≠ [] := by intro z; rw [z] at h; cases h
 have hl : 0 < xs.length := List.length_pos_iff.mpr hne
 unfold atI ixN
 rw [if_neg (by decide), if_pos (by omega)]
 show xs[((-1 : Int) + (xs.length : Int)).toNat]? = some v
 rw [show ((-1 : Int) + (xs.length : Int)).toNat = xs.length - 1 by omega, <- List.getLast?_eq_getElem?]
 exact h
theorem last_of {G : GS} {b : Nat} (hb : b < G.nb) (h : ¬ G.Er b /\ G.Er (nx G.nb b)) (first : ∀ b', b' < b -> ¬ (¬ G.Er b' /\ G.Er (nx G.nb b'))) : G.last = b := by
 unfold GS.last
 have e : (List.range G.nb).find? (fun b => decide (¬ G.Er b /\ G.Er (nx G.nb b))) = some b := by
   rw [List.find?_range_eq_some]
   exact ⟨decide_eq_true h, List.mem_range.mpr hb, fun j hj => by rw [decide_eq_false (first j hj)]; rfl⟩
 rw [e]
 rfl
theorem last_none {G : GS} (first : ∀ b', b' < G.nb -> ¬ (¬ G.Er b' /\ G.Er (nx G.nb b'))) : G.last = 0 := by
 unfold GS.last
 have e2 : ((List.range G.nb).find? fun b => decide (¬ G.Er b /\ G.Er (nx G.nb b))) = none := by
   rw [List.find?_eq_none]
   intro b m
   rw [decide_eq_false (first b (List.mem_range.mp m))]
   exact Bool.false_ne_true
 rw [e2]
 rfl
def PlAt (H : Hp) (xs : List V) (many : Nat) (pl : Nat -> Option (Nat × Nat)) : Prop := xs.length = many /\ ∀ (s : Nat) (v : V), xs[s]? = some v -> PlV H v ((pl s).map fun q => ((q.1 : Int), (q.2 : Int)))
theorem _root_.L2.PlV.keep {H H' : Hp} {v : V} {o : Option (Int × Int)} (h : PlV H v o) (k : Tups H H') : PlV H' v o := by
 cases h with
 | non => exact .non
 | at_ e => exact .at_ (k _ _ e)
theorem PlAt.keep {H H' : Hp} {xs : List V} {many : Nat} {pl : Nat -> Option (Nat × Nat)} (h : PlAt H xs many pl) (k : Tups H H') : PlAt H' xs many pl := ⟨h.1, fun s v e => (h.2 s v e).keep k⟩
theorem PlAt.set {H : Hp} {xs : List V} {many : Nat} {pl : Nat -> Option (Nat × Nat)} (h : PlAt H xs many pl) {s : Nat} {a : Addr} {b i : Nat} (e : H a = some (.tup [.int b, .int i])) : PlAt H (xs.set s (.ref a)) many (set1 pl s (some (b, i))) := by
 refine ⟨by rw [List.length_set]; exact h.1, fun s' v ev => ?_⟩
 unfold set1
 by_cases z : s' = s
 . subst z
   rw [if_pos rfl]
   have hl : s' < xs.length := by
     have := (List.getElem?_eq_some_iff.mp ev).1
     rwa [List.length_set] at this
   rw [List.getElem?_set_self hl] at ev
   cases ev
   exact .at_ e
 . rw [if_neg z]
   rw [List.getElem?_set_ne (Ne.symm z)] at ev
   exact h.2 s' v ev
section
variable {P : Program} {w : World} {K : PySem.W.Frag} {mg : Str -> Option Value} {base : Heap} {C D cBS cNP cNE cNS cBC cCu cWE : Addr}
def spNewB (C : Addr) : Sp := fun vs H Q _ => ∃ (p : Addr) (G : GS) (fp : List Addr) (many : Nat), vs = [.ref p] /\ ChipX C H p G fp /\ G.Rdy many /\ ∀ H' N, G.Newest N -> Same H H' -> Q (.int (N : Int)) H'
theorem scNB : FnScope ["chip", "found"] ["chip"] (defScope sNewB) := ⟨rfl, rfl, rfl, by decide +kernel, rfl, by decide +kernel, by decide +kernel⟩
theorem ok_newB {f : Addr} {fd : FuncData} (F : Fun K "newest_block" "newest_block" sNewB f fd) (T : Txt K mg C cBS cNP cNE cNS cBC cCu cWE)
   (M_size : MtB P w K mg base C 51 "size" ["self"] (xpSize C)) (B_whole_pages : FnB P w K mg base 54 "whole_pages" ["chip"] (spWhole C)) : FnOk P w K mg base (CXw P w) 55 f fd ["chip"] (spNewB C) := by
 refine F.okX (by decide) scNB (fun vs H Q E h => ?_) (fun cdv A outer s H vs Q E hr h => ?_)
 . obtain ⟨p, G, fp, many, rfl, _⟩ := h
   rfl
 . obtain ⟨p, G, fp, many, rfl, A1, rdy, h⟩ := h
   have lim := A1.lim
   obtain ⟨dx, S0, hl0, el0, h1⟩ := A1.at_
   refine ⟨_, (@zQj _ _ _ _ _ (@zJq _ _ (1) _ _ _ _ scNB.nd rfl (Or.inl rfl) (@zZx _ _ _ _ _ _ _ _ _ _ _ B_whole_pages (hr.mono (by decide)) rfl (@passE _ _ _) (@zQw _ _ _ _ _ (pv 0) zQk (by exact zQq rfl)) (by decide) (by exact zQq rfl) (by exact zQx rfl)) (by rfl) (by first | exact .inl rfl | exact .inr rfl | assumption)) (@zWw _ _ _ (@zWv _ _ _ _ (@xWv _ _ _ _ _ _ _ _ (@pt_truth _ _ _ (pv 1) (fun _ => rfl)) (@zJw _ _ _ _ _ _ _ (@yQw _) (@zJw _ _ _ _ _ _ _ (@zJx _) (pv 1) (@pe_un _ _ _ _ _ _ (@un_neg _) zWz) (fun _ _ => rfl)) zWz (fun _ _ => rfl)) (@zJk _ _ _ _ _ _ _ _ (@op_sub _) (@zJw _ _ _ _ _ _ _ (@yQw _) (@zZk _ _ _ _ _ _ _ _ _ _ _ _ T.cl M_size (hr.mono (by decide)) (@passE _ _ _) (pv 0) (by rfl)) zWz (fun _ _ => rfl)) zWz))))), ?_⟩
   refine ⟨_, rfl, p, G, fp, many, rfl, A1, rdy, fun l H1 ps ts _ e1 tr pm so s1 => ?_⟩
   refine ⟨_, rfl, _, .inl ⟨_, SqL.of e1, rfl⟩, ?_⟩
   cases hps : ps.getLast? with
   | none =>
     have hp0 : ps = [] := List.getLast?_eq_none_iff.mp hps
     subst hp0
     have hts : ts = [] := List.eq_nil_of_length_eq_zero (by rw [<- tr.1]; rfl)
     refine iteF ⟨_, rfl, p, dx, _, rfl, s1 _ _ h1, rfl, yQz (A1.same s1) fun t H2 ht s2 => ⟨t, _, _, _, rfl, rfl, SqT.of ht, at0, _, _, rfl, rfl, ?_⟩⟩
     have := h H2 (G.nb - 1) (newest_none pm hts (by omega)) (s1.trans s2)
     rw [show ((G.nb - 1 : Nat) : Int) = (G.nb : Int) - 1 by omega] at this
     exact this
   | some a =>
     have hne : (!(ps.map V.ref).isEmpty) = true := by
       cases ps with
       | nil => cases hps
       | cons _ _ => rfl
     rw [hne]
     obtain ⟨l', rfl⟩ := List.getLast?_eq_some_iff.mp hps
     obtain ⟨t, ht⟩ : ∃ t, ts.getLast? = some t := by
       cases hh : ts.getLast? with
       | some t => exact ⟨t, rfl⟩
       | none =>
         have z := List.getLast?_eq_none_iff.mp hh
         have := tr.1
         rw [z] at this
         simp at this
     have hat : TrP H1 a t := by
       refine tr.2 (ts.length - 1) a t ?_ (by rw [<- List.getLast?_eq_getElem?]; exact ht)
       rw [<- tr.1, <- List.getLast?_eq_getElem?]
       exact hps
     refine iteT ⟨_, rfl, _, rfl, l, _, _, _, rfl, rfl, SqL.of e1, atI_last (v := .ref a) (by rw [List.getLast?_map, hps]; rfl), a, _, _, _, rfl, rfl, SqT.of hat, at1, ?_⟩
     exact h H1 _ (newest_of pm so ht) s1
def spNewP (C : Addr) : Sp := fun vs H Q _ => ∃ (p : Addr) (G : GS) (fp : List Addr) (many : Nat), vs = [.ref p, .int many] /\ ChipX C H p G fp /\ G.Rdy many /\ many <= 480 /\ ∀ l H' xs pl, H l = none -> H' l = some (.lst xs) -> PlAt H' xs many pl -> G.Pl many pl -> Same H H' -> Q (.ref l) H'
theorem scNP : FnScope ["chip", "many", "places", "found", "sector"] ["chip", "many"] (defScope sNewP) := ⟨rfl, rfl, rfl, by decide +kernel, rfl, by decide +kernel, by decide +kernel⟩
theorem ok_newP {f : Addr} {fd : FuncData} (F : Fun K "newest_places" "newest_places" sNewP f fd) (T : Txt K mg C cBS cNP cNE cNS cBC cCu cWE)
   (M_page : MtB P w K mg base C 53 "page" ["self", "block", "page"] (xpPage C cNP)) (B_whole_pages : FnB P w K mg base 54 "whole_pages" ["chip"] (spWhole C)) : FnOk P w K mg base (CXw P w) 55 f fd ["chip", "many"] (spNewP C) := by
 refine F.okX (by decide) scNP (fun vs H Q E h => ?_) (fun cdv A outer s H vs Q E hr h => ?_)
 . obtain ⟨p, G, fp, many, rfl, _⟩ := h
   rfl
 . obtain ⟨p, G, fp, many, rfl, A1, rdy, hm, h⟩ := h
   have lim := A1.lim
   obtain ⟨dx, S0, hl0, el0, h1⟩ := A1.at_
   refine ⟨_, (@zQj _ _ _ _ _ (@zJq _ _ (2) _ _ _ _ scNP.nd rfl (Or.inl rfl) (@zJk _ _ _ _ _ _ _ _ (@op_rep _) (@zJv _ _ _ _ (@zQw _ _ _ _ _ (@xQv _ _ _) zQk (by exact zQq rfl))) (pv 1)) (by rfl) (by first | exact .inl rfl | exact .inr rfl | assumption)) (@zQj _ _ _ _ _ (@yKj _ _ _ _ _ _ _ _ PassesOwn.leaving rfl (@yWw _ _ _ _ (@zZx _ _ _ _ _ _ _ _ _ _ _ B_whole_pages (hr.mono (by decide)) rfl (@passE _ _ _) (@zQw _ _ _ _ _ (pv 0) zQk (by exact zQq rfl)) (by decide) (by exact zQq rfl) (by exact zQx rfl))) (@yQk _ _ (3) _ scNP.nd rfl (Or.inl rfl) (by first | exact .inl rfl | exact .inr rfl | assumption)) (@zQj _ _ _ _ _ (@zJq _ _ (4) _ _ _ _ scNP.nd rfl (Or.inl rfl) (@zJw _ _ _ _ _ _ _ (@yQw _) (@zZj _ _ _ _ _ _ _ _ _ _ _ _ _ _ _ T.cl M_page (hr.mono (by decide)) zWj (pv 0) (@zQw _ _ _ _ _ (@zJw _ _ _ _ _ _ _ (@yQw _) (pv 3) zWz (fun _ _ => rfl)) (@zQw _ _ _ _ _ (@zJw _ _ _ _ _ _ _ (@yQw _) (pv 3) zWz (fun _ _ => rfl)) zQk (by exact zQq rfl)) (by exact zQq rfl)) (by exact zQq rfl) (by exact zQx rfl) (by rfl)) zWz (fun _ _ => rfl)) (by rfl) (by first | exact .inl rfl | exact .inr rfl | assumption)) (@zWw _ _ _ (@xKk _ _ _ _ _ _ (@zJz _ _ _ _ _ (@zQw _ _ _ _ _ (@zJw _ _ _ _ _ _ _ (@yQw _) (pv 3) zWz (fun _ _ => rfl)) (@zQw _ _ _ _ _ (@zJw _ _ _ _ _ _ _ (@yQw _) (pv 3) zWz (fun _ _ => rfl)) zQk (by exact zQq rfl)) (by exact zQq rfl))) (@pg_sub _ _ _ _ _ _ _ (pv 2) (pv 4) (@yKz _) (by intro _; rfl)) (by rfl) (by rfl) (by rfl)))) (by intro _; rfl)) (@zWw _ _ _ (@zWv _ _ _ _ (pv 2))))), ?_⟩
   refine ⟨by show 1 <= sizeLine; decide, fun l1 nl1 => ⟨_, rfl, l1, (many : Int), [.non], rfl, rfl, zQz, by omega, by omega, ?_, fun pa npa => ?_⟩⟩
   . rw [Int.toNat_natCast]
     exact Nat.le_of_lt (small1000 (by show 1 * many <= 1000; omega))
   have s1 := zWq (o := .lst [.non]) nl1
   have hpa0 := s1.free npa
   have s2 := s1.trans (zWq (o := .lst (List.replicate (many : Int).toNat [V.non]).flatten) npa)
   have e2 : upd (upd H l1 (.lst [.non])) pa (.lst (List.replicate (many : Int).toNat [V.non]).flatten) pa = some (.lst (List.replicate many .non)) := by rw [zQz, wWv, Int.toNat_natCast]
   generalize upd (upd H l1 (.lst [.non])) pa (.lst (List.replicate (many : Int).toNat [V.non]).flatten) = H2 at s2 e2 ⊢
   refine ⟨_, rfl, p, G, fp, many, rfl, A1.same s2, rdy, fun l H3 ps ts nl e3 tr pm so s3 => ⟨l, rfl, ⟨_, SqL.of e3⟩, ?_⟩⟩
   have pal : pa ≠ l := zWk e2 nl
   refine for_list (xs := ps.map V.ref) (fun j σ H4 => Same H H4 /\ TrAll H4 ps ts /\ H4 l = some (.lst (ps.map V.ref)) /\ (∃ xs pl, H4 pa = some (.lst xs) /\ PlAt H4 xs many pl /\ PlTo G many (ts.take j) pl) /\ ∃ v1 v2, σ = [some (.ref p), some (.int many), some (.ref pa), v1, v2]) ?_ ?_ ?_ ?_
   . refine ⟨s2.trans s3, tr, e3, ⟨_, fun _ => none, s3 _ _ e2, ⟨List.length_replicate, fun s v ev => ?_⟩, by rw [List.take_zero]; exact PlTo.start⟩, _, _, rfl⟩
     obtain rfl := (List.mem_replicate.mp (List.mem_of_getElem? ev)).2
     exact .non
   . rintro j σ H4 _ ⟨_, _, e4, _⟩
     exact SqL.of e4
   . rintro j x σ H4 ex ⟨s4, tr4, e4, ⟨xs, pl, hpa, pat, plt⟩, v1, v2, rfl⟩
     rw [List.getElem?_map] at ex
     obtain ⟨a, ea, rfl⟩ := Option.map_eq_some_iff.mp ex
     have hj : j < ts.length := by
       rw [<- tr4.1]
       exact (List.getElem?_eq_some_iff.mp ea).1
     have et : ts[j]? = some ts[j] := by simp [hj]
     have ta := tr4.2 j a _ ea et
     obtain ⟨q1, q2, sc, c, eg⟩ := yKx.mp (pm.mem_iff.mp (List.mem_of_getElem? et))
     have hsc := rdy.sec _ _ _ _ _ q1 q2 eg
     refine ⟨_, rfl, p, dx, _, rfl, s4 _ _ h1, rfl, _, rfl, a, _, _, _, rfl, rfl, SqT.of ta, at1, _, rfl, a, _, _, _, rfl, rfl, SqT.of ta, at2, xWk (A1.same s4) q1 q2 fun v pv => ?_⟩
     rw [eg] at pv
     cases pv with
     | @wh ap _ _ _ ep =>
       refine ⟨ap, _, _, _, rfl, rfl, SqT.of ep, at0, _, rfl, a, _, _, _, rfl, rfl, SqT.of ta, at1, _, rfl, a, _, _, _, rfl, rfl, SqT.of ta, at2, by show 2 <= sizeLine; decide, fun tt ntt => ⟨_, rfl, _, rfl, pa, xs, _, sc, rfl, rfl, zWq ntt _ _ hpa, by rw [pat.1]; exact ixN_of (by omega) (by omega), ?_⟩⟩
       have s5 := zWq (o := .tup [.int (ts[j].2.1 : Int), .int (ts[j].2.2 : Int)]) ntt
       have tt5 : upd H4 tt (.tup [.int (ts[j].2.1 : Int), .int (ts[j].2.2 : Int)]) tt = some (.tup [.int (ts[j].2.1 : Int), .int (ts[j].2.2 : Int)]) := zQz
       have hpa5 := s5 _ _ hpa
       generalize upd H4 tt (.tup [.int (ts[j].2.1 : Int), .int (ts[j].2.2 : Int)]) = H5 at s5 tt5 hpa5 ⊢
       have kt : Tups H5 (upd H5 pa (.lst (xs.set sc (.ref tt)))) := fun c ys ec => by
         rw [zWx (yJz ec hpa5 (by intro z; cases z))]
         exact ec
       refine ⟨fun c o ec => ?_, (tr4.keep (.of s5)).keep kt, ?_, ⟨_, set1 pl sc (some ts[j].2), zQz, ?_, ?_⟩, _, _, rfl⟩
       . rw [zWx (zWk ec hpa0)]
         exact s5 _ _ (s4 _ _ ec)
       . rw [zWx pal.symm]
         exact s5 _ _ e4
       . exact ((pat.keep (.of s5)).set (b := ts[j].2.1) (i := ts[j].2.2) tt5).keep kt
       . rw [List.take_add_one, et]
         refine plt.step eg fun u mu => ?_
         obtain ⟨i, hi, ei⟩ := List.mem_iff_getElem.mp mu
         rw [List.length_take] at hi
         rw [List.getElem_take] at ei
         rw [<- ei]
         exact List.pairwise_iff_getElem.mp so i j (by omega) hj (by omega)
   . rintro σ H4 ⟨s4, tr4, e4, ⟨xs, pl, hpa, pat, plt⟩, v1, v2, rfl⟩
     refine ⟨_, rfl, h pa H4 xs pl hpa0 hpa pat (PlTo.done ?_ pm) s4⟩
     rw [List.length_map, tr4.1, List.take_length] at plt
     exact plt
def spLast (C : Addr) : Sp := fun vs H Q _ => ∃ (p : Addr) (G : GS) (fp : List Addr), vs = [.ref p] /\ ChipX C H p G fp /\ ∀ H', Same H H' -> Q (.int (G.last : Int)) H'
theorem scLa : FnScope ["chip", "block"] ["chip"] (defScope sLast) := ⟨rfl, rfl, rfl, by decide +kernel, rfl, by decide +kernel, by decide +kernel⟩
theorem nx_lt {n b : Nat} (h : b < n) : nx n b < n := by unfold nx; split <;> omega
theorem ok_last {f : Addr} {fd : FuncData} (F : Fun K "last_block" "last_block" sLast f fd) (T : Txt K mg C cBS cNP cNE cNS cBC cCu cWE)
   (M_size : MtB P w K mg base C 51 "size" ["self"] (xpSize C)) (B_is_erased : FnB P w K mg base 55 "is_erased" ["chip", "block"] (spIsEr C)) (B_block_behind : FnB P w K mg base 52 "block_behind" ["chip", "block"] (spBehind C)) : FnOk P w K mg base (CXw P w) 56 f fd ["chip"] (spLast C) := by
 refine F.okX (by decide) scLa (fun vs H Q E h => ?_) (fun cdv A outer s H vs Q E hr h => ?_)
 . obtain ⟨p, G, fp, rfl, _⟩ := h
   rfl
 . obtain ⟨p, G, fp, rfl, A1, h⟩ := h
   have lim := A1.lim
   obtain ⟨dx, S0, hl0, el0, h1⟩ := A1.at_
   refine ⟨_, (@zQj _ _ _ _ _ (@yKj _ _ _ _ _ _ _ _ PassesOwn.leaving rfl (@yQj _ _ _ _ _ _ rfl T.n_range (@zQw _ _ _ _ _ (@zJw _ _ _ _ _ _ _ (@yQw _) (@zZk _ _ _ _ _ _ _ _ _ _ _ _ T.cl M_size (hr.mono (by decide)) (@passE _ _ _) (pv 0) (by rfl)) zWz (fun _ _ => rfl)) zQk (by exact zQq rfl)) (by exact zQq rfl)) (@yQk _ _ (1) _ scLa.nd rfl (Or.inl rfl) (by first | exact .inl rfl | exact .inr rfl | assumption)) (@zWw _ _ _ (@yQq _ _ _ _ _ _ _ _ (PW.pt (@pw_and _ _ _ _ _ _ _ (@yWk _ _ _ _ (@yZk _ _ _ (@zZx _ _ _ _ _ _ _ _ _ _ _ B_is_erased (hr.mono (by decide)) rfl (@passE _ _ _) (@zQw _ _ _ _ _ (pv 0) (@zQw _ _ _ _ _ (pv 1) zQk (by exact zQq rfl)) (by exact zQq rfl)) (by decide) (by exact zQq rfl) (by exact zQx rfl)) (by intro _; rfl))) (@pw_and1 _ _ _ _ (@yZk _ _ _ (@zZx _ _ _ _ _ _ _ _ _ _ _ B_is_erased (hr.mono (by decide)) rfl (@passE _ _ _) (@zQw _ _ _ _ _ (pv 0) (@zQw _ _ _ _ _ (@zZx _ _ _ _ _ _ _ _ _ _ _ B_block_behind (hr.mono (by decide)) rfl (@passE _ _ _) (@zQw _ _ _ _ _ (pv 0) (@zQw _ _ _ _ _ (pv 1) zQk (by exact zQq rfl)) (by exact zQq rfl)) (by decide) (by exact zQq rfl) (by exact zQx rfl)) zQk (by exact zQq rfl)) (by exact zQq rfl)) (by decide) (by exact zQq rfl) (by exact zQx rfl)) (by intro _; rfl))))) (@zWw _ _ _ (@zWv _ _ _ _ (pv 1))) (@zZw _))) (by intro _; rfl)) (@zWw _ _ _ (@zWv _ _ _ _ zWz))), ?_⟩
   refine ⟨_, rfl, p, dx, _, rfl, h1, rfl, yQz A1 fun t H2 ht s2 => ⟨t, _, _, _, rfl, rfl, SqT.of ht, at0, (G.nb : Int), rfl, by omega, by omega, ?_⟩⟩
   refine yWv (lo := 0) (n := (G.nb : Int).toNat) (fun b σ H3 => Same H H3 /\ (∀ b', b' < b -> ¬ (¬ G.Er b' /\ G.Er (nx G.nb b'))) /\ ∃ v1, σ = [some (.ref p), v1]) ⟨s2, fun b' hb' => absurd hb' (Nat.not_lt_zero _), _, rfl⟩ ?_ ?_
   . rintro b σ H3 hb ⟨s3, first, v1, rfl⟩
     rw [Int.zero_add]
     have hb' : b < G.nb := by omega
     refine ⟨_, rfl, _, rfl, p, b, G, fp, rfl, A1.same s3, hb', fun H4 s4 => ⟨_, rfl, ?_⟩⟩
     have go : ∀ {H4 : Hp}, Same H3 H4 -> ¬ (¬ G.Er b /\ G.Er (nx G.nb b)) -> Same H H4 /\ (∀ b', b' < b + 1 -> ¬ (¬ G.Er b' /\ G.Er (nx G.nb b'))) /\ ∃ v1, [some (V.ref p), some (.int (b : Int))] = [some (.ref p), v1] := fun s4 hn => ⟨s3.trans s4, fun b' hb' => by
       by_cases z : b' = b
       . rw [z]; exact hn
       . exact first b' (by omega), _, rfl⟩
     by_cases he : G.Er b
     . rw [decide_eq_true he]
       exact iteF (iteF (go s4 fun z => z.1 he))
     . rw [decide_eq_false he]
       refine iteT ⟨_, rfl, _, rfl, _, rfl, p, b, G, fp, rfl, A1.same (s3.trans s4), hb', fun H5 s5 => ⟨p, nx G.nb b, G, fp, rfl, A1.same (s3.trans (s4.trans s5)), nx_lt hb', fun H6 s6 => ⟨_, rfl, ?_⟩⟩⟩
       by_cases he2 : G.Er (nx G.nb b)
       . rw [decide_eq_true he2]
         refine iteT ⟨_, rfl, ?_⟩
         have := h H6 (s3.trans (s4.trans (s5.trans s6)))
         rw [last_of hb' ⟨he, he2⟩ first] at this
         exact this
       . rw [decide_eq_false he2]
         exact iteF (go (s4.trans (s5.trans s6)) fun z => he2 z.2)
   . rintro σ H3 ⟨s3, first, v1, rfl⟩
     have := h H3 s3
     rw [Int.toNat_natCast] at first
     rw [last_none first] at this
     exact this
end
abbrev sMend : Stmt := top 22
abbrev sMounted : Stmt := top 21
abbrev sDInit : Stmt := inClass (top 20) 0
abbrev sDSectors : Stmt := inClass (top 20) 1
abbrev sDRead : Stmt := inClass (top 20) 2
abbrev sDWrite : Stmt := inClass (top 20) 3
abbrev sDCheck : Stmt := inClass (top 20) 4
abbrev sDBegin : Stmt := inClass (top 20) 5
abbrev sDClean : Stmt := inClass (top 20) 6
abbrev sDPut : Stmt := inClass (top 20) 7
def diskF (p pa : Addr) (many h f : Nat) : List (Str × V) := [("chip", .ref p), ("many", .int (many : Int)), ("places", .ref pa), ("block", .int (h : Int)), ("filled", .int (f : Int))]
structure DiskX (C DK : Addr) (H : Hp) (d p : Addr) (D : DS) (pa : Addr) (fp : List Addr) : Prop where
 ob : ∃ dx, H d = some (.ins DK dx (diskF p pa D.many D.h D.f))
 pl : ∃ xs, H pa = some (.lst xs) /\ PlAt H xs D.many D.pl
 ch : ChipX C H p D.G fp
 dp : d ≠ p
 pf : pa ∉ fp
 ms : D.many <= 480
theorem DiskX.df {C DK : Addr} {H : Hp} {d p : Addr} {D : DS} {pa : Addr} {fp : List Addr} (X : DiskX C DK H d p D pa fp) : d ∉ fp := by
 obtain ⟨dx, e⟩ := X.ob
 exact X.ch.noIns e X.dp
theorem DiskX.dpa {C DK : Addr} {H : Hp} {d p : Addr} {D : DS} {pa : Addr} {fp : List Addr} (X : DiskX C DK H d p D pa fp) : d ≠ pa := by
 obtain ⟨dx, e⟩ := X.ob
 obtain ⟨xs, e2, _⟩ := X.pl
 exact yJz e e2 (by intro z; cases z)
theorem DiskX.same {C DK : Addr} {H H' : Hp} {d p : Addr} {D : DS} {pa : Addr} {fp : List Addr} (X : DiskX C DK H d p D pa fp) (k : Same H H') : DiskX C DK H' d p D pa fp := by
 obtain ⟨dx, e⟩ := X.ob
 obtain ⟨xs, e2, q⟩ := X.pl
 exact ⟨⟨dx, k _ _ e⟩, ⟨xs, k _ _ e2, q.keep (.of k)⟩, X.ch.same k, X.dp, X.pf, X.ms⟩
theorem DiskX.chip {C DK : Addr} {H H' : Hp} {d p : Addr} {D : DS} {pa : Addr} {fp fp' : List Addr} {G' : GS} (X : DiskX C DK H d p D pa fp) (A' : ChipX C H' p G' fp') (k : Did H H' fp fp') : DiskX C DK H' d p { D with G := G' } pa fp' := by
 have kt := X.ch.tups k.keep
 obtain ⟨dx, e⟩ := X.ob
 obtain ⟨xs, e2, q⟩ := X.pl
 refine ⟨⟨dx, k.keep _ _ e X.df⟩, ⟨xs, k.keep _ _ e2 X.pf, q.keep kt⟩, A', X.dp, fun m => ?_, X.ms⟩
 rcases k.new _ m with m | z
 . exact X.pf m
 . rw [e2] at z; cases z
abbrev fpD (d pa : Addr) (fp : List Addr) : List Addr := d :: pa :: fp
theorem DiskX.tups {C DK : Addr} {H H' : Hp} {d p : Addr} {D : DS} {pa : Addr} {fp : List Addr} (X : DiskX C DK H d p D pa fp) (k : SameBut (fpD d pa fp) H H') : Tups H H' := fun a xs e => k a _ e fun m => by
 obtain ⟨dx, e1⟩ := X.ob
 obtain ⟨ys, e2, _⟩ := X.pl
 rcases List.mem_cons.mp m with z | m
 . rw [z, e1] at e; cases e
 rcases List.mem_cons.mp m with z | m
 . rw [z, e2] at e; cases e
 exact X.ch.noTup e m
section
variable {P : Program} {w : World} {K : PySem.W.Frag} {mg : Str -> Option Value} {base : Heap} {C DK cBS cNP cNE cNS cBC cCu cWE : Addr}
def spMend (C cCu : Addr) : Sp := fun vs H Q E => ∃ (p : Addr) (G : GS) (fp : List Addr) (many : Nat), vs = [.ref p] /\ ChipX C H p G fp /\ G.Rdy many /\ ∀ N, G.Newest N -> ∀ H' fp', ChipX C H' p (G.mend N).2 fp' -> Did H H' fp fp' -> if (G.mend N).1 = true then Q .non H' else ∀ x, E (.ref cCu) (some x) H'
theorem scMe : FnScope ["chip", "block", "newest", "behind"] ["chip"] (defScope sMend) := ⟨rfl, rfl, rfl, by decide +kernel, rfl, by decide +kernel, by decide +kernel⟩
theorem Newest.lt {G : GS} {N : Nat} (h : G.Newest N) : N < G.nb := by
 rcases h with ⟨_, h⟩ | ⟨h, _⟩ <;> omega
theorem newest_ex {G : GS} (h : 0 < G.nb) : ∃ N, G.Newest N := by
 by_cases e : ∃ t, t ∈ G.wl
 . obtain ⟨t, mt⟩ := e
   have mx : ∀ l : List (Int × Nat × Nat), l ≠ [] -> ∃ t ∈ l, ∀ u ∈ l, u.1 <= t.1 := fun l => by
     induction l with
     | nil => intro z; exact absurd rfl z
     | cons a l ih =>
       intro _
       cases l with
       | nil => exact ⟨a, by simp, fun u m => by obtain rfl := List.mem_singleton.mp m; exact Int.le_refl _⟩
       | cons b l =>
         obtain ⟨t, mt, q⟩ := ih (by simp)
         by_cases ht : t.1 <= a.1
         . refine ⟨a, by simp, fun u m => ?_⟩
           rcases List.mem_cons.mp m with rfl | m
           . exact Int.le_refl _
           . exact Int.le_trans (q u m) ht
         . refine ⟨t, List.mem_cons_of_mem _ mt, fun u m => ?_⟩
           rcases List.mem_cons.mp m with rfl | m
           . omega
           . exact q u m
   obtain ⟨t, mt, q⟩ := mx G.wl (List.ne_nil_of_mem mt)
   obtain ⟨h1, h2, s, c, e⟩ := yKx.mp mt
   exact ⟨t.2.1, .inr ⟨h1, t.2.2, s, c, t.1, h2, e, fun b j s' c' n' hb hj e' => q (n', b, j) (yKx.mpr ⟨hb, hj, s', c', e'⟩)⟩⟩
 . refine ⟨G.nb - 1, .inl ⟨fun b hb ⟨i, hi, s, c, n, e'⟩ => e ⟨(n, b, i), yKx.mpr ⟨hb, hi, s, c, e'⟩⟩, by omega⟩⟩
theorem mend_wh {G : GS} {N : Nat} (h : ∀ b, b < G.nb -> ¬ G.Er b) (hw : G.Wh (nx G.nb N)) : G.mend N = G.era N := by
 unfold GS.mend
 rw [if_neg fun ⟨b, hb, he⟩ => h b hb he, if_pos hw]
theorem mend_no {G : GS} {N : Nat} (h : ∀ b, b < G.nb -> ¬ G.Er b) (hw : ¬ G.Wh (nx G.nb N)) : G.mend N = G.era (nx G.nb N) := by
 unfold GS.mend
 rw [if_neg fun ⟨b, hb, he⟩ => h b hb he, if_neg hw]
theorem ok_mend {f : Addr} {fd : FuncData} (F : Fun K "mend" "mend" sMend f fd) (T : Txt K mg C cBS cNP cNE cNS cBC cCu cWE)
   (M_size : MtB P w K mg base C 51 "size" ["self"] (xpSize C)) (M_erase : MtB P w K mg base C 52 "erase" ["self", "block"] (xpErase C (clsOf cBS cNP cNE cCu))) (B_is_erased : FnB P w K mg base 55 "is_erased" ["chip", "block"] (spIsEr C)) (B_has_whole_page : FnB P w K mg base 55 "has_whole_page" ["chip", "block"] (spHasW C))
   (B_block_behind : FnB P w K mg base 52 "block_behind" ["chip", "block"] (spBehind C)) (B_newest_block : FnB P w K mg base 55 "newest_block" ["chip"] (spNewB C)) : FnOk P w K mg base (CXw P w) 57 f fd ["chip"] (spMend C cCu) := by
 refine F.okX (by decide) scMe (fun vs H Q E h => ?_) (fun cdv A outer s H vs Q E hr h => ?_)
 . obtain ⟨p, G, fp, many, rfl, _⟩ := h
   rfl
 . obtain ⟨p, G, fp, many, rfl, A1, rdy, h⟩ := h
   have lim := A1.lim
   obtain ⟨dx, S0, hl0, el0, h1⟩ := A1.at_
   refine ⟨_, (@zQj _ _ _ _ _ (@yKj _ _ _ _ _ _ _ _ PassesOwn.leaving rfl (@yQj _ _ _ _ _ _ rfl T.n_range (@zQw _ _ _ _ _ (@zJw _ _ _ _ _ _ _ (@yQw _) (@zZk _ _ _ _ _ _ _ _ _ _ _ _ T.cl M_size (hr.mono (by decide)) (@passE _ _ _) (pv 0) (by rfl)) zWz (fun _ _ => rfl)) zQk (by exact zQq rfl)) (by exact zQq rfl)) (@yQk _ _ (1) _ scMe.nd rfl (Or.inl rfl) (by first | exact .inl rfl | exact .inr rfl | assumption)) (@zWw _ _ _ (@yQq _ _ _ _ _ _ _ _ (@yZk _ _ _ (@zZx _ _ _ _ _ _ _ _ _ _ _ B_is_erased (hr.mono (by decide)) rfl (@passE _ _ _) (@zQw _ _ _ _ _ (pv 0) (@zQw _ _ _ _ _ (pv 1) zQk (by exact zQq rfl)) (by exact zQq rfl)) (by decide) (by exact zQq rfl) (by exact zQx rfl)) (by intro _; rfl)) (@zWw _ _ _ (@ps_retN _ _)) (@zZw _))) (by intro _; rfl)) (@zQj _ _ _ _ _ (@zJq _ _ (2) _ _ _ _ scMe.nd rfl (Or.inl rfl) (@zZx _ _ _ _ _ _ _ _ _ _ _ B_newest_block (hr.mono (by decide)) rfl (@passE _ _ _) (@zQw _ _ _ _ _ (pv 0) zQk (by exact zQq rfl)) (by decide) (by exact zQq rfl) (by exact zQx rfl)) (by rfl) (by first | exact .inl rfl | exact .inr rfl | assumption)) (@zQj _ _ _ _ _ (@zJq _ _ (3) _ _ _ _ scMe.nd rfl (Or.inl rfl) (@zZx _ _ _ _ _ _ _ _ _ _ _ B_block_behind (hr.mono (by decide)) rfl (@passE _ _ _) (@zQw _ _ _ _ _ (pv 0) (@zQw _ _ _ _ _ (pv 2) zQk (by exact zQq rfl)) (by exact zQq rfl)) (by decide) (by exact zQq rfl) (by exact zQx rfl)) (by rfl) (by first | exact .inl rfl | exact .inr rfl | assumption)) (@zWw _ _ _ (@zJj _ _ _ _ (@zZj _ _ _ _ _ _ _ _ _ _ _ _ _ _ _ T.cl M_erase (hr.mono (by decide)) zWj (pv 0) (@zQw _ _ _ _ _ (@xWv _ _ _ _ _ _ _ _ (@yZk _ _ _ (@zZx _ _ _ _ _ _ _ _ _ _ _ B_has_whole_page (hr.mono (by decide)) rfl (@passE _ _ _) (@zQw _ _ _ _ _ (pv 0) (@zQw _ _ _ _ _ (pv 3) zQk (by exact zQq rfl)) (by exact zQq rfl)) (by decide) (by exact zQq rfl) (by exact zQx rfl)) (by intro _; rfl)) (pv 2) (pv 3)) zQk (by exact zQq rfl)) (by exact zQq rfl) (by exact zQx rfl) (by rfl)) (by rfl)))))), ?_⟩
   refine ⟨_, rfl, p, dx, _, rfl, h1, rfl, yQz A1 fun t H2 ht s2 => ⟨t, _, _, _, rfl, rfl, SqT.of ht, at0, (G.nb : Int), rfl, by omega, by omega, ?_⟩⟩
   refine yWv (lo := 0) (n := (G.nb : Int).toNat) (fun b σ H3 => Same H H3 /\ (∀ b', b' < b -> ¬ G.Er b') /\ ∃ v1, σ = [some (.ref p), v1, none, none]) ⟨s2, fun b' hb' => absurd hb' (Nat.not_lt_zero _), _, rfl⟩ ?_ ?_
   . rintro b σ H3 hb ⟨s3, first, v1, rfl⟩
     rw [Int.zero_add]
     have hb' : b < G.nb := by omega
     refine ⟨_, rfl, _, rfl, p, b, G, fp, rfl, A1.same s3, hb', fun H4 s4 => ⟨_, rfl, ?_⟩⟩
     by_cases he : G.Er b
     . rw [decide_eq_true he]
       refine iteT ?_
       obtain ⟨N, hN⟩ := newest_ex (G := G) (by omega)
       have em : G.mend N = (true, G) := by unfold GS.mend; rw [if_pos ⟨b, hb', he⟩]
       have := h N hN H4 fp (by rw [em]; exact A1.same (s3.trans s4)) (.same (s3.trans s4))
       rw [em, if_pos rfl] at this
       exact this
     . rw [decide_eq_false he]
       exact iteF ⟨s3.trans s4, fun b' hb2 => by
         by_cases z : b' = b
         . rw [z]; exact he
         . exact first b' (by omega), _, rfl⟩
   . rintro σ H3 ⟨s3, first, v1, rfl⟩
     rw [Int.toNat_natCast] at first
     refine ⟨_, rfl, p, G, fp, many, rfl, A1.same s3, rdy, fun H4 N hN s4 => ?_⟩
     have Nlt := Newest.lt hN
     refine ⟨_, rfl, _, rfl, p, N, G, fp, rfl, A1.same (s3.trans s4), Nlt, fun H5 s5 => ?_⟩
     have s35 := s3.trans (s4.trans s5)
     refine ⟨_, rfl, p, dx, _, rfl, s35 _ _ h1, rfl, _, rfl, _, rfl, p, nx G.nb N, G, fp, rfl, A1.same s35, nx_lt Nlt, fun H6 k hk s6 => ⟨_, rfl, ?_⟩⟩
     have s36 := s35.trans s6
     have A6 := A1.same s36
     have did : ∀ {H7 : Hp} {fp7 : List Addr}, Did H6 H7 fp fp7 -> Did H H7 fp fp7 := fun k7 => ⟨fun b o e n => k7.keep b o (s36 _ _ e) n, fun b m => (k7.new b m).imp id s36.free⟩
     have fin : ∀ b, b < G.nb -> G.mend N = G.era b -> xpErase C (clsOf cBS cNP cNE cCu) [.ref p, .int b] H6 (fun v H7 => Q .non H7) E := fun b hb em => by
       refine use_erase A6 hb (fun H7 fp7 e7 A7 k7 => ?_) (fun H7 fp7 x e7 A7 k7 => ?_)
       . have := h N hN H7 fp7 (by rw [em]; exact A7) (did k7)
         rw [em, if_pos e7] at this
         exact this
       . have := h N hN H7 fp7 (by rw [em]; exact A7) (did k7)
         rw [em, if_neg (by rw [e7]; exact Bool.false_ne_true)] at this
         exact this x
     cases k with
     | true =>
       have hw := hk.mp rfl
       exact iteT ⟨_, rfl, fin N Nlt (mend_wh first hw)⟩
     | false =>
       have hw : ¬ G.Wh (nx G.nb N) := fun z => Bool.false_ne_true (hk.mpr z)
       exact iteF ⟨_, rfl, fin _ (nx_lt Nlt) (mend_no first hw)⟩
noncomputable def GS.disk (G : GS) (many : Nat) (pl : Nat -> Option (Nat × Nat)) : DS := { G := G, many := many, pl := pl, h := G.last, f := G.fill G.last }
def spDInit (C DK : Addr) : Sp := fun vs H Q _ => ∃ (d dx p : Addr) (G : GS) (fp : List Addr) (many : Nat), vs = [.ref d, .ref p, .int many] /\ H d = some (.ins DK dx []) /\ d ≠ p /\ ChipX C H p G fp /\ G.Rdy many /\ many <= 480 /\
 ∀ H' pa pl, DiskX C DK H' d p (G.disk many pl) pa fp -> G.Pl many pl -> SameBut [d] H H' -> H pa = none -> Q .non H'
theorem scDI : FnScope ["self", "chip", "many"] ["self", "chip", "many"] (defScope sDInit) := ⟨rfl, rfl, rfl, by decide +kernel, rfl, by decide +kernel, by decide +kernel⟩
theorem fill_of {H : Hp} {xs : List V} {G : GS} {b : Nat} (R : RowV H xs G b) : (((xs.filter fun v => !decide (v = .non)).map fun v => v).length : Int) = (G.fill b : Int) := by
 rw [List.length_map]
 unfold GS.fill
 have e : ((List.range G.np).filter fun i => decide (G.pg b i ≠ .er)) = (List.range G.np).filter fun i => !decide (xs.getD i .non = .non) := by
   apply List.filter_congr
   intro i m
   have hi := List.mem_range.mp m
   have hi' : i < xs.length := by rw [R.1]; exact hi
   have ev : xs[i]? = some xs[i] := by simp [hi']
   have := (R.2 i _ ev).isEr
   rw [List.getD_eq_getElem?_getD, ev, Option.getD_some, this]
   simp
 rw [e]
 have e2 : xs = (List.range G.np).map fun i => xs.getD i .non := by
   refine List.ext_getElem? fun i => ?_
   rw [List.getElem?_map]
   by_cases hi : i < G.np
   . rw [List.getElem?_range hi]
     have hi' : i < xs.length := by rw [R.1]; exact hi
     simp [List.getD_eq_getElem?_getD, hi']
   . rw [List.getElem?_eq_none (by rw [R.1]; omega), List.getElem?_eq_none (by simp; omega)]
     rfl
 conv => lhs; rw [e2]
 rw [List.filter_map, List.length_map]
 rfl
theorem last_lt {G : GS} (h : 0 < G.nb) : G.last < G.nb := by
 unfold GS.last
 cases e : (List.range G.nb).find? fun b => decide (¬ G.Er b /\ G.Er (nx G.nb b)) with
 | none => exact h
 | some b => exact List.mem_range.mp (List.mem_of_find?_eq_some e)
theorem ok_dinit {f : Addr} {fd : FuncData} (F : Fun K "__init__" "Disk.__init__" sDInit f fd) (T : Txt K mg C cBS cNP cNE cNS cBC cCu cWE) (TD : TxtD K mg DK cNS cBC)
   (B_newest_places : FnB P w K mg base 55 "newest_places" ["chip", "many"] (spNewP C)) (B_last_block : FnB P w K mg base 56 "last_block" ["chip"] (spLast C)) (B_things_on : FnB P w K mg base 54 "things_on" ["chip", "block"] (spThings C)) : FnOk P w K mg base (CXw P w) 57 f fd ["self", "chip", "many"] (spDInit C DK) := by
 refine F.okX (by decide) scDI (fun vs H Q E h => ?_) (fun cdv A outer s H vs Q E hr h => ?_)
 . obtain ⟨d, dx, p, G, fp, many, rfl, _⟩ := h
   rfl
 . obtain ⟨d, dx, p, G, fp, many, rfl, hd, dp, A1, rdy, hm, h⟩ := h
   have lim := A1.lim
   have df : d ∉ fp := A1.noIns hd dp
   have put : ∀ {H1 : Hp} {fs fs' : List (Str × V)}, ChipX C H1 p G fp -> H1 d = some (.ins DK dx fs) -> ChipX C (upd H1 d (.ins DK dx fs')) p G fp := fun A e => A.but (fp' := [d]) (yWj (by simp)) (fun b m => by obtain rfl := List.mem_singleton.mp m; exact df) fun a xs ea => by rw [zWx (yJz ea e (by intro z; cases z))]; exact ea
   have sb : ∀ {H1 : Hp} {o : HO}, SameBut [d] H H1 -> SameBut [d] H (upd H1 d o) := fun k b o e n => by rw [zWx (fun z => n (by rw [z]; simp))]; exact k b o e n
   refine ⟨_, (@zQj _ _ _ _ _ (@zKw _ _ _ _ _ _ _ _ (pv 0) (pv 1) rfl) (@zQj _ _ _ _ _ (@zKw _ _ _ _ _ _ _ _ (pv 0) (pv 2) rfl) (@zQj _ _ _ _ _ (@zKw _ _ _ _ _ _ _ _ (pv 0) (@zZx _ _ _ _ _ _ _ _ _ _ _ B_newest_places (hr.mono (by decide)) rfl (@passE _ _ _) (@zQw _ _ _ _ _ (pv 1) (@zQw _ _ _ _ _ (pv 2) zQk (by exact zQq rfl)) (by exact zQq rfl)) (by decide) (by exact zQq rfl) (by exact zQx rfl)) rfl) (@zQj _ _ _ _ _ (@zKw _ _ _ _ _ _ _ _ (pv 0) (@zZx _ _ _ _ _ _ _ _ _ _ _ B_last_block (hr.mono (by decide)) rfl (@passE _ _ _) (@zQw _ _ _ _ _ (pv 1) zQk (by exact zQq rfl)) (by decide) (by exact zQq rfl) (by exact zQx rfl)) rfl) (@zWw _ _ _ (@zKw _ _ _ _ _ _ _ _ (pv 0) (@zKx _ _ _ _ _ _ _ _ _ (@yQx _) rfl T.n_len PySem.boot_len (@zQw _ _ _ _ _ (@yJw _ _ _ _ _ _ _ _ ([]) ([]) _ _ _ rfl (@yWw _ _ _ _ (@zZx _ _ _ _ _ _ _ _ _ _ _ B_things_on (hr.mono (by decide)) rfl (@passE _ _ _) (@zQw _ _ _ _ _ (pv 1) (@zQw _ _ _ _ _ (@zZq _ _ _ _ _ (pv 0) rfl) zQk (by exact zQq rfl)) (by exact zQq rfl)) (by decide) (by exact zQq rfl) (by exact zQx rfl))) rfl (by decide +kernel) (by decide +kernel) (by decide +kernel) (by show ∀ y : Str × NameKind, y ∈ _ -> y.2 = NameKind.free -> List.lookup y.1 (defScope sDInit).names = some NameKind.cell; decide +kernel) (by show ∀ p : Str × Nat, p ∈ _ -> List.lookup p.1 _ = some NameKind.free /\ (["self", "chip", "many"] : List Str)[p.2]? = some p.1; decide +kernel) rfl (by decide +kernel) (fun _ _ _ _ _ => (@pts_one _ _ _ (@xKj _ _ _ _ _ _ (@pc_notN _ _ _ _ _ (pv 0)) (by first | exact nobehind _ (by decide) (by decide) | rfl)))) (fun _ _ _ _ _ => (pv 0)) (by intro _; rfl)) zQk (by exact zQq rfl)) (by decide) (by decide) (by exact zQq rfl) (by exact zQx rfl)) rfl)))))), ?_⟩
   refine ⟨_, rfl, _, rfl, d, DK, dx, _, rfl, hd, TD.cl, TD.aC, by show 0 < 1000; decide, _, rfl, _, rfl, d, DK, dx, _, rfl, zQz, TD.cl, TD.aM, by show 1 < 1000; decide, ?_⟩
   rw [yZv]
   generalize hH2 : upd H d (HO.ins DK dx _) = H2
   have A2 : ChipX C H2 p G fp := by rw [<- hH2]; exact put A1 hd
   have k2 : SameBut [d] H H2 := by rw [<- hH2]; exact yWj (by simp)
   have h2 : H2 d = some (.ins DK dx [("chip", .ref p), ("many", .int many)]) := by rw [<- hH2]; exact zQz
   have fr2 : ∀ b, H2 b = none -> H b = none := fun b e => by
     by_cases z : b = d
     . rw [z, h2] at e; cases e
     . rw [<- hH2, zWx z] at e; exact e
   clear hH2
   refine ⟨_, rfl, _, rfl, p, G, fp, many, rfl, A2, rdy, hm, fun pa H3 xs pl npa hpa pat gpl s3 => ⟨_, rfl, d, DK, dx, _, rfl, s3 _ _ h2, TD.cl, TD.aP, by show 2 < 1000; decide, ?_⟩⟩
   have pad : pa ≠ d := (zWk h2 npa).symm
   have npa0 := fr2 _ npa
   have k3 : SameBut [d] H H3 := fun b o e n => s3 _ _ (k2 b o e n)
   have h3 := s3 _ _ h2
   have A3 := A2.same s3
   generalize hH4 : upd H3 d (HO.ins DK dx _) = H4
   have A4 : ChipX C H4 p G fp := by rw [<- hH4]; exact put A3 h3
   have k4 : SameBut [d] H H4 := by rw [<- hH4]; exact sb k3
   have h4 : H4 d = some (.ins DK dx [("chip", .ref p), ("many", .int many), ("places", .ref pa)]) := by rw [<- hH4]; exact zQz
   have t4 : Tups H3 H4 := fun a ys ea => by rw [<- hH4, zWx (yJz ea h3 (by intro z; cases z))]; exact ea
   have hpa4 : H4 pa = some (.lst xs) := by rw [<- hH4, zWx pad]; exact hpa
   have pat4 := pat.keep t4
   clear hH4
   refine ⟨_, rfl, p, G, fp, rfl, A4, fun H5 s5 => ⟨_, rfl, d, DK, dx, _, rfl, s5 _ _ h4, TD.cl, TD.aB, by show 3 < 1000; decide, ?_⟩⟩
   have k5 : SameBut [d] H H5 := fun b o e n => s5 _ _ (k4 b o e n)
   have h5 := s5 _ _ h4
   have A5 := A4.same s5
   have hpa5 := s5 _ _ hpa4
   have pat5 := pat4.keep (.of s5)
   generalize hH6 : upd H5 d (HO.ins DK dx _) = H6
   have A6 : ChipX C H6 p G fp := by rw [<- hH6]; exact put A5 h5
   have k6 : SameBut [d] H H6 := by rw [<- hH6]; exact sb k5
   have h6 : H6 d = some (.ins DK dx [("chip", .ref p), ("many", .int many), ("places", .ref pa), ("block", .int (G.last : Int))]) := by rw [<- hH6]; exact zQz
   have t6 : Tups H5 H6 := fun a ys ea => by rw [<- hH6, zWx (yJz ea h5 (by intro z; cases z))]; exact ea
   have hpa6 : H6 pa = some (.lst xs) := by rw [<- hH6, zWx pad]; exact hpa5
   have pat6 := pat5.keep t6
   clear hH6
   refine yWz (fun l H' => ∃ xs, H' l = some (.lst xs) /\ RowV H' xs G G.last /\ Same H6 H') (fun R q => ⟨_, rfl, _, rfl, d, DK, dx, _, _, rfl, h6, TD.cl, TD.aB, rfl, p, G.last, G, fp, rfl, A6, last_lt (by omega), fun l H' xs e1 e2 e3 => q l H' ⟨xs, e1, e2, e3⟩⟩) ?_
   rintro a H7 ⟨ys, e1, rv, s7⟩
   refine ⟨ys, fun v => !decide (v = .non), fun v => v, e1, by have := rv.1; omega, fun i x H8 R _ _ q => ⟨_, rfl, ?_⟩, fun i x H8 R _ _ _ q => ⟨_, rfl, q⟩, fun acc H8 hacc s8 => ⟨acc, _, rfl, .inl (SqL.of hacc), ?_⟩⟩
   . exact ⟨_, rfl, q⟩
   rw [fill_of rv]
   have s68 := s7.trans s8
   have h8 := s68 _ _ h6
   have A8 := A6.same s68
   have k8 : SameBut [d] H H8 := fun b o e n => s68 _ _ (k6 b o e n)
   refine ⟨_, rfl, d, DK, dx, _, rfl, h8, TD.cl, TD.aF, by show 4 < 1000; decide, ?_⟩
   have t8 : Tups H8 (upd H8 d (.ins DK dx (diskF p pa many G.last (G.fill G.last)))) := fun a ys ea => by rw [zWx (yJz ea h8 (by intro z; cases z))]; exact ea
   have paf : pa ∉ fp := fun m => by
     obtain ⟨o, e⟩ := A1.tr m
     rw [npa0] at e; cases e
   exact h _ pa pl ⟨⟨dx, zQz⟩, ⟨xs, by rw [zWx pad]; exact s68 _ _ hpa6, (pat6.keep (.of s68)).keep t8⟩, put A8 h8, dp, paf, hm⟩ gpl (sb k8) npa0
def spMounted (C DK cBS cCu : Addr) : Sp := fun vs H Q E => ∃ (p : Addr) (G : GS) (fp : List Addr) (z : Int), vs = [.ref p, .int z] /\ ChipX C H p G fp /\
 ((¬ (1 <= z /\ z <= ((G.nb : Int) - 2) * G.np) /\ ∀ H' x, Same H H' -> E (.ref cBS) (some x) H') \/
  ∃ many : Nat, z = many /\ 1 <= many /\ many <= (G.nb - 2) * G.np /\ G.Rdy many /\ ∀ N, G.Newest N -> if (G.mend N).1 = true then (G.mend N).2.Rdy many /\ ∀ d H' pa pl fp', DiskX C DK H' d p ((G.mend N).2.disk many pl) pa fp' -> (G.mend N).2.Pl many pl -> Did H H' fp fp' -> (∀ o, H d = some o -> d ∈ fp) -> (∀ o, H pa = some o -> pa ∈ fp) -> Q (.ref d) H'
     else ∀ H' x fp', ChipX C H' p (G.mend N).2 fp' -> Did H H' fp fp' -> E (.ref cCu) (some x) H')
theorem scMo : FnScope ["chip", "sectors", "size"] ["chip", "sectors"] (defScope sMounted) := ⟨rfl, rfl, rfl, by decide +kernel, rfl, by decide +kernel, by decide +kernel⟩
theorem ok_mounted {f : Addr} {fd : FuncData} (F : Fun K "mounted" "mounted" sMounted f fd) (T : Txt K mg C cBS cNP cNE cNS cBC cCu cWE) (TD : TxtD K mg DK cNS cBC)
   (M_size : MtB P w K mg base C 51 "size" ["self"] (xpSize C)) (B_mend : FnB P w K mg base 57 "mend" ["chip"] (spMend C cCu)) (B_Disk : MkB P w K mg base DK 57 "Disk" ["self", "chip", "many"] (spDInit C DK)) : FnOk P w K mg base (CXw P w) 59 f fd ["chip", "sectors"] (spMounted C DK cBS cCu) := by
 refine F.okX (by decide) scMo (fun vs H Q E h => ?_) (fun cdv A outer s H vs Q E hr h => ?_)
 . obtain ⟨p, G, fp, z, rfl, _⟩ := h
   rfl
 . obtain ⟨p, G, fp, z, rfl, A1, h⟩ := h
   have lim := A1.lim
   obtain ⟨dx, S0, hl0, el0, h1⟩ := A1.at_
   refine ⟨_, (@zQj _ _ _ _ _ (@zJq _ _ (2) _ _ _ _ scMo.nd rfl (Or.inl rfl) (@zZk _ _ _ _ _ _ _ _ _ _ _ _ T.cl M_size (hr.mono (by decide)) (@passE _ _ _) (pv 0) (by rfl)) (by rfl) (by first | exact .inl rfl | exact .inr rfl | assumption)) (@zQj _ _ _ _ _ (@yQq _ _ _ _ _ _ _ _ (@yWk _ _ _ _ (@yQv _ _ _ _ _ _ _ _ _ _ _ _ (@xQq _) (@xQq _) zWz (pv 1) (@zJk _ _ _ _ _ _ _ _ (@op_mul _) (@zJk _ _ _ _ _ _ _ _ (@op_sub _) (@zJw _ _ _ _ _ _ _ (@yQw _) (pv 2) zWz (fun _ _ => rfl)) (@xJv _ _ _ _ rfl TD.g_SB (by decide))) (@zJw _ _ _ _ _ _ _ (@yQw _) (pv 2) zWz (fun _ _ => rfl))) (by with_unfolding_all rfl))) (@zWw _ _ _ (@zKk _ _ _ _ _ _ _ _ _ _ zKj T.x_BadSize rfl rfl T.g_BadSize (@zQw _ _ _ _ _ (@zQv _ _ _ _) zQk (by exact zQq rfl)) (by decide) (by exact zQq rfl) (by exact zQx rfl))) (@zZw _)) (@zQj _ _ _ _ _ (@zJj _ _ _ _ (@zZx _ _ _ _ _ _ _ _ _ _ _ B_mend (hr.mono (by decide)) rfl zWj (@zQw _ _ _ _ _ (pv 0) zQk (by exact zQq rfl)) (by decide) (by exact zQq rfl) (by exact zQx rfl)) (by rfl)) (@zWw _ _ _ (@zWv _ _ _ _ (@pe_makeF _ _ _ _ _ _ _ _ _ _ _ _ B_Disk (hr.mono (by decide)) rfl zWj (@zQw _ _ _ _ _ (pv 0) (@zQw _ _ _ _ _ (pv 1) zQk (by exact zQq rfl)) (by exact zQq rfl)) (by decide) (by exact zQq rfl) (by exact zQx rfl))))))), ?_⟩
   refine ⟨_, rfl, p, dx, _, rfl, h1, rfl, yQz A1 fun t H2 ht s2 => ?_⟩
   have lo : (0 : Int) <= (G.nb : Int) - 2 := by omega
   have bad : ¬ (1 <= z /\ z <= ((G.nb : Int) - 2) * G.np) -> ∀ x, E (.ref cBS) (some x) H2 := fun hz x => by
     rcases h with ⟨_, h⟩ | ⟨many, rfl, m1, m2, _⟩
     . exact h H2 x s2
     . refine absurd ⟨by omega, ?_⟩ hz
       have : ((many : Nat) : Int) <= (((G.nb - 2) * G.np : Nat) : Int) := by omega
       rw [Int.natCast_mul, show ((G.nb - 2 : Nat) : Int) = (G.nb : Int) - 2 by omega] at this
       exact this
   refine ⟨_, rfl, _, _, rfl, rfl, _, rfl, ite2 (fun h0 => ?_) fun h0 => ?_⟩
   rotate_left
   . have h0' : ¬ (1 <= z) := by simpa using h0
     exact ⟨_, rfl, iteT ⟨by decide, bad fun q => h0' q.1⟩⟩
   have h0' : 1 <= z := by simpa using h0
   refine ⟨_, rfl, t, _, _, _, rfl, rfl, SqT.of ht, at0, _, _, rfl, rfl, _, rfl, t, _, _, _, rfl, rfl, SqT.of ht, at1, _, _, rfl, rfl, .inl ⟨by omega, by omega⟩, _, _, rfl, rfl, _, rfl, ?_⟩
   by_cases hz : z <= ((G.nb : Int) - 2) * G.np
   rotate_left
   . rw [decide_eq_false hz]
     exact iteT ⟨by decide, bad fun q => hz q.2⟩
   rw [decide_eq_true hz]
   refine iteF ?_
   rcases h with ⟨hb, _⟩ | ⟨many, rfl, m1, m2, rdy, h⟩
   . exact absurd ⟨h0', hz⟩ hb
   have ms : many <= 480 := by
     have : (G.nb - 2) * G.np <= 30 * 16 := Nat.mul_le_mul (by omega) (by omega)
     omega
   refine ⟨_, rfl, p, G, fp, many, rfl, A1.same s2, rdy, fun N hN H3 fp3 A3 k3 => ?_⟩
   have hN' := h N hN
   have k13 : Did H H3 fp fp3 := ⟨fun b o e n => k3.keep b o (s2 _ _ e) n, fun b m => (k3.new b m).imp id s2.free⟩
   by_cases hm : (G.mend N).1 = true
   . rw [if_pos hm] at hN' ⊢
     obtain ⟨rdy2, hN'⟩ := hN'
     refine ⟨_, rfl, _, rfl, fun x dx' nx ndx ne => ⟨x, dx', p, (G.mend N).2, fp3, many, rfl, zQz, ?_, A3.same ((zWq ndx).trans (zWq (by rw [zWx (Ne.symm ne)]; exact nx))), rdy2, ms, fun H4 pa pl D4 gpl k4 npa => ⟨rfl, hN' x H4 pa pl fp3 D4 gpl ?_ ?_ ?_⟩⟩⟩
     . obtain ⟨dx3, _, _, _, e3⟩ := A3.at_
       exact (zWk e3 nx).symm
     . have s0 : Same H3 (upd (upd H3 dx' (.own x)) x (.ins DK dx' [])) := (zWq ndx).trans (zWq (by rw [zWx (Ne.symm ne)]; exact nx))
       refine ⟨fun b o e n => ?_, k13.new⟩
       have e3 := k13.keep b o e n
       exact k4 b o (s0 _ _ e3) (by have := zWk e3 nx; simpa using this)
     . intro o e
       refine Decidable.byContradiction fun mf => ?_
       rw [k13.keep x o e mf] at nx
       cases nx
     . intro o e
       refine Decidable.byContradiction fun mf => ?_
       have s0 : Same H3 (upd (upd H3 dx' (.own x)) x (.ins DK dx' [])) := (zWq ndx).trans (zWq (by rw [zWx (Ne.symm ne)]; exact nx))
       have npa3 := s0.free npa
       rw [k13.keep pa o e mf] at npa3
       cases npa3
   . rw [if_neg hm] at hN' ⊢
     exact fun x => hN' H3 x fp3 A3 k13
end
theorem Did.trans {H H1 H2 : Hp} {fp fp1 fp2 : List Addr} (a : Did H H1 fp fp1) (b : Did H1 H2 fp1 fp2) : Did H H2 fp fp2 := by
 refine ⟨fun c o e n => ?_, fun c m => ?_⟩
 . have e1 := a.keep c o e n
   refine b.keep c o e1 fun m => ?_
   rcases a.new c m with z | z
   . exact n z
   . rw [e] at z; cases z
 . rcases b.new c m with z | z
   . exact a.new c z
   . cases e : H c with
     | none => exact .inr rfl
     | some o =>
       refine .inl (Decidable.byContradiction fun n => ?_)
       rw [a.keep c o e n] at z
       cases z
theorem Did.wide {H H' : Hp} {fp fp' : List Addr} (a : Did H H' fp fp') (d pa : Addr) : Did H H' (fpD d pa fp) (fpD d pa fp') := by
 refine ⟨fun c o e n => a.keep c o e fun m => n (List.mem_cons_of_mem _ (List.mem_cons_of_mem _ m)), fun c m => ?_⟩
 rcases List.mem_cons.mp m with z | m
 . exact .inl (by rw [z]; simp)
 rcases List.mem_cons.mp m with z | m
 . exact .inl (by rw [z]; simp)
 exact (a.new c m).imp (fun z => List.mem_cons_of_mem _ (List.mem_cons_of_mem _ z)) id
theorem Did.ofBut {H H' : Hp} {fp : List Addr} (k : SameBut fp H H') : Did H H' fp fp := ⟨k, fun _ m => .inl m⟩
section
variable {P : Program} {w : World} {K : PySem.W.Frag} {mg : Str -> Option Value} {base : Heap} {C DK cBS cNP cNE cNS cBC cCu cWE : Addr}
def spDSectors (C DK : Addr) : Sp := fun vs H Q _ => ∃ (d p : Addr) (D : DS) (pa : Addr) (fp : List Addr), vs = [.ref d] /\ DiskX C DK H d p D pa fp /\ Q (.int (D.many : Int)) H
theorem scDS : FnScope ["self"] ["self"] (defScope sDSectors) := ⟨rfl, rfl, rfl, by decide +kernel, rfl, by decide +kernel, by decide +kernel⟩
theorem ok_dsectors {f : Addr} {fd : FuncData} (F : Fun K "sectors" "Disk.sectors" sDSectors f fd) (TD : TxtD K mg DK cNS cBC) : FnOk P w K mg base (CXw P w) 51 f fd ["self"] (spDSectors C DK) := by
 refine F.okX (by decide) scDS (fun vs H Q E h => ?_) (fun cdv A outer s H vs Q E hr h => ?_)
 . obtain ⟨d, p, D, pa, fp, rfl, _⟩ := h
   rfl
 . obtain ⟨d, p, D, pa, fp, rfl, X, h⟩ := h
   obtain ⟨dx, h1⟩ := X.ob
   exact ⟨_, (@zWw _ _ _ (@zWv _ _ _ _ (@zZq _ _ _ _ _ (pv 0) rfl))), _, rfl, d, DK, dx, _, _, rfl, h1, TD.cl, TD.aM, rfl, h⟩
def spDCheck (C DK cNS : Addr) : Sp := fun vs H Q E => ∃ (d p : Addr) (D : DS) (pa : Addr) (fp : List Addr) (z : Int), vs = [.ref d, .int z] /\ DiskX C DK H d p D pa fp /\ if 0 <= z /\ z < D.many then Q .non H else ∀ x, E (.ref cNS) (some x) H
theorem scDCk : FnScope ["self", "sector"] ["self", "sector"] (defScope sDCheck) := ⟨rfl, rfl, rfl, by decide +kernel, rfl, by decide +kernel, by decide +kernel⟩
theorem ok_dcheck {f : Addr} {fd : FuncData} (F : Fun K "check_sector" "Disk.check_sector" sDCheck f fd) (T : Txt K mg C cBS cNP cNE cNS cBC cCu cWE) (TD : TxtD K mg DK cNS cBC) : FnOk P w K mg base (CXw P w) 51 f fd ["self", "sector"] (spDCheck C DK cNS) := by
 refine F.okX (by decide) scDCk (fun vs H Q E h => ?_) (fun cdv A outer s H vs Q E hr h => ?_)
 . obtain ⟨d, p, D, pa, fp, z, rfl, _⟩ := h
   rfl
 . obtain ⟨d, p, D, pa, fp, z, rfl, X, h⟩ := h
   obtain ⟨dx, h1⟩ := X.ob
   refine ⟨_, (@zWw _ _ _ (@yQq _ _ _ _ _ _ _ _ (@yWk _ _ _ _ (@yQv _ _ _ _ _ _ _ _ _ _ _ _ (@xQq _) (@op_lt _) zWz (pv 1) (@zZq _ _ _ _ _ (pv 0) rfl) (by with_unfolding_all rfl))) (@zWw _ _ _ (@zKk _ _ _ _ _ _ _ _ _ _ zKj TD.x_NoSector rfl rfl T.g_NoSector (@zQw _ _ _ _ _ (@zQv _ _ _ _) zQk (by exact zQq rfl)) (by decide) (by exact zQq rfl) (by exact zQx rfl))) (@zZw _))), ?_⟩
   refine ⟨_, rfl, _, _, rfl, rfl, _, rfl, ite2 (fun h0 => ?_) fun h0 => ?_⟩
   . refine ⟨_, rfl, d, DK, dx, _, _, rfl, h1, TD.cl, TD.aM, rfl, _, _, rfl, rfl, _, rfl, ?_⟩
     have h0' : 0 <= z := by simpa using h0
     by_cases hb : z < D.many
     . rw [decide_eq_true hb]
       rw [if_pos ⟨h0', hb⟩] at h
       exact iteF h
     . rw [decide_eq_false hb]
       rw [if_neg fun q => hb q.2] at h
       exact iteT ⟨by decide, h⟩
   . have h0' : ¬ 0 <= z := by simpa using h0
     rw [if_neg fun q => h0' q.1] at h
     exact ⟨_, rfl, iteT ⟨by decide, h⟩⟩
def spDRead (C DK cNS : Addr) : Sp := fun vs H Q E => ∃ (d p : Addr) (D : DS) (pa : Addr) (fp : List Addr) (z : Int), vs = [.ref d, .int z] /\ DiskX C DK H d p D pa fp /\
 ((¬ (0 <= z /\ z < D.many) /\ ∀ x, E (.ref cNS) (some x) H) \/ ∃ s : Nat, z = s /\ s < D.many /\ D.G.Pl D.many D.pl /\ Q (.int (D.read s)) H)
theorem scDR : FnScope ["self", "sector", "place"] ["self", "sector"] (defScope sDRead) := ⟨rfl, rfl, rfl, by decide +kernel, rfl, by decide +kernel, by decide +kernel⟩
theorem ok_dread {f : Addr} {fd : FuncData} (F : Fun K "read" "Disk.read" sDRead f fd) (T : Txt K mg C cBS cNP cNE cNS cBC cCu cWE) (TD : TxtD K mg DK cNS cBC)
   (M_page : MtB P w K mg base C 53 "page" ["self", "block", "page"] (xpPage C cNP)) (N_check_sector : MtB P w K mg base DK 51 "check_sector" ["self", "sector"] (spDCheck C DK cNS)) : FnOk P w K mg base (CXw P w) 54 f fd ["self", "sector"] (spDRead C DK cNS) := by
 refine F.okX (by decide) scDR (fun vs H Q E h => ?_) (fun cdv A outer s H vs Q E hr h => ?_)
 . obtain ⟨d, p, D, pa, fp, z, rfl, _⟩ := h
   rfl
 . obtain ⟨d, p, D, pa, fp, z, rfl, X, h⟩ := h
   obtain ⟨dx, h1⟩ := X.ob
   obtain ⟨xs, h2, pat⟩ := X.pl
   obtain ⟨dxc, S0, hl0, el0, h3⟩ := X.ch.at_
   refine ⟨_, (@zQj _ _ _ _ _ (@zJj _ _ _ _ (@zZj _ _ _ _ _ _ _ _ _ _ _ _ _ _ _ TD.cl N_check_sector (hr.mono (by decide)) zWj (pv 0) (@zQw _ _ _ _ _ (pv 1) zQk (by exact zQq rfl)) (by exact zQq rfl) (by exact zQx rfl) (by rfl)) (by rfl)) (@zQj _ _ _ _ _ (@zJq _ _ (2) _ _ _ _ scDR.nd rfl (Or.inl rfl) (@zJw _ _ _ _ _ _ _ (@zJx _) (@zZq _ _ _ _ _ (pv 0) rfl) (pv 1) (fun _ _ => rfl)) (by rfl) (by first | exact .inl rfl | exact .inr rfl | assumption)) (@zQj _ _ _ _ _ (@yQq _ _ _ _ _ _ _ _ (@xKj _ _ _ _ _ _ (@pc_isN _ _ _ _ _ (pv 2)) (by first | exact nobehind _ (by decide) (by decide) | rfl)) (@zWw _ _ _ (@zWv _ _ _ _ zWz)) (@zZw _)) (@zWw _ _ _ (@zWv _ _ _ _ (@zJw _ _ _ _ _ _ _ (@yQw _) (@zZj _ _ _ _ _ _ _ _ _ _ _ _ _ _ _ T.cl M_page (hr.mono (by decide)) zWj (@zZq _ _ _ _ _ (pv 0) rfl) (@zQw _ _ _ _ _ (@zJw _ _ _ _ _ _ _ (@yQw _) (pv 2) zWz (fun _ _ => rfl)) (@zQw _ _ _ _ _ (@zJw _ _ _ _ _ _ _ (@yQw _) (pv 2) zWz (fun _ _ => rfl)) zQk (by exact zQq rfl)) (by exact zQq rfl)) (by exact zQq rfl) (by exact zQx rfl) (by rfl)) zWz (fun _ _ => rfl))))))), ?_⟩
   refine ⟨_, rfl, d, dx, _, rfl, h1, rfl, _, rfl, d, p, D, pa, fp, z, rfl, X, ?_⟩
   rcases h with ⟨hb, h⟩ | ⟨s, rfl, hs, gp, h⟩
   . rw [if_neg hb]
     exact h
   . rw [if_pos ⟨by omega, by omega⟩]
     have hs' : s < xs.length := by rw [pat.1]; exact hs
     have es : xs[s]? = some xs[s] := by simp [hs']
     have pv := pat.2 s _ es
     have gs := gp s hs
     refine ⟨_, rfl, d, DK, dx, _, _, rfl, h1, TD.cl, TD.aP, rfl, _, rfl, pa, _, _, _, rfl, rfl, SqL.of h2, yZw (by omega) (by rw [Int.toNat_natCast]; exact es), ?_⟩
     unfold DS.read at h
     generalize xs[s] = v at pv
     cases e : D.pl s with
     | none =>
       rw [e] at pv h
       cases pv
       exact ⟨_, rfl, _, rfl, iteT h⟩
     | some bi =>
       obtain ⟨b, i⟩ := bi
       rw [e] at pv h gs
       obtain ⟨hb, hi, c, n, eg, _⟩ := gs
       dsimp only at h
       rw [eg] at h
       cases pv with
       | @at_ a _ _ ea =>
         refine ⟨_, rfl, _, rfl, iteF ?_⟩
         refine ⟨_, rfl, d, DK, dx, _, _, rfl, h1, TD.cl, TD.aC, rfl, p, dxc, _, rfl, h3, rfl, _, rfl, a, _, _, _, rfl, rfl, SqT.of ea, at0, _, rfl, a, _, _, _, rfl, rfl, SqT.of ea, at1, xWk X.ch hb hi fun v pv => ?_⟩
         rw [eg] at pv
         cases pv with
         | @wh ap _ _ _ ep => exact ⟨ap, _, _, _, rfl, rfl, SqT.of ep, at1, h⟩
def EndsD (C DK cCu : Addr) (H : Hp) (d p pa : Addr) (fp : List Addr) (Q : VK) (E : XK) (r : Bool × DS) : Prop :=
 ∀ H' fp', DiskX C DK H' d p r.2 pa fp' -> Did H H' (fpD d pa fp) (fpD d pa fp') -> if r.1 = true then Q .non H' else ∀ x, E (.ref cCu) (some x) H'
theorem EndsD.ok {H : Hp} {d p pa : Addr} {fp : List Addr} {Q : VK} {E : XK} {r : Bool × DS} (h : EndsD C DK cCu H d p pa fp Q E r) (e : r.1 = true) {H' : Hp} {fp' : List Addr} (X : DiskX C DK H' d p r.2 pa fp') (k : Did H H' (fpD d pa fp) (fpD d pa fp')) : Q .non H' := by
 have := h H' fp' X k
 rwa [if_pos e] at this
theorem EndsD.cut {H : Hp} {d p pa : Addr} {fp : List Addr} {Q : VK} {E : XK} {r : Bool × DS} (h : EndsD C DK cCu H d p pa fp Q E r) (e : r.1 = false) {H' : Hp} {fp' : List Addr} (X : DiskX C DK H' d p r.2 pa fp') (k : Did H H' (fpD d pa fp) (fpD d pa fp')) (x : Addr) : E (.ref cCu) (some x) H' := by
 have := h H' fp' X k
 rw [if_neg (by rw [e]; exact Bool.false_ne_true)] at this
 exact this x
def spDPut (C DK cCu : Addr) : Sp := fun vs H Q E => ∃ (d p : Addr) (D : DS) (pa : Addr) (fp : List Addr) (s : Nat) (c : Int) (r : Bool × DS), vs = [.ref d, .int s, .int c] /\ DiskX C DK H d p D pa fp /\ D.put s c = some r /\ EndsD C DK cCu H d p pa fp Q E r
theorem scDP : FnScope ["self", "sector", "content"] ["self", "sector", "content"] (defScope sDPut) := ⟨rfl, rfl, rfl, by decide +kernel, rfl, by decide +kernel, by decide +kernel⟩
theorem put_of {D : DS} {s : Nat} {c : Int} {r : Bool × DS} (h : D.put s c = some r) : (D.h < D.G.nb /\ D.f < D.G.np /\ D.G.Clear D.h D.f /\ s < D.many) /\
   (((D.G.put D.h D.f (.wh s c D.G.many)).1 = true /\ r = (true, { D with G := (D.G.put D.h D.f (.wh s c D.G.many)).2, pl := set1 D.pl s (some (D.h, D.f)), f := D.f + 1 })) \/
    ((D.G.put D.h D.f (.wh s c D.G.many)).1 = false /\ r = (false, { D with G := (D.G.put D.h D.f (.wh s c D.G.many)).2 }))) := by
 unfold DS.put at h
 split at h
 . rename_i hc
   refine ⟨hc, ?_⟩
   cases e : (D.G.put D.h D.f (.wh s c D.G.many)).1 with
   | true =>
     rw [if_pos e] at h
     exact .inl ⟨rfl, (Option.some.inj h).symm⟩
   | false =>
     rw [if_neg (by rw [e]; exact Bool.false_ne_true)] at h
     exact .inr ⟨rfl, (Option.some.inj h).symm⟩
 . cases h
theorem ok_dput {f : Addr} {fd : FuncData} (F : Fun K "put" "Disk.put" sDPut f fd) (T : Txt K mg C cBS cNP cNE cNS cBC cCu cWE) (TD : TxtD K mg DK cNS cBC)
   (M_write : MtB P w K mg base C 53 "write" ["self", "block", "page", "thing"] (xpWrite C (clsOf cBS cNP cNE cCu))) (M_written : MtB P w K mg base C 51 "written" ["self"] (xpWritten C)) : FnOk P w K mg base (CXw P w) 54 f fd ["self", "sector", "content"] (spDPut C DK cCu) := by
 refine F.okX (by decide) scDP (fun vs H Q E h => ?_) (fun cdv A outer s H vs Q E hr h => ?_)
 . obtain ⟨d, p, D, pa, fp, sc, c, r, rfl, _⟩ := h
   rfl
 . obtain ⟨d, p, D, pa, fp, sc, c, r, rfl, X, hp, h⟩ := h
   obtain ⟨⟨c1, c2, c3, c4⟩, hr2⟩ := put_of hp
   obtain ⟨dx, h1⟩ := X.ob
   obtain ⟨xs, h2, pat⟩ := X.pl
   obtain ⟨dxc, S0, hl0, el0, h3⟩ := X.ch.at_
   refine ⟨_, (@zQj _ _ _ _ _ (@zJj _ _ _ _ (@zZj _ _ _ _ _ _ _ _ _ _ _ _ _ _ _ T.cl M_write (hr.mono (by decide)) zWj (@zZq _ _ _ _ _ (pv 0) rfl) (@zQw _ _ _ _ _ (@zZq _ _ _ _ _ (pv 0) rfl) (@zQw _ _ _ _ _ (@zZq _ _ _ _ _ (pv 0) rfl) (@zQw _ _ _ _ _ (@zJz _ _ _ _ _ (@zQw _ _ _ _ _ (pv 1) (@zQw _ _ _ _ _ (pv 2) (@zQw _ _ _ _ _ (@zZk _ _ _ _ _ _ _ _ _ _ _ _ T.cl M_written (hr.mono (by decide)) (@passE _ _ _) (@zZq _ _ _ _ _ (pv 0) rfl) (by rfl)) zQk (by exact zQq rfl)) (by exact zQq rfl)) (by exact zQq rfl))) zQk (by exact zQq rfl)) (by exact zQq rfl)) (by exact zQq rfl)) (by exact zQq rfl) (by exact zQx rfl) (by rfl)) (by rfl)) (@zQj _ _ _ _ _ (@xKk _ _ _ _ _ _ (@zJz _ _ _ _ _ (@zQw _ _ _ _ _ (@zZq _ _ _ _ _ (pv 0) rfl) (@zQw _ _ _ _ _ (@zZq _ _ _ _ _ (pv 0) rfl) zQk (by exact zQq rfl)) (by exact zQq rfl))) (@pg_sub _ _ _ _ _ _ _ (@zZq _ _ _ _ _ (pv 0) rfl) (pv 1) (@yKz _) (by intro _; rfl)) (by rfl) (by rfl) (by rfl)) (@zWw _ _ _ (@zKw _ _ _ _ _ _ _ _ (pv 0) (@zJk _ _ _ _ _ _ _ _ (@xWq _) (@zZq _ _ _ _ _ (pv 0) rfl) zWz) rfl)))), ?_⟩
   refine ⟨_, rfl, d, DK, dx, _, _, rfl, h1, TD.cl, TD.aC, rfl, p, dxc, _, rfl, h3, rfl, _, rfl, d, DK, dx, _, _, rfl, h1, TD.cl, TD.aB, rfl, _, rfl, d, DK, dx, _, _, rfl, h1, TD.cl, TD.aF, rfl, _, rfl, _, rfl, _, rfl, d, DK, dx, _, _, rfl, h1, TD.cl, TD.aC, rfl, p, dxc, _, rfl, h3, rfl, use_written X.ch ⟨by show 3 <= sizeLine; decide, fun t nt => ?_⟩⟩
   have s1 := zWq (o := .tup [.int (sc : Int), .int c, .int D.G.many]) nt
   have X1 := X.same s1
   have ht : upd H t (.tup [.int (sc : Int), .int c, .int D.G.many]) t = some (.tup [.int (sc : Int), .int c, .int D.G.many]) := zQz
   have tn : ∀ b ∈ fpD d pa fp, H b ≠ none := fun b m => by
     rcases List.mem_cons.mp m with z | m
     . rw [z, h1]; simp
     rcases List.mem_cons.mp m with z | m
     . rw [z, h2]; simp
     obtain ⟨o, e⟩ := X.ch.tr m
     rw [e]; simp
   generalize upd H t (.tup [.int (sc : Int), .int c, .int D.G.many]) = H1 at s1 X1 ht ⊢
   refine use_write X1.ch c1 c2 c3 ht (fun H2 e A2 k2 => ?_) (fun H2 x e A2 k2 => ?_)
   . rcases hr2 with ⟨_, rfl⟩ | ⟨e', _⟩
     rotate_left
     . rw [e] at e'; cases e'
     have X2 := X1.chip A2 (.ofBut k2)
     obtain ⟨dx2, g1⟩ := X2.ob
     obtain ⟨xs2, g2, pat2⟩ := X2.pl
     obtain ⟨dxc2, _, _, _, g3⟩ := X2.ch.at_
     refine ⟨_, rfl, d, DK, dx2, _, _, rfl, g1, TD.cl, TD.aB, rfl, _, rfl, d, DK, dx2, _, _, rfl, g1, TD.cl, TD.aF, rfl, by show 2 <= sizeLine; decide, fun tt ntt => ⟨_, rfl, d, DK, dx2, _, _, rfl, zWq ntt _ _ g1, TD.cl, TD.aP, rfl, _, rfl, pa, xs2, _, sc, rfl, rfl, zWq ntt _ _ g2, by rw [pat2.1]; exact ixN_of (by omega) (by show (sc : Int) < D.many; omega), ?_⟩⟩
     have s3 := zWq (o := .tup [.int (D.h : Int), .int (D.f : Int)]) ntt
     have htt : upd H2 tt (.tup [.int (D.h : Int), .int (D.f : Int)]) tt = some (.tup [.int (D.h : Int), .int (D.f : Int)]) := zQz
     generalize hH3 : upd H2 tt (HO.tup _) = H3
     have s3 : Same H2 H3 := by rw [<- hH3]; exact zWq ntt
     have htt : H3 tt = some (.tup [.int (D.h : Int), .int (D.f : Int)]) := by rw [<- hH3]; exact zQz
     clear hH3
     have X3 := X2.same s3
     have q1 := s3 _ _ g1
     have q2 := s3 _ _ g2
     generalize hH4 : upd H3 pa (HO.lst _) = H4
     have kt4 : Tups H3 H4 := fun a ys ea => by rw [<- hH4, zWx (yJz ea q2 (by intro z; cases z))]; exact ea
     have k4 : SameBut [pa] H3 H4 := by rw [<- hH4]; exact yWj (by simp)
     have q4 : H4 d = some (.ins DK dx2 (diskF p pa D.many D.h D.f)) := k4 _ _ q1 (by simpa using X.dpa)
     have p4 : H4 pa = some (.lst (xs2.set sc (.ref tt))) := by rw [<- hH4]; exact zQz
     clear hH4
     have A4 := X3.ch.but k4 (fun b m => by obtain rfl := List.mem_singleton.mp m; exact X3.pf) kt4
     have pat4 : PlAt H4 (xs2.set sc (.ref tt)) D.many (set1 D.pl sc (some (D.h, D.f))) := (((pat2.keep (.of s3)).set htt).keep kt4)
     refine ⟨_, rfl, d, DK, dx2, _, _, rfl, q4, TD.cl, TD.aF, rfl, _, _, rfl, rfl, _, rfl, d, DK, dx2, _, rfl, q4, TD.cl, TD.aF, by show 5 < 1000; decide, ?_⟩
     generalize hH5 : upd H4 d (HO.ins DK dx2 _) = H5
     have kt5 : Tups H4 H5 := fun a ys ea => by rw [<- hH5, zWx (yJz ea q4 (by intro z; cases z))]; exact ea
     have k5 : SameBut [d] H4 H5 := by rw [<- hH5]; exact yWj (by simp)
     have q5 : H5 d = some (.ins DK dx2 (diskF p pa D.many D.h (D.f + 1))) := by
       rw [<- hH5, zQz]
       rfl
     clear hH5
     refine h.ok rfl (fp' := fp) ⟨⟨dx2, q5⟩, ⟨_, k5 _ _ p4 (by simpa using X.dpa.symm), pat4.keep kt5⟩, A4.but k5 (fun b m => by obtain rfl := List.mem_singleton.mp m; exact X.df) kt5, X.dp, X.pf, X.ms⟩ (.ofBut fun b o eb nb => ?_)
     have nd : b ∉ [d] := fun m => nb (by rw [List.mem_singleton.mp m]; simp)
     have np : b ∉ [pa] := fun m => nb (by rw [List.mem_singleton.mp m]; simp)
     have nf : b ∉ fp := fun m => nb (by simp [m])
     exact k5 _ _ (k4 _ _ (s3 _ _ (k2 _ _ (s1 _ _ eb) nf)) np) nd
   . rcases hr2 with ⟨e', _⟩ | ⟨_, rfl⟩
     . rw [e] at e'; cases e'
     refine h.cut rfl (X1.chip A2 (.ofBut k2)) (.ofBut fun b o eb nb => ?_) x
     exact k2 _ _ (s1 _ _ eb) fun m => nb (by simp [m])
end
theorem gput_nb {G : GS} {b i : Nat} {g : Pg} : (G.put b i g).2.nb = G.nb /\ (G.put b i g).2.np = G.np := by
 unfold GS.put GS.draw
 split
 . exact ⟨rfl, rfl⟩
 . rename_i e
   split at e
   . cases e
   . split at e
     . cases e; exact ⟨rfl, rfl⟩
     . split at e
       . cases e; exact ⟨rfl, rfl⟩
       . cases e; exact ⟨rfl, rfl⟩
theorem gera_nb {G : GS} {b : Nat} : (G.era b).2.nb = G.nb /\ (G.era b).2.np = G.np := by
 unfold GS.era GS.draw
 split
 . exact ⟨rfl, rfl⟩
 . rename_i e
   split at e
   . cases e
   . split at e
     . cases e; exact ⟨rfl, rfl⟩
     . split at e
       . cases e; exact ⟨rfl, rfl⟩
       . cases e; exact ⟨rfl, rfl⟩
theorem dput_nb {D : DS} {s : Nat} {c : Int} {r : Bool × DS} (h : D.put s c = some r) : r.2.G.nb = D.G.nb /\ r.2.G.np = D.G.np /\ r.2.many = D.many /\ r.2.h = D.h := by
 obtain ⟨_, ⟨_, rfl⟩ | ⟨_, rfl⟩⟩ := put_of h
 . exact ⟨gput_nb.1, gput_nb.2, rfl, rfl⟩
 . exact ⟨gput_nb.1, gput_nb.2, rfl, rfl⟩
def plL (many : Nat) (pl : Nat -> Option (Nat × Nat)) : List (Option (Int × Int)) := (List.range many).map fun s => (pl s).map fun q => ((q.1 : Int), (q.2 : Int))
theorem paired_of {H : Hp} : ∀ (xs : List V) (os : List (Option (Int × Int))), xs.length = os.length -> (∀ (i : Nat) v o, xs[i]? = some v -> os[i]? = some o -> PlV H v o) -> PlVs H xs os
 | [], [], _, _ => .nil
 | x :: xs, o :: os, hl, h => .cons (h 0 x o rfl rfl) (paired_of xs os (by simpa using hl) fun i v o' e1 e2 => h (i + 1) v o' e1 e2)
 | [], _ :: _, hl, _ => by simp at hl
 | _ :: _, [], hl, _ => by simp at hl
theorem PlAt.vs {H : Hp} {xs : List V} {many : Nat} {pl : Nat -> Option (Nat × Nat)} (h : PlAt H xs many pl) : PlVs H xs (plL many pl) := by
 refine paired_of _ _ (by unfold plL; rw [List.length_map, List.length_range]; exact h.1) fun i v o e1 e2 => ?_
 unfold plL at e2
 have hi : i < many := by
   rw [<- h.1]
   exact (List.getElem?_eq_some_iff.mp e1).1
 rw [List.getElem?_map, List.getElem?_range hi] at e2
 cases e2
 exact h.2 i v e1
theorem live_any {D : DS} {b i : Nat} : ((plL D.many D.pl).any fun o => decide (o = some ((b : Int), (i : Int)))) = true ↔ D.Live b i := by
 rw [List.any_eq_true]
 constructor
 . rintro ⟨o, m, h⟩
   obtain ⟨s, ms, rfl⟩ := List.mem_map.mp m
   refine ⟨s, List.mem_range.mp ms, ?_⟩
   have h' := of_decide_eq_true h
   obtain ⟨q, eq, e⟩ := Option.map_eq_some_iff.mp h'
   rw [eq]
   injection e with e1 e2
   congr 1
   exact Prod.ext (by omega) (by omega)
 . rintro ⟨s, hs, e⟩
   exact ⟨_, List.mem_map.mpr ⟨s, List.mem_range.mpr hs, rfl⟩, by rw [e]; simp⟩
theorem move_live {D : DS} {b n : Nat} (h : D.Live b (D.G.np - (n + 1))) {r : Bool × DS} (e : DS.move b (n + 1) D = some r) : ∃ s c m, D.G.pg b (D.G.np - (n + 1)) = .wh s c m /\ ∃ r1, D.put s c = some r1 /\ ((r1.1 = true /\ DS.move b n r1.2 = some r) \/ (r1.1 = false /\ r = r1)) := by
 unfold DS.move at e
 rw [if_pos h] at e
 split at e
 . rename_i s c m eg
   refine ⟨s, c, m, eg, ?_⟩
   split at e
   . rename_i D' ep
     exact ⟨_, ep, .inl ⟨rfl, e⟩⟩
   . rename_i x hx
     cases hp : D.put s c with
     | none => rw [hp] at e; cases e
     | some r1 =>
       rw [hp] at e
       obtain ⟨k, D1⟩ := r1
       cases k with
       | true => exact absurd hp (hx D1)
       | false => exact ⟨_, rfl, .inr ⟨rfl, (Option.some.inj e).symm⟩⟩
 . cases e
theorem move_dead {D : DS} {b n : Nat} (h : ¬ D.Live b (D.G.np - (n + 1))) : DS.move b (n + 1) D = DS.move b n D := by
 conv => lhs; unfold DS.move
 rw [if_neg h]
section
variable {P : Program} {w : World} {K : PySem.W.Frag} {mg : Str -> Option Value} {base : Heap} {C DK cBS cNP cNE cNS cBC cCu cWE : Addr}
def spDClean (C DK cCu : Addr) : Sp := fun vs H Q E => ∃ (d p : Addr) (D : DS) (pa : Addr) (fp : List Addr) (b : Nat) (r : Bool × DS), vs = [.ref d, .int b] /\ DiskX C DK H d p D pa fp /\ b < D.G.nb /\ D.clean b = some r /\ EndsD C DK cCu H d p pa fp Q E r
theorem scDCl : FnScope ["self", "block", "page", "thing"] ["self", "block"] (defScope sDClean) := ⟨rfl, rfl, rfl, by decide +kernel, rfl, by decide +kernel, by decide +kernel⟩
theorem ok_dclean {f : Addr} {fd : FuncData} (F : Fun K "clean" "Disk.clean" sDClean f fd) (T : Txt K mg C cBS cNP cNE cNS cBC cCu cWE) (TD : TxtD K mg DK cNS cBC)
   (M_size : MtB P w K mg base C 51 "size" ["self"] (xpSize C)) (M_page : MtB P w K mg base C 53 "page" ["self", "block", "page"] (xpPage C cNP)) (M_erase : MtB P w K mg base C 52 "erase" ["self", "block"] (xpErase C (clsOf cBS cNP cNE cCu)))
   (N_put : MtB P w K mg base DK 54 "put" ["self", "sector", "content"] (spDPut C DK cCu)) : FnOk P w K mg base (CXw P w) 55 f fd ["self", "block"] (spDClean C DK cCu) := by
 refine F.okX (by decide) scDCl (fun vs H Q E h => ?_) (fun cdv A outer s H vs Q E hr h => ?_)
 . obtain ⟨d, p, D, pa, fp, b, r, rfl, _⟩ := h
   rfl
 . obtain ⟨d, p, D, pa, fp, b, r, rfl, X, hb, hc, h⟩ := h
   have hu := hu_of hr
   have lim := X.ch.lim
   obtain ⟨dx, h1⟩ := X.ob
   obtain ⟨dxc, S0, hl0, el0, h3⟩ := X.ch.at_
   refine ⟨_, (@zQj _ _ _ _ _ (@yKj _ _ _ _ _ _ _ _ PassesOwn.leaving rfl (@yQj _ _ _ _ _ _ rfl T.n_range (@zQw _ _ _ _ _ (@zJw _ _ _ _ _ _ _ (@yQw _) (@zZk _ _ _ _ _ _ _ _ _ _ _ _ T.cl M_size (hr.mono (by decide)) (@passE _ _ _) (@zZq _ _ _ _ _ (pv 0) rfl) (by rfl)) zWz (fun _ _ => rfl)) zQk (by exact zQq rfl)) (by exact zQq rfl)) (@yQk _ _ (2) _ scDCl.nd rfl (Or.inl rfl) (by first | exact .inl rfl | exact .inr rfl | assumption)) (@zWw _ _ _ (@yQq _ _ _ _ _ _ _ _ (@zKz _ _ _ _ _ _ _ _ (@op_inPl _ hu) (@zJz _ _ _ _ _ (@zQw _ _ _ _ _ (pv 1) (@zQw _ _ _ _ _ (pv 2) zQk (by exact zQq rfl)) (by exact zQq rfl))) (@zZq _ _ _ _ _ (pv 0) rfl) rfl) (@zQj _ _ _ _ _ (@zJq _ _ (3) _ _ _ _ scDCl.nd rfl (Or.inl rfl) (@zZj _ _ _ _ _ _ _ _ _ _ _ _ _ _ _ T.cl M_page (hr.mono (by decide)) zWj (@zZq _ _ _ _ _ (pv 0) rfl) (@zQw _ _ _ _ _ (pv 1) (@zQw _ _ _ _ _ (pv 2) zQk (by exact zQq rfl)) (by exact zQq rfl)) (by exact zQq rfl) (by exact zQx rfl) (by rfl)) (by rfl) (by first | exact .inl rfl | exact .inr rfl | assumption)) (@zWw _ _ _ (@zJj _ _ _ _ (@zZj _ _ _ _ _ _ _ _ _ _ _ _ _ _ _ TD.cl N_put (hr.mono (by decide)) zWj (pv 0) (@zQw _ _ _ _ _ (@zJw _ _ _ _ _ _ _ (@yQw _) (pv 3) zWz (fun _ _ => rfl)) (@zQw _ _ _ _ _ (@zJw _ _ _ _ _ _ _ (@yQw _) (pv 3) zWz (fun _ _ => rfl)) zQk (by exact zQq rfl)) (by exact zQq rfl)) (by exact zQq rfl) (by exact zQx rfl) (by rfl)) (by rfl)))) (@zZw _))) (by intro _; rfl)) (@zWw _ _ _ (@zJj _ _ _ _ (@zZj _ _ _ _ _ _ _ _ _ _ _ _ _ _ _ T.cl M_erase (hr.mono (by decide)) zWj (@zZq _ _ _ _ _ (pv 0) rfl) (@zQw _ _ _ _ _ (pv 1) zQk (by exact zQq rfl)) (by exact zQq rfl) (by exact zQx rfl) (by rfl)) (by rfl)))), ?_⟩
   refine ⟨_, rfl, d, DK, dx, _, _, rfl, h1, TD.cl, TD.aC, rfl, p, dxc, _, rfl, h3, rfl, yQz X.ch fun t H1 ht s1 => ⟨t, _, _, _, rfl, rfl, SqT.of ht, at1, (D.G.np : Int), rfl, by omega, by omega, ?_⟩⟩
   unfold DS.clean at hc
   refine yWv (lo := 0) (n := (D.G.np : Int).toNat) (fun j σ H2 => ∃ D2 fp2, DiskX C DK H2 d p D2 pa fp2 /\ Did H H2 (fpD d pa fp) (fpD d pa fp2) /\ D2.G.np = D.G.np /\ D2.G.nb = D.G.nb /\ DS.move b (D.G.np - j) D2 = DS.move b D.G.np D /\ ∃ v1 v2, σ = [some (.ref d), some (.int (b : Int)), v1, v2]) ⟨D, fp, X.same s1, .same s1, rfl, rfl, rfl, _, _, rfl⟩ ?_ ?_
   . rintro j σ H2 hj ⟨D2, fp2, X2, k2, en, eb, em, v1, v2, rfl⟩
     rw [Int.zero_add]
     have hj' : j < D.G.np := by omega
     obtain ⟨dx2, g1⟩ := X2.ob
     obtain ⟨xs2, g2, pat2⟩ := X2.pl
     obtain ⟨dxc2, S2, hl2, el2, g3⟩ := X2.ch.at_
     refine ⟨_, rfl, _, rfl, by show 2 <= sizeLine; decide, fun t2 nt2 => ⟨_, rfl, d, DK, dx2, _, _, rfl, zWq nt2 _ _ g1, TD.cl, TD.aP, rfl, t2, pa, xs2, plL D2.many D2.pl, b, j, rfl, rfl, zQz, zWq nt2 _ _ g2, ?_, _, rfl, ?_⟩⟩
     . exact (pat2.keep (.of (zWq nt2))).vs
     generalize hH3 : upd H2 t2 (HO.tup _) = H3
     have s3 : Same H2 H3 := by rw [<- hH3]; exact zWq nt2
     clear hH3
     have X3 := X2.same s3
     have k3 : Did H H3 (fpD d pa fp) (fpD d pa fp2) := k2.trans (.same s3)
     obtain ⟨n, hn⟩ : ∃ n, D.G.np - j = n + 1 := ⟨D.G.np - j - 1, by omega⟩
     have hnj : D2.G.np - (n + 1) = j := by omega
     have hnj' : D.G.np - (j + 1) = n := by omega
     rw [hn] at em
     by_cases lv : D2.Live b j
     . rw [live_any.mpr lv]
       refine iteT ?_
       obtain ⟨R, hR⟩ : ∃ R, DS.move b D.G.np D = some R := by
         cases hm : DS.move b D.G.np D with
         | none => rw [hm] at hc; cases hc
         | some R => exact ⟨R, rfl⟩
       rw [hR] at em hc
       have lv' : D2.Live b (D2.G.np - (n + 1)) := by rw [hnj]; exact lv
       obtain ⟨sc, c, m, eg, r1, ep, hcase⟩ := move_live lv' em
       rw [hnj] at eg
       refine ⟨_, rfl, d, DK, dx2, _, _, rfl, s3 _ _ g1, TD.cl, TD.aC, rfl, p, dxc2, _, rfl, s3 _ _ g3, rfl, _, rfl, _, rfl, xWk X3.ch (by omega) (by omega) fun v pv => ?_⟩
       rw [eg] at pv
       cases pv with
       | @wh ap _ _ _ eap =>
         refine ⟨_, rfl, d, dx2, _, rfl, s3 _ _ g1, rfl, _, rfl, ap, _, _, _, rfl, rfl, SqT.of eap, at0, _, rfl, ap, _, _, _, rfl, rfl, SqT.of eap, at1, d, p, D2, pa, fp2, sc, c, r1, rfl, X3, ep, fun H4 fp4 X4 k4 => ?_⟩
         have k14 := k3.trans k4
         rcases hcase with ⟨e1, e2⟩ | ⟨e1, e2⟩
         . rw [if_pos e1]
           refine ⟨r1.2, fp4, X4, k14, by rw [(dput_nb ep).2.1, en], by rw [(dput_nb ep).1, eb], ?_, _, _, rfl⟩
           rw [hnj', e2, hR]
         . rw [if_neg (by rw [e1]; exact Bool.false_ne_true)]
           subst e2
           obtain ⟨k, D5⟩ := R
           dsimp only at e1
           subst e1
           have := Option.some.inj hc
           subst this
           exact fun x => h.cut rfl X4 k14 x
     . have ef : ((plL D2.many D2.pl).any fun o => decide (o = some ((b : Int), (j : Int)))) = false := by
         cases e : (plL D2.many D2.pl).any fun o => decide (o = some ((b : Int), (j : Int))) with
         | false => rfl
         | true => exact absurd (live_any.mp e) lv
       rw [ef]
       refine iteF ⟨D2, fp2, X3, k3, en, eb, ?_, _, _, rfl⟩
       rw [hnj', <- em, move_dead (by rw [hnj]; exact lv)]
   . rintro σ H2 ⟨D2, fp2, X2, k2, en, eb, em, v1, v2, rfl⟩
     rw [Int.toNat_natCast, Nat.sub_self] at em
     have em' : DS.move b D.G.np D = some (true, D2) := by rw [<- em]; rfl
     rw [em'] at hc
     dsimp only at hc
     rw [if_pos (by omega)] at hc
     have hr2 := (Option.some.inj hc).symm
     subst hr2
     obtain ⟨dx2, g1⟩ := X2.ob
     obtain ⟨dxc2, S2, hl2, el2, g3⟩ := X2.ch.at_
     refine ⟨_, rfl, d, DK, dx2, _, _, rfl, g1, TD.cl, TD.aC, rfl, p, dxc2, _, rfl, g3, rfl, _, rfl, use_erase X2.ch (by omega) (fun H3 fp3 e A3 k3 => ?_) (fun H3 fp3 x e A3 k3 => ?_)⟩
     . exact h.ok e (X2.chip A3 k3) (k2.trans (k3.wide d pa))
     . exact h.cut e (X2.chip A3 k3) (k2.trans (k3.wide d pa)) x
end
theorem DiskX.setHF {C DK : Addr} {H : Hp} {d p : Addr} {D : DS} {pa : Addr} {fp : List Addr} (X : DiskX C DK H d p D pa fp) {dx : Addr} {fs : List (Str × V)} (e : H d = some (.ins DK dx fs)) (h' f' : Nat) {H' : Hp} (eH : H' = upd H d (.ins DK dx (diskF p pa D.many h' f'))) : DiskX C DK H' d p { D with h := h', f := f' } pa fp /\ Did H H' (fpD d pa fp) (fpD d pa fp) := by
 subst eH
 have kt : Tups H (upd H d (.ins DK dx (diskF p pa D.many h' f'))) := fun a ys ea => by rw [zWx (yJz ea e (by intro z; cases z))]; exact ea
 have k : SameBut [d] H (upd H d (.ins DK dx (diskF p pa D.many h' f'))) := yWj (by simp)
 obtain ⟨xs, e2, q⟩ := X.pl
 refine ⟨⟨⟨dx, zQz⟩, ⟨xs, k _ _ e2 (by simpa using X.dpa.symm), q.keep kt⟩, X.ch.but k (fun b m => by obtain rfl := List.mem_singleton.mp m; exact X.df) kt, X.dp, X.pf, X.ms⟩, .ofBut fun b o eb nb => k b o eb fun m => nb (by rw [List.mem_singleton.mp m]; simp)⟩
section
variable {P : Program} {w : World} {K : PySem.W.Frag} {mg : Str -> Option Value} {base : Heap} {C DK cBS cNP cNE cNS cBC cCu cWE : Addr}
def spDBegin (C DK cCu : Addr) : Sp := fun vs H Q E => ∃ (d p : Addr) (D : DS) (pa : Addr) (fp : List Addr) (r : Bool × DS), vs = [.ref d] /\ DiskX C DK H d p D pa fp /\ D.h < D.G.nb /\ D.begin = some r /\ EndsD C DK cCu H d p pa fp Q E r
theorem scDB : FnScope ["self", "oldest"] ["self"] (defScope sDBegin) := ⟨rfl, rfl, rfl, by decide +kernel, rfl, by decide +kernel, by decide +kernel⟩
theorem ok_dbegin {f : Addr} {fd : FuncData} (F : Fun K "begin_block" "Disk.begin_block" sDBegin f fd) (T : Txt K mg C cBS cNP cNE cNS cBC cCu cWE) (TD : TxtD K mg DK cNS cBC)
   (B_block_behind : FnB P w K mg base 52 "block_behind" ["chip", "block"] (spBehind C)) (B_is_erased : FnB P w K mg base 55 "is_erased" ["chip", "block"] (spIsEr C)) (N_clean : MtB P w K mg base DK 55 "clean" ["self", "block"] (spDClean C DK cCu)) : FnOk P w K mg base (CXw P w) 56 f fd ["self"] (spDBegin C DK cCu) := by
 refine F.okX (by decide) scDB (fun vs H Q E h => ?_) (fun cdv A outer s H vs Q E hr h => ?_)
 . obtain ⟨d, p, D, pa, fp, r, rfl, _⟩ := h
   rfl
 . obtain ⟨d, p, D, pa, fp, r, rfl, X, hh, hb, h⟩ := h
   obtain ⟨dx, h1⟩ := X.ob
   refine ⟨_, (@zQj _ _ _ _ _ (@zKw _ _ _ _ _ _ _ _ (pv 0) (@zZx _ _ _ _ _ _ _ _ _ _ _ B_block_behind (hr.mono (by decide)) rfl (@passE _ _ _) (@zQw _ _ _ _ _ (@zZq _ _ _ _ _ (pv 0) rfl) (@zQw _ _ _ _ _ (@zZq _ _ _ _ _ (pv 0) rfl) zQk (by exact zQq rfl)) (by exact zQq rfl)) (by decide) (by exact zQq rfl) (by exact zQx rfl)) rfl) (@zQj _ _ _ _ _ (@zKw _ _ _ _ _ _ _ _ (pv 0) zWz rfl) (@zQj _ _ _ _ _ (@zJq _ _ (1) _ _ _ _ scDB.nd rfl (Or.inl rfl) (@zZx _ _ _ _ _ _ _ _ _ _ _ B_block_behind (hr.mono (by decide)) rfl (@passE _ _ _) (@zQw _ _ _ _ _ (@zZq _ _ _ _ _ (pv 0) rfl) (@zQw _ _ _ _ _ (@zZq _ _ _ _ _ (pv 0) rfl) zQk (by exact zQq rfl)) (by exact zQq rfl)) (by decide) (by exact zQq rfl) (by exact zQx rfl)) (by rfl) (by first | exact .inl rfl | exact .inr rfl | assumption)) (@zWw _ _ _ (@yQq _ _ _ _ _ _ _ _ (@yWk _ _ _ _ (@yZk _ _ _ (@zZx _ _ _ _ _ _ _ _ _ _ _ B_is_erased (hr.mono (by decide)) rfl (@passE _ _ _) (@zQw _ _ _ _ _ (@zZq _ _ _ _ _ (pv 0) rfl) (@zQw _ _ _ _ _ (pv 1) zQk (by exact zQq rfl)) (by exact zQq rfl)) (by decide) (by exact zQq rfl) (by exact zQx rfl)) (by intro _; rfl))) (@zWw _ _ _ (@zJj _ _ _ _ (@zZj _ _ _ _ _ _ _ _ _ _ _ _ _ _ _ TD.cl N_clean (hr.mono (by decide)) zWj (pv 0) (@zQw _ _ _ _ _ (pv 1) zQk (by exact zQq rfl)) (by exact zQq rfl) (by exact zQx rfl) (by rfl)) (by rfl))) (@zZw _)))))), ?_⟩
   refine ⟨_, rfl, d, DK, dx, _, _, rfl, h1, TD.cl, TD.aC, rfl, _, rfl, d, DK, dx, _, _, rfl, h1, TD.cl, TD.aB, rfl, p, D.h, D.G, fp, rfl, X.ch, hh, fun H1 s1 => ⟨_, rfl, d, DK, dx, _, rfl, s1 _ _ h1, TD.cl, TD.aB, by show 5 < 1000; decide, _, rfl, d, DK, dx, _, rfl, zQz, TD.cl, TD.aF, by show 5 < 1000; decide, ?_⟩⟩
   rw [yZv]
   generalize hH2 : upd H1 d (HO.ins DK dx _) = H2
   obtain ⟨X2, k2⟩ := (X.same s1).setHF (s1 _ _ h1) (nx D.G.nb D.h) 0 (H' := H2) (by rw [<- hH2]; rfl)
   clear hH2
   have k12 : Did H H2 (fpD d pa fp) (fpD d pa fp) := (Did.same s1).trans k2
   obtain ⟨dx2, g1⟩ := X2.ob
   have hn := nx_lt hh
   refine ⟨_, rfl, d, DK, dx2, _, _, rfl, g1, TD.cl, TD.aC, rfl, _, rfl, d, DK, dx2, _, _, rfl, g1, TD.cl, TD.aB, rfl, p, nx D.G.nb D.h, D.G, fp, rfl, X2.ch, hn, fun H3 s3 => ?_⟩
   have g3 := s3 _ _ g1
   refine ⟨_, rfl, d, DK, dx2, _, _, rfl, g3, TD.cl, TD.aC, rfl, _, rfl, p, nx D.G.nb (nx D.G.nb D.h), D.G, fp, rfl, X2.ch.same s3, nx_lt hn, fun H4 s4 => ⟨_, rfl, ?_⟩⟩
   have X4 := X2.same (s3.trans s4)
   have k14 : Did H H4 (fpD d pa fp) (fpD d pa fp) := k12.trans (.same (s3.trans s4))
   unfold DS.begin at hb
   by_cases he : D.G.Er (nx D.G.nb (nx D.G.nb D.h))
   . rw [decide_eq_true he]
     rw [if_pos he] at hb
     have := (Option.some.inj hb).symm
     subst this
     exact iteF (h.ok rfl X4 k14)
   . rw [decide_eq_false he]
     rw [if_neg he] at hb
     refine iteT ⟨_, rfl, d, dx2, _, rfl, s4 _ _ g3, rfl, _, rfl, d, p, _, pa, fp, _, r, rfl, X4, nx_lt hn, hb, fun H5 fp5 X5 k5 => ?_⟩
     exact h H5 fp5 X5 (k14.trans k5)
def MOST : Int := 999999999999
def spDWrite (C DK cNS cBC cCu : Addr) : Sp := fun vs H Q E => ∃ (d p : Addr) (D : DS) (pa : Addr) (fp : List Addr) (z c : Int), vs = [.ref d, .int z, .int c] /\ DiskX C DK H d p D pa fp /\
 ((¬ (0 <= z /\ z < D.many) /\ ∀ x, E (.ref cNS) (some x) H) \/ ((0 <= z /\ z < D.many) /\ ¬ (0 <= c /\ c <= MOST) /\ ∀ x, E (.ref cBC) (some x) H) \/
   ∃ (s n : Nat) (r : Bool × DS), z = s /\ s < D.many /\ 0 <= c /\ c <= MOST /\ D.h < D.G.nb /\ D.write n s c = some r /\ EndsD C DK cCu H d p pa fp Q E r)
theorem scDW : FnScope ["self", "sector", "content"] ["self", "sector", "content"] (defScope sDWrite) := ⟨rfl, rfl, rfl, by decide +kernel, rfl, by decide +kernel, by decide +kernel⟩
theorem move_nb {b : Nat} : ∀ {n : Nat} {D : DS} {r : Bool × DS}, DS.move b n D = some r -> r.2.G.nb = D.G.nb /\ r.2.G.np = D.G.np /\ r.2.many = D.many /\ r.2.h = D.h
 | 0, D, r, h => by cases h; exact ⟨rfl, rfl, rfl, rfl⟩
 | n + 1, D, r, h => by
   by_cases lv : D.Live b (D.G.np - (n + 1))
   . obtain ⟨s, c, m, eg, r1, ep, hc⟩ := move_live lv h
     obtain ⟨a1, a2, a3, a4⟩ := dput_nb ep
     rcases hc with ⟨_, e⟩ | ⟨_, e⟩
     . obtain ⟨b1, b2, b3, b4⟩ := move_nb e
       exact ⟨by omega, by omega, by omega, by omega⟩
     . subst e
       exact ⟨a1, a2, a3, a4⟩
   . rw [move_dead lv] at h
     exact move_nb h
theorem clean_nb {b : Nat} {D : DS} {r : Bool × DS} (h : D.clean b = some r) : r.2.G.nb = D.G.nb /\ r.2.G.np = D.G.np /\ r.2.many = D.many /\ r.2.h = D.h := by
 unfold DS.clean at h
 split at h
 . rename_i D' e
   obtain ⟨a1, a2, a3, a4⟩ := move_nb e
   split at h
   . cases h
     exact ⟨gera_nb.1.trans a1, gera_nb.2.trans a2, a3, a4⟩
   . cases h
 . exact move_nb h
theorem begin_nb {D : DS} {r : Bool × DS} (h : D.begin = some r) : r.2.G.nb = D.G.nb /\ r.2.G.np = D.G.np /\ r.2.many = D.many /\ r.2.h = nx D.G.nb D.h := by
 unfold DS.begin at h
 split at h
 . cases h
   exact ⟨rfl, rfl, rfl, rfl⟩
 . exact clean_nb h
theorem write_full {n : Nat} {D : DS} {s : Nat} {c : Int} {r : Bool × DS} (hf : D.f = D.G.np) (h : DS.write n D s c = some r) : ∃ m r1, n = m + 1 /\ D.begin = some r1 /\ ((r1.1 = true /\ DS.write m r1.2 s c = some r) \/ (r1.1 = false /\ r = r1)) := by
 cases n with
 | zero => cases h
 | succ m =>
   unfold DS.write at h
   rw [if_pos hf] at h
   refine ⟨m, ?_⟩
   split at h
   . rename_i D' e
     exact ⟨_, rfl, e, .inl ⟨rfl, h⟩⟩
   . rename_i x hx
     cases hb : D.begin with
     | none => rw [hb] at h; cases h
     | some r1 =>
       rw [hb] at h
       obtain ⟨k, D1⟩ := r1
       cases k with
       | true => exact absurd hb (hx D1)
       | false => exact ⟨_, rfl, rfl, .inr ⟨rfl, (Option.some.inj h).symm⟩⟩
theorem write_room {n : Nat} {D : DS} {s : Nat} {c : Int} {r : Bool × DS} (hf : D.f ≠ D.G.np) (h : DS.write n D s c = some r) : D.put s c = some r := by
 cases n with
 | zero => cases h
 | succ m =>
   unfold DS.write at h
   rw [if_neg hf] at h
   exact h
theorem ok_dwrite {f : Addr} {fd : FuncData} (F : Fun K "write" "Disk.write" sDWrite f fd) (T : Txt K mg C cBS cNP cNE cNS cBC cCu cWE) (TD : TxtD K mg DK cNS cBC)
   (M_size : MtB P w K mg base C 51 "size" ["self"] (xpSize C)) (N_check_sector : MtB P w K mg base DK 51 "check_sector" ["self", "sector"] (spDCheck C DK cNS)) (N_begin_block : MtB P w K mg base DK 56 "begin_block" ["self"] (spDBegin C DK cCu)) (N_put : MtB P w K mg base DK 54 "put" ["self", "sector", "content"] (spDPut C DK cCu)) : FnOk P w K mg base (CXw P w) 57 f fd ["self", "sector", "content"] (spDWrite C DK cNS cBC cCu) := by
 refine F.okX (by decide) scDW (fun vs H Q E h => ?_) (fun cdv A outer s H vs Q E hr h => ?_)
 . obtain ⟨d, p, D, pa, fp, z, c, rfl, _⟩ := h
   rfl
 . obtain ⟨d, p, D, pa, fp, z, c, rfl, X, h⟩ := h
   obtain ⟨dx, h1⟩ := X.ob
   refine ⟨_, (@zQj _ _ _ _ _ (@zJj _ _ _ _ (@zZj _ _ _ _ _ _ _ _ _ _ _ _ _ _ _ TD.cl N_check_sector (hr.mono (by decide)) zWj (pv 0) (@zQw _ _ _ _ _ (pv 1) zQk (by exact zQq rfl)) (by exact zQq rfl) (by exact zQx rfl) (by rfl)) (by rfl)) (@zQj _ _ _ _ _ (@yQq _ _ _ _ _ _ _ _ (@yWk _ _ _ _ (@yQv _ _ _ _ _ _ _ _ _ _ _ _ (@xQq _) (@xQq _) zWz (pv 2) (@xJv _ _ _ _ rfl TD.g_MC (by decide)) (by with_unfolding_all rfl))) (@zWw _ _ _ (@zKk _ _ _ _ _ _ _ _ _ _ zKj TD.x_BadContent rfl rfl T.g_BadContent (@zQw _ _ _ _ _ (@zQv _ _ _ _) zQk (by exact zQq rfl)) (by decide) (by exact zQq rfl) (by exact zQx rfl))) (@zZw _)) (@zQj _ _ _ _ _ (@ps_while _ _ _ _ _ _ PassesOwn.leaving (@zKz _ _ _ _ _ _ _ _ (@xQx _) (@zZq _ _ _ _ _ (pv 0) rfl) (@zJw _ _ _ _ _ _ _ (@yQw _) (@zZk _ _ _ _ _ _ _ _ _ _ _ _ T.cl M_size (hr.mono (by decide)) (@passE _ _ _) (@zZq _ _ _ _ _ (pv 0) rfl) (by rfl)) zWz (fun _ _ => rfl)) (@nomark _ _ (by decide) (by decide))) (@zWw _ _ _ (@zJj _ _ _ _ (@zZk _ _ _ _ _ _ _ _ _ _ _ _ TD.cl N_begin_block (hr.mono (by decide)) zWj (pv 0) (by rfl)) (by rfl)))) (@zWw _ _ _ (@zJj _ _ _ _ (@zZj _ _ _ _ _ _ _ _ _ _ _ _ _ _ _ TD.cl N_put (hr.mono (by decide)) zWj (pv 0) (@zQw _ _ _ _ _ (pv 1) (@zQw _ _ _ _ _ (pv 2) zQk (by exact zQq rfl)) (by exact zQq rfl)) (by exact zQq rfl) (by exact zQx rfl) (by rfl)) (by rfl)))))), ?_⟩
   refine ⟨_, rfl, d, dx, _, rfl, h1, rfl, _, rfl, d, p, D, pa, fp, z, rfl, X, ?_⟩
   by_cases hz : 0 <= z /\ z < D.many
   rotate_left
   . rw [if_neg hz]
     rcases h with ⟨_, h⟩ | ⟨h, _⟩ | ⟨s, n, r, rfl, hs, _⟩
     . exact h
     . exact absurd h hz
     . exact absurd ⟨by omega, by omega⟩ hz
   rw [if_pos hz]
   rcases h with ⟨h, _⟩ | h
   . exact absurd hz h
   have bad : ¬ (0 <= c /\ c <= MOST) -> ∀ x, E (.ref cBC) (some x) H := fun hc x => by
     rcases h with ⟨_, _, h⟩ | ⟨s, n, r, _, _, c1, c2, _⟩
     . exact h x
     . exact absurd ⟨c1, c2⟩ hc
   refine ⟨_, rfl, _, _, rfl, rfl, _, rfl, ite2 (fun h0 => ?_) fun h0 => ?_⟩
   rotate_left
   . have h0' : ¬ 0 <= c := by simpa using h0
     exact ⟨_, rfl, iteT ⟨by decide, bad fun q => h0' q.1⟩⟩
   have h0' : 0 <= c := by simpa using h0
   refine ⟨_, _, rfl, rfl, _, rfl, ?_⟩
   by_cases hc : c <= MOST
   rotate_left
   . have : decide (c <= (999999999999 : Int)) = false := decide_eq_false hc
     rw [this]
     exact iteT ⟨by decide, bad fun q => hc q.2⟩
   have : decide (c <= (999999999999 : Int)) = true := decide_eq_true hc
   rw [this]
   refine iteF ?_
   rcases h with ⟨_, h, _⟩ | ⟨s, n, r, rfl, hs, _, _, hh, hw, h⟩
   . exact absurd ⟨h0', hc⟩ h
   refine ⟨fun n2 σ H2 => ∃ D2 fp2, DiskX C DK H2 d p D2 pa fp2 /\ Did H H2 (fpD d pa fp) (fpD d pa fp2) /\ D2.h < D2.G.nb /\ DS.write n2 D2 s c = some r /\ σ = [some (.ref d), some (.int (s : Int)), some (.int c)], ⟨n, D, fp, X, .refl, hh, hw, rfl⟩, ?_⟩
   rintro n2 σ H2 ⟨D2, fp2, X2, k2, hh2, hw2, rfl⟩
   obtain ⟨dx2, g1⟩ := X2.ob
   obtain ⟨dxc2, S2, hl2, el2, g3⟩ := X2.ch.at_
   refine ⟨_, rfl, d, DK, dx2, _, _, rfl, g1, TD.cl, TD.aF, rfl, _, rfl, d, DK, dx2, _, _, rfl, g1, TD.cl, TD.aC, rfl, p, dxc2, _, rfl, g3, rfl, yQz X2.ch fun t H3 ht s3 => ⟨t, _, _, _, rfl, rfl, SqT.of ht, at1, rfl, _, rfl, ?_⟩⟩
   have X3 := X2.same s3
   have k3 := k2.trans (.same s3)
   by_cases hf : D2.f = D2.G.np
   . obtain ⟨m, r1, rfl, hb, hcase⟩ := write_full hf hw2
     refine iteD (by rw [hf]) ⟨fun σ' H' => ∃ m', m' < m + 1 /\ ∃ D4 fp4, DiskX C DK H' d p D4 pa fp4 /\ Did H H' (fpD d pa fp) (fpD d pa fp4) /\ D4.h < D4.G.nb /\ DS.write m' D4 s c = some r /\ σ' = [some (.ref d), some (.int (s : Int)), some (.int c)], fun σ' H' q => q, _, rfl, d, dx2, _, rfl, s3 _ _ g1, rfl, d, p, D2, pa, fp2, r1, rfl, X3, hh2, hb, fun H4 fp4 X4 k4 => ?_⟩
     have k14 := k3.trans k4
     rcases hcase with ⟨e1, e2⟩ | ⟨e1, e2⟩
     . rw [if_pos e1]
       obtain ⟨q1, _, _, q4⟩ := begin_nb hb
       exact ⟨m, Nat.lt_succ_self _, r1.2, fp4, X4, k14, by rw [q4, q1]; exact nx_lt hh2, e2, rfl⟩
     . rw [if_neg (by rw [e1]; exact Bool.false_ne_true)]
       subst e2
       exact fun x => h.cut e1 X4 k14 x
   . refine iteDn (fun q => hf (by have := V.int.inj q; omega)) ?_
     have hp := write_room hf hw2
     refine ⟨_, rfl, d, dx2, _, rfl, s3 _ _ g1, rfl, _, rfl, _, rfl, d, p, D2, pa, fp2, s, c, r, rfl, X3, hp, fun H4 fp4 X4 k4 => ?_⟩
     exact h H4 fp4 X4 (k3.trans k4)
end
abbrev sCell : Stmt := top 42
abbrev sDrawn : Stmt := top 43
structure TxtL (K : PySem.W.Frag) (cCu : Addr) : Prop where
 exC : PySem.W.exmOne K (.ref cCu) (.ref cCu) = some true
section
variable {P : Program} {w : World} {K : PySem.W.Frag} {mg : Str -> Option Value} {base : Heap} {C DK cBS cNP cNE cNS cBC cCu cWE : Addr}
def spCell (K : PySem.W.Frag) : Sp := fun vs H Q _ => ∃ (a : Addr) (ns : List Int) (k : Int), vs = [.ref a, .int k] /\ SqL K H a (ns.map V.int) /\ ns.length <= 63 /\ 0 <= k /\ k <= 1000 /\ ∀ H' z, Same H H' -> Q (.int z) H'
theorem scCell : FnScope ["_law_script", "_law_k"] ["_law_script", "_law_k"] (defScope sCell) := ⟨rfl, rfl, rfl, by decide +kernel, rfl, by decide +kernel, by decide +kernel⟩
theorem ok_cell {f : Addr} {fd : FuncData} (F : Fun K "_law_cell" "_law_cell" sCell f fd) (T : Txt K mg C cBS cNP cNE cNS cBC cCu cWE) : FnOk P w K mg base (CXw P w) 51 f fd ["_law_script", "_law_k"] (spCell K) := by
 refine F.okX (by decide) scCell (fun vs H Q E h => ?_) (fun cdv A outer s H vs Q E hr h => ?_)
 . obtain ⟨a, ns, k, rfl, _⟩ := h
   rfl
 . obtain ⟨a, ns, k, rfl, hs, hn, k0, k1, h⟩ := h
   have hu0 := hr.units0
   refine ⟨_, (@zQj _ _ _ _ _ (@yQq _ _ _ _ _ _ _ _ (@zKz _ _ _ _ _ _ _ _ (@op_eqL _ hu0) (pv 0) (@zJv _ _ _ _ zQk) (@nomark _ _ (by decide) (by decide))) (@zWw _ _ _ (@zWv _ _ _ _ (@zJk _ _ _ _ _ _ _ _ (@op_mul _) (pv 1) zWz))) (@zZw _)) (@zWw _ _ _ (@zWv _ _ _ _ (@zJk _ _ _ _ _ _ _ _ (@xWq _) (@zJw _ _ _ _ _ _ _ (@zJx _) (pv 0) (@zJk _ _ _ _ _ _ _ _ (@yKv _) (pv 1) (@zKx _ _ _ _ _ _ _ _ _ (@yQx _) rfl T.n_len PySem.boot_len (@zQw _ _ _ _ _ (pv 0) zQk (by exact zQq rfl)) (by decide) (by decide) (by exact zQq rfl) (by exact zQx rfl))) (fun _ _ => rfl)) (@zJk _ _ _ _ _ _ _ _ (@op_mul _) (@zJk _ _ _ _ _ _ _ _ (@op_fdiv _) (pv 1) (@zKx _ _ _ _ _ _ _ _ _ (@yQx _) rfl T.n_len PySem.boot_len (@zQw _ _ _ _ _ (pv 0) zQk (by exact zQq rfl)) (by decide) (by decide) (by exact zQq rfl) (by exact zQx rfl))) zWz))))), ?_⟩
   refine ⟨_, rfl, Nat.zero_le _, fun l nl => ⟨a, l, _, _, rfl, rfl, (zWq nl).seq hs, SqL.of zQz, ?_⟩⟩
   by_cases e : ns = []
   . refine .inl ⟨by rw [e]; rfl, by rw [e]; rfl, _, rfl, iteT ⟨_, rfl, _, _, rfl, rfl, .inr ⟨by decide, by decide⟩, h _ _ (zWq nl)⟩⟩
   . have pos : 0 < ns.length := List.length_pos_iff.mpr e
     refine .inr ⟨by rw [List.length_map]; intro z; exact e (List.length_eq_zero_iff.mp z), _, rfl, iteF ?_⟩
     have hs' := (zWq (o := .lst []) nl).seq hs
     have hm0 : 0 <= k % (ns.length : Int) := Int.emod_nonneg _ (by omega)
     have hm1 : k % (ns.length : Int) < ns.length := Int.emod_lt_of_pos _ (by omega)
     have at_ : (ns.map V.int)[(k % (ns.length : Int)).toNat]? = some (.int (ns.getD (k % (ns.length : Int)).toNat 0)) := by
       have : (k % (ns.length : Int)).toNat < ns.length := by omega
       rw [List.getElem?_map, List.getD_eq_getElem?_getD, List.getElem?_eq_getElem this]
       rfl
     refine ⟨_, rfl, _, rfl, _, rfl, a, _, rfl, .inl hs', _, _, rfl, rfl, by rw [List.length_map]; omega, a, _, _, .int (ns.getD (k % (ns.length : Int)).toNat 0), rfl, rfl, hs', by rw [List.length_map]; exact yZw hm0 at_, ?_⟩
     . refine ⟨_, rfl, _, rfl, a, _, rfl, .inl hs', _, _, rfl, rfl, ⟨by rw [List.length_map]; omega, by rw [List.length_map]; omega⟩, _, _, rfl, rfl, .inr ⟨by decide, by decide⟩, _, _, rfl, rfl, h _ _ (zWq nl)⟩
def spDrawn : Sp := fun vs H Q _ => ∃ (c k : Int), vs = [.int c, .int k] /\ ∀ z, Q (.int z) H
theorem scDn : FnScope ["_law_cell_here", "_law_k", "_law_more"] ["_law_cell_here", "_law_k"] (defScope sDrawn) := ⟨rfl, rfl, rfl, by decide +kernel, rfl, by decide +kernel, by decide +kernel⟩
theorem ok_drawn {f : Addr} {fd : FuncData} (F : Fun K "_law_drawn" "_law_drawn" sDrawn f fd) : FnOk P w K mg base (CXw P w) 51 f fd ["_law_cell_here", "_law_k"] spDrawn := by
 refine F.okX (by decide) scDn (fun vs H Q E h => ?_) (fun cdv A outer s H vs Q E hr h => ?_)
 . obtain ⟨c, k, rfl, _⟩ := h
   rfl
 . obtain ⟨c, k, rfl, h⟩ := h
   refine ⟨_, (@zQj _ _ _ _ _ (@zJq _ _ (2) _ _ _ _ scDn.nd rfl (Or.inl rfl) (@zJk _ _ _ _ _ _ _ _ (@yKv _) (@zJk _ _ _ _ _ _ _ _ (@xWq _) (@zJk _ _ _ _ _ _ _ _ (@op_mul _) (pv 0) zWz) (@zJk _ _ _ _ _ _ _ _ (@op_mul _) (@zJk _ _ _ _ _ _ _ _ (@xWq _) (pv 1) zWz) zWz)) zWz) (by rfl) (by first | exact .inl rfl | exact .inr rfl | assumption)) (@zWw _ _ _ (@zWv _ _ _ _ (@zJk _ _ _ _ _ _ _ _ (@yKv _) (@zJk _ _ _ _ _ _ _ _ (@op_mulB _) (pv 2) (pv 2)) zWz)))), ?_⟩
   refine ⟨_, rfl, _, _, rfl, rfl, .inr ⟨by decide, by decide⟩, _, rfl, _, _, rfl, rfl, _, _, rfl, rfl, .inr ⟨by decide, by decide⟩, _, _, rfl, rfl, _, _, rfl, rfl, by show (0 : Int) < 340282366920938463463374607431768211507; decide, ?_⟩
   refine ⟨_, rfl, _, rfl, _, _, rfl, rfl, ?_, _, _, rfl, rfl, by show (0 : Int) < 340282366920938463463374607431768211297; decide, h _⟩
   have b : ∀ z : Int, (z % 340282366920938463463374607431768211507).natAbs < 2 ^ 200 := fun z => by
     have h1 := Int.emod_nonneg z (show (340282366920938463463374607431768211507 : Int) ≠ 0 by decide)
     have h2 := Int.emod_lt_of_pos z (show (0 : Int) < 340282366920938463463374607431768211507 by decide)
     have h3 : (z % 340282366920938463463374607431768211507).natAbs < 340282366920938463463374607431768211507 := by omega
     exact Nat.lt_of_lt_of_le h3 (by decide)
   exact ⟨b _, b _⟩
@[irreducible] def xpMounted (C DK cBS cCu : Addr) : Sp := spMounted C DK cBS cCu
theorem xpMounted_eq {C DK cBS cCu : Addr} : xpMounted C DK cBS cCu = spMounted C DK cBS cCu := by unfold xpMounted; rfl
@[irreducible] def xpDWrite (C DK cNS cBC cCu : Addr) : Sp := spDWrite C DK cNS cBC cCu
theorem xpDWrite_eq {C DK cNS cBC cCu : Addr} : xpDWrite C DK cNS cBC cCu = spDWrite C DK cNS cBC cCu := by unfold xpDWrite; rfl
@[irreducible] def xpDRead (C DK cNS : Addr) : Sp := spDRead C DK cNS
theorem xpDRead_eq {C DK cNS : Addr} : xpDRead C DK cNS = spDRead C DK cNS := by unfold xpDRead; rfl
structure Mnt (G G' : GS) : Prop where
 nb : G'.nb = G.nb
 np : G'.np = G.np
 val : ∀ s v, Val G s v -> Val G' s v
 lit : Lit G -> Lit G'
theorem Mnt.refl {G : GS} : Mnt G G := ⟨rfl, rfl, fun _ _ V => V, id⟩
theorem Mnt.trans {G G1 G2 : GS} (a : Mnt G G1) (b : Mnt G1 G2) : Mnt G G2 := ⟨b.nb.trans a.nb, b.np.trans a.np, fun s v V => b.val s v (a.val s v V), fun l => b.lit (a.lit l)⟩
theorem xZw {H : Hp} {p : Addr} {G : GS} {fp : List Addr} {many : Nat} {Q : VK} {E : XK} (A : ChipX C H p G fp) (o : Ok G many) (few : G.wl.length < 64) (few2 : ∀ N, G.Newest N -> (G.mend N).2.wl.length < 64)
   (q1 : ∀ d H' pa D fp' N, DiskX C DK H' d p D pa fp' -> WI D -> D.many = many -> Mnt G D.G -> G.Newest N -> D.G = (G.mend N).2 -> Did H H' fp fp' -> (∀ o, H d = some o -> d ∈ fp) -> (∀ o, H pa = some o -> pa ∈ fp) -> Q (.ref d) H')
   (q2 : ∀ H' x G' fp' N, ChipX C H' p G' fp' -> Ok G' many -> Mnt G G' -> ¬ Lit G -> G.Newest N -> G' = (G.mend N).2 -> (G.mend N).1 = false -> Did H H' fp fp' -> E (.ref cCu) (some x) H') : xpMounted C DK cBS cCu [.ref p, .int (many : Int)] H Q E := by
 unfold xpMounted
 have B : Base G many := by
   obtain ⟨h, g | g⟩ := o
   . exact g.base
   . exact g.base
 refine ⟨p, G, fp, many, rfl, A, .inr ⟨many, rfl, B.m1, B.ms, B.rdy few, fun N hN => ?_⟩⟩
 obtain ⟨e1, e2, ev, eg, eo⟩ := Ok.mend o hN
 have mn : Mnt G (G.mend N).2 := ⟨e1, e2, ev, fun l => (Lit.mend l).2⟩
 by_cases hm : (G.mend N).1 = true
 . rw [if_pos hm]
   obtain ⟨h, g⟩ := eg hm
   refine ⟨g.base.rdy (few2 N hN), fun d H' pa pl fp' X gp k n1 n2 => ?_⟩
   exact q1 d H' pa _ fp' N X (g.mount gp) rfl mn hN rfl k n1 n2
 . rw [if_neg hm]
   have hm' : (G.mend N).1 = false := by
     cases e : (G.mend N).1 with
     | true => exact absurd e hm
     | false => rfl
   exact fun H' x fp' A' k => q2 H' x _ fp' N A' eo mn (fun l => hm (Lit.mend l).1) hN rfl hm' k
theorem xKx {H : Hp} {d p pa : Addr} {D : DS} {fp : List Addr} {s : Nat} {c : Int} {Q : VK} {E : XK} (X : DiskX C DK H d p D pa fp) (I : WI D) (hs : s < D.many) (c0 : 0 <= c) (c1 : c <= MOST)
   (q1 : ∀ r H' fp', r.1 = true -> DS.write D.G.nb D s c = some r -> WLeft D s c r -> DiskX C DK H' d p r.2 pa fp' -> Did H H' (fpD d pa fp) (fpD d pa fp') -> Q .non H')
   (q2 : ∀ r H' fp' x, r.1 = false -> DS.write D.G.nb D s c = some r -> WLeft D s c r -> DiskX C DK H' d p r.2 pa fp' -> Did H H' (fpD d pa fp) (fpD d pa fp') -> E (.ref cCu) (some x) H') : xpDWrite C DK cNS cBC cCu [.ref d, .int (s : Int), .int c] H Q E := by
 unfold xpDWrite
 obtain ⟨r, e, L⟩ := I.write (c := c) hs
 refine ⟨d, p, D, pa, fp, s, c, rfl, X, .inr (.inr ⟨s, D.G.nb, r, rfl, hs, c0, c1, I.hh, e, fun H' fp' X' k => ?_⟩)⟩
 by_cases hr : r.1 = true
 . rw [if_pos hr]
   exact q1 r H' fp' hr e L X' k
 . rw [if_neg hr]
   have hr' : r.1 = false := by
     cases z : r.1 with
     | true => exact absurd z hr
     | false => rfl
   exact fun x => q2 r H' fp' x hr' e L X' k
theorem use_dread {H : Hp} {d p pa : Addr} {D : DS} {fp : List Addr} {s : Nat} {Q : VK} {E : XK} (X : DiskX C DK H d p D pa fp) (I : WI D) (hs : s < D.many) (q : Val D.G s (D.read s) -> Q (.int (D.read s)) H) : xpDRead C DK cNS [.ref d, .int (s : Int)] H Q E := by
 unfold xpDRead
 exact ⟨d, p, D, pa, fp, s, rfl, X, .inr ⟨s, rfl, hs, I.pl, q (read_val I.pl hs)⟩⟩
end
def isFrz : HO -> Bool
 | .frz _ _ => true
 | _ => false
def Scr (K : PySem.W.Frag) (H : Hp) (a : Addr) (ns : List Int) : Prop := (∃ o, H a = some (.frz o (.lst (ns.map V.int)))) \/ SqL K (fun _ => none) a (ns.map V.int)
theorem Scr.seq {K : PySem.W.Frag} {H : Hp} {a : Addr} {ns : List Int} (h : Scr K H a ns) : SqL K H a (ns.map V.int) := by
 rcases h with ⟨o, h⟩ | h
 . exact .inl (.inr ⟨o, h⟩)
 . rcases h with (h | ⟨o, h⟩) | h
   . cases h
   . cases h
   . exact .inr h
theorem Scr.same {K : PySem.W.Frag} {H H' : Hp} {a : Addr} {ns : List Int} (h : Scr K H a ns) (s : Same H H') : Scr K H' a ns := by
 rcases h with ⟨o, h⟩ | h
 . exact .inl ⟨o, s _ _ h⟩
 . exact .inr h
theorem Scr.but {K : PySem.W.Frag} {H H' : Hp} {a : Addr} {ns : List Int} {fp : List Addr} (h : Scr K H a ns) (s : SameBut fp H H') (t : ∀ b ∈ fp, ∃ o, H b = some o /\ isFrz o = false) : Scr K H' a ns := by
 rcases h with ⟨o, h⟩ | h
 . refine .inl ⟨o, s _ _ h fun m => ?_⟩
   obtain ⟨u, e, z⟩ := t a m
   rw [h] at e
   cases e
   cases z
 . exact .inr h
theorem DiskX.kind {C DK : Addr} {H : Hp} {d p : Addr} {D : DS} {pa : Addr} {fp : List Addr} (X : DiskX C DK H d p D pa fp) {b : Addr} (m : b ∈ fpD d pa fp) : (∃ xs, H b = some (.lst xs)) \/ ∃ c dx fs, H b = some (.ins c dx fs) := by
 rcases List.mem_cons.mp m with z | m
 . obtain ⟨dx, e⟩ := X.ob
   exact .inr ⟨_, _, _, by rw [z]; exact e⟩
 rcases List.mem_cons.mp m with z | m
 . obtain ⟨xs, e, _⟩ := X.pl
   exact .inl ⟨_, by rw [z]; exact e⟩
 rcases X.ch.mem m with e | z
 . exact .inl e
 . obtain ⟨dx, S, hl, el, e⟩ := X.ch.at_
   exact .inr ⟨_, _, _, by rw [z]; exact e⟩
theorem DiskX.frz {C DK : Addr} {H : Hp} {d p : Addr} {D : DS} {pa : Addr} {fp : List Addr} (X : DiskX C DK H d p D pa fp) : ∀ b ∈ fpD d pa fp, ∃ o, H b = some o /\ isFrz o = false := fun b m => by
 rcases X.kind m with ⟨xs, e⟩ | ⟨c, dx, fs, e⟩
 . exact ⟨_, e, rfl⟩
 . exact ⟨_, e, rfl⟩
theorem ChipX.frz {C : Addr} {H : Hp} {p : Addr} {G : GS} {fp : List Addr} (A : ChipX C H p G fp) : ∀ b ∈ fp, ∃ o, H b = some o /\ isFrz o = false := fun b m => by
 rcases A.mem m with ⟨xs, e⟩ | z
 . exact ⟨_, e, rfl⟩
 . obtain ⟨dx, S, hl, el, e⟩ := A.at_
   exact ⟨_, by rw [z]; exact e, rfl⟩
theorem DiskX.keep {C DK : Addr} {H H' : Hp} {d p : Addr} {D : DS} {pa : Addr} {fp : List Addr} (X : DiskX C DK H d p D pa fp) (k : ∀ b ∈ fpD d pa fp, ∀ o, H b = some o -> H' b = some o) (kt : Tups H H') : DiskX C DK H' d p D pa fp := by
 obtain ⟨dx, e1⟩ := X.ob
 obtain ⟨xs, e2, q⟩ := X.pl
 exact ⟨⟨dx, k _ (by simp) _ e1⟩, ⟨xs, k _ (by simp) _ e2, q.keep kt⟩, X.ch.keep (fun b m o eb => k b (by simp [m]) o eb) kt, X.dp, X.pf, X.ms⟩
theorem kp_sameP {G : GS} {l : Option Int} : SameG G (G.powered l) := ⟨rfl, rfl, rfl, rfl⟩
theorem litP {G : GS} : Lit (G.powered none) := ⟨rfl, rfl⟩
theorem few_of {G : GS} {many : Nat} (h : G.nb * G.np < 64) (o : Ok G many) : G.wl.length < 64 /\ ∀ N, G.Newest N -> (G.mend N).2.wl.length < 64 :=
 ⟨wl_few h, fun N hN => by
   obtain ⟨e1, e2, _⟩ := Ok.mend o hN
   exact wl_few (by rw [e1, e2]; exact h)⟩
theorem did_p {H H' : Hp} {p : Addr} {fp : List Addr} (m : p ∈ fp) (k : SameBut [p] H H') : Did H H' fp fp := .ofBut fun b o e n => k b o e fun q => n (by rw [List.mem_singleton.mp q]; exact m)
theorem Did.disk {H H' : Hp} {fp fp' : List Addr} {d pa : Addr} (k : Did H H' fp fp') (n1 : ∀ o, H d = some o -> d ∈ fp) (n2 : ∀ o, H pa = some o -> pa ∈ fp) : Did H H' fp (fpD d pa fp') := by
 refine ⟨k.keep, fun b m => ?_⟩
 have one : ∀ c, (∀ o, H c = some o -> c ∈ fp) -> c ∈ fp \/ H c = none := fun c n => by
   cases e : H c with
   | none => exact .inr rfl
   | some o => exact .inl (n o e)
 rcases List.mem_cons.mp m with z | m
 . rw [z]; exact one d n1
 rcases List.mem_cons.mp m with z | m
 . rw [z]; exact one pa n2
 exact k.new b m
theorem Did.more {H H' : Hp} {fp fp' : List Addr} (a : Did H H' fp fp') (b : Addr) : Did H H' (b :: fp) (b :: fp') := by
 refine ⟨fun c o e n => a.keep c o e fun m => n (List.mem_cons_of_mem _ m), fun c m => ?_⟩
 rcases List.mem_cons.mp m with z | m
 . exact .inl (by rw [z]; simp)
 exact (a.new c m).imp (fun z => List.mem_cons_of_mem _ z) id
section
variable {P : Program} {w : World} {K : PySem.W.Frag} {mg : Str -> Option Value} {base : Heap} {C DK cBS cNP cNE cNS cBC cCu cWE : Addr}
theorem use_initI {H : Hp} {p dx : Addr} {b g : Int} {nb np : Nat} {Q : VK} {E : XK} (h : H p = some (.ins C dx [])) (hb : b = (nb : Int)) (hg : g = (np : Int)) (h1 : 4 <= nb) (h2 : nb <= 32) (h3 : 2 <= np) (h4 : np <= 16) (q : ∀ H' fp', ChipX C H' p (GS.fresh nb np) fp' -> Did H H' [p] fp' -> Q .non H') : xpInit C cBS [.ref p, .int b, .int g] H Q E := by
 subst hb hg
 exact use_init h h1 h2 h3 h4 q
theorem use_mbad {H : Hp} {p : Addr} {G : GS} {fp : List Addr} {z : Int} {Q : VK} {E : XK} (A : ChipX C H p G fp) (h : ¬ (1 <= z /\ z <= ((G.nb : Int) - 2) * G.np)) (q : ∀ H' x, Same H H' -> E (.ref cBS) (some x) H') : xpMounted C DK cBS cCu [.ref p, .int z] H Q E := by
 unfold xpMounted
 exact ⟨p, G, fp, z, rfl, A, .inl ⟨h, q⟩⟩
theorem use_rbad {H : Hp} {d p pa : Addr} {D : DS} {fp : List Addr} {z : Int} {Q : VK} {E : XK} (X : DiskX C DK H d p D pa fp) (h : ¬ (0 <= z /\ z < D.many)) (q : ∀ x, E (.ref cNS) (some x) H) : xpDRead C DK cNS [.ref d, .int z] H Q E := by
 unfold xpDRead
 exact ⟨d, p, D, pa, fp, z, rfl, X, .inl ⟨h, q⟩⟩
theorem use_wbadS {H : Hp} {d p pa : Addr} {D : DS} {fp : List Addr} {z c : Int} {Q : VK} {E : XK} (X : DiskX C DK H d p D pa fp) (h : ¬ (0 <= z /\ z < D.many)) (q : ∀ x, E (.ref cNS) (some x) H) : xpDWrite C DK cNS cBC cCu [.ref d, .int z, .int c] H Q E := by
 unfold xpDWrite
 exact ⟨d, p, D, pa, fp, z, c, rfl, X, .inl ⟨h, q⟩⟩
theorem use_ibad {H : Hp} {p dx : Addr} {b g : Int} {Q : VK} {E : XK} (h : H p = some (.ins C dx [])) (h0 : ¬ (4 <= b /\ b <= 32 /\ 2 <= g /\ g <= 16)) (q : ∀ x, E (.ref cBS) (some x) H) : xpInit C cBS [.ref p, .int b, .int g] H Q E := by
 unfold xpInit
 refine ⟨p, dx, b, g, rfl, h, ?_⟩
 rw [if_neg h0]
 exact q
theorem use_wornbad {H : Hp} {p : Addr} {G : GS} {fp : List Addr} {z : Int} {Q : VK} {E : XK} (A : ChipX C H p G fp) (h : ¬ (0 <= z /\ z < G.nb)) (q : ∀ x, E (.ref cNP) (some x) H) : xpWorn C cNP [.ref p, .int z] H Q E := by
 obtain ⟨hl, el, rl, S, rfl, A, B⟩ := A
 unfold xpWorn
 refine ⟨p, z, S, hl, el, rl, rfl, A, ?_⟩
 have hb : S.nb = G.nb := B.nb
 rw [if_neg (show ¬ S.okB z from fun o => h ?_)]
 . exact q
 . have o : 0 <= z /\ z < S.nb := o
   omega
theorem use_pagebad {H : Hp} {p : Addr} {G : GS} {fp : List Addr} {z y : Int} {Q : VK} {E : XK} (A : ChipX C H p G fp) (h : ¬ ((0 <= z /\ z < G.nb) /\ 0 <= y /\ y < G.np)) (q : ∀ x, E (.ref cNP) (some x) H) : xpPage C cNP [.ref p, .int z, .int y] H Q E := by
 obtain ⟨hl, el, rl, S, rfl, A, B⟩ := A
 unfold xpPage
 refine ⟨p, z, y, S, hl, el, rl, rfl, A, ?_⟩
 have hb : S.nb = G.nb := B.nb
 have hp : S.np = G.np := B.np
 rw [if_neg (show ¬ S.okP z y from fun o => h ?_)]
 . exact q
 . have o : (0 <= z /\ z < S.nb) /\ 0 <= y /\ y < S.np := o
   omega
end
end Ev
set_option maxHeartbeats 8000000
namespace Ev
open PySem L2
abbrev sIsNum : Stmt := top 37
abbrev sParsed : Stmt := top 38
abbrev sPKind : Stmt := top 36
structure TxtK (K : PySem.W.Frag) (mg : Str -> Option Value) (KD cBR cND NU : Addr) : Prop where
 cl : Cls K KD
 aC : NoAttr K KD "chip"
 aD : NoAttr K KD "disk"
 aM : NoAttr K KD "many"
 x_BadRow : XCls K cBR
 x_NoDisk : XCls K cND
 g_BadRow : mg "BadRow" = some (.ref cBR)
 g_NoDisk : mg "NoDisk" = some (.ref cND)
 g_FI : ∃ u, mg "FIGURES" = some u /\ RelV (.str "0123456789") u
 g_MF : ∃ u, mg "MOST_FIGURES" = some u /\ RelV (.int 12) u
 g_NUMBERS : mg "NUMBERS" = some (.ref NU)
 n_str : mg "str" = none
def isFig (c : Nat) : Bool := !(Builtin.Str.occurrences "0123456789" ⟨#[c]⟩ 0 ("0123456789" : Str).length 1).isEmpty
def isNum (z : Str) : Bool := if 1 <= z.length /\ z.length <= 12 then (if 1 < z.length /\ z.cps.toList[0]? = some 48 then false else z.cps.toList.all isFig) else false
def words (x : Str) : List Str := (cutAt 32 [] x.cps.toList).map fun l => ⟨l.toArray⟩
def numK : List (Key × V) := [(.inr "chip", .int 3), (.inr "write", .int 2), (.inr "read", .int 1), (.inr "power", .int 1), (.inr "mount", .int 0), (.inr "worn", .int 1), (.inr "written", .int 0), (.inr "page", .int 2)]
def numV (z : Str) : V := .int ((PySem.intText? z).getD 0)
def pz (x : Str) : Option (Str × List V) := if words x = (["power", "all"] : List Str) then some ("power", [.non]) else match words x with
 | [] => none
 | n :: r => if (valV numK (.inr n)).getD .non = .int r.length then (if r.all isNum = true then some (n, r.map numV) else none) else none
theorem gd_of {P : Program} {w : World} {K : PySem.W.Frag} {NU : Addr} {ep : Nat} {h0 h1 h2 h3 h4 h5 h6 h7 : Int} {s0 i0 s1 i1 s2 i2 s3 i3 s4 i4 s5 i5 s6 i6 s7 i7 : Tok}
   (l : K.lookup NU = some ⟨.type "dict", none, .dict #[⟨h0, .str "chip" s0, .int 3 i0⟩, ⟨h1, .str "write" s1, .int 2 i1⟩, ⟨h2, .str "read" s2, .int 1 i2⟩, ⟨h3, .str "power" s3, .int 1 i3⟩, ⟨h4, .str "mount" s4, .int 0 i4⟩, ⟨h5, .str "worn" s5, .int 1 i5⟩, ⟨h6, .str "written" s6, .int 0 i6⟩, ⟨h7, .str "page" s7, .int 2 i7⟩] ep, #[]⟩) (b : (NU == sysModules) = false)
   (e0 : h0 = hashStr w "chip") (e1 : h1 = hashStr w "write") (e2 : h2 = hashStr w "read") (e3 : h3 = hashStr w "power") (e4 : h4 = hashStr w "mount") (e5 : h5 = hashStr w "worn") (e6 : h6 = hashStr w "written") (e7 : h7 = hashStr w "page") : GD P w K NU numK := by
 subst e0 e1 e2 e3 e4 e5 e6 e7
 refine ⟨b, [(.inr "chip", .int 3 i0), (.inr "write", .int 2 i1), (.inr "read", .int 1 i2), (.inr "power", .int 1 i3), (.inr "mount", .int 0 i4), (.inr "worn", .int 1 i5), (.inr "written", .int 0 i6), (.inr "page", .int 2 i7)], (.cons ⟨rfl, _, rfl⟩ (.cons ⟨rfl, _, rfl⟩ (.cons ⟨rfl, _, rfl⟩ (.cons ⟨rfl, _, rfl⟩ (.cons ⟨rfl, _, rfl⟩ (.cons ⟨rfl, _, rfl⟩ (.cons ⟨rfl, _, rfl⟩ (.cons ⟨rfl, _, rfl⟩ .nil)))))))), fun h X => ⟨_, _, _, X _ _ l, ⟨rfl, rfl, rfl⟩, rfl, fun e m => ?_, (.cons (zZv _ s0) rfl (.cons (zZv _ s1) rfl (.cons (zZv _ s2) rfl (.cons (zZv _ s3) rfl (.cons (zZv _ s4) rfl (.cons (zZv _ s5) rfl (.cons (zZv _ s6) rfl (.cons (zZv _ s7) rfl .nil)))))))), by show (numK.map (·.1)).Nodup; decide⟩⟩
 simp at m
 rcases m with rfl | rfl | rfl | rfl | rfl | rfl | rfl | rfl
 . exact ⟨.inr "chip", zZv _ s0, rfl⟩
 . exact ⟨.inr "write", zZv _ s1, rfl⟩
 . exact ⟨.inr "read", zZv _ s2, rfl⟩
 . exact ⟨.inr "power", zZv _ s3, rfl⟩
 . exact ⟨.inr "mount", zZv _ s4, rfl⟩
 . exact ⟨.inr "worn", zZv _ s5, rfl⟩
 . exact ⟨.inr "written", zZv _ s6, rfl⟩
 . exact ⟨.inr "page", zZv _ s7, rfl⟩
def rowOk (x : Str) : Bool := decide (x.length <= 100) && (words x).all fun z => !isNum z || (PySem.intText? z).isSome
theorem words_ne (x : Str) : ∃ n r, words x = n :: r := by
 unfold words
 have : ∀ (l acc : List Nat), ∃ n r, cutAt 32 acc l = n :: r := fun l => by
   induction l with
   | nil => exact fun acc => ⟨_, _, rfl⟩
   | cons a t ih =>
     intro acc
     unfold cutAt
     split
     . exact ⟨_, _, rfl⟩
     . exact ih _
 obtain ⟨n, r, e⟩ := this x.cps.toList []
 rw [e]
 exact ⟨_, _, rfl⟩
theorem cut_len (c : Nat) : ∀ (l acc : List Nat), (cutAt c acc l).length <= l.length + 1 /\ ∀ z ∈ cutAt c acc l, z.length <= acc.length + l.length
 | [], acc => ⟨Nat.le_refl _, fun z m => by rw [List.mem_singleton.mp m]; simp⟩
 | a :: t, acc => by
   unfold cutAt
   split
   . obtain ⟨h1, h2⟩ := cut_len c t []
     refine ⟨by simp; omega, fun z m => ?_⟩
     rcases List.mem_cons.mp m with e | m
     . rw [e]; omega
     . have := h2 z m
       simp at this ⊢
       omega
   . obtain ⟨h1, h2⟩ := cut_len c t (acc ++ [a])
     refine ⟨by simp; omega, fun z m => ?_⟩
     have := h2 z m
     simp at this ⊢
     omega
theorem words_len {x : Str} : (words x).length <= x.length + 1 /\ ∀ z ∈ words x, z.length <= x.length := by
 obtain ⟨h1, h2⟩ := cut_len 32 x.cps.toList []
 have hn : x.cps.toList.length = x.length := by simp [Str.length]
 refine ⟨by unfold words; rw [List.length_map]; omega, fun z m => ?_⟩
 obtain ⟨l, hl, rfl⟩ := List.mem_map.mp m
 have := h2 l hl
 show l.toArray.size <= _
 rw [List.size_toArray]
 simp only [List.length_nil, Nat.zero_add] at this
 omega
theorem comp_pure_str {tl : TE} {ci : List Nat} {tt : TT} {te : TE} {σ : St} {H : Hp} {Q : VK} (z : Str) (hn : z.length < 1000) (htl : ∀ R : V -> Hp -> Prop, R (.str z) H -> tl σ H R) (p : V -> Bool) (g : V -> V)
   (test : ∀ (i : Nat) x H2 (R : Bool -> Hp -> Prop), (z.cps.toList.map fun c => V.str ⟨#[c]⟩)[i]? = some x -> Same H H2 -> R (p x) H2 -> tt (some x :: capt ci σ) H2 R)
   (elt : ∀ (i : Nat) x H2 (R : V -> Hp -> Prop), (z.cps.toList.map fun c => V.str ⟨#[c]⟩)[i]? = some x -> p x = true -> Same H H2 -> R (g x) H2 -> te (some x :: capt ci σ) H2 R)
   (fin : ∀ acc, H acc = none -> Q (.ref acc) (upd H acc (.lst (((z.cps.toList.map fun c => V.str ⟨#[c]⟩).filter p).map g)))) : tComp (iStr tl) ci tt te σ H Q := by
 unfold tComp
 have hz : z.cps.toList.length = z.length := by simp [Str.length]
 refine htl _ ⟨z, rfl, fun acc nacc => ?_⟩
 refine yJk (Q := Q) (J := Its z) (σc := capt ci σ) (z.cps.toList.map fun c => V.str ⟨#[c]⟩) (by rw [List.length_map]; omega) p g nacc (fun _ _ => ?_) (fun i _ h _ => ?_) (fun i x H2 H3 hi s2 y => ?_) test elt (fin acc nacc)
 . show z.cps.size <= _
   simp
 . show i < z.cps.size
   simpa using h
 . obtain ⟨rfl, c, hc, rfl⟩ := y
   have hc' : z.cps.toList[i]? = some c := by rw [Array.getElem?_toList]; exact hc
   exact ⟨rfl, by rw [List.getElem?_map, hc']; rfl⟩
section
variable {P : Program} {w : World} {K : PySem.W.Frag} {mg : Str -> Option Value} {base : Heap} {C DK KD cBS cNP cNE cNS cBC cCu cWE cBR cND NU : Addr}
def spPKind : Sp := fun _ _ _ _ => False
theorem scPK : FnScope ["thing"] ["thing"] (defScope sPKind) := ⟨rfl, rfl, rfl, by decide +kernel, rfl, by decide +kernel, by decide +kernel⟩
theorem ok_pageKind {f : Addr} {fd : FuncData} (F : Fun K "page_kind" "page_kind" sPKind f fd) : FnOk P w K mg base (CXw P w) 51 f fd ["thing"] spPKind :=
 F.okX (by decide) scPK (fun vs H Q E h => h.elim) (fun cdv A outer s H vs Q E hr h => h.elim)
def spIsNum : Sp := fun vs H Q _ => ∃ z : Str, vs = [.str z] /\ z.length <= 900 /\ ∀ H', Same H H' -> Q (.bl (isNum z)) H'
theorem scNum : FnScope ["word"] ["word"] (defScope sIsNum) := ⟨rfl, rfl, rfl, by decide +kernel, rfl, by decide +kernel, by decide +kernel⟩
theorem ok_isNum {f : Addr} {fd : FuncData} (F : Fun K "is_number" "is_number" sIsNum f fd) (T : Txt K mg C cBS cNP cNE cNS cBC cCu cWE) (TD : TxtD K mg DK cNS cBC) (TK : TxtK K mg KD cBR cND NU) : FnOk P w K mg base (CXw P w) 51 f fd ["word"] spIsNum := by
 refine F.okX (by decide) scNum (fun vs H Q E h => ?_) (fun cdv A outer s H vs Q E hr h => ?_)
 . obtain ⟨z, rfl, _⟩ := h
   rfl
 . obtain ⟨z, rfl, hz, h⟩ := h
   have hz' : z.length <= sizeLine := Nat.le_of_lt (small1000 (by omega))
   refine ⟨_, (@zQj _ _ _ _ _ (@yQq _ _ _ _ _ _ _ _ (@yWk _ _ _ _ (@yQv _ _ _ _ _ _ _ _ _ _ _ _ (@xQq _) (@xQq _) zWz (@zKx _ _ _ _ _ _ _ _ _ (@xWw _) rfl T.n_len PySem.boot_len (@zQw _ _ _ _ _ (pv 0) zQk (by exact zQq rfl)) (by decide) (by decide) (by exact zQq rfl) (by exact zQx rfl)) (@xJv _ _ _ _ rfl TK.g_MF (by decide)) (by with_unfolding_all rfl))) (@zWw _ _ _ (@zWv _ _ _ _ (@pe_bl _ _ _ _))) (@zZw _)) (@zQj _ _ _ _ _ (@yQq _ _ _ _ _ _ _ _ (PW.pt (@pw_and _ _ _ _ _ _ _ (@zKz _ _ _ _ _ _ _ _ (@op_gt _) (@zKx _ _ _ _ _ _ _ _ _ (@xWw _) rfl T.n_len PySem.boot_len (@zQw _ _ _ _ _ (pv 0) zQk (by exact zQq rfl)) (by decide) (by decide) (by exact zQq rfl) (by exact zQx rfl)) zWz (@nomark _ _ (by decide) (by decide))) (@pw_and1 _ _ _ _ (@zKz _ _ _ _ _ _ _ _ (@xQx _) (@zJw _ _ _ _ _ _ _ (@ix_str _) (pv 0) zWz (fun _ _ => rfl)) (@zQv _ _ _ _) (@nomark _ _ (by decide) (by decide)))))) (@zWw _ _ _ (@zWv _ _ _ _ (@pe_bl _ _ _ _))) (@zZw _)) (@zWw _ _ _ (@zWv _ _ _ _ (@zKx _ _ _ _ _ _ _ _ _ (@call_allB _ rfl) rfl TD.n_all PyProof.Rows.Boot.«all» (@zQw _ _ _ _ _ (@yJw _ _ _ _ _ _ _ _ ([]) ([]) _ _ _ rfl (@pi_str _ _ _ _ (pv 0)) rfl (by decide +kernel) (by decide +kernel) (by decide +kernel) (by show ∀ y : Str × NameKind, y ∈ _ -> y.2 = NameKind.free -> List.lookup y.1 (defScope sIsNum).names = some NameKind.cell; decide +kernel) (by show ∀ p : Str × Nat, p ∈ _ -> List.lookup p.1 _ = some NameKind.free /\ (["word"] : List Str)[p.2]? = some p.1; decide +kernel) rfl (by decide +kernel) (fun _ _ _ _ _ => (@yJq _)) (fun _ _ _ _ _ => (@pe_cmpR _ _ _ _ _ _ _ _ (@op_in_str _) (pv 0) (@xJv _ _ _ _ rfl TK.g_FI (by decide)) rfl)) (by intro _; rfl)) zQk (by exact zQq rfl)) (by decide) (by decide) (by exact zQq rfl) (by exact zQx rfl)))))), ?_⟩
   have lenI : ((z.length : Nat) : Int) = (z.length : Int) := rfl
   refine ⟨_, rfl, z, rfl, hz', _, _, rfl, rfl, _, rfl, ite2 (fun h0 => ?_) fun h0 => ?_⟩
   rotate_left
   . have e : isNum z = false := by
       unfold isNum
       exact if_neg fun c => h0 (decide_eq_true (by omega))
     refine ⟨_, rfl, iteT ?_⟩
     have := h H (Same.refl H)
     rw [e] at this
     exact this
   have b1 : 1 <= z.length := by have := of_decide_eq_true h0; omega
   refine ⟨_, _, rfl, rfl, _, rfl, ?_⟩
   by_cases b2 : z.length <= 12
   rotate_left
   . refine iteNn (by omega) ?_
     have e : isNum z = false := by
       unfold isNum
       exact if_neg fun c => b2 c.2
     have := h H (Same.refl H)
     rw [e] at this
     exact this
   refine iteN (by omega) ?_
   have e0 : isNum z = if 1 < z.length /\ z.cps.toList[0]? = some 48 then false else z.cps.toList.all isFig := by
     unfold isNum
     exact if_pos ⟨b1, b2⟩
   have nn : z.cps.toList.length = z.length := by simp [Str.length]
   obtain ⟨c0, hc0⟩ : ∃ c, z.cps.toList[0]? = some c := ⟨_, List.getElem?_eq_getElem (by omega)⟩
   refine ⟨_, rfl, z, rfl, hz', _, _, rfl, rfl, _, rfl, ?_⟩
   apply with_rest (Pr := fun H2 => H2 = H /\ isNum z = z.cps.toList.all isFig)
   . intro kn
     by_cases h1 : 1 < z.length
     . refine iteD (by omega) ⟨_, rfl, z, 0, c0, rfl, rfl, hz', yZw (by decide) hc0, rfl, _, rfl, ?_⟩
       by_cases hc : c0 = 48
       . subst hc
         refine iteD rfl ?_
         have := h H (Same.refl H)
         rw [e0, if_pos ⟨h1, hc0⟩] at this
         exact this
       . refine iteDn (fun q => hc ?_) (kn H ⟨rfl, ?_⟩)
         . have e48 : ("0" : Str).cps.toList = [48] := by decide +kernel
           have z : [c0] = ("0" : Str).cps.toList := congrArg (fun s : Str => s.cps.toList) (V.str.inj q)
           rw [e48] at z
           exact (List.cons.inj z).1
         . rw [e0, if_neg]
           rw [hc0]
           exact fun q => hc (Option.some.inj q.2)
     . refine iteDn (by omega) (iteF (kn H ⟨rfl, ?_⟩))
       rw [e0, if_neg]
       exact fun q => h1 q.1
   rintro H2 ⟨rfl, e1⟩
   rw [e1] at h
   refine comp_pure_str z (by omega) (fun R q => ⟨_, rfl, q⟩) (fun _ => true) (fun v => match v with | .str x => V.bl (!(Builtin.Str.occurrences "0123456789" x 0 ("0123456789" : Str).length 1).isEmpty) | _ => .non) (fun i x H3 R _ _ q => q) (fun i x H3 R hx _ s3 q => ?_) fun acc nacc => ?_
   . rw [List.getElem?_map] at hx
     cases ec : z.cps.toList[i]? with
     | none => rw [ec] at hx; cases hx
     | some c =>
       rw [ec] at hx
       cases hx
       exact ⟨_, rfl, _, _, rfl, rfl, q⟩
   . refine ⟨acc, z.cps.toList.map isFig, rfl, ?_, ?_⟩
     . rw [zQz, List.filter_eq_self.mpr fun _ _ => rfl, List.map_map, List.map_map]
       rfl
     . have := h _ (zWq (o := .lst (((z.cps.toList.map fun c => V.str ⟨#[c]⟩).filter fun _ => true).map fun v => match v with | .str x => V.bl (!(Builtin.Str.occurrences "0123456789" x 0 ("0123456789" : Str).length 1).isEmpty) | _ => .non)) nacc)
       rw [List.all_map]
       exact this
def spParsed (cBR : Addr) : Sp := fun vs H Q E => ∃ x : Str, vs = [.str x] /\ rowOk x = true /\ match pz x with
 | none => ∀ H' y, Same H H' -> E (.ref cBR) (some y) H'
 | some (n, gs) => ∀ t l H', H' t = some (.tup [.str n, .ref l]) -> H' l = some (.lst gs) -> Same H H' -> Q (.ref t) H'
theorem scPa : FnScope ["row", "words", "word"] ["row"] (defScope sParsed) := ⟨rfl, rfl, rfl, by decide +kernel, rfl, by decide +kernel, by decide +kernel⟩
theorem ok_parsed {f : Addr} {fd : FuncData} (F : Fun K "parsed" "parsed" sParsed f fd) (T : Txt K mg C cBS cNP cNE cNS cBC cCu cWE) (TD : TxtD K mg DK cNS cBC) (TK : TxtK K mg KD cBR cND NU) (GN : GD P w K NU numK)
   (B_is_number : FnB P w K mg base 51 "is_number" ["word"] spIsNum) : FnOk P w K mg base (CXw P w) 52 f fd ["row"] (spParsed cBR) := by
 refine F.okX (by decide) scPa (fun vs H Q E h => ?_) (fun cdv A outer s H vs Q E hr h => ?_)
 . obtain ⟨x, rfl, _⟩ := h
   rfl
 . obtain ⟨x, rfl, ok, h⟩ := h
   have hu0 := hr.units0
   refine ⟨_, (@zQj _ _ _ _ _ (@zJq _ _ (1) _ _ _ _ scPa.nd rfl (Or.inl rfl) (@pe_bm _ _ _ _ _ _ _ _ _ _ _ _ PySem.F.plainAttrs_str PySem.F.slot_str_split PySem.F.type_str_split (@mt_split _) (pv 0) (@zQw _ _ _ _ _ (@zQv _ _ _ _) zQk (by exact zQq rfl)) (by rfl) (by rfl) (by rfl) (by exact zQq rfl) (by exact zQx rfl)) (by rfl) (by first | exact .inl rfl | exact .inr rfl | assumption)) (@zQj _ _ _ _ _ (@yQq _ _ _ _ _ _ _ _ (@zKz _ _ _ _ _ _ _ _ (@op_eqS _ hu0) (pv 1) (@zJv _ _ _ _ (@zQw _ _ _ _ _ (@zQv _ _ _ _) (@zQw _ _ _ _ _ (@zQv _ _ _ _) zQk (by exact zQq rfl)) (by exact zQq rfl))) (@nomark _ _ (by decide) (by decide))) (@zWw _ _ _ (@zWv _ _ _ _ (@zJz _ _ _ _ _ (@zQw _ _ _ _ _ (@zQv _ _ _ _) (@zQw _ _ _ _ _ (@zJv _ _ _ _ (@zQw _ _ _ _ _ (@xQv _ _ _) zQk (by exact zQq rfl))) zQk (by exact zQq rfl)) (by exact zQq rfl))))) (@zZw _)) (@zQj _ _ _ _ _ (@yQq _ _ _ _ _ _ _ _ (@zKz _ _ _ _ _ _ _ _ (@op_ne _) (@pe_gget _ _ _ _ _ _ _ _ _ GN rfl TK.g_NUMBERS (@zJw _ _ _ _ _ _ _ (@zJx _) (pv 1) zWz (fun _ _ => rfl)) ⟨rfl, rfl, rfl, rfl⟩ (by decide)) (@zJk _ _ _ _ _ _ _ _ (@op_sub _) (@zKx _ _ _ _ _ _ _ _ _ (@yQx _) rfl T.n_len PySem.boot_len (@zQw _ _ _ _ _ (pv 1) zQk (by exact zQq rfl)) (by decide) (by decide) (by exact zQq rfl) (by exact zQx rfl)) zWz) (@nomark _ _ (by decide) (by decide))) (@zWw _ _ _ (@zKk _ _ _ _ _ _ _ _ _ _ zKj TK.x_BadRow rfl rfl TK.g_BadRow (@zQw _ _ _ _ _ (@zQv _ _ _ _) zQk (by exact zQq rfl)) (by decide) (by exact zQq rfl) (by exact zQx rfl))) (@zZw _)) (@zQj _ _ _ _ _ (@yKj _ _ _ _ _ _ _ _ PassesOwn.leaving rfl (@yWw _ _ _ _ (@wZq _ _ _ _ _ _ _ _ _ _ (@sl_list _) (pv 1) (@po_some _ _ _ zWz) (@po_none _))) (@yQk _ _ (2) _ scPa.nd rfl (Or.inl rfl) (by first | exact .inl rfl | exact .inr rfl | assumption)) (@zWw _ _ _ (@yQq _ _ _ _ _ _ _ _ (@yWk _ _ _ _ (@yZk _ _ _ (@zZx _ _ _ _ _ _ _ _ _ _ _ B_is_number (hr.mono (by decide)) rfl (@passE _ _ _) (@zQw _ _ _ _ _ (pv 2) zQk (by exact zQq rfl)) (by decide) (by exact zQq rfl) (by exact zQx rfl)) (by intro _; rfl))) (@zWw _ _ _ (@zKk _ _ _ _ _ _ _ _ _ _ zKj TK.x_BadRow rfl rfl TK.g_BadRow (@zQw _ _ _ _ _ (@zQv _ _ _ _) zQk (by exact zQq rfl)) (by decide) (by exact zQq rfl) (by exact zQx rfl))) (@zZw _))) (by intro _; rfl)) (@zWw _ _ _ (@zWv _ _ _ _ (@zJz _ _ _ _ _ (@zQw _ _ _ _ _ (@zJw _ _ _ _ _ _ _ (@zJx _) (pv 1) zWz (fun _ _ => rfl)) (@zQw _ _ _ _ _ (@yJw _ _ _ _ _ _ _ _ ([]) ([]) _ _ _ rfl (@yWw _ _ _ _ (@wZq _ _ _ _ _ _ _ _ _ _ (@sl_list _) (pv 1) (@po_some _ _ _ zWz) (@po_none _))) rfl (by decide +kernel) (by decide +kernel) (by decide +kernel) (by show ∀ y : Str × NameKind, y ∈ _ -> y.2 = NameKind.free -> List.lookup y.1 (defScope sParsed).names = some NameKind.cell; decide +kernel) (by show ∀ p : Str × Nat, p ∈ _ -> List.lookup p.1 _ = some NameKind.free /\ (["row", "words", "word"] : List Str)[p.2]? = some p.1; decide +kernel) rfl (by decide +kernel) (fun _ _ _ _ _ => (@yJq _)) (fun _ _ _ _ _ => (@yKk _ _ _ _ _ _ _ _ _ (@call_int_text _) rfl T.n_int PyProof.Rows.Boot.«int» (@zQw _ _ _ _ _ (pv 0) zQk (by exact zQq rfl)) (by decide) (by decide) (by exact zQq rfl) (by exact zQx rfl))) (by intro _; rfl)) zQk (by exact zQq rfl)) (by exact zQq rfl))))))))), ?_⟩
   have hx : x.length <= 100 := of_decide_eq_true (Bool.and_eq_true_iff.mp ok).1
   have hnum := List.all_eq_true.mp (Bool.and_eq_true_iff.mp ok).2
   have big : 1000 <= sizeLine := by decide
   have hw : Txt.split x " " = words x := split_cut x (c := 32) (by decide)
   obtain ⟨wl, wz⟩ := words_len (x := x)
   obtain ⟨n, r, ew⟩ := words_ne x
   have rl : r.length <= 101 := by rw [ew] at wl; simp at wl; omega
   refine ⟨_, rfl, rfl, x, " ", rfl, rfl, rfl, by omega, Nat.le_trans (parts_few x 32) (by omega), by rw [hw]; omega, fun l nl => ?_⟩
   rw [hw]
   have s1 := zWq (o := .lst ((words x).map V.str)) nl
   have hl : upd H l (.lst ((words x).map V.str)) l = some (.lst ((words x).map V.str)) := zQz
   generalize upd H l (.lst ((words x).map V.str)) = H1 at s1 hl ⊢
   refine ⟨_, rfl, by show 2 <= sizeLine; decide, fun l2 n2 => ⟨l, l2, words x, ["power", "all"], rfl, rfl, zWq n2 _ _ hl, zQz, _, rfl, ?_⟩⟩
   have s2 := zWq (o := .lst [V.str "power", V.str "all"]) n2
   have hl2 := s2 _ _ hl
   have s12 := s1.trans s2
   generalize upd H1 l2 (HO.lst _) = H2 at s2 hl2 s12 ⊢
   by_cases hpa : words x = (["power", "all"] : List Str)
   . refine iteD hpa ⟨by show 1 <= sizeLine; decide, fun l3 n3 => ⟨by show 2 <= sizeLine; decide, fun t nt => ?_⟩⟩
     have e : pz x = some (("power" : Str), [V.non]) := by
       unfold pz
       exact if_pos hpa
     rw [e] at h
     exact h t l3 _ zQz (zWq nt _ _ zQz) ((s12.trans (zWq n3)).trans (zWq nt))
   refine iteDn hpa ?_
   have e0 : pz x = if (valV numK (.inr n)).getD .non = .int r.length then (if r.all isNum = true then some (n, r.map numV) else none) else none := by
     unfold pz
     rw [if_neg hpa, ew]
   clear hpa
   rw [ew] at hl2 hnum wz
   have len : (((n :: r).map V.str).length : Int) - 1 = (r.length : Int) := by rw [List.length_map]; simp
   have sc : scal ((valV numK (.inr n)).getD .non) (.int ((((n :: r).map V.str).length : Int) - 1)) = true := by
     cases ev : valV numK (.inr n) with
     | none => rfl
     | some v =>
       have : ∀ p ∈ numK, ∃ i, p.2 = .int i := by
         intro p m
         simp [numK] at m
         rcases m with rfl | rfl | rfl | rfl | rfl | rfl | rfl | rfl <;> exact ⟨_, rfl⟩
       obtain ⟨p, hp, hv⟩ := Option.map_eq_some_iff.mp ev
       obtain ⟨i, hi⟩ := this p (List.mem_of_find?_eq_some hp)
       rw [<- hv, hi]
       rfl
   refine ⟨_, rfl, l, _, _, _, rfl, rfl, SqL.of hl2, at0, .inr n, rfl, _, rfl, l, _, rfl, .inl (SqL.of hl2), _, _, rfl, rfl, sc, _, rfl, ?_⟩
   by_cases hv : (valV numK (.inr n)).getD .non = .int r.length
   rotate_left
   . rw [e0, if_neg hv] at h
     exact iteNn (c := (valV numK (.inr n)).getD .non = .int ((((n :: r).map V.str).length : Int) - 1)) (by rw [len]; exact hv) ⟨by show 1 <= sizeLine; decide, fun y => h H2 y s12⟩
   refine iteN (c := (valV numK (.inr n)).getD .non = .int ((((n :: r).map V.str).length : Int) - 1)) (by rw [len]; exact hv) ?_
   rw [e0, if_pos hv] at h
   refine ⟨_, rfl, 1, rfl, l, _, rfl, SqL.of hl2, fun l3 n3 => ?_⟩
   rw [cut_from _ (by decide)]
   have dr : List.drop (1 : Int).toNat ((n :: r).map V.str) = r.map V.str := rfl
   rw [dr]
   have s3 := zWq (o := .lst (r.map V.str)) n3
   refine ⟨l3, rfl, ⟨_, SqL.of zQz⟩, for_list (K := K) (a := l3) (xs := r.map V.str) (fun i σ H3 => (∃ v, σ = [some (.str x), some (.ref l), v]) /\ Same H2 H3 /\ H3 l3 = some (.lst (r.map V.str)) /\ ∀ j z, j < i -> r[j]? = some z -> isNum z = true)
     ⟨⟨none, rfl⟩, s3, zQz, fun j _ z => absurd z (Nat.not_lt_zero _)⟩ (fun i σ H3 _ ⟨_, _, e, _⟩ => SqL.of e) ?_ ?_⟩
   . rintro i v σ H3 hi ⟨⟨u, rfl⟩, s4, hl3, hall⟩
     rw [List.getElem?_map] at hi
     cases ez : r[i]? with
     | none => rw [ez] at hi; cases hi
     | some z =>
       rw [ez] at hi
       cases hi
       have mz : z ∈ n :: r := List.mem_cons_of_mem _ (List.mem_of_getElem? ez)
       have lz := wz z mz
       refine ⟨_, rfl, z, rfl, by omega, fun H5 s5 => ⟨_, rfl, ?_⟩⟩
       cases en : isNum z with
       | false =>
         have na : ¬ r.all isNum = true := fun q => by
           rw [List.all_eq_true.mp q z (List.mem_of_getElem? ez)] at en
           cases en
         rw [if_neg na] at h
         exact iteT ⟨by show 1 <= sizeLine; decide, fun y => h H5 y ((s12.trans s4).trans s5)⟩
       | true =>
         refine iteF ⟨⟨_, rfl⟩, s4.trans s5, s5 _ _ hl3, fun j z' hj ej => ?_⟩
         rcases Nat.lt_succ_iff_lt_or_eq.mp hj with q | q
         . exact hall j z' q ej
         . rw [q, ez] at ej
           cases ej
           exact en
   . rintro σ H3 ⟨⟨u, rfl⟩, s4, hl3, hall⟩
     have ya : r.all isNum = true := List.all_eq_true.mpr fun z hz => by
       obtain ⟨j, hj, e⟩ := List.mem_iff_getElem.mp hz
       rw [List.length_map] at hall
       exact hall j z hj (by rw [<- e]; simp [hj])
     rw [if_pos ya] at h
     have hl3' := s4 _ _ hl2
     refine ⟨_, rfl, l, _, _, _, rfl, rfl, SqL.of hl3', at0, ?_⟩
     refine comp_pure_new (r.map V.str) (by rw [List.length_map]; omega) (fun R q => ⟨_, rfl, 1, rfl, l, _, rfl, SqL.of hl3', fun l4 n4 => ?_⟩) (fun _ => true) (fun v => match v with | .str z => numV z | _ => .non) (fun i v H4 R _ _ q => q) (fun i v H4 R hv _ s5 q => ?_) fun acc H4 hacc s5 => ?_
     . rw [cut_from _ (by decide), dr]
       exact q l4 n4
     . rw [List.getElem?_map] at hv
       cases ez : r[i]? with
       | none => rw [ez] at hv; cases hv
       | some z =>
         rw [ez] at hv
         cases hv
         have mr := List.mem_of_getElem? ez
         have mz : z ∈ n :: r := List.mem_cons_of_mem _ mr
         have hz := hnum z mz
         rw [List.all_eq_true.mp ya z mr] at hz
         obtain ⟨i, ei⟩ := Option.isSome_iff_exists.mp (show (PySem.intText? z).isSome = true by simpa using hz)
         have lz := wz z mz
         refine ⟨_, rfl, z, i, rfl, ei, by omega, ?_⟩
         have : numV z = .int i := by
           unfold numV
           rw [ei]
           rfl
         rw [<- this]
         exact q
     . refine ⟨by show 2 <= sizeLine; decide, fun t nt => h t acc _ zQz (zWq nt _ _ ?_) (((s12.trans s4).trans s5).trans (zWq nt))⟩
       rw [hacc, List.filter_eq_self.mpr fun _ _ => rfl, List.map_map]
       rfl
end
abbrev sKInit : Stmt := inClass (top 35) 0
abbrev sKDone : Stmt := inClass (top 35) 1
abbrev sKMake : Stmt := inClass (top 35) 2
abbrev sKMount : Stmt := inClass (top 35) 3
abbrev sKPower : Stmt := inClass (top 35) 4
abbrev sKWrite : Stmt := inClass (top 35) 5
abbrev sKLose : Stmt := inClass (top 35) 6
inductive Sg where
 | no | a | b | c | dk | cut
 deriving DecidableEq
inductive Rf where
 | nd | bs | np | ns | cu
 deriving DecidableEq
inductive Out where
 | ok (t : Str) (g : Sg)
 | ex (r : Rf) (g : Sg)
def chipBad (b g m : Int) : Bool := !decide (4 <= b /\ b <= 32 /\ 2 <= g /\ g <= 16) || !decide (1 <= m /\ m <= (b - 2) * g)
def actChip (st : Sg) : List V -> Option Out
 | [.int b, .int g, .int m] => if chipBad b g m = true then some (.ex .bs st) else if st = .no /\ b = 4 /\ g = 2 /\ m = 4 then some (.ok "ok" .a) else none
 | _ => none
def actPower (st : Sg) : List V -> Option Out
 | [.non] => if st = .b then some (.ok "ok" .b) else none
 | [.int z] => if st = .b /\ z = 0 then some (.ok "ok" .c) else none
 | _ => none
def actWorn (st : Sg) : List V -> Option Out
 | [.int z] => if st ≠ .dk /\ ¬ (0 <= z /\ z < 4) then some (.ex .np st) else none
 | _ => none
def actPage (st : Sg) : List V -> Option Out
 | [.int z, .int y] => if st ≠ .dk /\ ¬ ((0 <= z /\ z < 4) /\ 0 <= y /\ y < 2) then some (.ex .np st) else none
 | _ => none
def actRead (st : Sg) : List V -> Option Out
 | [.int z] => if st = .b then (if ¬ (0 <= z /\ z < 4) then some (.ex .ns st) else if z = 0 then some (.ok "7" .b) else if z = 1 then some (.ok "0" .b) else none) else none
 | _ => none
def actWrite (st : Sg) : List V -> Option Out
 | [.int z, .int c] => if st = .a /\ z = 0 /\ c = 7 then some (.ok "ok" .b) else if st = .c /\ z = 1 /\ c = 8 then some (.ex .cu .dk) else if st = .b /\ ¬ (0 <= z /\ z < 4) then some (.ex .ns st) else none
 | _ => none
def act (st : Sg) (n : Str) (gs : List V) : Option Out :=
 if n = "chip" then actChip st gs
 else if st = .no then some (.ex .nd .no)
 else if n = "mount" then (if st = .b then some (.ok "ok" .b) else none)
 else if n = "power" then actPower st gs
 else if n = "worn" then actWorn st gs
 else if n = "written" then none
 else if n = "page" then actPage st gs
 else if st = .cut then some (.ex .nd .cut)
 else if n = "read" then actRead st gs
 else actWrite st gs
def deskF (c d : V) (m : Int) : List (Str × V) := [("chip", c), ("disk", d), ("many", .int m)]
section
variable {P : Program} {w : World} {K : PySem.W.Frag} {mg : Str -> Option Value} {base : Heap} {C DK KD cBS cNP cNE cNS cBC cCu cWE cBR cND NU : Addr}
structure On (C DK KD : Addr) (H : Hp) (q p d pa : Addr) (D : DS) (fp : List Addr) : Prop where
 ob : ∃ dx, H q = some (.ins KD dx (deskF (.ref p) (.ref d) 4))
 dx : DiskX C DK H d p D pa fp
 wi : WI D
 em : D.many = 4
 eb : D.G.nb = 4
 ep : D.G.np = 2
 nq : q ∉ fpD d pa fp
structure Off (C KD : Addr) (H : Hp) (q p : Addr) (v : V) (G : GS) (fp : List Addr) : Prop where
 ob : ∃ dx, H q = some (.ins KD dx (deskF (.ref p) v 4))
 ch : ChipX C H p G fp
 eb : G.nb = 4
 ep : G.np = 2
 nq : q ∉ fp
def DeskAt (C DK KD : Addr) (H : Hp) (q : Addr) (F : List Addr) : Sg -> Prop
 | .no => F = [q] /\ ∃ dx, H q = some (.ins KD dx (deskF .non .non 0))
 | .a => ∃ p d pa D fp, F = q :: fpD d pa fp /\ On C DK KD H q p d pa D fp /\ Lit D.G /\ Val D.G 0 0 /\ Val D.G 1 0
 | .b => ∃ p d pa D fp, F = q :: fpD d pa fp /\ On C DK KD H q p d pa D fp /\ Lit D.G /\ Val D.G 0 7 /\ Val D.G 1 0
 | .c => ∃ p d pa D fp, F = q :: fpD d pa fp /\ On C DK KD H q p d pa D fp /\ Dead D.G
 | .dk => ∃ p d G fp, F = q :: fp /\ Off C KD H q p (.ref d) G fp
 | .cut => ∃ p G fp, F = q :: fp /\ Off C KD H q p .non G fp
variable {H H' : Hp} {q p d pa : Addr} {D : DS} {G : GS} {fp F : List Addr} {v : V} {st : Sg}
theorem On.same (O : On C DK KD H q p d pa D fp) (s : Same H H') : On C DK KD H' q p d pa D fp := by
 obtain ⟨dx, e⟩ := O.ob
 exact ⟨⟨dx, s _ _ e⟩, O.dx.same s, O.wi, O.em, O.eb, O.ep, O.nq⟩
theorem Off.same (O : Off C KD H q p v G fp) (s : Same H H') : Off C KD H' q p v G fp := by
 obtain ⟨dx, e⟩ := O.ob
 exact ⟨⟨dx, s _ _ e⟩, O.ch.same s, O.eb, O.ep, O.nq⟩
theorem DeskAt.same (A : DeskAt C DK KD H q F st) (s : Same H H') : DeskAt C DK KD H' q F st := by
 cases st with
 | no => obtain ⟨e, dx, h⟩ := A; exact ⟨e, dx, s _ _ h⟩
 | a => obtain ⟨p, d, pa, D, fp, e, O, r⟩ := A; exact ⟨p, d, pa, D, fp, e, O.same s, r⟩
 | b => obtain ⟨p, d, pa, D, fp, e, O, r⟩ := A; exact ⟨p, d, pa, D, fp, e, O.same s, r⟩
 | c => obtain ⟨p, d, pa, D, fp, e, O, r⟩ := A; exact ⟨p, d, pa, D, fp, e, O.same s, r⟩
 | dk => obtain ⟨p, d, G, fp, e, O⟩ := A; exact ⟨p, d, G, fp, e, O.same s⟩
 | cut => obtain ⟨p, G, fp, e, O⟩ := A; exact ⟨p, G, fp, e, O.same s⟩
theorem On.kind (O : On C DK KD H q p d pa D fp) {b : Addr} (m : b ∈ q :: fpD d pa fp) : ∃ o, H b = some o /\ isFrz o = false := by
 rcases List.mem_cons.mp m with z | m
 . obtain ⟨dx, e⟩ := O.ob
   exact ⟨_, by rw [z]; exact e, rfl⟩
 . exact O.dx.frz b m
theorem Off.kind (O : Off C KD H q p v G fp) {b : Addr} (m : b ∈ q :: fp) : ∃ o, H b = some o /\ isFrz o = false := by
 rcases List.mem_cons.mp m with z | m
 . obtain ⟨dx, e⟩ := O.ob
   exact ⟨_, by rw [z]; exact e, rfl⟩
 . exact O.ch.frz b m
theorem DeskAt.kind (A : DeskAt C DK KD H q F st) {b : Addr} (m : b ∈ F) : ∃ o, H b = some o /\ isFrz o = false := by
 cases st with
 | no =>
   obtain ⟨e, dx, h⟩ := A
   subst e
   exact ⟨_, by rw [List.mem_singleton.mp m]; exact h, rfl⟩
 | a => obtain ⟨p, d, pa, D, fp, e, O, r⟩ := A; subst e; exact O.kind m
 | b => obtain ⟨p, d, pa, D, fp, e, O, r⟩ := A; subst e; exact O.kind m
 | c => obtain ⟨p, d, pa, D, fp, e, O, r⟩ := A; subst e; exact O.kind m
 | dk => obtain ⟨p, d, G, fp, e, O⟩ := A; subst e; exact O.kind m
 | cut => obtain ⟨p, G, fp, e, O⟩ := A; subst e; exact O.kind m
theorem DeskAt.free (A : DeskAt C DK KD H q F st) {b : Addr} (n : H b = none) : b ∉ F := fun m => by
 obtain ⟨o, e, _⟩ := A.kind m
 rw [n] at e; cases e
theorem On.keep (O : On C DK KD H q p d pa D fp) (k : ∀ b ∈ q :: fpD d pa fp, ∀ o, H b = some o -> H' b = some o) (kt : Tups H H') : On C DK KD H' q p d pa D fp := by
 obtain ⟨dx, e⟩ := O.ob
 exact ⟨⟨dx, k _ (by simp) _ e⟩, O.dx.keep (fun b m o e => k b (List.mem_cons_of_mem _ m) o e) kt, O.wi, O.em, O.eb, O.ep, O.nq⟩
theorem Off.keep (O : Off C KD H q p v G fp) (k : ∀ b ∈ q :: fp, ∀ o, H b = some o -> H' b = some o) (kt : Tups H H') : Off C KD H' q p v G fp := by
 obtain ⟨dx, e⟩ := O.ob
 exact ⟨⟨dx, k _ (by simp) _ e⟩, O.ch.keep (fun b m o e => k b (List.mem_cons_of_mem _ m) o e) kt, O.eb, O.ep, O.nq⟩
theorem DeskAt.keep (A : DeskAt C DK KD H q F st) (k : ∀ b ∈ F, ∀ o, H b = some o -> H' b = some o) (kt : Tups H H') : DeskAt C DK KD H' q F st := by
 cases st with
 | no =>
   obtain ⟨e, dx, h⟩ := A
   subst e
   exact ⟨rfl, dx, k _ (by simp) _ h⟩
 | a => obtain ⟨p, d, pa, D, fp, e, O, r⟩ := A; subst e; exact ⟨p, d, pa, D, fp, rfl, O.keep k kt, r⟩
 | b => obtain ⟨p, d, pa, D, fp, e, O, r⟩ := A; subst e; exact ⟨p, d, pa, D, fp, rfl, O.keep k kt, r⟩
 | c => obtain ⟨p, d, pa, D, fp, e, O, r⟩ := A; subst e; exact ⟨p, d, pa, D, fp, rfl, O.keep k kt, r⟩
 | dk => obtain ⟨p, d, G, fp, e, O⟩ := A; subst e; exact ⟨p, d, G, fp, rfl, O.keep k kt⟩
 | cut => obtain ⟨p, G, fp, e, O⟩ := A; subst e; exact ⟨p, G, fp, rfl, O.keep k kt⟩
theorem DeskAt.putL (A : DeskAt C DK KD H q F st) {b : Addr} {xs ys : List V} (h : H b = some (.lst xs)) (n : b ∉ F) : DeskAt C DK KD (upd H b (.lst ys)) q F st :=
 A.keep (fun c m o e => by rw [zWx (show c ≠ b from fun z => n (z ▸ m))]; exact e) fun c zs e => by rw [zWx (yJz e h (by intro z; cases z))]; exact e
theorem DeskAt.ob (A : DeskAt C DK KD H q F st) : ∃ dx c d m, H q = some (.ins KD dx (deskF c d m)) /\ (st = .no -> c = .non) /\ (st ≠ .no -> ∃ p, c = .ref p) /\ (st = .cut -> d = .non) := by
 cases st with
 | no => obtain ⟨e, dx, h⟩ := A; exact ⟨dx, _, _, _, h, fun _ => rfl, fun z => absurd rfl z, (fun z => nomatch z)⟩
 | a => obtain ⟨p, d, pa, D, fp, e, O, r⟩ := A; obtain ⟨dx, h⟩ := O.ob; exact ⟨dx, _, _, _, h, (fun z => nomatch z), fun _ => ⟨p, rfl⟩, (fun z => nomatch z)⟩
 | b => obtain ⟨p, d, pa, D, fp, e, O, r⟩ := A; obtain ⟨dx, h⟩ := O.ob; exact ⟨dx, _, _, _, h, (fun z => nomatch z), fun _ => ⟨p, rfl⟩, (fun z => nomatch z)⟩
 | c => obtain ⟨p, d, pa, D, fp, e, O, r⟩ := A; obtain ⟨dx, h⟩ := O.ob; exact ⟨dx, _, _, _, h, (fun z => nomatch z), fun _ => ⟨p, rfl⟩, (fun z => nomatch z)⟩
 | dk => obtain ⟨p, d, G, fp, e, O⟩ := A; obtain ⟨dx, h⟩ := O.ob; exact ⟨dx, _, _, _, h, (fun z => nomatch z), fun _ => ⟨p, rfl⟩, (fun z => nomatch z)⟩
 | cut => obtain ⟨p, G, fp, e, O⟩ := A; obtain ⟨dx, h⟩ := O.ob; exact ⟨dx, _, _, _, h, (fun z => nomatch z), fun _ => ⟨p, rfl⟩, fun _ => rfl⟩
theorem DeskAt.chip (A : DeskAt C DK KD H q F st) (n : st ≠ .no) : ∃ dx p d G fp, H q = some (.ins KD dx (deskF (.ref p) d 4)) /\ ChipX C H p G fp /\ G.nb = 4 /\ G.np = 2 := by
 cases st with
 | no => exact absurd rfl n
 | a => obtain ⟨p, d, pa, D, fp, e, O, r⟩ := A; obtain ⟨dx, h⟩ := O.ob; exact ⟨dx, p, _, _, _, h, O.dx.ch, O.eb, O.ep⟩
 | b => obtain ⟨p, d, pa, D, fp, e, O, r⟩ := A; obtain ⟨dx, h⟩ := O.ob; exact ⟨dx, p, _, _, _, h, O.dx.ch, O.eb, O.ep⟩
 | c => obtain ⟨p, d, pa, D, fp, e, O, r⟩ := A; obtain ⟨dx, h⟩ := O.ob; exact ⟨dx, p, _, _, _, h, O.dx.ch, O.eb, O.ep⟩
 | dk => obtain ⟨p, d, G, fp, e, O⟩ := A; obtain ⟨dx, h⟩ := O.ob; exact ⟨dx, p, _, _, _, h, O.ch, O.eb, O.ep⟩
 | cut => obtain ⟨p, G, fp, e, O⟩ := A; obtain ⟨dx, h⟩ := O.ob; exact ⟨dx, p, _, _, _, h, O.ch, O.eb, O.ep⟩
def spKInit (KD : Addr) : Sp := fun vs H Q _ => ∃ q dx, vs = [.ref q] /\ H q = some (.ins KD dx []) /\ ∀ H', (∃ dx, H' q = some (.ins KD dx (deskF .non .non 0))) -> SameBut [q] H H' -> Q .non H'
theorem scKI : FnScope ["self"] ["self"] (defScope sKInit) := ⟨rfl, rfl, rfl, by decide +kernel, rfl, by decide +kernel, by decide +kernel⟩
theorem ok_kinit {f : Addr} {fd : FuncData} (F : Fun K "__init__" "Desk.__init__" sKInit f fd) (TK : TxtK K mg KD cBR cND NU) : FnOk P w K mg base (CXw P w) 51 f fd ["self"] (spKInit KD) := by
 refine F.okX (by decide) scKI (fun vs H Q E h => ?_) (fun cdv A outer s H vs Q E hr h => ?_)
 . obtain ⟨q, dx, rfl, _⟩ := h
   rfl
 . obtain ⟨q, dx, rfl, h1, h⟩ := h
   refine ⟨_, (@zQj _ _ _ _ _ (@zKw _ _ _ _ _ _ _ _ (pv 0) (@xQv _ _ _) rfl) (@zQj _ _ _ _ _ (@zKw _ _ _ _ _ _ _ _ (pv 0) (@xQv _ _ _) rfl) (@zWw _ _ _ (@zKw _ _ _ _ _ _ _ _ (pv 0) zWz rfl)))), _, rfl, q, KD, dx, _, rfl, h1, TK.cl, TK.aC, by decide, _, rfl, q, KD, dx, _, rfl, zQz, TK.cl, TK.aD, by decide, _, rfl, q, KD, dx, _, rfl, zQz, TK.cl, TK.aM, by decide, h _ ⟨dx, zQz⟩ (fun b o e n => ?_)⟩
   have nb : b ≠ q := fun z => n (by rw [z]; simp)
   rw [zWx nb, zWx nb, zWx nb]
   exact e
theorem put_q {H : Hp} {q p d pa : Addr} {D : DS} {fp : List Addr} {dx : Addr} {fs gs : List (Str × V)} (X : DiskX C DK H d p D pa fp) (h : H q = some (.ins KD dx fs)) (n : q ∉ fpD d pa fp) : DiskX C DK (upd H q (.ins KD dx gs)) d p D pa fp :=
 X.keep (fun b m o e => by rw [zWx (show b ≠ q from fun z => n (z ▸ m))]; exact e) fun a xs e => by rw [zWx (yJz e h (by intro z; cases z))]; exact e
def spKMake (C DK KD cBS : Addr) : Sp := fun vs H Q E => ∃ (q : Addr) (F : List Addr) (st : Sg) (b g m : Int), vs = [.ref q, .int b, .int g, .int m] /\ DeskAt C DK KD H q F st /\
 ((chipBad b g m = true /\ ∀ H' x, Same H H' -> E (.ref cBS) (some x) H') \/ (st = .no /\ b = 4 /\ g = 2 /\ m = 4 /\ ∀ H' F', DeskAt C DK KD H' q F' .a -> Did H H' F F' -> Q (.str "ok") H'))
theorem scKM : FnScope ["self", "blocks", "pages", "many", "chip"] ["self", "blocks", "pages", "many"] (defScope sKMake) := ⟨rfl, rfl, rfl, by decide +kernel, rfl, by decide +kernel, by decide +kernel⟩
theorem ok_kmake {f : Addr} {fd : FuncData} (F : Fun K "make_chip" "Desk.make_chip" sKMake f fd) (T : Txt K mg C cBS cNP cNE cNS cBC cCu cWE) (TK : TxtK K mg KD cBR cND NU) (B_Chip : MkB P w K mg base C 51 "Chip" ["self", "blocks", "pages"] (xpInit C cBS))
   (B_mounted : FnB P w K mg base 59 "mounted" ["chip", "sectors"] (xpMounted C DK cBS cCu)) : FnOk P w K mg base (CXw P w) 60 f fd ["self", "blocks", "pages", "many"] (spKMake C DK KD cBS) := by
 refine F.okX (by decide) scKM (fun vs H Q E h => ?_) (fun cdv A outer s H vs Q E hr h => ?_)
 . obtain ⟨q, F, st, b, g, m, rfl, _⟩ := h
   rfl
 . obtain ⟨q, F, st, b, g, m, rfl, A1, h⟩ := h
   refine ⟨_, (@zQj _ _ _ _ _ (@zJq _ _ (4) _ _ _ _ scKM.nd rfl (Or.inl rfl) (@pe_makeF _ _ _ _ _ _ _ _ _ _ _ _ B_Chip (hr.mono (by decide)) rfl zWj (@zQw _ _ _ _ _ (pv 1) (@zQw _ _ _ _ _ (pv 2) zQk (by exact zQq rfl)) (by exact zQq rfl)) (by decide) (by exact zQq rfl) (by exact zQx rfl)) (by rfl) (by first | exact .inl rfl | exact .inr rfl | assumption)) (@zQj _ _ _ _ _ (@zKw _ _ _ _ _ _ _ _ (pv 0) (@zZx _ _ _ _ _ _ _ _ _ _ _ B_mounted (hr.mono (by decide)) rfl zWj (@zQw _ _ _ _ _ (pv 4) (@zQw _ _ _ _ _ (pv 3) zQk (by exact zQq rfl)) (by exact zQq rfl)) (by decide) (by exact zQq rfl) (by exact zQx rfl)) rfl) (@zQj _ _ _ _ _ (@zKw _ _ _ _ _ _ _ _ (pv 0) (pv 4) rfl) (@zQj _ _ _ _ _ (@zKw _ _ _ _ _ _ _ _ (pv 0) (pv 3) rfl) (@zWw _ _ _ (@zWv _ _ _ _ (@zQv _ _ _ _))))))), ?_⟩
   refine ⟨_, rfl, _, rfl, fun p dx np ndp ne => ?_⟩
   have s0 : Same H (upd (upd H dx (.own p)) p (.ins C dx [])) := (zWq ndp).trans (zWq (by rw [zWx (Ne.symm ne)]; exact np))
   have s3of : ∀ {H3 fp3}, Did (upd (upd H dx (.own p)) p (.ins C dx [])) H3 [p] fp3 -> Same H H3 := fun k3 b o e => k3.keep b o (s0 b o e) (by have := zWk e np; simpa using this)
   rcases h with ⟨bad, h⟩ | ⟨rfl, rfl, rfl, rfl, h⟩
   . by_cases hs : 4 <= b /\ b <= 32 /\ 2 <= g /\ g <= 16
     . refine use_initI (nb := b.toNat) (np := g.toNat) zQz (by omega) (by omega) (by omega) (by omega) (by omega) (by omega) fun H3 fp3 A3 k3 => ⟨rfl, _, rfl, _, rfl, use_mbad A3 (fun z => ?_) fun H' x s' => h _ _ ((s3of k3).trans s')⟩
       have z : 1 <= m /\ m <= ((b.toNat : Int) - 2) * (g.toNat : Int) := z
       rw [show (b.toNat : Int) = b by omega, show (g.toNat : Int) = g by omega] at z
       unfold chipBad at bad
       rw [decide_eq_true hs, decide_eq_true z] at bad
       cases bad
     . exact use_ibad zQz hs fun x => h _ x s0
   . refine use_initI (nb := 4) (np := 2) zQz rfl rfl (by decide) (by decide) (by decide) (by decide) fun H3 fp3 A3 k3 => ⟨rfl, ?_⟩
     have s3 := s3of k3
     have fr3 : ∀ b ∈ fp3, H b = none := fun b m => by
       rcases k3.new b m with z | z
       . rw [List.mem_singleton.mp z]; exact np
       . cases e : H b with
         | none => rfl
         | some o => rw [s0 b o e] at z; cases z
     obtain ⟨gd, v0⟩ := fresh_good (G := GS.fresh 4 2) (many := 4) (by decide) (by decide) (by decide) (by decide) (fun _ _ => rfl)
     have o3 : Ok (GS.fresh 4 2) 4 := ⟨0, .inl gd⟩
     obtain ⟨f1, f2⟩ := few_of (by decide) o3
     refine ⟨_, rfl, _, rfl, xZw (many := 4) A3 o3 f1 f2 (fun d H4 pa D fp4 N X4 I4 e4 mn hN eN k4 n1 n2 => ?_) (fun H4 x G4 fp4 N A4 o4 mn l => absurd ⟨rfl, rfl⟩ l)⟩
     obtain ⟨eF, dxq, hq⟩ := A1
     subst eF
     have nq3 : q ∉ fp3 := fun m => by rw [fr3 q m] at hq; cases hq
     have hq4 := k4.keep q _ (s3 _ _ hq) nq3
     have fd : ∀ c, (∀ o, H3 c = some o -> c ∈ fp3) -> H c = none := fun c n => by
       cases e : H c with
       | none => rfl
       | some o => rw [fr3 c (n o (s3 _ _ e))] at e; cases e
     have fr4 : ∀ b ∈ fpD d pa fp4, H b = none := fun b m => by
       rcases List.mem_cons.mp m with z | m
       . rw [z]; exact fd d n1
       rcases List.mem_cons.mp m with z | m
       . rw [z]; exact fd pa n2
       rcases k4.new b m with z | z
       . exact fr3 b z
       . cases e : H b with
         | none => rfl
         | some o => rw [s3 b o e] at z; cases z
     have nq : q ∉ fpD d pa fp4 := fun m => by rw [fr4 q m] at hq; cases hq
     refine ⟨_, rfl, q, KD, dxq, _, rfl, hq4, TK.cl, TK.aD, (by show 3 < 1000; decide), _, rfl, _, rfl, q, KD, dxq, _, rfl, zQz, TK.cl, TK.aC, (by show 3 < 1000; decide), _, rfl, _, rfl, q, KD, dxq, _, rfl, zQz, TK.cl, TK.aM, (by show 3 < 1000; decide), h _ (q :: fpD d pa fp4) ⟨p, d, pa, D, fp4, rfl, ⟨⟨dxq, zQz⟩, ?_, I4, e4, mn.nb, mn.np, nq⟩, mn.lit ⟨rfl, rfl⟩, mn.val _ _ (v0 0), mn.val _ _ (v0 1)⟩ ⟨fun b o e n => ?_, fun b m => ?_⟩⟩
     . exact put_q (put_q (put_q X4 hq4 nq) zQz nq) zQz nq
     . have nb : b ≠ q := fun z => n (by rw [z]; simp)
       rw [zWx nb, zWx nb, zWx nb]
       exact k4.keep b o (s3 b o e) fun m => by rw [fr3 b m] at e; cases e
     . rcases List.mem_cons.mp m with z | m
       . exact .inl (by rw [z]; simp)
       . exact .inr (fr4 b m)
def spKMount (C DK KD : Addr) : Sp := fun vs H Q _ => ∃ (q : Addr) (F : List Addr), vs = [.ref q] /\ DeskAt C DK KD H q F .b /\ ∀ H' F', DeskAt C DK KD H' q F' .b -> Did H H' F F' -> Q (.str "ok") H'
theorem scKT : FnScope ["self"] ["self"] (defScope sKMount) := ⟨rfl, rfl, rfl, by decide +kernel, rfl, by decide +kernel, by decide +kernel⟩
theorem ok_kmount {f : Addr} {fd : FuncData} (F : Fun K "mount" "Desk.mount" sKMount f fd) (T : Txt K mg C cBS cNP cNE cNS cBC cCu cWE) (TK : TxtK K mg KD cBR cND NU)
   (B_mounted : FnB P w K mg base 59 "mounted" ["chip", "sectors"] (xpMounted C DK cBS cCu)) : FnOk P w K mg base (CXw P w) 60 f fd ["self"] (spKMount C DK KD) := by
 refine F.okX (by decide) scKT (fun vs H Q E h => ?_) (fun cdv A outer s H vs Q E hr h => ?_)
 . obtain ⟨q, F, rfl, _⟩ := h
   rfl
 . obtain ⟨q, F, rfl, ⟨p, d, pa, D, fp, eF, O, lit, v0, v1⟩, h⟩ := h
   subst eF
   obtain ⟨dxq, hq⟩ := O.ob
   have ok : Ok D.G 4 := by rw [<- O.em]; exact O.wi.ok
   obtain ⟨f1, f2⟩ := few_of (by rw [O.eb, O.ep]; decide) ok
   have nqf : q ∉ fp := fun m => O.nq (by simp [m])
   refine ⟨_, (@zQj _ _ _ _ _ (@zKw _ _ _ _ _ _ _ _ (pv 0) (@zZx _ _ _ _ _ _ _ _ _ _ _ B_mounted (hr.mono (by decide)) rfl zWj (@zQw _ _ _ _ _ (@zZq _ _ _ _ _ (pv 0) rfl) (@zQw _ _ _ _ _ (@zZq _ _ _ _ _ (pv 0) rfl) zQk (by exact zQq rfl)) (by exact zQq rfl)) (by decide) (by exact zQq rfl) (by exact zQx rfl)) rfl) (@zWw _ _ _ (@zWv _ _ _ _ (@zQv _ _ _ _)))), ?_⟩
   refine ⟨_, rfl, q, KD, dxq, _, _, rfl, hq, TK.cl, TK.aC, rfl, _, rfl, q, KD, dxq, _, _, rfl, hq, TK.cl, TK.aM, rfl, xZw (many := 4) O.dx.ch ok f1 f2 (fun d' H4 pa' D' fp4 N X4 I4 e4 mn hN eN k4 n1 n2 => ?_) (fun H4 x G4 fp4 N A4 o4 mn l => absurd lit l)⟩
   have hq4 := k4.keep q _ hq nqf
   have fd : ∀ c, (∀ o, H c = some o -> c ∈ fp) -> c ∈ fp \/ H c = none := fun c n => by
     cases e : H c with
     | none => exact .inr rfl
     | some o => exact .inl (n o e)
   have fr4 : ∀ b ∈ fpD d' pa' fp4, b ∈ fp \/ H b = none := fun b m => by
     rcases List.mem_cons.mp m with z | m
     . rw [z]; exact fd d' n1
     rcases List.mem_cons.mp m with z | m
     . rw [z]; exact fd pa' n2
     exact k4.new b m
   have nq : q ∉ fpD d' pa' fp4 := fun m => by
     rcases fr4 q m with z | z
     . exact nqf z
     . rw [hq] at z; cases z
   refine ⟨_, rfl, q, KD, dxq, _, rfl, hq4, TK.cl, TK.aD, (by show 3 < 1000; decide), h _ (q :: fpD d' pa' fp4) ⟨p, d', pa', D', fp4, rfl, ⟨⟨dxq, zQz⟩, put_q X4 hq4 nq, I4, e4, mn.nb.trans O.eb, mn.np.trans O.ep, nq⟩, mn.lit lit, mn.val _ _ v0, mn.val _ _ v1⟩ ⟨fun b o e n => ?_, fun b m => ?_⟩⟩
   . have nb : b ≠ q := fun z => n (by rw [z]; simp)
     rw [zWx nb]
     exact k4.keep b o e fun m => n (by simp [m])
   . rcases List.mem_cons.mp m with z | m
     . exact .inl (by rw [z]; simp)
     . exact (fr4 b m).imp (fun z => by simp [z]) id
def spKPower (C DK KD : Addr) : Sp := fun vs H Q _ => ∃ (q : Addr) (F : List Addr) (l : Option Int), vs = [.ref q, leftV l] /\ DeskAt C DK KD H q F .b /\ (l = none \/ l = some 0) /\ ∀ H' F', DeskAt C DK KD H' q F' (if l = none then .b else .c) -> Did H H' F F' -> Q (.str "ok") H'
theorem scKP : FnScope ["self", "many"] ["self", "many"] (defScope sKPower) := ⟨rfl, rfl, rfl, by decide +kernel, rfl, by decide +kernel, by decide +kernel⟩
theorem deadP {G : GS} : Dead (G.powered (some 0)) := fun G1 e => by
 unfold GS.draw GS.powered at e
 simp at e
theorem ok_kpower {f : Addr} {fd : FuncData} (F : Fun K "set_power" "Desk.set_power" sKPower f fd) (T : Txt K mg C cBS cNP cNE cNS cBC cCu cWE) (TK : TxtK K mg KD cBR cND NU)
   (M_power : MtB P w K mg base C 51 "power" ["self", "many"] (xpPower C)) : FnOk P w K mg base (CXw P w) 52 f fd ["self", "many"] (spKPower C DK KD) := by
 refine F.okX (by decide) scKP (fun vs H Q E h => ?_) (fun cdv A outer s H vs Q E hr h => ?_)
 . obtain ⟨q, F, l, rfl, _⟩ := h
   rfl
 . obtain ⟨q, F, l, rfl, ⟨p, d, pa, D, fp, eF, O, lit, v0, v1⟩, hl, h⟩ := h
   subst eF
   obtain ⟨dxq, hq⟩ := O.ob
   obtain ⟨dxc, S, h5, el, hc⟩ := O.dx.ch.at_
   have hk : ∀ k, l = some k -> 0 <= k := fun k e => by
     rcases hl with z | z
     . rw [z] at e; cases e
     . rw [z] at e; cases e; exact Int.le_refl _
   refine ⟨_, (@zQj _ _ _ _ _ (@zJj _ _ _ _ (@zZj _ _ _ _ _ _ _ _ _ _ _ _ _ _ _ T.cl M_power (hr.mono (by decide)) (@passE _ _ _) (@zZq _ _ _ _ _ (pv 0) rfl) (@zQw _ _ _ _ _ (pv 1) zQk (by exact zQq rfl)) (by exact zQq rfl) (by exact zQx rfl) (by rfl)) (by rfl)) (@zWw _ _ _ (@zWv _ _ _ _ (@zQv _ _ _ _)))), ?_⟩
   refine ⟨_, rfl, q, KD, dxq, _, _, rfl, hq, TK.cl, TK.aC, rfl, p, dxc, _, rfl, hc, rfl, _, rfl, use_power (l := l) O.dx.ch hk fun H4 A4 k4 => ?_⟩
   have d4 := did_p O.dx.ch.pin k4
   have O4 : On C DK KD H4 q p d pa { D with G := D.G.powered l } fp := ⟨⟨dxq, d4.keep _ _ hq fun m => O.nq (by simp [m])⟩, O.dx.chip A4 d4, kp_sameP.wi O.wi, O.em, O.eb, O.ep, O.nq⟩
   have k5 : Did H H4 (q :: fpD d pa fp) (q :: fpD d pa fp) := ⟨fun b o e n => d4.keep b o e fun m => n (by simp [m]), fun b m => .inl m⟩
   rcases hl with rfl | rfl
   . exact h H4 _ ⟨p, d, pa, _, fp, rfl, O4, litP, kp_sameP.val v0, kp_sameP.val v1⟩ k5
   . exact h H4 _ ⟨p, d, pa, _, fp, rfl, O4, deadP⟩ k5
def spKWrite (C DK KD cNS cCu : Addr) : Sp := fun vs H Q E => ∃ (q : Addr) (F : List Addr) (st : Sg) (z c : Int), vs = [.ref q, .int z, .int c] /\ DeskAt C DK KD H q F st /\
 ((st = .a /\ z = 0 /\ c = 7 /\ ∀ H' F', DeskAt C DK KD H' q F' .b -> Did H H' F F' -> Q (.str "ok") H') \/ (st = .c /\ z = 1 /\ c = 8 /\ ∀ H' F' x, DeskAt C DK KD H' q F' .dk -> Did H H' F F' -> E (.ref cCu) (some x) H') \/ (st = .b /\ ¬ (0 <= z /\ z < 4) /\ ∀ x, E (.ref cNS) (some x) H))
theorem scKW : FnScope ["self", "sector", "content"] ["self", "sector", "content"] (defScope sKWrite) := ⟨rfl, rfl, rfl, by decide +kernel, rfl, by decide +kernel, by decide +kernel⟩
theorem ok_kwrite {f : Addr} {fd : FuncData} (F : Fun K "write" "Desk.write" sKWrite f fd) (T : Txt K mg C cBS cNP cNE cNS cBC cCu cWE) (TD : TxtD K mg DK cNS cBC) (TK : TxtK K mg KD cBR cND NU)
   (N_write : MtB P w K mg base DK 57 "write" ["self", "sector", "content"] (xpDWrite C DK cNS cBC cCu)) : FnOk P w K mg base (CXw P w) 58 f fd ["self", "sector", "content"] (spKWrite C DK KD cNS cCu) := by
 refine F.okX (by decide) scKW (fun vs H Q E h => ?_) (fun cdv A outer s H vs Q E hr h => ?_)
 . obtain ⟨q, F, st, z, c, rfl, _⟩ := h
   rfl
 . obtain ⟨q, F, st, z, c, rfl, A1, h⟩ := h
   refine ⟨_, (@zQj _ _ _ _ _ (@zJj _ _ _ _ (@zZj _ _ _ _ _ _ _ _ _ _ _ _ _ _ _ TD.cl N_write (hr.mono (by decide)) zWj (@zZq _ _ _ _ _ (pv 0) rfl) (@zQw _ _ _ _ _ (pv 1) (@zQw _ _ _ _ _ (pv 2) zQk (by exact zQq rfl)) (by exact zQq rfl)) (by exact zQq rfl) (by exact zQx rfl) (by rfl)) (by rfl)) (@zWw _ _ _ (@zWv _ _ _ _ (@zQv _ _ _ _)))), ?_⟩
   have m0 : (0 : Int) <= 7 /\ (7 : Int) <= MOST /\ (0 : Int) <= 8 /\ (8 : Int) <= MOST := by unfold MOST; decide
   rcases h with ⟨rfl, rfl, rfl, h⟩ | ⟨rfl, rfl, rfl, h⟩ | ⟨rfl, bad, h⟩
   . obtain ⟨p, d, pa, D, fp, eF, O, lit, v0, v1⟩ := A1
     subst eF
     obtain ⟨dxq, hq⟩ := O.ob
     obtain ⟨dxd, hd⟩ := O.dx.ob
     refine ⟨_, rfl, q, KD, dxq, _, _, rfl, hq, TK.cl, TK.aD, rfl, d, dxd, _, rfl, hd, rfl, _, rfl, _, rfl, xKx (s := 0) O.dx O.wi (by rw [O.em]; decide) m0.1 m0.2.1 (fun r H' fp' hr e L X' k => ?_) (fun r H' fp' x hr e L X' k => ?_)⟩
     . obtain ⟨wi', w0, w1⟩ := L.t hr
       have hq' := k.keep q _ hq O.nq
       exact h H' (q :: fpD d pa fp') ⟨p, d, pa, r.2, fp', rfl, ⟨⟨dxq, hq'⟩, X', wi', L.many.trans O.em, L.nb.trans O.eb, L.np.trans O.ep, fun m => by
         rcases k.new q m with z | z
         . exact O.nq z
         . rw [hq] at z; cases z⟩, (Lit.write lit e).2, w0, w1 1 0 (by rw [O.em]; decide) (by decide) v1⟩ (k.more q)
     . have := (Lit.write lit e).1
       rw [hr] at this; cases this
   . obtain ⟨p, d, pa, D, fp, eF, O, dead⟩ := A1
     subst eF
     obtain ⟨dxq, hq⟩ := O.ob
     obtain ⟨dxd, hd⟩ := O.dx.ob
     refine ⟨_, rfl, q, KD, dxq, _, _, rfl, hq, TK.cl, TK.aD, rfl, d, dxd, _, rfl, hd, rfl, _, rfl, _, rfl, xKx (s := 1) O.dx O.wi (by rw [O.em]; decide) m0.2.2.1 m0.2.2.2 (fun r H' fp' hr e L X' k => ?_) (fun r H' fp' x hr e L X' k => ?_)⟩
     . rw [dead.write e] at hr; cases hr
     . have hq' := k.keep q _ hq O.nq
       have k' := k.more q
       refine h H' (q :: fp') x ⟨p, d, r.2.G, fp', rfl, ⟨⟨dxq, hq'⟩, X'.ch, L.nb.trans O.eb, L.np.trans O.ep, fun m => by
         rcases k.new q (by simp [m]) with z | z
         . exact O.nq z
         . rw [hq] at z; cases z⟩⟩ ⟨k'.keep, fun b m => k'.new b ?_⟩
       rcases List.mem_cons.mp m with z | m
       . rw [z]; simp
       . simp [m]
   . obtain ⟨p, d, pa, D, fp, eF, O, _⟩ := A1
     subst eF
     obtain ⟨dxq, hq⟩ := O.ob
     obtain ⟨dxd, hd⟩ := O.dx.ob
     exact ⟨_, rfl, q, KD, dxq, _, _, rfl, hq, TK.cl, TK.aD, rfl, d, dxd, _, rfl, hd, rfl, _, rfl, _, rfl, use_wbadS O.dx (by rw [O.em]; exact bad) h⟩
def spKLose (C DK KD : Addr) : Sp := fun vs H Q _ => ∃ (q : Addr) (F : List Addr), vs = [.ref q] /\ DeskAt C DK KD H q F .dk /\ ∀ H' F', DeskAt C DK KD H' q F' .cut -> Did H H' F F' -> Q .non H'
theorem scKL : FnScope ["self"] ["self"] (defScope sKLose) := ⟨rfl, rfl, rfl, by decide +kernel, rfl, by decide +kernel, by decide +kernel⟩
theorem ok_klose {f : Addr} {fd : FuncData} (F : Fun K "lose_disk" "Desk.lose_disk" sKLose f fd) (TK : TxtK K mg KD cBR cND NU) : FnOk P w K mg base (CXw P w) 41 f fd ["self"] (spKLose C DK KD) := by
 refine F.okQ scKL (fun vs H Q E h => ?_) (fun cdv A outer s H vs Q E hr h => ?_)
 . obtain ⟨q, F, rfl, _⟩ := h
   rfl
 . obtain ⟨q, F, rfl, ⟨p, d, G, fp, eF, O⟩, h⟩ := h
   subst eF
   obtain ⟨dxq, hq⟩ := O.ob
   refine ⟨_, (@zWw _ _ _ (@zKw _ _ _ _ _ _ _ _ (pv 0) (@xQv _ _ _) rfl)), _, rfl, q, KD, dxq, _, rfl, hq, TK.cl, TK.aD, (by show 3 < 1000; decide), h _ (q :: fp) ⟨p, G, fp, rfl, ⟨dxq, zQz⟩, O.ch.keep (fun b m o e => by rw [zWx (show b ≠ q from fun z => O.nq (z ▸ m))]; exact e) (fun a xs e => by rw [zWx (yJz e hq (by intro z; cases z))]; exact e), O.eb, O.ep, O.nq⟩ ⟨fun b o e n => ?_, fun b m => .inl m⟩⟩
   rw [zWx (show b ≠ q from fun z => n (by rw [z]; simp))]
   exact e
end
abbrev sAnswer : Stmt := top 39
abbrev sPlay : Stmt := top 40
def refT : Rf -> Str
 | .nd => "refused: NoDisk"
 | .bs => "refused: BadSize"
 | .np => "refused: NoPage"
 | .ns => "refused: NoSector"
 | .cu => "refused: Cut"
def ans (st : Sg) (x : Str) : Option (Str × Sg) := match pz x with
 | none => some ("refused: BadRow", st)
 | some (n, gs) => match act st n gs with
   | none => none
   | some (.ok a g) => some (a, g)
   | some (.ex r g) => some (refT r, if r = .cu then .cut else g)
def blank (x : Str) : Bool := decide (Txt.stripChars x " " = "")
def stp (s : Option (Sg × List Str)) (x : Str) : Option (Sg × List Str) := match s with
 | none => none
 | some (g, U) => if blank x = true then some (g, U) else match ans g x with
   | none => none
   | some (a, g') => if g' = .dk then none else some (g', U ++ [a])
def runL (L : List Str) : Option (Sg × List Str) := L.foldl stp (some (.no, []))
theorem stp_none : ∀ (L : List Str), L.foldl stp none = none
 | [] => rfl
 | x :: r => stp_none r
theorem xZx {L : List Str} {x : Str} : runL (L ++ [x]) = stp (runL L) x := by
 unfold runL
 rw [List.foldl_append]
 rfl
theorem runL_take {L : List Str} {r : Sg × List Str} (h : runL L = some r) (i : Nat) : ∃ g U, runL (L.take i) = some (g, U) := by
 cases e : runL (L.take i) with
 | some p => exact ⟨p.1, p.2, rfl⟩
 | none =>
   have : runL L = (L.drop i).foldl stp (runL (L.take i)) := by
     unfold runL
     rw [<- List.foldl_append, List.take_append_drop]
   rw [e, stp_none] at this
   rw [this] at h
   cases h
theorem wWw {st : Sg} {gs : List V} {o : Out} (h : actChip st gs = some o) : ∃ b g m, gs = [.int b, .int g, .int m] /\ ((chipBad b g m = true /\ o = .ex .bs st) \/ (st = .no /\ b = 4 /\ g = 2 /\ m = 4 /\ o = .ok "ok" .a)) := by
 unfold actChip at h
 split at h
 . rename_i b g m
   refine ⟨b, g, m, rfl, ?_⟩
   split at h
   . rename_i hb
     exact .inl ⟨hb, (Option.some.inj h).symm⟩
   . split at h
     . rename_i hc
       exact .inr ⟨hc.1, hc.2.1, hc.2.2.1, hc.2.2.2, (Option.some.inj h).symm⟩
     . cases h
 . cases h
theorem xJk {st : Sg} {gs : List V} {o : Out} (h : actPower st gs = some o) : st = .b /\ ∃ l : Option Int, gs = [leftV l] /\ (l = none \/ l = some 0) /\ o = .ok "ok" (if l = none then .b else .c) := by
 unfold actPower at h
 split at h
 . split at h
   . rename_i hb
     exact ⟨hb, none, rfl, .inl rfl, (Option.some.inj h).symm⟩
   . cases h
 . split at h
   . rename_i z hb
     obtain ⟨hb, rfl⟩ := hb
     exact ⟨hb, some 0, rfl, .inr rfl, (Option.some.inj h).symm⟩
   . cases h
 . cases h
theorem wQk {st : Sg} {gs : List V} {o : Out} (h : actWorn st gs = some o) : ∃ z, gs = [.int z] /\ ¬ (0 <= z /\ z < 4) /\ o = .ex .np st := by
 unfold actWorn at h
 split at h
 . split at h
   . rename_i z hb
     exact ⟨z, rfl, hb.2, (Option.some.inj h).symm⟩
   . cases h
 . cases h
theorem wWq {st : Sg} {gs : List V} {o : Out} (h : actPage st gs = some o) : ∃ z y, gs = [.int z, .int y] /\ ¬ ((0 <= z /\ z < 4) /\ 0 <= y /\ y < 2) /\ o = .ex .np st := by
 unfold actPage at h
 split at h
 . split at h
   . rename_i z y hb
     exact ⟨z, y, rfl, hb.2, (Option.some.inj h).symm⟩
   . cases h
 . cases h
theorem wQv {st : Sg} {gs : List V} {o : Out} (h : actRead st gs = some o) : st = .b /\ ∃ z, gs = [.int z] /\ ((¬ (0 <= z /\ z < 4) /\ o = .ex .ns st) \/ (z = 0 /\ o = .ok "7" .b) \/ (z = 1 /\ o = .ok "0" .b)) := by
 unfold actRead at h
 split at h
 . rename_i z
   split at h
   . rename_i hb
     refine ⟨hb, z, rfl, ?_⟩
     split at h
     . rename_i hz
       exact .inl ⟨hz, (Option.some.inj h).symm⟩
     . split at h
       . rename_i hz
         exact .inr (.inl ⟨hz, (Option.some.inj h).symm⟩)
       . split at h
         . rename_i hz
           exact .inr (.inr ⟨hz, (Option.some.inj h).symm⟩)
         . cases h
   . cases h
 . cases h
theorem xJj {st : Sg} {gs : List V} {o : Out} (h : actWrite st gs = some o) : ∃ z c, gs = [.int z, .int c] /\ ((st = .a /\ z = 0 /\ c = 7 /\ o = .ok "ok" .b) \/ (st = .c /\ z = 1 /\ c = 8 /\ o = .ex .cu .dk) \/ (st = .b /\ ¬ (0 <= z /\ z < 4) /\ o = .ex .ns st)) := by
 unfold actWrite at h
 split at h
 . rename_i z c
   refine ⟨z, c, rfl, ?_⟩
   split at h
   . rename_i hz
     exact .inl ⟨hz.1, hz.2.1, hz.2.2, (Option.some.inj h).symm⟩
   . split at h
     . rename_i hz
       exact .inr (.inl ⟨hz.1, hz.2.1, hz.2.2, (Option.some.inj h).symm⟩)
     . split at h
       . rename_i hz
         exact .inr (.inr ⟨hz.1, hz.2, (Option.some.inj h).symm⟩)
       . cases h
 . cases h
theorem act_cu {st : Sg} {n : Str} {gs : List V} {g : Sg} (h : act st n gs = some (.ex .cu g)) : g = .dk := by
 unfold act at h
 split at h
 . obtain ⟨b, g', m, _, ⟨_, z⟩ | ⟨_, _, _, _, z⟩⟩ := wWw h <;> cases z
 split at h
 . cases h
 split at h
 . split at h <;> cases h
 split at h
 . obtain ⟨_, l, _, _, z⟩ := xJk h
   cases z
 split at h
 . obtain ⟨z, _, _, e⟩ := wQk h
   cases e
 split at h
 . cases h
 split at h
 . obtain ⟨z, y, _, _, e⟩ := wWq h
   cases e
 split at h
 . cases h
 split at h
 . obtain ⟨_, z, _, ⟨_, e⟩ | ⟨_, e⟩ | ⟨_, e⟩⟩ := wQv h <;> cases e
 . obtain ⟨z, c, _, ⟨_, _, _, e⟩ | ⟨_, _, _, e⟩ | ⟨_, _, e⟩⟩ := xJj h <;> cases e
   rfl
def clsR (cND cBS cNP cNS cCu : Addr) : Rf -> Addr
 | .nd => cND
 | .bs => cBS
 | .np => cNP
 | .ns => cNS
 | .cu => cCu
structure TxtX (K : PySem.W.Frag) (cBR cND cBS cNP cNS cBC cCu : Addr) : Prop where
 br : PySem.W.exmOne K (.ref cBR) (.ref cBR) = some true
 nd0 : PySem.W.exmOne K (.ref cND) (.ref cBR) = some false
 nd : PySem.W.exmOne K (.ref cND) (.ref cND) = some true
 bs0 : PySem.W.exmOne K (.ref cBS) (.ref cBR) = some false
 bs1 : PySem.W.exmOne K (.ref cBS) (.ref cND) = some false
 bs : PySem.W.exmOne K (.ref cBS) (.ref cBS) = some true
 np0 : PySem.W.exmOne K (.ref cNP) (.ref cBR) = some false
 np1 : PySem.W.exmOne K (.ref cNP) (.ref cND) = some false
 np2 : PySem.W.exmOne K (.ref cNP) (.ref cBS) = some false
 np : PySem.W.exmOne K (.ref cNP) (.ref cNP) = some true
 ns0 : PySem.W.exmOne K (.ref cNS) (.ref cBR) = some false
 ns1 : PySem.W.exmOne K (.ref cNS) (.ref cND) = some false
 ns2 : PySem.W.exmOne K (.ref cNS) (.ref cBS) = some false
 ns3 : PySem.W.exmOne K (.ref cNS) (.ref cNP) = some false
 ns : PySem.W.exmOne K (.ref cNS) (.ref cNS) = some true
 cu0 : PySem.W.exmOne K (.ref cCu) (.ref cBR) = some false
 cu1 : PySem.W.exmOne K (.ref cCu) (.ref cND) = some false
 cu2 : PySem.W.exmOne K (.ref cCu) (.ref cBS) = some false
 cu3 : PySem.W.exmOne K (.ref cCu) (.ref cNP) = some false
 cu4 : PySem.W.exmOne K (.ref cCu) (.ref cNS) = some false
 cu5 : PySem.W.exmOne K (.ref cCu) (.ref cBC) = some false
 cu : PySem.W.exmOne K (.ref cCu) (.ref cCu) = some true
section
variable {P : Program} {w : World} {K : PySem.W.Frag} {mg : Str -> Option Value} {base : Heap} {C DK KD cBS cNP cNE cNS cBC cCu cWE cBR cND NU : Addr}
def EndsK (C DK KD cND cBS cNP cNS cCu : Addr) (H : Hp) (q : Addr) (F : List Addr) (Q : VK) (E : XK) : Out -> Prop
 | .ok a g => ∀ H' F', DeskAt C DK KD H' q F' g -> Did H H' F F' -> Q (.str a) H'
 | .ex r g => ∀ H' F' x, DeskAt C DK KD H' q F' g -> Did H H' F F' -> E (.ref (clsR cND cBS cNP cNS cCu r)) (some x) H'
def spKDone (C DK KD cND cBS cNP cNS cCu : Addr) : Sp := fun vs H Q E => ∃ (q : Addr) (F : List Addr) (st : Sg) (n : Str) (l : Addr) (gs : List V) (o : Out), vs = [.ref q, .str n, .ref l] /\ DeskAt C DK KD H q F st /\ st ≠ .dk /\ H l = some (.lst gs) /\ act st n gs = some o /\ EndsK C DK KD cND cBS cNP cNS cCu H q F Q E o
theorem scKD : FnScope ["self", "name", "given"] ["self", "name", "given"] (defScope sKDone) := ⟨rfl, rfl, rfl, by decide +kernel, rfl, by decide +kernel, by decide +kernel⟩
theorem ok_kdone {f : Addr} {fd : FuncData} (F : Fun K "done" "Desk.done" sKDone f fd) (T : Txt K mg C cBS cNP cNE cNS cBC cCu cWE) (TD : TxtD K mg DK cNS cBC) (TK : TxtK K mg KD cBR cND NU)
   (D_make_chip : MtB P w K mg base KD 60 "make_chip" ["self", "blocks", "pages", "many"] (spKMake C DK KD cBS)) (D_mount : MtB P w K mg base KD 60 "mount" ["self"] (spKMount C DK KD)) (D_set_power : MtB P w K mg base KD 52 "set_power" ["self", "many"] (spKPower C DK KD))
   (D_write : MtB P w K mg base KD 58 "write" ["self", "sector", "content"] (spKWrite C DK KD cNS cCu)) (M_worn : MtB P w K mg base C 52 "worn" ["self", "block"] (xpWorn C cNP)) (M_written : MtB P w K mg base C 51 "written" ["self"] (xpWritten C))
   (M_page : MtB P w K mg base C 53 "page" ["self", "block", "page"] (xpPage C cNP)) (B_page_kind : FnB P w K mg base 51 "page_kind" ["thing"] spPKind) (N_read : MtB P w K mg base DK 54 "read" ["self", "sector"] (xpDRead C DK cNS)) :
   FnOk P w K mg base (CXw P w) 61 f fd ["self", "name", "given"] (spKDone C DK KD cND cBS cNP cNS cCu) := by
 refine F.okX (by decide) scKD (fun vs H Q E h => ?_) (fun cdv A outer s H vs Q E hr h => ?_)
 . obtain ⟨q, F, st, n, l, gs, o, rfl, _⟩ := h
   rfl
 . obtain ⟨q, F, st, n, l, gs, o, rfl, A1, ndk, hl, ho, h⟩ := h
   refine ⟨_, (@zQj _ _ _ _ _ (@yQq _ _ _ _ _ _ _ _ (@zKz _ _ _ _ _ _ _ _ (@xQx _) (pv 1) (@zQv _ _ _ _) (@nomark _ _ (by decide) (by decide))) (@zWw _ _ _ (@zWv _ _ _ _ (@zZj _ _ _ _ _ _ _ _ _ _ _ _ _ _ _ TK.cl D_make_chip (hr.mono (by decide)) zWj (pv 0) (@zQw _ _ _ _ _ (@zJw _ _ _ _ _ _ _ (@zJx _) (pv 2) zWz (fun _ _ => rfl)) (@zQw _ _ _ _ _ (@zJw _ _ _ _ _ _ _ (@zJx _) (pv 2) zWz (fun _ _ => rfl)) (@zQw _ _ _ _ _ (@zJw _ _ _ _ _ _ _ (@zJx _) (pv 2) zWz (fun _ _ => rfl)) zQk (by exact zQq rfl)) (by exact zQq rfl)) (by exact zQq rfl)) (by exact zQq rfl) (by exact zQx rfl) (by rfl)))) (@zZw _)) (@zQj _ _ _ _ _ (@yQq _ _ _ _ _ _ _ _ (@xKj _ _ _ _ _ _ (@pc_isN _ _ _ _ _ (@zZq _ _ _ _ _ (pv 0) rfl)) (by first | exact nobehind _ (by decide) (by decide) | rfl)) (@zWw _ _ _ (@zKk _ _ _ _ _ _ _ _ _ _ zKj TK.x_NoDisk rfl rfl TK.g_NoDisk (@zQw _ _ _ _ _ (@zQv _ _ _ _) zQk (by exact zQq rfl)) (by decide) (by exact zQq rfl) (by exact zQx rfl))) (@zZw _)) (@zQj _ _ _ _ _ (@yQq _ _ _ _ _ _ _ _ (@zKz _ _ _ _ _ _ _ _ (@xQx _) (pv 1) (@zQv _ _ _ _) (@nomark _ _ (by decide) (by decide))) (@zWw _ _ _ (@zWv _ _ _ _ (@zZk _ _ _ _ _ _ _ _ _ _ _ _ TK.cl D_mount (hr.mono (by decide)) zWj (pv 0) (by rfl)))) (@zZw _)) (@zQj _ _ _ _ _ (@yQq _ _ _ _ _ _ _ _ (@zKz _ _ _ _ _ _ _ _ (@xQx _) (pv 1) (@zQv _ _ _ _) (@nomark _ _ (by decide) (by decide))) (@zWw _ _ _ (@zWv _ _ _ _ (@zZj _ _ _ _ _ _ _ _ _ _ _ _ _ _ _ TK.cl D_set_power (hr.mono (by decide)) (@passE _ _ _) (pv 0) (@zQw _ _ _ _ _ (@zJw _ _ _ _ _ _ _ (@zJx _) (pv 2) zWz (fun _ _ => rfl)) zQk (by exact zQq rfl)) (by exact zQq rfl) (by exact zQx rfl) (by rfl)))) (@zZw _)) (@zQj _ _ _ _ _ (@yQq _ _ _ _ _ _ _ _ (@zKz _ _ _ _ _ _ _ _ (@xQx _) (pv 1) (@zQv _ _ _ _) (@nomark _ _ (by decide) (by decide))) (@zWw _ _ _ (@zWv _ _ _ _ (@yKk _ _ _ _ _ _ _ _ _ (@yJv _) rfl TK.n_str PyProof.Rows.Boot.«str» (@zQw _ _ _ _ _ (@zZj _ _ _ _ _ _ _ _ _ _ _ _ _ _ _ T.cl M_worn (hr.mono (by decide)) zWj (@zZq _ _ _ _ _ (pv 0) rfl) (@zQw _ _ _ _ _ (@zJw _ _ _ _ _ _ _ (@zJx _) (pv 2) zWz (fun _ _ => rfl)) zQk (by exact zQq rfl)) (by exact zQq rfl) (by exact zQx rfl) (by rfl)) zQk (by exact zQq rfl)) (by decide) (by decide) (by exact zQq rfl) (by exact zQx rfl)))) (@zZw _)) (@zQj _ _ _ _ _ (@yQq _ _ _ _ _ _ _ _ (@zKz _ _ _ _ _ _ _ _ (@xQx _) (pv 1) (@zQv _ _ _ _) (@nomark _ _ (by decide) (by decide))) (@zWw _ _ _ (@zWv _ _ _ _ (@yKk _ _ _ _ _ _ _ _ _ (@yJv _) rfl TK.n_str PyProof.Rows.Boot.«str» (@zQw _ _ _ _ _ (@zZk _ _ _ _ _ _ _ _ _ _ _ _ T.cl M_written (hr.mono (by decide)) (@passE _ _ _) (@zZq _ _ _ _ _ (pv 0) rfl) (by rfl)) zQk (by exact zQq rfl)) (by decide) (by decide) (by exact zQq rfl) (by exact zQx rfl)))) (@zZw _)) (@zQj _ _ _ _ _ (@yQq _ _ _ _ _ _ _ _ (@zKz _ _ _ _ _ _ _ _ (@xQx _) (pv 1) (@zQv _ _ _ _) (@nomark _ _ (by decide) (by decide))) (@zWw _ _ _ (@zWv _ _ _ _ (@zZx _ _ _ _ _ _ _ _ _ _ _ B_page_kind (hr.mono (by decide)) rfl (@passE _ _ _) (@zQw _ _ _ _ _ (@zZj _ _ _ _ _ _ _ _ _ _ _ _ _ _ _ T.cl M_page (hr.mono (by decide)) zWj (@zZq _ _ _ _ _ (pv 0) rfl) (@zQw _ _ _ _ _ (@zJw _ _ _ _ _ _ _ (@zJx _) (pv 2) zWz (fun _ _ => rfl)) (@zQw _ _ _ _ _ (@zJw _ _ _ _ _ _ _ (@zJx _) (pv 2) zWz (fun _ _ => rfl)) zQk (by exact zQq rfl)) (by exact zQq rfl)) (by exact zQq rfl) (by exact zQx rfl) (by rfl)) zQk (by exact zQq rfl)) (by decide) (by exact zQq rfl) (by exact zQx rfl)))) (@zZw _)) (@zQj _ _ _ _ _ (@yQq _ _ _ _ _ _ _ _ (@xKj _ _ _ _ _ _ (@pc_isN _ _ _ _ _ (@zZq _ _ _ _ _ (pv 0) rfl)) (by first | exact nobehind _ (by decide) (by decide) | rfl)) (@zWw _ _ _ (@zKk _ _ _ _ _ _ _ _ _ _ zKj TK.x_NoDisk rfl rfl TK.g_NoDisk (@zQw _ _ _ _ _ (@zQv _ _ _ _) zQk (by exact zQq rfl)) (by decide) (by exact zQq rfl) (by exact zQx rfl))) (@zZw _)) (@zQj _ _ _ _ _ (@yQq _ _ _ _ _ _ _ _ (@zKz _ _ _ _ _ _ _ _ (@xQx _) (pv 1) (@zQv _ _ _ _) (@nomark _ _ (by decide) (by decide))) (@zWw _ _ _ (@zWv _ _ _ _ (@yKk _ _ _ _ _ _ _ _ _ (@yJv _) rfl TK.n_str PyProof.Rows.Boot.«str» (@zQw _ _ _ _ _ (@zZj _ _ _ _ _ _ _ _ _ _ _ _ _ _ _ TD.cl N_read (hr.mono (by decide)) zWj (@zZq _ _ _ _ _ (pv 0) rfl) (@zQw _ _ _ _ _ (@zJw _ _ _ _ _ _ _ (@zJx _) (pv 2) zWz (fun _ _ => rfl)) zQk (by exact zQq rfl)) (by exact zQq rfl) (by exact zQx rfl) (by rfl)) zQk (by exact zQq rfl)) (by decide) (by decide) (by exact zQq rfl) (by exact zQx rfl)))) (@zZw _)) (@zWw _ _ _ (@zWv _ _ _ _ (@zZj _ _ _ _ _ _ _ _ _ _ _ _ _ _ _ TK.cl D_write (hr.mono (by decide)) zWj (pv 0) (@zQw _ _ _ _ _ (@zJw _ _ _ _ _ _ _ (@zJx _) (pv 2) zWz (fun _ _ => rfl)) (@zQw _ _ _ _ _ (@zJw _ _ _ _ _ _ _ (@zJx _) (pv 2) zWz (fun _ _ => rfl)) zQk (by exact zQq rfl)) (by exact zQq rfl)) (by exact zQq rfl) (by exact zQx rfl) (by rfl))))))))))))), ?_⟩
   obtain ⟨dxq, vc, vd, mq, hq, c0, c1, c2⟩ := A1.ob
   unfold act at ho
   refine ⟨_, rfl, rfl, _, rfl, ?_⟩
   by_cases hn : n = "chip"
   . subst hn
     rw [if_pos rfl] at ho
     obtain ⟨b, g, m, rfl, hh⟩ := wWw ho
     refine iteD rfl ⟨_, rfl, q, dxq, _, rfl, hq, rfl, _, rfl, l, _, _, _, rfl, rfl, SqL.of hl, at0, _, rfl, l, _, _, _, rfl, rfl, SqL.of hl, at1, _, rfl, l, _, _, _, rfl, rfl, SqL.of hl, at2, q, F, st, b, g, m, rfl, A1, ?_⟩
     rcases hh with ⟨bad, rfl⟩ | ⟨e1, e2, e3, e4, rfl⟩
     . exact .inl ⟨bad, fun H' x s' => h H' F x (A1.same s') (.same s')⟩
     . exact .inr ⟨e1, e2, e3, e4, h⟩
   rw [if_neg hn] at ho
   refine iteDn (fun z => hn (V.str.inj z)) ?_
   refine ⟨_, rfl, q, KD, dxq, _, _, rfl, hq, TK.cl, TK.aC, rfl, _, rfl, ?_⟩
   by_cases hno : st = .no
   . subst hno
     rw [if_pos rfl] at ho
     cases ho
     rw [c0 rfl]
     exact iteD rfl ⟨by show 1 <= sizeLine; decide, fun x => h H F x A1 .refl⟩
   rw [if_neg hno] at ho
   obtain ⟨p, rfl⟩ := c1 hno
   refine iteDn (fun z => nomatch z) ?_
   refine ⟨_, rfl, rfl, _, rfl, ?_⟩
   by_cases hn : n = "mount"
   . subst hn
     rw [if_pos rfl] at ho
     split at ho
     . rename_i e
       subst e
       cases ho
       exact iteD rfl ⟨_, rfl, q, dxq, _, rfl, hq, rfl, q, F, rfl, A1, h⟩
     . cases ho
   rw [if_neg hn] at ho
   refine iteDn (fun z => hn (V.str.inj z)) ?_
   refine ⟨_, rfl, rfl, _, rfl, ?_⟩
   by_cases hn : n = "power"
   . subst hn
     rw [if_pos rfl] at ho
     obtain ⟨rfl, lo, rfl, e, rfl⟩ := xJk ho
     exact iteD rfl ⟨_, rfl, q, dxq, _, rfl, hq, rfl, _, rfl, l, _, _, _, rfl, rfl, SqL.of hl, at0, q, F, lo, rfl, A1, e, h⟩
   rw [if_neg hn] at ho
   refine iteDn (fun z => hn (V.str.inj z)) ?_
   obtain ⟨dxq', p', vd', G, fp, hq', ch, eb, ep⟩ := A1.chip hno
   rw [hq] at hq'
   cases hq'
   obtain ⟨dxc, S, h5, el, hc⟩ := ch.at_
   refine ⟨_, rfl, rfl, _, rfl, ?_⟩
   by_cases hn : n = "worn"
   . subst hn
     rw [if_pos rfl] at ho
     obtain ⟨z, rfl, bad, rfl⟩ := wQk ho
     exact iteD rfl ⟨_, rfl, q, KD, dxq, _, _, rfl, hq, TK.cl, TK.aC, rfl, p, dxc, _, rfl, hc, rfl, _, rfl, l, _, _, _, rfl, rfl, SqL.of hl, at0, use_wornbad ch (by rw [eb]; exact bad) fun x => h H F x A1 .refl⟩
   rw [if_neg hn] at ho
   refine iteDn (fun z => hn (V.str.inj z)) ?_
   refine ⟨_, rfl, rfl, _, rfl, ?_⟩
   by_cases hn : n = "written"
   . subst hn
     rw [if_pos rfl] at ho
     cases ho
   rw [if_neg hn] at ho
   refine iteDn (fun z => hn (V.str.inj z)) ?_
   refine ⟨_, rfl, rfl, _, rfl, ?_⟩
   by_cases hn : n = "page"
   . subst hn
     rw [if_pos rfl] at ho
     obtain ⟨z, y, rfl, bad, rfl⟩ := wWq ho
     exact iteD rfl ⟨_, rfl, q, KD, dxq, _, _, rfl, hq, TK.cl, TK.aC, rfl, p, dxc, _, rfl, hc, rfl, _, rfl, l, _, _, _, rfl, rfl, SqL.of hl, at0, _, rfl, l, _, _, _, rfl, rfl, SqL.of hl, at1, use_pagebad ch (by rw [eb, ep]; exact bad) fun x => h H F x A1 .refl⟩
   rw [if_neg hn] at ho
   refine iteDn (fun z => hn (V.str.inj z)) ?_
   refine ⟨_, rfl, q, KD, dxq, _, _, rfl, hq, TK.cl, TK.aD, rfl, _, rfl, ?_⟩
   by_cases hcut : st = .cut
   . subst hcut
     rw [if_pos rfl] at ho
     cases ho
     rw [c2 rfl]
     exact iteD rfl ⟨by show 1 <= sizeLine; decide, fun x => h H F x A1 .refl⟩
   rw [if_neg hcut] at ho
   have on : ∃ d, vd = V.ref d := by
     cases st with
     | no => exact absurd rfl hno
     | cut => exact absurd rfl hcut
     | dk => exact absurd rfl ndk
     | a => obtain ⟨p, d, pa, D, fp, e, O, r⟩ := A1; obtain ⟨dx, z⟩ := O.ob; rw [hq] at z; cases z; exact ⟨d, rfl⟩
     | b => obtain ⟨p, d, pa, D, fp, e, O, r⟩ := A1; obtain ⟨dx, z⟩ := O.ob; rw [hq] at z; cases z; exact ⟨d, rfl⟩
     | c => obtain ⟨p, d, pa, D, fp, e, O, r⟩ := A1; obtain ⟨dx, z⟩ := O.ob; rw [hq] at z; cases z; exact ⟨d, rfl⟩
   obtain ⟨d, rfl⟩ := on
   refine iteDn (fun z => nomatch z) ?_
   refine ⟨_, rfl, rfl, _, rfl, ?_⟩
   by_cases hn : n = "read"
   . subst hn
     rw [if_pos rfl] at ho
     obtain ⟨rfl, z, rfl, hh⟩ := wQv ho
     have A2 := A1
     obtain ⟨p2, d2, pa, D, fp2, e, O, lit, v0, v1⟩ := A2
     obtain ⟨dx2, z2⟩ := O.ob
     rw [hq] at z2
     cases z2
     obtain ⟨dxd, hd⟩ := O.dx.ob
     refine iteD rfl ⟨_, rfl, q, KD, dxq, _, _, rfl, hq, TK.cl, TK.aD, rfl, d, dxd, _, rfl, hd, rfl, _, rfl, l, _, _, _, rfl, rfl, SqL.of hl, at0, ?_⟩
     rcases hh with ⟨bad, rfl⟩ | ⟨rfl, rfl⟩ | ⟨rfl, rfl⟩
     . exact use_rbad O.dx (by rw [O.em]; exact bad) fun x => h H F x A1 .refl
     . refine use_dread (s := 0) O.dx O.wi (by rw [O.em]; decide) fun vr => ?_
       rw [Val.one O.wi.base vr v0]
       exact ⟨7, rfl, by decide, h H F A1 .refl⟩
     . refine use_dread (s := 1) O.dx O.wi (by rw [O.em]; decide) fun vr => ?_
       rw [Val.one O.wi.base vr v1]
       exact ⟨0, rfl, by decide, h H F A1 .refl⟩
   rw [if_neg hn] at ho
   refine iteDn (fun z => hn (V.str.inj z)) ?_
   obtain ⟨z, c, rfl, hh⟩ := xJj ho
   refine ⟨_, rfl, q, dxq, _, rfl, hq, rfl, _, rfl, l, _, _, _, rfl, rfl, SqL.of hl, at0, _, rfl, l, _, _, _, rfl, rfl, SqL.of hl, at1, q, F, st, z, c, rfl, A1, ?_⟩
   rcases hh with ⟨e1, e2, e3, rfl⟩ | ⟨e1, e2, e3, rfl⟩ | ⟨e1, e2, rfl⟩
   . exact .inl ⟨e1, e2, e3, h⟩
   . exact .inr (.inl ⟨e1, e2, e3, h⟩)
   . exact .inr (.inr ⟨e1, e2, fun x => h H F x A1 .refl⟩)
end
section
variable {P : Program} {w : World} {K : PySem.W.Frag} {mg : Str -> Option Value} {base : Heap} {C DK KD cBS cNP cNE cNS cBC cCu cWE cBR cND NU : Addr}
def spAns (C DK KD : Addr) : Sp := fun vs H Q _ => ∃ (q : Addr) (F : List Addr) (st : Sg) (x a : Str) (g : Sg), vs = [.ref q, .str x] /\ DeskAt C DK KD H q F st /\ st ≠ .dk /\ rowOk x = true /\ ans st x = some (a, g) /\
 ∀ H' F', DeskAt C DK KD H' q F' g -> Did H H' F F' -> Q (.str a) H'
theorem scAn : FnScope ["desk", "row", "step"] ["desk", "row"] (defScope sAnswer) := ⟨rfl, rfl, rfl, by decide +kernel, rfl, by decide +kernel, by decide +kernel⟩
theorem ok_answer {f : Addr} {fd : FuncData} (F : Fun K "answer_to" "answer_to" sAnswer f fd) (T : Txt K mg C cBS cNP cNE cNS cBC cCu cWE) (TK : TxtK K mg KD cBR cND NU) (TX : TxtX K cBR cND cBS cNP cNS cBC cCu)
   (B_parsed : FnB P w K mg base 52 "parsed" ["row"] (spParsed cBR)) (D_done : MtB P w K mg base KD 61 "done" ["self", "name", "given"] (spKDone C DK KD cND cBS cNP cNS cCu)) (D_lose_disk : MtB P w K mg base KD 41 "lose_disk" ["self"] (spKLose C DK KD)) :
   FnOk P w K mg base (CXw P w) 62 f fd ["desk", "row"] (spAns C DK KD) := by
 refine F.okX (by decide) scAn (fun vs H Q E h => ?_) (fun cdv A outer s H vs Q E hr h => ?_)
 . obtain ⟨q, F, st, x, a, g, rfl, _⟩ := h
   rfl
 . obtain ⟨q, F, st, x, a, g, rfl, A1, ndk, ok, ha, h⟩ := h
   obtain ⟨EH1, hE1⟩ : ∃ E : XK, E = fun cls _ H' => cls = .ref cBR /\ Same H H' /\ pz x = none := ⟨_, rfl⟩
   obtain ⟨EH2, hE2⟩ : ∃ E : XK, E = fun cls _ H' => ∃ n gs r g' F', pz x = some (n, gs) /\ act st n gs = some (.ex r g') /\ cls = .ref (clsR cND cBS cNP cNS cCu r) /\ DeskAt C DK KD H' q F' g' /\ Did H H' F F' := ⟨_, rfl⟩
   refine ⟨_, (@zWw _ _ _ (@ps_tryR _ _ _ _ _ _ _ (EH1) (EH2) _ _ ⟨rfl, rfl⟩ (.cons rfl TK.g_BadRow (by decide) (fun xh pn => (zWw (zWv zQv)))
     (.cons rfl TK.g_NoDisk (by decide) (fun xh pn => (zWw (zWv zQv)))
     (.cons rfl T.g_BadSize (by decide) (fun xh pn => (zWw (zWv zQv)))
     (.cons rfl T.g_NoPage (by decide) (fun xh pn => (zWw (zWv zQv)))
     (.cons rfl T.g_NoSector (by decide) (fun xh pn => (zWw (zWv zQv)))
     (.cons rfl T.g_BadContent (by decide) (fun xh pn => (zWw (zWv zQv)))
     (.cons rfl T.g_Cut (by decide) (fun xh pn => (zQj (zJj (zZk TK.cl D_lose_disk (hr.mark (by decide) (by decide) _) passE (pv 0)))
     (zWw (zWv zQv))))
     .nil))))))) (by intro z; cases z) (fun pn xe hP => (@zJq _ _ (2) _ _ _ _ scAn.nd rfl (Or.inl rfl) (@zZx _ _ _ _ _ _ _ _ _ _ _ B_parsed (hr.mono (by decide)) rfl hP (@zQw _ _ _ _ _ (pv 1) zQk (by exact zQq rfl)) (by decide) (by exact zQq rfl) (by exact zQx rfl)) (by rfl) (by first | exact .inl rfl | exact .inr rfl | assumption))) (fun pn xe σ hP => (@pe_methAt _ _ _ _ _ _ _ _ _ _ _ _ _ _ _ _ TK.cl D_done (hr.mono (by decide)) hP (pv 0) (@zQw _ _ _ _ _ (@zJw _ _ _ _ _ _ _ (@ix_tupK _ (K) rfl) (pv 2) zWz (fun _ _ => rfl)) (@zQw _ _ _ _ _ (@zJw _ _ _ _ _ _ _ (@ix_tupK _ (K) rfl) (pv 2) zWz (fun _ _ => rfl)) zQk (by exact zQq rfl)) (by exact zQq rfl)) (by exact zQq rfl) (by exact zQx rfl) (by rfl))))), ?_, ?_⟩
   . refine ⟨_, rfl, x, rfl, ok, ?_⟩
     cases ep : pz x with
     | none => exact fun H' y s' => by rw [hE1]; exact ⟨rfl, s', ep⟩
     | some ng =>
       obtain ⟨n, gs⟩ := ng
       intro t l H1 ht hl s1
       have A2 := A1.same s1
       cases eo : act st n gs with
       | none =>
         unfold ans at ha
         rw [ep] at ha
         dsimp only at ha
         rw [eo] at ha
         cases ha
       | some o =>
         obtain ⟨dxq, vc, vd, mq, hq, _⟩ := A2.ob
         refine ⟨⟨_, rfl, q, dxq, _, rfl, hq, rfl, _, rfl, t, _, _, _, rfl, rfl, SqT.of ht, at0, _, rfl, t, _, _, _, rfl, rfl, SqT.of ht, at1, q, F, st, n, l, gs, o, rfl, A2, ndk, hl, eo, ?_⟩, ?_⟩
         . cases o with
           | ok a' g' =>
             unfold ans at ha
             rw [ep] at ha
             dsimp only at ha
             rw [eo] at ha
             cases ha
             exact fun H' F' A' k' => h H' F' A' ((Did.same s1).trans k')
           | ex r g' => exact fun H' F' y A' k' => by rw [hE2]; exact ⟨n, gs, r, g', F', ep, eo, rfl, A', (Did.same s1).trans k'⟩
         . intro cls y H' q2 ny
           rw [hE2] at q2
           obtain ⟨n', gs', r, g', F', ep', eo', rfl, A', k'⟩ := q2
           unfold ans at ha
           rw [ep'] at ha
           dsimp only at ha
           rw [eo'] at ha
           cases ha
           have sy := zWq (o := excO y (.ref (clsR cND cBS cNP cNS cCu r))) ny
           have A3 := A'.same sy
           have k3 := k'.trans (.same sy)
           cases r with
           | nd => exact .inr ⟨TX.nd0, .inl ⟨TX.nd, h _ F' A3 k3⟩⟩
           | bs => exact .inr ⟨TX.bs0, .inr ⟨TX.bs1, .inl ⟨TX.bs, h _ F' A3 k3⟩⟩⟩
           | np => exact .inr ⟨TX.np0, .inr ⟨TX.np1, .inr ⟨TX.np2, .inl ⟨TX.np, h _ F' A3 k3⟩⟩⟩⟩
           | ns => exact .inr ⟨TX.ns0, .inr ⟨TX.ns1, .inr ⟨TX.ns2, .inr ⟨TX.ns3, .inl ⟨TX.ns, h _ F' A3 k3⟩⟩⟩⟩⟩
           | cu =>
             cases act_cu eo'
             obtain ⟨dxy, vc', vd', mq', hqy, _⟩ := A3.ob
             exact .inr ⟨TX.cu0, .inr ⟨TX.cu1, .inr ⟨TX.cu2, .inr ⟨TX.cu3, .inr ⟨TX.cu4, .inr ⟨TX.cu5, .inl ⟨TX.cu, _, rfl, q, dxy, _, rfl, hqy, rfl, q, F', rfl, A3, fun H4 F4 A4 k4 => h H4 F4 A4 (k3.trans k4)⟩⟩⟩⟩⟩⟩⟩
   . intro cls y H' q2 ny σ' _
     rw [hE1] at q2
     obtain ⟨rfl, s', ep⟩ := q2
     unfold ans at ha
     rw [ep] at ha
     cases ha
     have sy := zWq (o := excO y (.ref cBR)) ny
     exact .inl ⟨TX.br, h _ F (A1.same (s'.trans sy)) (.same (s'.trans sy))⟩
def spPlay : Sp := fun vs H Q _ => ∃ (L : List Str) (g : Sg) (U : List Str), vs = [.str (Txt.join "\n" L)] /\ L ≠ [] /\ (∀ x ∈ L, 10 ∉ x.cps.toList /\ rowOk x = true) /\ L.length <= 200 /\ runL L = some (g, U) /\ ∀ l H', H' l = some (.lst (U.map V.str)) -> Same H H' -> Q (.ref l) H'
theorem scPl : FnScope ["text", "desk"] ["text"] (defScope sPlay) := ⟨rfl, rfl, rfl, by decide +kernel, rfl, by decide +kernel, by decide +kernel⟩
theorem ok_play {f : Addr} {fd : FuncData} (F : Fun K "play" "play" sPlay f fd) (T : Txt K mg C cBS cNP cNE cNS cBC cCu cWE) (TK : TxtK K mg KD cBR cND NU)
   (B_Desk : MkB P w K mg base KD 51 "Desk" ["self"] (spKInit KD)) (B_answer_to : FnB P w K mg base 62 "answer_to" ["desk", "row"] (spAns C DK KD)) : FnOk P w K mg base (CXw P w) 65 f fd ["text"] spPlay := by
 refine F.okX (by decide) scPl (fun vs H Q E h => ?_) (fun cdv A outer s H vs Q E hr h => ?_)
 . obtain ⟨L, g, U, rfl, _⟩ := h
   rfl
 . obtain ⟨L, g, U, rfl, ne, hL, hlen, hrun, h⟩ := h
   refine ⟨_, (@zQj _ _ _ _ _ (@zJq _ _ (1) _ _ _ _ scPl.nd rfl (Or.inr rfl) (@pe_makeF0 _ _ _ _ _ _ _ _ _ B_Desk (hr.mono (by decide)) rfl (@passE _ _ _) (by decide)) (by rfl) (by first | exact .inl rfl | exact .inr rfl | assumption)) (@zWw _ _ _ (@zWv _ _ _ _ (@yJw _ _ _ _ _ _ _ _ ([1]) (["desk"]) _ _ _ rfl (@yWw _ _ _ _ (@pe_bm _ _ _ _ _ _ _ _ _ _ _ _ PySem.F.plainAttrs_str PySem.F.slot_str_split PySem.F.type_str_split (@mt_split _) (pv 0) (@zQw _ _ _ _ _ (@zQv _ _ _ _) zQk (by exact zQq rfl)) (by rfl) (by rfl) (by rfl) (by exact zQq rfl) (by exact zQx rfl))) rfl (by decide +kernel) (by decide +kernel) (by decide +kernel) (by show ∀ y : Str × NameKind, y ∈ _ -> y.2 = NameKind.free -> List.lookup y.1 (defScope sPlay).names = some NameKind.cell; decide +kernel) (by show ∀ p : Str × Nat, p ∈ _ -> List.lookup p.1 _ = some NameKind.free /\ (["text", "desk"] : List Str)[p.2]? = some p.1; decide +kernel) rfl (by decide +kernel) (fun _ _ _ _ _ => (@pts_one _ _ _ (@zKz _ _ _ _ _ _ _ _ (@op_ne _) (@pe_bmK _ _ (K) _ _ _ _ _ _ _ _ _ _ rfl PySem.F.plainAttrs_str PySem.F.slot_str_strip PySem.F.type_str_strip (@mt_strip _) (pv 0) (@zQw _ _ _ _ _ (@zQv _ _ _ _) zQk (by exact zQq rfl)) (by rfl) (by rfl) (by rfl) (by exact zQq rfl) (by exact zQx rfl)) (@zQv _ _ _ _) (@nomark _ _ (by decide) (by decide))))) (fun _ _ _ _ _ => (@zZx _ _ _ _ _ _ _ _ _ _ _ B_answer_to (hr.mono (by decide)) rfl (@passE _ _ _) (@zQw _ _ _ _ _ (pv 1) (@zQw _ _ _ _ _ (pv 0) zQk (by exact zQq rfl)) (by exact zQq rfl)) (by decide) (by exact zQq rfl) (by exact zQx rfl))) (by intro _; rfl))))), ?_⟩
   have hlen2 : (Txt.join "\n" L).length <= 30000 := by
     have e : Txt.join "\n" L = Str.join "\n" L := StrLaws.glued_eq_join _ _
     have h1 := StrLaws.join_length_le "\n" L
     have h2 := StrLaws.sumLen_le (B := 100) L fun y m => by
       have := (hL y m).2
       unfold rowOk at this
       exact of_decide_eq_true (Bool.and_eq_true_iff.mp this).1
     rw [e]
     have one : ("\n" : Str).length = 1 := rfl
     rw [one] at h1
     omega
   have big : 40000 <= sizeLine := by decide
   have hsp : Txt.split (Txt.join "\n" L) "\n" = L := split_join (c := 10) (by decide) ne fun x m => (hL x m).1
   refine fun q dx nq ndq neq => ⟨q, dx, rfl, zQz, fun H1 hq1 k1 => ⟨rfl, ?_⟩⟩
   obtain ⟨dxq, hq1⟩ := hq1
   have s0 : Same H (upd (upd H dx (.own q)) q (.ins KD dx [])) := (zWq ndq).trans (zWq (by rw [zWx (Ne.symm neq)]; exact nq))
   have s1 : Same H H1 := fun b o e => k1 b o (s0 b o e) (by have := zWk e nq; simpa using this)
   show tComp _ _ _ _ _ _ _
   unfold tComp
   refine ⟨_, rfl, rfl, _, "\n", rfl, rfl, rfl, by omega, Nat.le_trans (parts_few _ 10) (by omega), by rw [hsp]; omega, fun l nl => ⟨l, rfl, ⟨_, SqL.of zQz⟩, fun acc nacc => ?_⟩⟩
   rw [hsp] at nacc ⊢
   have s2 : Same H1 (upd H1 l (.lst (L.map V.str))) := zWq nl
   have nal : l ≠ acc := fun z => by rw [<- z, zQz] at nacc; cases nacc
   have nacc0 : H acc = none := (s1.trans s2).free nacc
   have nl0 : H l = none := s1.free nl
   refine ⟨fun i m ys H2 => i + m = L.length /\ ∃ g U F, runL (L.take i) = some (g, U) /\ g ≠ .dk /\ ys = U.map V.str /\ U.length <= i /\ DeskAt C DK KD H2 q F g /\ H2 l = some (.lst (L.map V.str)) /\ H2 acc = some (.lst ys) /\ Same H H2 /\ (∀ b ∈ F, H b = none) /\ l ∉ F /\ acc ∉ F, ⟨L.length, by omega, .no, [], [q], rfl, (by intro z; cases z), rfl, Nat.le_refl _, ⟨rfl, dxq, ?_⟩, ?_, zQz, ?_, ?_, ?_, ?_⟩, ?_⟩
   . rw [zWx (zWk (s2 _ _ hq1) nacc)]
     exact s2 _ _ hq1
   . rw [zWx nal]
     exact zQz
   . exact (s1.trans s2).trans (zWq nacc)
   . exact fun b m => by rw [List.mem_singleton.mp m]; exact nq
   . exact fun m => by rw [List.mem_singleton.mp m, hq1] at nl; cases nl
   . exact fun m => by rw [List.mem_singleton.mp m, s2 _ _ hq1] at nacc; cases nacc
   rintro i m ys H2 ⟨him, g2, U2, F2, r2, nd2, rfl, ul2, A2, hl2, ha2, sm2, fr2, nl2, na2⟩
   by_cases hi : i < L.length
   . refine .inr ⟨⟨_, (L.map V.str)[i]'(by simpa using hi), SqL.of hl2, by simp [hi]⟩, fun x H3 yl => ?_⟩
     obtain ⟨rfl, yl⟩ := yl
     have hx := yl _ (SqL.of hl2)
     rw [List.getElem?_map, List.getElem?_eq_getElem hi] at hx
     cases hx
     have hrow := hL L[i] (List.getElem_mem hi)
     have hz : (L[i]).length <= 100 := of_decide_eq_true (Bool.and_eq_true_iff.mp (show (decide ((L[i]).length <= 100) && _) = true from hrow.2)).1
     have tk : L.take (i + 1) = L.take i ++ [L[i]] := List.take_succ_eq_append_getElem hi
     obtain ⟨g3, U3, r3⟩ := runL_take hrun (i + 1)
     have r3' := r3
     rw [tk, xZx, r2] at r3'
     refine ⟨_, rfl, rfl, L[i], " ", rfl, rfl, by omega, rfl, _, rfl, ?_⟩
     by_cases hb : Txt.stripChars L[i] " " = ""
     . have hb' : blank L[i] = true := decide_eq_true hb
       unfold stp at r3'
       dsimp only at r3'
       rw [if_pos hb'] at r3'
       cases r3'
       rw [hb]
       refine iteF ⟨m - 1, by omega, by omega, g2, U2, F2, r3, nd2, rfl, by omega, A2, hl2, ha2, sm2, fr2, nl2, na2⟩
     . have hb' : ¬ blank L[i] = true := fun z => hb (of_decide_eq_true z)
       unfold stp at r3'
       dsimp only at r3'
       rw [if_neg hb'] at r3'
       cases ea : ans g2 L[i] with
       | none => rw [ea] at r3'; cases r3'
       | some ag =>
         obtain ⟨a, g'⟩ := ag
         rw [ea] at r3'
         dsimp only at r3'
         split at r3'
         . cases r3'
         rename_i nd'
         cases r3'
         have hne : decide (V.str (Txt.stripChars L[i] " ") = V.str "") = false := decide_eq_false fun z => hb (V.str.inj z)
         rw [hne]
         refine iteT ⟨_, rfl, _, rfl, q, F2, g2, L[i], a, _, rfl, A2, nd2, hrow.2, ea, fun H4 F4 A4 k4 => ?_⟩
         have ha4 := k4.keep _ _ ha2 na2
         have hl4 := k4.keep _ _ hl2 nl2
         have fr4 : ∀ b ∈ F4, H b = none := fun b mb => by
           rcases k4.new b mb with z | z
           . exact fr2 b z
           . exact sm2.free z
         have na4 : acc ∉ F4 := fun mb => by
           rcases k4.new _ mb with z | z
           . exact na2 z
           . rw [ha2] at z; cases z
         have nl4 : l ∉ F4 := fun mb => by
           rcases k4.new _ mb with z | z
           . exact nl2 z
           . rw [hl2] at z; cases z
         refine ⟨ha4, Nat.lt_of_le_of_lt (by rw [List.length_map]; exact ul2) (by omega), m - 1, by omega, by omega, _, U2 ++ [a], F4, r3, nd', by rw [List.map_append]; rfl, by rw [List.length_append]; show U2.length + 1 <= i + 1; omega, ?_, ?_, zQz, fun b o e => ?_, fr4, nl4, na4⟩
         . exact A4.putL ha4 na4
         . rw [zWx nal]; exact hl4
         . rw [zWx (zWk e nacc0)]
           exact k4.keep b o (sm2 b o e) fun mb => by rw [fr2 b mb] at e; cases e
   . refine .inl ⟨⟨_, SqL.of hl2, by rw [List.length_map]; omega⟩, ?_⟩
     have e : L.take i = L := List.take_of_length_le (by omega)
     rw [e, hrun] at r2
     cases r2
     exact h acc H2 ha2 sm2
end
abbrev sNone : Stmt := top 44
abbrev sOthers : Stmt := top 45
abbrev sLaw : Stmt := top 46
def nonA : List Str := ["chip 4 2", "chip 4 2 1 1", "chip", "chip  4 2 1", "write 1", "write 1 2 3", "write", "read", "read 1 1"]
def nonB : List Str := ["Read 1", "power", "power 1 1", "power none", "power -1", "mount 1", "mounts", "worn"]
def nonC : List Str := ["worn 1 1", "written 1"]
def nonD : List Str := ["page 1", "page 1 1 1", "page", "read 01", "read -1", "read x", "write 1 1000000000000", "read 1 "]
def nonE : List Str := [" read 1", "read  1", "write 1 00", "chip 4 2 01", "power al", "power all all", "worn -0"]
def nonF : List Str := ["written ", "write 1 1.5", "page 0 x", "erase 1", "power ALL", "read 0000000000001", "write one 1"]
def noneT : List Str := nonA ++ nonB ++ nonC ++ nonD ++ nonE ++ nonF
def oth0 : List Str := ["write 0 5", "read 0", "power 3", "power all", "mount", "worn 0", "written", "page 0 0", "read 999"]
def oth1 : List (Str × Str) := [("chip 3 2 1", "refused: BadSize"), ("chip 4 2 5", "refused: BadSize"), ("chip 4 2 0", "refused: BadSize"), ("chip 33 2 1", "refused: BadSize"), ("chip 4 17 1", "refused: BadSize")]
def oth2 : List (Str × Str) := [("worn 4", "refused: NoPage"), ("page 4 0", "refused: NoPage"), ("page 0 2", "refused: NoPage")]
def oth3 : List (Str × Str) := [("worn 999999999999", "refused: NoPage"), ("chip 4 2 5", "refused: BadSize")]
def oth4 : List (Str × Str) := [("read 4", "refused: NoSector"), ("write 4 1", "refused: NoSector"), ("read 0", "7")]
def oth5 : List (Str × Str) := [("read 1", "0"), ("mount", "ok"), ("power all", "ok"), ("page 1 9", "refused: NoPage")]
def oth6 : List (Str × Str) := [("read 0", "refused: NoDisk"), ("write 0 1", "refused: NoDisk"), ("read 4", "refused: NoDisk")]
def oth7 : List (Str × Str) := [("write 9 9", "refused: NoDisk"), ("read 999", "refused: NoDisk")]
def others (k : Nat) : List (Str × Str) := if k = 0 then (oth0.map fun x => (x, ("refused: NoDisk" : Str))) ++ oth1 else if k = 1 then oth2 ++ oth3 ++ oth4 ++ oth5 else oth2 ++ oth3 ++ oth6 ++ oth7
def sgOf (k : Nat) : Sg := if k = 0 then .no else if k = 1 then .b else .cut
def preL (k : Nat) : List Str := if k = 0 then [] else if k = 1 then ["chip 4 2 4", "write 0 7"] else ["chip 4 2 4", "write 0 7", "power 0", "write 1 8"]
def preU (k : Nat) : List Str := if k = 0 then [] else if k = 1 then ["ok", "ok"] else ["ok", "ok", "ok", "refused: Cut"]
def lineOk (x : Str) : Bool := rowOk x && !(x.cps.toList.contains 10)
def goodR (g : Sg) (r : Str × Str) : Bool := decide (ans g r.1 = some (r.2, g)) && !blank r.1 && lineOk r.1
theorem others_ok : ((List.range 3).all fun k => (others k).all (goodR (sgOf k))) = true := by decide +kernel
theorem none_ok : ((List.range 3).all fun k => noneT.all fun x => goodR (sgOf k) (x, "refused: BadRow")) = true := by decide +kernel
theorem pre_ok : ((List.range 3).all fun k => decide (runL (preL k) = some (sgOf k, preU k)) && (preL k).all lineOk) = true := by decide +kernel
theorem blank_ok : (["", "   "] : List Str).all (fun x => blank x && lineOk x) = true := by decide +kernel
theorem sg_ne {k : Nat} : sgOf k ≠ .dk := by
 unfold sgOf
 split
 . intro z; cases z
 . split <;> (intro z; cases z)
theorem stp_good {g : Sg} {U : List Str} {r : Str × Str} (h : goodR g r = true) (n : g ≠ .dk) : stp (some (g, U)) r.1 = some (g, U ++ [r.2]) := by
 unfold goodR at h
 obtain ⟨h1, h2⟩ := Bool.and_eq_true_iff.mp h
 obtain ⟨h1, h3⟩ := Bool.and_eq_true_iff.mp h1
 have h1 := of_decide_eq_true h1
 have h3 : blank r.1 = false := by simpa using h3
 unfold stp
 dsimp only
 rw [if_neg (by rw [h3]; intro z; cases z), h1]
 dsimp only
 rw [if_neg n]
theorem stp_blank {g : Sg} {U : List Str} {x : Str} (h : blank x = true) : stp (some (g, U)) x = some (g, U) := by
 unfold stp
 dsimp only
 rw [if_pos h]
theorem lineOk_is {x : Str} (h : lineOk x = true) : 10 ∉ x.cps.toList /\ rowOk x = true := by
 obtain ⟨h1, h2⟩ := Bool.and_eq_true_iff.mp h
 exact ⟨by simpa using h2, h1⟩
def Prs (H : Hp) (ps : List Addr) (rs : List (Str × Str)) : Prop := Paired (fun p (r : Str × Str) => H p = some (.tup [.str r.1, .str r.2])) ps rs
theorem Prs.same {H H' : Hp} {ps : List Addr} {rs : List (Str × Str)} (h : Prs H ps rs) (s : Same H H') : Prs H' ps rs := Paired.imp' (fun _ _ e => s _ _ e) h
theorem Prs.at_ {H : Hp} {ps : List Addr} {rs : List (Str × Str)} (h : Prs H ps rs) : ∀ {i : Nat}, i < rs.length -> ∃ p r, ps[i]? = some p /\ rs[i]? = some r /\ H p = some (.tup [.str r.1, .str r.2]) := by
 unfold Prs at h
 induction h with
 | nil => exact fun {i} hi => absurd hi (by simp)
 | cons e _ ih =>
   intro i hi
   cases i with
   | zero => exact ⟨_, _, rfl, rfl, e⟩
   | succ i =>
     obtain ⟨p, r, a, b, c⟩ := ih (i := i) (by simpa using hi)
     exact ⟨p, r, by simpa using a, by simpa using b, c⟩
theorem Prs.app {H : Hp} {ps qs : List Addr} {rs ts : List (Str × Str)} (p : Prs H ps rs) (q : Prs H qs ts) : Prs H (ps ++ qs) (rs ++ ts) := by
 unfold Prs at *
 induction p with
 | nil => exact q
 | cons e _ ih => exact .cons e ih
theorem Prs.put {H : Hp} {b : Addr} {xs ys : List V} {ps : List Addr} {rs : List (Str × Str)} (h : Prs H ps rs) (e : H b = some (.lst xs)) : Prs (upd H b (.lst ys)) ps rs :=
 Paired.imp' (fun p _ z => by rw [zWx (yJz z e (by intro y; cases y))]; exact z) h
def tps : List (Str × Str) -> TA
 | [] => tNil
 | r :: rs => tCons (tTup (tCons (tC (.str r.1)) (tCons (tC (.str r.2)) tNil))) (tps rs)
theorem tps_run {σ : St} : ∀ (rs : List (Str × Str)) {H : Hp} {Q : List V -> Hp -> Prop}, (∀ ps H', Prs H' ps rs -> Same H H' -> Q (ps.map V.ref) H') -> tps rs σ H Q
 | [], H, Q, h => h [] H .nil (Same.refl H)
 | r :: rs, H, Q, h => by
   refine ⟨by show 2 <= sizeLine; decide, fun t nt => tps_run rs fun ps H' pr s => ?_⟩
   exact h (t :: ps) H' (.cons (s _ _ zQz) pr) ((zWq nt).trans s)
theorem wQj {K : PySem.W.Frag} {tl : TE} {ci : List Nat} {σ : St} {H : Hp} {Q : VK} (xs : List Str) (y : Str) (hn : xs.length < 1000) (htl : ∀ R : V -> Hp -> Prop, (∀ a H1, SqL K H1 a (xs.map V.str) -> Same H H1 -> R (.ref a) H1) -> tl σ H R)
   (fin : ∀ acc ps H2, H2 acc = some (.lst (ps.map V.ref)) -> Prs H2 ps (xs.map fun x => (x, y)) -> Same H H2 -> Q (.ref acc) H2) : tComp (iList K tl) ci tYes (tTup (tCons (tVar 0) (tCons (tC (.str y)) tNil))) σ H Q := by
 unfold tComp
 refine htl _ fun a H1 hs s1 => ⟨a, rfl, ⟨_, hs⟩, fun acc nacc => ?_⟩
 refine ⟨fun i m ys H2 => i + m = xs.length /\ ∃ ps, ys = ps.map V.ref /\ ps.length <= i /\ H2 acc = some (.lst ys) /\ Prs H2 ps ((xs.take i).map fun x => (x, y)) /\ Same H1 H2, ⟨xs.length, by omega, [], rfl, Nat.le_refl _, zQz, .nil, zWq nacc⟩, ?_⟩
 rintro i m ys H2 ⟨him, ps, rfl, pl, ha, pr, s2⟩
 by_cases hi : i < xs.length
 . refine .inr ⟨⟨_, (xs.map V.str)[i]'(by simpa using hi), s2.seq hs, by simp [hi]⟩, fun x H3 yl => ?_⟩
   obtain ⟨rfl, yl⟩ := yl
   have hx := yl _ (s2.seq hs)
   rw [List.getElem?_map, List.getElem?_eq_getElem hi] at hx
   cases hx
   unfold tYes
   dsimp only
   rw [if_pos rfl]
   refine ⟨_, rfl, by show 2 <= sizeLine; decide, fun t nt => ?_⟩
   have st := zWq (o := .tup [.str xs[i], .str y]) nt
   have ha' := st _ _ ha
   refine ⟨ha', Nat.lt_of_le_of_lt (by rw [List.length_map]; exact pl) (small1000 (by omega)), m - 1, by omega, by omega, ps ++ [t], by rw [List.map_append]; rfl, by rw [List.length_append]; show ps.length + 1 <= i + 1; omega, zQz, ?_, fun b o e => ?_⟩
   . rw [List.take_succ_eq_append_getElem hi, List.map_append]
     exact ((pr.same st).app (.cons zQz .nil)).put ha'
   . rw [zWx (zWk e nacc)]
     exact st _ _ (s2 _ _ e)
 . refine .inl ⟨⟨_, s2.seq hs, by rw [List.length_map]; omega⟩, fin acc ps H2 ha ?_ (s1.trans s2)⟩
   rw [List.take_of_length_le (by omega)] at pr
   exact pr
theorem Prs.len {H : Hp} {ps : List Addr} {rs : List (Str × Str)} (h : Prs H ps rs) : ps.length = rs.length := Paired.length h
theorem xJz {H : Hp} {l : Addr} {xs zs : List V} {Q : VK} (h : H l = some (.lst xs)) (hz : zs.length <= 100) (hb : xs.length + zs.length <= 200) (q : ∀ p H', H' p = some (.lst (xs ++ zs)) -> Same H H' -> Q (.ref p) H') : zs.length <= sizeLine /\ ∀ b, H b = none -> rCat (.ref l) (.ref b) (upd H b (.lst zs)) Q :=
 ⟨Nat.le_of_lt (small1000 (by omega)), fun b nb => ⟨l, b, xs, zs, rfl, rfl, zWq nb _ _ h, zQz, Nat.le_of_lt (small1000 (by omega)), fun p np => q p _ zQz ((zWq nb).trans (zWq np))⟩⟩
theorem new_prs {H : Hp} {σ : St} {Q : VK} (ts : List (Str × Str)) (hb : ts.length <= 100) (q : ∀ l ps H', H' l = some (.lst (ps.map V.ref)) -> Prs H' ps ts -> Same H H' -> Q (.ref l) H') : tLst (tps ts) σ H Q :=
 tps_run ts fun ps H' pr s => ⟨by rw [List.length_map, pr.len]; exact Nat.le_of_lt (small1000 (by omega)), fun l nl => q l ps _ zQz (pr.same (zWq nl)) (s.trans (zWq nl))⟩
theorem xQj {H : Hp} {σ : St} {l : Addr} {ps : List Addr} {rs : List (Str × Str)} {Q : VK} (ts : List (Str × Str)) (h : H l = some (.lst (ps.map V.ref))) (pr : Prs H ps rs) (hb : rs.length + ts.length <= 100)
   (q : ∀ p ps' H', H' p = some (.lst (ps'.map V.ref)) -> Prs H' ps' (rs ++ ts) -> Same H H' -> Q (.ref p) H') : tLst (tps ts) σ H fun y H2 => rCat (.ref l) y H2 Q := by
 refine new_prs ts (by omega) fun b qs H' hbb pr2 s2 => ⟨l, b, _, _, rfl, rfl, s2 _ _ h, hbb, ?_, fun p np => q p (ps ++ qs) _ ?_ ?_ (s2.trans (zWq np))⟩
 . rw [List.length_map, List.length_map, pr.len, pr2.len]
   exact Nat.le_of_lt (small1000 (by omega))
 . rw [List.map_append]
   exact zQz
 . exact ((pr.same s2).app pr2).same (zWq np)
section
variable {P : Program} {w : World} {K : PySem.W.Frag} {mg : Str -> Option Value} {base : Heap} {C DK KD cBS cNP cNE cNS cBC cCu cWE cBR cND NU : Addr}
def spNone : Sp := fun vs H Q _ => vs = [] /\ ∀ l H', H' l = some (.lst (noneT.map V.str)) -> Same H H' -> Q (.ref l) H'
theorem scNo : FnScope ["_law_some"] [] (defScope sNone) := ⟨rfl, rfl, rfl, by decide +kernel, rfl, by decide +kernel, by decide +kernel⟩
theorem ok_none {f : Addr} {fd : FuncData} (F : Fun K "_law_none" "_law_none" sNone f fd) : FnOk P w K mg base (CXw P w) 51 f fd [] spNone := by
 refine F.okX (by decide) scNo (fun vs H Q E h => ?_) (fun cdv A outer s H vs Q E hr h => ?_)
 . rw [h.1]
   rfl
 . obtain ⟨rfl, h⟩ := h
   refine ⟨_, (@zQj _ _ _ _ _ (@zJq _ _ (0) _ _ _ _ scNo.nd rfl (Or.inl rfl) (@zJv _ _ _ _ (@zQw _ _ _ _ _ (@zQv _ _ _ _) (@zQw _ _ _ _ _ (@zQv _ _ _ _) (@zQw _ _ _ _ _ (@zQv _ _ _ _) (@zQw _ _ _ _ _ (@zQv _ _ _ _) (@zQw _ _ _ _ _ (@zQv _ _ _ _) (@zQw _ _ _ _ _ (@zQv _ _ _ _) (@zQw _ _ _ _ _ (@zQv _ _ _ _) (@zQw _ _ _ _ _ (@zQv _ _ _ _) (@zQw _ _ _ _ _ (@zQv _ _ _ _) zQk (by exact zQq rfl)) (by exact zQq rfl)) (by exact zQq rfl)) (by exact zQq rfl)) (by exact zQq rfl)) (by exact zQq rfl)) (by exact zQq rfl)) (by exact zQq rfl)) (by exact zQq rfl))) (by rfl) (by first | exact .inl rfl | exact .inr rfl | assumption)) (@zQj _ _ _ _ _ (@zJq _ _ (0) _ _ _ _ scNo.nd rfl (Or.inl rfl) (@zJk _ _ _ _ _ _ _ _ (@yJx _) (pv 0) (@zJv _ _ _ _ (@zQw _ _ _ _ _ (@zQv _ _ _ _) (@zQw _ _ _ _ _ (@zQv _ _ _ _) (@zQw _ _ _ _ _ (@zQv _ _ _ _) (@zQw _ _ _ _ _ (@zQv _ _ _ _) (@zQw _ _ _ _ _ (@zQv _ _ _ _) (@zQw _ _ _ _ _ (@zQv _ _ _ _) (@zQw _ _ _ _ _ (@zQv _ _ _ _) (@zQw _ _ _ _ _ (@zQv _ _ _ _) zQk (by exact zQq rfl)) (by exact zQq rfl)) (by exact zQq rfl)) (by exact zQq rfl)) (by exact zQq rfl)) (by exact zQq rfl)) (by exact zQq rfl)) (by exact zQq rfl)))) (by rfl) (by first | exact .inl rfl | exact .inr rfl | assumption)) (@zQj _ _ _ _ _ (@zJq _ _ (0) _ _ _ _ scNo.nd rfl (Or.inl rfl) (@zJk _ _ _ _ _ _ _ _ (@yJx _) (pv 0) (@zJv _ _ _ _ (@zQw _ _ _ _ _ (@zQv _ _ _ _) (@zQw _ _ _ _ _ (@zQv _ _ _ _) zQk (by exact zQq rfl)) (by exact zQq rfl)))) (by rfl) (by first | exact .inl rfl | exact .inr rfl | assumption)) (@zQj _ _ _ _ _ (@zJq _ _ (0) _ _ _ _ scNo.nd rfl (Or.inl rfl) (@zJk _ _ _ _ _ _ _ _ (@yJx _) (pv 0) (@zJv _ _ _ _ (@zQw _ _ _ _ _ (@zQv _ _ _ _) (@zQw _ _ _ _ _ (@zQv _ _ _ _) (@zQw _ _ _ _ _ (@zQv _ _ _ _) (@zQw _ _ _ _ _ (@zQv _ _ _ _) (@zQw _ _ _ _ _ (@zQv _ _ _ _) (@zQw _ _ _ _ _ (@zQv _ _ _ _) (@zQw _ _ _ _ _ (@zQv _ _ _ _) (@zQw _ _ _ _ _ (@zQv _ _ _ _) zQk (by exact zQq rfl)) (by exact zQq rfl)) (by exact zQq rfl)) (by exact zQq rfl)) (by exact zQq rfl)) (by exact zQq rfl)) (by exact zQq rfl)) (by exact zQq rfl)))) (by rfl) (by first | exact .inl rfl | exact .inr rfl | assumption)) (@zQj _ _ _ _ _ (@zJq _ _ (0) _ _ _ _ scNo.nd rfl (Or.inl rfl) (@zJk _ _ _ _ _ _ _ _ (@yJx _) (pv 0) (@zJv _ _ _ _ (@zQw _ _ _ _ _ (@zQv _ _ _ _) (@zQw _ _ _ _ _ (@zQv _ _ _ _) (@zQw _ _ _ _ _ (@zQv _ _ _ _) (@zQw _ _ _ _ _ (@zQv _ _ _ _) (@zQw _ _ _ _ _ (@zQv _ _ _ _) (@zQw _ _ _ _ _ (@zQv _ _ _ _) (@zQw _ _ _ _ _ (@zQv _ _ _ _) zQk (by exact zQq rfl)) (by exact zQq rfl)) (by exact zQq rfl)) (by exact zQq rfl)) (by exact zQq rfl)) (by exact zQq rfl)) (by exact zQq rfl)))) (by rfl) (by first | exact .inl rfl | exact .inr rfl | assumption)) (@zWw _ _ _ (@zWv _ _ _ _ (@zJk _ _ _ _ _ _ _ _ (@yJx _) (pv 0) (@zJv _ _ _ _ (@zQw _ _ _ _ _ (@zQv _ _ _ _) (@zQw _ _ _ _ _ (@zQv _ _ _ _) (@zQw _ _ _ _ _ (@zQv _ _ _ _) (@zQw _ _ _ _ _ (@zQv _ _ _ _) (@zQw _ _ _ _ _ (@zQv _ _ _ _) (@zQw _ _ _ _ _ (@zQv _ _ _ _) (@zQw _ _ _ _ _ (@zQv _ _ _ _) zQk (by exact zQq rfl)) (by exact zQq rfl)) (by exact zQq rfl)) (by exact zQq rfl)) (by exact zQq rfl)) (by exact zQq rfl)) (by exact zQq rfl))))))))))), ?_⟩
   refine ⟨by show 9 <= sizeLine; decide, fun l1 n1 => ⟨_, rfl, xJz zQz (by decide) (by decide) fun l2 H2 e2 s2 => ⟨_, rfl, xJz e2 (by decide) (by decide) fun l3 H3 e3 s3 => ⟨_, rfl, xJz e3 (by decide) (by decide) fun l4 H4 e4 s4 => ⟨_, rfl, xJz e4 (by decide) (by decide) fun l5 H5 e5 s5 => ⟨_, rfl, xJz e5 (by decide) (by decide) fun l6 H6 e6 s6 => ?_⟩⟩⟩⟩⟩⟩
   exact h l6 H6 e6 (((((zWq n1).trans s2).trans s3).trans s4).trans s5 |>.trans s6)
def spOthers : Sp := fun vs H Q _ => ∃ k : Nat, vs = [.int (k : Int)] /\ k < 3 /\ ∀ l ps H', H' l = some (.lst (ps.map V.ref)) -> Prs H' ps (others k) -> Same H H' -> Q (.ref l) H'
theorem scOt : FnScope ["_law_stage", "_law_rows", "_law_found"] ["_law_stage"] (defScope sOthers) := ⟨rfl, rfl, rfl, by decide +kernel, rfl, by decide +kernel, by decide +kernel⟩
theorem ok_others {f : Addr} {fd : FuncData} (F : Fun K "_law_others" "_law_others" sOthers f fd) : FnOk P w K mg base (CXw P w) 51 f fd ["_law_stage"] spOthers := by
 refine F.okX (by decide) scOt (fun vs H Q E h => ?_) (fun cdv A outer s H vs Q E hr h => ?_)
 . obtain ⟨k, rfl, _⟩ := h
   rfl
 . obtain ⟨k, rfl, k3, h⟩ := h
   refine ⟨_, (@zQj _ _ _ _ _ (@yQq _ _ _ _ _ _ _ _ (@zKz _ _ _ _ _ _ _ _ (@xQx _) (pv 0) zWz (@nomark _ _ (by decide) (by decide))) (@zQj _ _ _ _ _ (@zJq _ _ (1) _ _ _ _ scOt.nd rfl (Or.inl rfl) (@zJv _ _ _ _ (@zQw _ _ _ _ _ (@zQv _ _ _ _) (@zQw _ _ _ _ _ (@zQv _ _ _ _) (@zQw _ _ _ _ _ (@zQv _ _ _ _) (@zQw _ _ _ _ _ (@zQv _ _ _ _) (@zQw _ _ _ _ _ (@zQv _ _ _ _) (@zQw _ _ _ _ _ (@zQv _ _ _ _) (@zQw _ _ _ _ _ (@zQv _ _ _ _) (@zQw _ _ _ _ _ (@zQv _ _ _ _) (@zQw _ _ _ _ _ (@zQv _ _ _ _) zQk (by exact zQq rfl)) (by exact zQq rfl)) (by exact zQq rfl)) (by exact zQq rfl)) (by exact zQq rfl)) (by exact zQq rfl)) (by exact zQq rfl)) (by exact zQq rfl)) (by exact zQq rfl))) (by rfl) (by first | exact .inl rfl | exact .inr rfl | assumption)) (@zQj _ _ _ _ _ (@ps_comp _ _ _ _ _ _ _ _ ([]) ([]) _ _ _ _ (2) _ _ rfl scOt.nd rfl rfl rfl (@yWw _ _ _ _ (pv 1)) rfl (by decide +kernel) (by decide +kernel) (by decide +kernel) (by show ∀ y : Str × NameKind, y ∈ _ -> y.2 = NameKind.free -> List.lookup y.1 (defScope sOthers).names = some NameKind.cell; decide +kernel) (by show ∀ p : Str × Nat, p ∈ _ -> List.lookup p.1 _ = some NameKind.free /\ (["_law_stage", "_law_rows", "_law_found"] : List Str)[p.2]? = some p.1; decide +kernel) rfl (by decide +kernel) (fun _ _ _ _ _ => (@yJq _)) (fun _ _ _ _ _ => (@zJz _ _ _ _ _ (@zQw _ _ _ _ _ (pv 0) (@zQw _ _ _ _ _ (@zQv _ _ _ _) zQk (by exact zQq rfl)) (by exact zQq rfl)))) (by intro _; rfl)) (@zWw _ _ _ (@zWv _ _ _ _ (@zJk _ _ _ _ _ _ _ _ (@yJx _) (pv 2) (@zJv _ _ _ _ (@zQw _ _ _ _ _ (@zJz _ _ _ _ _ (@zQw _ _ _ _ _ (@zQv _ _ _ _) (@zQw _ _ _ _ _ (@zQv _ _ _ _) zQk (by exact zQq rfl)) (by exact zQq rfl))) (@zQw _ _ _ _ _ (@zJz _ _ _ _ _ (@zQw _ _ _ _ _ (@zQv _ _ _ _) (@zQw _ _ _ _ _ (@zQv _ _ _ _) zQk (by exact zQq rfl)) (by exact zQq rfl))) (@zQw _ _ _ _ _ (@zJz _ _ _ _ _ (@zQw _ _ _ _ _ (@zQv _ _ _ _) (@zQw _ _ _ _ _ (@zQv _ _ _ _) zQk (by exact zQq rfl)) (by exact zQq rfl))) (@zQw _ _ _ _ _ (@zJz _ _ _ _ _ (@zQw _ _ _ _ _ (@zQv _ _ _ _) (@zQw _ _ _ _ _ (@zQv _ _ _ _) zQk (by exact zQq rfl)) (by exact zQq rfl))) (@zQw _ _ _ _ _ (@zJz _ _ _ _ _ (@zQw _ _ _ _ _ (@zQv _ _ _ _) (@zQw _ _ _ _ _ (@zQv _ _ _ _) zQk (by exact zQq rfl)) (by exact zQq rfl))) zQk (by exact zQq rfl)) (by exact zQq rfl)) (by exact zQq rfl)) (by exact zQq rfl)) (by exact zQq rfl)))))))) (@zZw _)) (@zQj _ _ _ _ _ (@zJq _ _ (2) _ _ _ _ scOt.nd rfl (Or.inl rfl) (@zJv _ _ _ _ (@zQw _ _ _ _ _ (@zJz _ _ _ _ _ (@zQw _ _ _ _ _ (@zQv _ _ _ _) (@zQw _ _ _ _ _ (@zQv _ _ _ _) zQk (by exact zQq rfl)) (by exact zQq rfl))) (@zQw _ _ _ _ _ (@zJz _ _ _ _ _ (@zQw _ _ _ _ _ (@zQv _ _ _ _) (@zQw _ _ _ _ _ (@zQv _ _ _ _) zQk (by exact zQq rfl)) (by exact zQq rfl))) (@zQw _ _ _ _ _ (@zJz _ _ _ _ _ (@zQw _ _ _ _ _ (@zQv _ _ _ _) (@zQw _ _ _ _ _ (@zQv _ _ _ _) zQk (by exact zQq rfl)) (by exact zQq rfl))) zQk (by exact zQq rfl)) (by exact zQq rfl)) (by exact zQq rfl))) (by rfl) (by first | exact .inl rfl | exact .inr rfl | assumption)) (@zQj _ _ _ _ _ (@zJq _ _ (2) _ _ _ _ scOt.nd rfl (Or.inl rfl) (@zJk _ _ _ _ _ _ _ _ (@yJx _) (pv 2) (@zJv _ _ _ _ (@zQw _ _ _ _ _ (@zJz _ _ _ _ _ (@zQw _ _ _ _ _ (@zQv _ _ _ _) (@zQw _ _ _ _ _ (@zQv _ _ _ _) zQk (by exact zQq rfl)) (by exact zQq rfl))) (@zQw _ _ _ _ _ (@zJz _ _ _ _ _ (@zQw _ _ _ _ _ (@zQv _ _ _ _) (@zQw _ _ _ _ _ (@zQv _ _ _ _) zQk (by exact zQq rfl)) (by exact zQq rfl))) zQk (by exact zQq rfl)) (by exact zQq rfl)))) (by rfl) (by first | exact .inl rfl | exact .inr rfl | assumption)) (@zQj _ _ _ _ _ (@yQq _ _ _ _ _ _ _ _ (@zKz _ _ _ _ _ _ _ _ (@xQx _) (pv 0) zWz (@nomark _ _ (by decide) (by decide))) (@zQj _ _ _ _ _ (@zJq _ _ (2) _ _ _ _ scOt.nd rfl (Or.inl rfl) (@zJk _ _ _ _ _ _ _ _ (@yJx _) (pv 2) (@zJv _ _ _ _ (@zQw _ _ _ _ _ (@zJz _ _ _ _ _ (@zQw _ _ _ _ _ (@zQv _ _ _ _) (@zQw _ _ _ _ _ (@zQv _ _ _ _) zQk (by exact zQq rfl)) (by exact zQq rfl))) (@zQw _ _ _ _ _ (@zJz _ _ _ _ _ (@zQw _ _ _ _ _ (@zQv _ _ _ _) (@zQw _ _ _ _ _ (@zQv _ _ _ _) zQk (by exact zQq rfl)) (by exact zQq rfl))) (@zQw _ _ _ _ _ (@zJz _ _ _ _ _ (@zQw _ _ _ _ _ (@zQv _ _ _ _) (@zQw _ _ _ _ _ (@zQv _ _ _ _) zQk (by exact zQq rfl)) (by exact zQq rfl))) zQk (by exact zQq rfl)) (by exact zQq rfl)) (by exact zQq rfl)))) (by rfl) (by first | exact .inl rfl | exact .inr rfl | assumption)) (@zWw _ _ _ (@zWv _ _ _ _ (@zJk _ _ _ _ _ _ _ _ (@yJx _) (pv 2) (@zJv _ _ _ _ (@zQw _ _ _ _ _ (@zJz _ _ _ _ _ (@zQw _ _ _ _ _ (@zQv _ _ _ _) (@zQw _ _ _ _ _ (@zQv _ _ _ _) zQk (by exact zQq rfl)) (by exact zQq rfl))) (@zQw _ _ _ _ _ (@zJz _ _ _ _ _ (@zQw _ _ _ _ _ (@zQv _ _ _ _) (@zQw _ _ _ _ _ (@zQv _ _ _ _) zQk (by exact zQq rfl)) (by exact zQq rfl))) (@zQw _ _ _ _ _ (@zJz _ _ _ _ _ (@zQw _ _ _ _ _ (@zQv _ _ _ _) (@zQw _ _ _ _ _ (@zQv _ _ _ _) zQk (by exact zQq rfl)) (by exact zQq rfl))) (@zQw _ _ _ _ _ (@zJz _ _ _ _ _ (@zQw _ _ _ _ _ (@zQv _ _ _ _) (@zQw _ _ _ _ _ (@zQv _ _ _ _) zQk (by exact zQq rfl)) (by exact zQq rfl))) zQk (by exact zQq rfl)) (by exact zQq rfl)) (by exact zQq rfl)) (by exact zQq rfl))))))) (@zZw _)) (@zQj _ _ _ _ _ (@zJq _ _ (2) _ _ _ _ scOt.nd rfl (Or.inl rfl) (@zJk _ _ _ _ _ _ _ _ (@yJx _) (pv 2) (@zJv _ _ _ _ (@zQw _ _ _ _ _ (@zJz _ _ _ _ _ (@zQw _ _ _ _ _ (@zQv _ _ _ _) (@zQw _ _ _ _ _ (@zQv _ _ _ _) zQk (by exact zQq rfl)) (by exact zQq rfl))) (@zQw _ _ _ _ _ (@zJz _ _ _ _ _ (@zQw _ _ _ _ _ (@zQv _ _ _ _) (@zQw _ _ _ _ _ (@zQv _ _ _ _) zQk (by exact zQq rfl)) (by exact zQq rfl))) (@zQw _ _ _ _ _ (@zJz _ _ _ _ _ (@zQw _ _ _ _ _ (@zQv _ _ _ _) (@zQw _ _ _ _ _ (@zQv _ _ _ _) zQk (by exact zQq rfl)) (by exact zQq rfl))) zQk (by exact zQq rfl)) (by exact zQq rfl)) (by exact zQq rfl)))) (by rfl) (by first | exact .inl rfl | exact .inr rfl | assumption)) (@zWw _ _ _ (@zWv _ _ _ _ (@zJk _ _ _ _ _ _ _ _ (@yJx _) (pv 2) (@zJv _ _ _ _ (@zQw _ _ _ _ _ (@zJz _ _ _ _ _ (@zQw _ _ _ _ _ (@zQv _ _ _ _) (@zQw _ _ _ _ _ (@zQv _ _ _ _) zQk (by exact zQq rfl)) (by exact zQq rfl))) (@zQw _ _ _ _ _ (@zJz _ _ _ _ _ (@zQw _ _ _ _ _ (@zQv _ _ _ _) (@zQw _ _ _ _ _ (@zQv _ _ _ _) zQk (by exact zQq rfl)) (by exact zQq rfl))) zQk (by exact zQq rfl)) (by exact zQq rfl))))))))))), ?_⟩
   refine ⟨_, rfl, rfl, _, rfl, ?_⟩
   by_cases k0 : k = 0
   . subst k0
     refine iteD rfl ⟨by show 9 <= sizeLine; decide, fun l1 n1 => ?_⟩
     refine wQj oth0 "refused: NoDisk" (by decide) (fun R q => ⟨_, rfl, q l1 _ (SqL.of zQz) (Same.refl _)⟩) fun acc ps H2 hacc pr s2 => ?_
     refine ⟨_, rfl, xQj oth1 hacc pr (by decide) fun p ps' H' hp pr' s' => ?_⟩
     exact h p ps' H' hp pr' (((zWq n1).trans s2).trans s')
   refine iteDn (fun z => k0 (by have := V.int.inj z; omega)) ?_
   unfold tNext
   show tAsg (tLst (tps oth2)) (gName 2) _ _ _
   show tLst (tps oth2) _ _ _
   refine new_prs oth2 (by decide) fun l1 ps1 H1 e1 pr1 s1 => ?_
   refine ⟨_, rfl, xQj oth3 e1 pr1 (by decide) fun l2 ps2 H2 e2 pr2 s2 => ?_⟩
   refine ⟨_, rfl, rfl, _, rfl, ?_⟩
   by_cases k1 : k = 1
   . subst k1
     refine iteD rfl ⟨_, rfl, xQj oth4 e2 pr2 (by decide) fun l3 ps3 H3 e3 pr3 s3 => ⟨_, rfl, xQj oth5 e3 pr3 (by decide) fun l4 ps4 H4 e4 pr4 s4 => ?_⟩⟩
     exact h l4 ps4 H4 e4 pr4 (((s1.trans s2).trans s3).trans s4)
   refine iteDn (fun z => k1 (by have := V.int.inj z; omega)) ?_
   refine ⟨_, rfl, xQj oth6 e2 pr2 (by decide) fun l3 ps3 H3 e3 pr3 s3 => ⟨_, rfl, xQj oth7 e3 pr3 (by decide) fun l4 ps4 H4 e4 pr4 s4 => ?_⟩⟩
   have e : others k = oth2 ++ oth3 ++ oth6 ++ oth7 := by
     unfold others
     rw [if_neg k0, if_neg k1]
   rw [<- e] at pr4
   exact h l4 ps4 H4 e4 pr4 (((s1.trans s2).trans s3).trans s4)
end
section
variable {P : Program} {w : World} {K : PySem.W.Frag} {mg : Str -> Option Value} {base : Heap} {C DK KD cBS cNP cNE cNS cBC cCu cWE cBR cND NU : Addr}
structure Lw (K : PySem.W.Frag) (a : Addr) (ns : List Int) (k i : Nat) (a1 a2 : Addr) (L U : List Str) (H : Hp) : Prop where
 h1 : H a1 = some (.lst (L.map V.str))
 h2 : H a2 = some (.lst (U.map V.str))
 ne : a1 ≠ a2
 rn : runL L = some (sgOf k, U)
 ok : ∀ x ∈ L, lineOk x = true
 l1 : L.length <= 4 + 2 * i
 l2 : U.length <= 4 + i
 sc : Scr K H a ns
 ps : 0 < i -> L ≠ []
theorem Lw.same {a : Addr} {ns : List Int} {k i : Nat} {a1 a2 : Addr} {L U : List Str} {H H' : Hp} (W : Lw K a ns k i a1 a2 L U H) (s : Same H H') : Lw K a ns k i a1 a2 L U H' :=
 ⟨s _ _ W.h1, s _ _ W.h2, W.ne, W.rn, W.ok, W.l1, W.l2, W.sc.same s, W.ps⟩
theorem Scr.putL {H : Hp} {a b : Addr} {ns : List Int} {xs ys : List V} (h : Scr K H a ns) (e : H b = some (.lst xs)) : Scr K (upd H b (.lst ys)) a ns :=
 h.but (yWj (fp := [b]) (by simp)) fun c m => by rw [List.mem_singleton.mp m]; exact ⟨_, e, rfl⟩
theorem Lw.app {a : Addr} {ns : List Int} {k i : Nat} {a1 a2 : Addr} {L U : List Str} {H : Hp} (W : Lw K a ns k i a1 a2 L U H) {r : Str × Str} (g : goodR (sgOf k) r = true) :
   Lw K a ns k (i + 1) a1 a2 (L ++ [r.1]) (U ++ [r.2]) (upd (upd H a1 (.lst (L.map V.str ++ [.str r.1]))) a2 (.lst (U.map V.str ++ [.str r.2]))) := by
 have h2 : upd H a1 (.lst (L.map V.str ++ [.str r.1])) a2 = some (.lst (U.map V.str)) := by rw [zWx (Ne.symm W.ne)]; exact W.h2
 have l1 := W.l1
 have l2 := W.l2
 refine ⟨?_, ?_, W.ne, ?_, fun x m => ?_, ?_, ?_, (W.sc.putL W.h1).putL h2, fun _ z => ?_⟩
 . rw [zWx W.ne, zQz, List.map_append]
   rfl
 . rw [zQz, List.map_append]
   rfl
 . rw [xZx, W.rn, stp_good g sg_ne]
 . rcases List.mem_append.mp m with m | m
   . exact W.ok x m
   . rw [List.mem_singleton.mp m]
     exact (Bool.and_eq_true_iff.mp g).2
 . rw [List.length_append]
   show L.length + 1 <= _
   omega
 . rw [List.length_append]
   show U.length + 1 <= _
   omega
 . simp at z
theorem Lw.blank {a : Addr} {ns : List Int} {k i : Nat} {a1 a2 : Addr} {L U : List Str} {H : Hp} (W : Lw K a ns k i a1 a2 L U H) {x : Str} (g : Ev.blank x = true) (lk : lineOk x = true) (hl : L.length + 1 <= 4 + 2 * i) :
   Lw K a ns k i a1 a2 (L ++ [x]) U (upd H a1 (.lst (L.map V.str ++ [.str x]))) := by
 refine ⟨?_, ?_, W.ne, ?_, fun y m => ?_, ?_, W.l2, W.sc.putL W.h1, fun _ z => ?_⟩
 . rw [zQz, List.map_append]
   rfl
 . rw [zWx (Ne.symm W.ne)]
   exact W.h2
 . rw [xZx, W.rn, stp_blank g]
 . rcases List.mem_append.mp m with m | m
   . exact W.ok y m
   . rw [List.mem_singleton.mp m]
     exact lk
 . rw [List.length_append]
   exact hl
 . simp at z
theorem with_restA {Pr R : Addr -> Hp -> Prop} {G : Prop} (main : (∀ l H, Pr l H -> R l H) -> G) (rest : ∀ l H, Pr l H -> R l H) : G := main rest
theorem Lw.join {a : Addr} {ns : List Int} {k i : Nat} {a1 a2 : Addr} {L U : List Str} {H : Hp} (W : Lw K a ns k i a1 a2 L U H) (hi : i <= 30) : JoinOk "\n" L = true := by
 have h2 := StrLaws.sumLen_le (B := 100) L fun y m => by
   have := (lineOk_is (W.ok y m)).2
   unfold rowOk at this
   exact of_decide_eq_true (Bool.and_eq_true_iff.mp this).1
 have l1 := W.l1
 have one : ("\n" : Str).length = 1 := rfl
 unfold JoinOk
 rw [StrLaws.joinTotal, one]
 have big : 40000 <= sizeLine := by decide
 unfold Builtin.Str.tooLong
 rw [decide_eq_false (by omega)]
 rfl
def spLaw (K : PySem.W.Frag) : Sp := fun vs H Q _ => ∃ (a : Addr) (ns : List Int), vs = [.ref a] /\ Scr K H a ns /\ ns.length <= 63 /\ ∀ H', Q (.bl true) H'
theorem scLaw : FnScope ["_law_script", "_law_more", "_law_stage", "_law_lines", "_law_due", "_law_k", "_law_some", "_law_row", "_law_answer"] ["_law_script"] (defScope sLaw) := ⟨rfl, rfl, rfl, by decide +kernel, rfl, by decide +kernel, by decide +kernel⟩
theorem ok_law {f : Addr} {fd : FuncData} (F : Fun K "law" "law" sLaw f fd) (T : Txt K mg C cBS cNP cNE cNS cBC cCu cWE)
   (B_law_drawn : FnB P w K mg base 51 "_law_drawn" ["_law_cell_here", "_law_k"] spDrawn) (B_law_cell : FnB P w K mg base 51 "_law_cell" ["_law_script", "_law_k"] (spCell K)) (B_law_none : FnB P w K mg base 51 "_law_none" [] spNone)
   (B_law_others : FnB P w K mg base 51 "_law_others" ["_law_stage"] spOthers) (B_play : FnB P w K mg base 65 "play" ["text"] spPlay) : FnOk P w K mg base (CXw P w) 66 f fd ["_law_script"] (spLaw K) := by
 refine F.okX (by decide) scLaw (fun vs H Q E h => ?_) (fun cdv A outer s H vs Q E hr h => ?_)
 . obtain ⟨a, ns, rfl, _⟩ := h
   rfl
 . obtain ⟨a, ns, rfl, sc0, hn, h⟩ := h
   have hu0 := hr.units0
   refine ⟨_, (@zQj _ _ _ _ _ (@zJq _ _ (1) _ _ _ _ scLaw.nd rfl (Or.inl rfl) (@zZx _ _ _ _ _ _ _ _ _ _ _ B_law_drawn (hr.mono (by decide)) rfl (@passE _ _ _) (@zQw _ _ _ _ _ (@zZx _ _ _ _ _ _ _ _ _ _ _ B_law_cell (hr.mono (by decide)) rfl (@passE _ _ _) (@zQw _ _ _ _ _ (pv 0) (@zQw _ _ _ _ _ zWz zQk (by exact zQq rfl)) (by exact zQq rfl)) (by decide) (by exact zQq rfl) (by exact zQx rfl)) (@zQw _ _ _ _ _ zWz zQk (by exact zQq rfl)) (by exact zQq rfl)) (by decide) (by exact zQq rfl) (by exact zQx rfl)) (by rfl) (by first | exact .inl rfl | exact .inr rfl | assumption)) (@zQj _ _ _ _ _ (@zJq _ _ (2) _ _ _ _ scLaw.nd rfl (Or.inl rfl) (@zJk _ _ _ _ _ _ _ _ (@yKv _) (pv 1) zWz) (by rfl) (by first | exact .inl rfl | exact .inr rfl | assumption)) (@zQj _ _ _ _ _ (@zJq _ _ (3) _ _ _ _ scLaw.nd rfl (Or.inl rfl) (@zJw _ _ _ _ _ _ _ (@zJx _) (@zJv _ _ _ _ (@zQw _ _ _ _ _ (@zJv _ _ _ _ zQk) (@zQw _ _ _ _ _ (@zJv _ _ _ _ (@zQw _ _ _ _ _ (@zQv _ _ _ _) (@zQw _ _ _ _ _ (@zQv _ _ _ _) zQk (by exact zQq rfl)) (by exact zQq rfl))) (@zQw _ _ _ _ _ (@zJv _ _ _ _ (@zQw _ _ _ _ _ (@zQv _ _ _ _) (@zQw _ _ _ _ _ (@zQv _ _ _ _) (@zQw _ _ _ _ _ (@zQv _ _ _ _) (@zQw _ _ _ _ _ (@zQv _ _ _ _) zQk (by exact zQq rfl)) (by exact zQq rfl)) (by exact zQq rfl)) (by exact zQq rfl))) zQk (by exact zQq rfl)) (by exact zQq rfl)) (by exact zQq rfl))) (pv 2) (fun _ _ => rfl)) (by rfl) (by first | exact .inl rfl | exact .inr rfl | assumption)) (@zQj _ _ _ _ _ (@zJq _ _ (4) _ _ _ _ scLaw.nd rfl (Or.inl rfl) (@zJw _ _ _ _ _ _ _ (@zJx _) (@zJv _ _ _ _ (@zQw _ _ _ _ _ (@zJv _ _ _ _ zQk) (@zQw _ _ _ _ _ (@zJv _ _ _ _ (@zQw _ _ _ _ _ (@zQv _ _ _ _) (@zQw _ _ _ _ _ (@zQv _ _ _ _) zQk (by exact zQq rfl)) (by exact zQq rfl))) (@zQw _ _ _ _ _ (@zJv _ _ _ _ (@zQw _ _ _ _ _ (@zQv _ _ _ _) (@zQw _ _ _ _ _ (@zQv _ _ _ _) (@zQw _ _ _ _ _ (@zQv _ _ _ _) (@zQw _ _ _ _ _ (@zQv _ _ _ _) zQk (by exact zQq rfl)) (by exact zQq rfl)) (by exact zQq rfl)) (by exact zQq rfl))) zQk (by exact zQq rfl)) (by exact zQq rfl)) (by exact zQq rfl))) (pv 2) (fun _ _ => rfl)) (by rfl) (by first | exact .inl rfl | exact .inr rfl | assumption)) (@zQj _ _ _ _ _ (@yKj _ _ _ _ _ _ _ _ PassesOwn.leaving rfl (@yQj _ _ _ _ _ _ rfl T.n_range (@zQw _ _ _ _ _ (@zKx _ _ _ _ _ _ _ _ _ (@call_max2 _ rfl) rfl T.n_max PyProof.Rows.Boot.«max» (@zQw _ _ _ _ _ zWz (@zQw _ _ _ _ _ (@zKx _ _ _ _ _ _ _ _ _ (@call_min2 _ rfl) rfl T.n_min PyProof.Rows.Boot.«min» (@zQw _ _ _ _ _ zWz (@zQw _ _ _ _ _ (@zKx _ _ _ _ _ _ _ _ _ (@yQx _) rfl T.n_len PySem.boot_len (@zQw _ _ _ _ _ (pv 0) zQk (by exact zQq rfl)) (by decide) (by decide) (by exact zQq rfl) (by exact zQx rfl)) zQk (by exact zQq rfl)) (by exact zQq rfl)) (by decide) (by decide) (by exact zQq rfl) (by exact zQx rfl)) zQk (by exact zQq rfl)) (by exact zQq rfl)) (by decide) (by decide) (by exact zQq rfl) (by exact zQx rfl)) zQk (by exact zQq rfl)) (by exact zQq rfl)) (@yQk _ _ (5) _ scLaw.nd rfl (Or.inl rfl) (by first | exact .inl rfl | exact .inr rfl | assumption)) (@zQj _ _ _ _ _ (@zJq _ _ (1) _ _ _ _ scLaw.nd rfl (Or.inl rfl) (@zZx _ _ _ _ _ _ _ _ _ _ _ B_law_drawn (hr.mono (by decide)) rfl (@passE _ _ _) (@zQw _ _ _ _ _ (@zZx _ _ _ _ _ _ _ _ _ _ _ B_law_cell (hr.mono (by decide)) rfl (@passE _ _ _) (@zQw _ _ _ _ _ (pv 0) (@zQw _ _ _ _ _ (pv 5) zQk (by exact zQq rfl)) (by exact zQq rfl)) (by decide) (by exact zQq rfl) (by exact zQx rfl)) (@zQw _ _ _ _ _ (@zJk _ _ _ _ _ _ _ _ (@xWq _) (pv 5) zWz) zQk (by exact zQq rfl)) (by exact zQq rfl)) (by decide) (by exact zQq rfl) (by exact zQx rfl)) (by rfl) (by first | exact .inl rfl | exact .inr rfl | assumption)) (@zQj _ _ _ _ _ (@zJq _ _ (6) _ _ _ _ scLaw.nd rfl (Or.inl rfl) (@zZx _ _ _ _ _ _ _ _ _ _ _ B_law_others (hr.mono (by decide)) rfl (@passE _ _ _) (@zQw _ _ _ _ _ (pv 2) zQk (by exact zQq rfl)) (by decide) (by exact zQq rfl) (by exact zQx rfl)) (by rfl) (by first | exact .inl rfl | exact .inr rfl | assumption)) (@zQj _ _ _ _ _ (@yQq _ _ _ _ _ _ _ _ (@zKz _ _ _ _ _ _ _ _ (@xQx _) (@zJk _ _ _ _ _ _ _ _ (@yKv _) (pv 1) zWz) zWz (@nomark _ _ (by decide) (by decide))) (@zWw _ _ _ (@ps_comp _ _ _ _ _ _ _ _ ([]) ([]) _ _ _ _ (6) _ _ rfl scLaw.nd rfl rfl rfl (@yWw _ _ _ _ (@pe_callF0 _ _ _ _ _ _ _ _ B_law_none (hr.mono (by decide)) rfl (@passE _ _ _) (by decide))) rfl (by decide +kernel) (by decide +kernel) (by decide +kernel) (by show ∀ y : Str × NameKind, y ∈ _ -> y.2 = NameKind.free -> List.lookup y.1 (defScope sLaw).names = some NameKind.cell; decide +kernel) (by show ∀ p : Str × Nat, p ∈ _ -> List.lookup p.1 _ = some NameKind.free /\ (["_law_script", "_law_more", "_law_stage", "_law_lines", "_law_due", "_law_k", "_law_some", "_law_row", "_law_answer"] : List Str)[p.2]? = some p.1; decide +kernel) rfl (by decide +kernel) (fun _ _ _ _ _ => (@yJq _)) (fun _ _ _ _ _ => (@zJz _ _ _ _ _ (@zQw _ _ _ _ _ (pv 0) (@zQw _ _ _ _ _ (@zQv _ _ _ _) zQk (by exact zQq rfl)) (by exact zQq rfl)))) (by intro _; rfl))) (@zZw _)) (@zQj _ _ _ _ _ (@xKk _ _ _ _ _ _ (@zJw _ _ _ _ _ _ _ (@zJx _) (pv 6) (@zJk _ _ _ _ _ _ _ _ (@yKv _) (@zJk _ _ _ _ _ _ _ _ (@op_fdiv _) (pv 1) zWz) (@zKx _ _ _ _ _ _ _ _ _ (@yQx _) rfl T.n_len PySem.boot_len (@zQw _ _ _ _ _ (pv 6) zQk (by exact zQq rfl)) (by decide) (by decide) (by exact zQq rfl) (by exact zQx rfl))) (fun _ _ => rfl)) (@pg_tup _ _ _ _ _ _ rfl (@pgs_cons _ _ _ _ _ (@yQk _ _ (7) _ scLaw.nd rfl (Or.inl rfl) (by first | exact .inl rfl | exact .inr rfl | assumption)) (@pgs_cons _ _ _ _ _ (@yQk _ _ (8) _ scLaw.nd rfl (Or.inl rfl) (by first | exact .inl rfl | exact .inr rfl | assumption)) (@pgs_nil _) (by rfl)) (by rfl)) (by rfl) (by rfl)) (by rfl) (by rfl) (by rfl)) (@zQj _ _ _ _ _ (@zJj _ _ _ _ (@pe_bm _ _ _ _ _ _ _ _ _ _ _ _ PySem.F.plainAttrs_list PySem.F.slot_list_append PySem.F.type_list_append (@yJj _) (pv 3) (@zQw _ _ _ _ _ (pv 7) zQk (by exact zQq rfl)) (by rfl) (by rfl) (by rfl) (by exact zQq rfl) (by exact zQx rfl)) (by rfl)) (@zQj _ _ _ _ _ (@zJj _ _ _ _ (@pe_bm _ _ _ _ _ _ _ _ _ _ _ _ PySem.F.plainAttrs_list PySem.F.slot_list_append PySem.F.type_list_append (@yJj _) (pv 4) (@zQw _ _ _ _ _ (pv 8) zQk (by exact zQq rfl)) (by rfl) (by rfl) (by rfl) (by exact zQq rfl) (by exact zQx rfl)) (by rfl)) (@zWw _ _ _ (@yQq _ _ _ _ _ _ _ _ (@zKz _ _ _ _ _ _ _ _ (@xQx _) (@zJk _ _ _ _ _ _ _ _ (@yKv _) (@zJk _ _ _ _ _ _ _ _ (@op_fdiv _) (pv 1) zWz) zWz) zWz (@nomark _ _ (by decide) (by decide))) (@zWw _ _ _ (@zJj _ _ _ _ (@pe_bm _ _ _ _ _ _ _ _ _ _ _ _ PySem.F.plainAttrs_list PySem.F.slot_list_append PySem.F.type_list_append (@yJj _) (pv 3) (@zQw _ _ _ _ _ (@zJw _ _ _ _ _ _ _ (@zJx _) (@zJv _ _ _ _ (@zQw _ _ _ _ _ (@zQv _ _ _ _) (@zQw _ _ _ _ _ (@zQv _ _ _ _) zQk (by exact zQq rfl)) (by exact zQq rfl))) (@zJk _ _ _ _ _ _ _ _ (@yKv _) (@zJk _ _ _ _ _ _ _ _ (@op_fdivB _) (pv 1) (@zJk _ _ _ _ _ _ _ _ (@op_pow _) zWz zWz)) zWz) (fun _ _ => rfl)) zQk (by exact zQq rfl)) (by rfl) (by rfl) (by rfl) (by exact zQq rfl) (by exact zQx rfl)) (by rfl))) (@zZw _))))))))) (by intro _; rfl)) (@zWw _ _ _ (@zWv _ _ _ _ (@pe_cmpR _ _ _ _ _ _ _ _ (@op_eqS _ hu0) (@zZx _ _ _ _ _ _ _ _ _ _ _ B_play (hr.mono (by decide)) rfl (@passE _ _ _) (@zQw _ _ _ _ _ (@pe_bm _ _ _ _ _ _ _ _ _ _ _ _ PySem.F.plainAttrs_str PySem.F.slot_str_join PySem.F.type_str_join (@mt_join _) (@zQv _ _ _ _) (@zQw _ _ _ _ _ (pv 3) zQk (by exact zQq rfl)) (by rfl) (by rfl) (by rfl) (by exact zQq rfl) (by exact zQx rfl)) zQk (by exact zQq rfl)) (by decide) (by exact zQq rfl) (by exact zQx rfl)) (pv 4) (@nomark _ _ (by decide) (by decide)))))))))), ?_⟩
   refine ⟨_, rfl, a, ns, 0, rfl, sc0.seq, hn, by decide, by decide, fun H1 z0 s1 => ⟨z0, 3, rfl, fun z => ?_⟩⟩
   obtain ⟨k, hk, k3⟩ : ∃ k : Nat, z % 3 = (k : Int) /\ k < 3 := ⟨(z % 3).toNat, by omega, by omega⟩
   have kk : k = 0 \/ k = 1 \/ k = 2 := by omega
   have pre := List.all_eq_true.mp pre_ok k (List.mem_range.mpr k3)
   obtain ⟨pr1, pr2⟩ := Bool.and_eq_true_iff.mp pre
   have pr1 := of_decide_eq_true pr1
   refine ⟨_, rfl, _, _, rfl, rfl, by show (0 : Int) < 3; decide, ?_⟩
   refine ⟨by show 0 <= sizeLine; decide, fun l0 n0 => ⟨by show 2 <= sizeLine; decide, fun l1 n1 => ⟨by show 4 <= sizeLine; decide, fun l2 n2 => ⟨by show 3 <= sizeLine; decide, fun l3 n3 => ?_⟩⟩⟩⟩
   obtain ⟨a1, ha1, e1⟩ : ∃ a1, atI [V.ref l0, V.ref l1, V.ref l2] (z % 3) = some (.ref a1) /\ upd (upd (upd (upd H1 l0 (.lst [])) l1 (.lst ((preL 1).map V.str))) l2 (.lst ((preL 2).map V.str))) l3 (.lst [V.ref l0, V.ref l1, V.ref l2]) a1 = some (.lst ((preL k).map V.str)) := by
     rw [hk]
     rcases kk with rfl | rfl | rfl
     . exact ⟨l0, at0, zWq n3 _ _ (zWq n2 _ _ (zWq n1 _ _ zQz))⟩
     . exact ⟨l1, at1, zWq n3 _ _ (zWq n2 _ _ zQz)⟩
     . exact ⟨l2, at2, zWq n3 _ _ zQz⟩
   refine ⟨_, rfl, l3, _, _, _, rfl, rfl, SqL.of zQz, ha1, ?_⟩
   have s2' : Same H (upd (upd (upd (upd H1 l0 (.lst [])) l1 (.lst ((preL 1).map V.str))) l2 (.lst ((preL 2).map V.str))) l3 (.lst [V.ref l0, V.ref l1, V.ref l2])) := s1.trans ((((zWq n0).trans (zWq n1)).trans (zWq n2)).trans (zWq n3))
   generalize hH2 : upd (upd (upd (upd H1 l0 (HO.lst _)) l1 (HO.lst _)) l2 (HO.lst _)) l3 (HO.lst _) = H2
   have hH2' : upd (upd (upd (upd H1 l0 (.lst [])) l1 (.lst ((preL 1).map V.str))) l2 (.lst ((preL 2).map V.str))) l3 (.lst [V.ref l0, V.ref l1, V.ref l2]) = H2 := hH2
   rw [hH2'] at e1 s2'
   clear hH2 hH2' ha1 n0 n1 n2 n3 l0 l1 l2 l3
   refine ⟨by show 0 <= sizeLine; decide, fun l0 n0 => ⟨by show 2 <= sizeLine; decide, fun l1 n1 => ⟨by show 4 <= sizeLine; decide, fun l2 n2 => ⟨by show 3 <= sizeLine; decide, fun l3 n3 => ?_⟩⟩⟩⟩
   have s30 := zWq (o := .lst []) n0
   have s31 := zWq (o := .lst ((preU 1).map V.str)) n1
   have s32 := zWq (o := .lst ((preU 2).map V.str)) n2
   have s33 := zWq (o := .lst [V.ref l0, V.ref l1, V.ref l2]) n3
   obtain ⟨a2, ha2, e2, ne⟩ : ∃ a2, atI [V.ref l0, V.ref l1, V.ref l2] (z % 3) = some (.ref a2) /\ upd (upd (upd (upd H2 l0 (.lst [])) l1 (.lst ((preU 1).map V.str))) l2 (.lst ((preU 2).map V.str))) l3 (.lst [V.ref l0, V.ref l1, V.ref l2]) a2 = some (.lst ((preU k).map V.str)) /\ a1 ≠ a2 := by
     rw [hk]
     rcases kk with rfl | rfl | rfl
     . exact ⟨l0, at0, s33 _ _ (s32 _ _ (s31 _ _ zQz)), zWk e1 n0⟩
     . exact ⟨l1, at1, s33 _ _ (s32 _ _ zQz), zWk (s30 _ _ e1) n1⟩
     . exact ⟨l2, at2, s33 _ _ zQz, zWk (s31 _ _ (s30 _ _ e1)) n2⟩
   refine ⟨_, rfl, l3, _, _, _, rfl, rfl, SqL.of zQz, ha2, ?_⟩
   have s3' := s2'.trans (((s30.trans s31).trans s32).trans s33)
   have e1' := s33 _ _ (s32 _ _ (s31 _ _ (s30 _ _ e1)))
   have W0 : Lw K a ns k 0 a1 a2 (preL k) (preU k) (upd (upd (upd (upd H2 l0 (.lst [])) l1 (.lst ((preU 1).map V.str))) l2 (.lst ((preU 2).map V.str))) l3 (.lst [V.ref l0, V.ref l1, V.ref l2])) :=
     ⟨e1', e2, ne, pr1, List.all_eq_true.mp pr2, by rcases kk with rfl | rfl | rfl <;> decide, by rcases kk with rfl | rfl | rfl <;> decide, sc0.same s3', fun z => absurd z (by decide)⟩
   refine ⟨_, rfl, a, _, rfl, .inl W0.sc.seq, _, _, rfl, _, _, rfl, _, rfl, ?_, ?_, ?_⟩
   . split <;> split <;> omega
   . rw [List.length_map]
     split <;> split <;> omega
   generalize hN : (if (if ((ns.map V.int).length : Int) < 30 then ((ns.map V.int).length : Int) else 30) > 1 then (if ((ns.map V.int).length : Int) < 30 then ((ns.map V.int).length : Int) else 30) else 1) = NN
   have N30 : NN <= 30 /\ 1 <= NN := by
     rw [<- hN]
     split <;> split <;> omega
   refine yWv (lo := 0) (n := NN.toNat) (fun i σ H8 => ∃ (L U : List Str) (v1 v5 v6 v7 v8 : Option V), σ = [some (.ref a), v1, some (.int (k : Int)), some (.ref a1), some (.ref a2), v5, v6, v7, v8] /\ Lw K a ns k i a1 a2 L U H8) ⟨_, _, _, _, _, _, _, by rw [<- hk]; rfl, W0⟩ ?_ ?_
   rotate_left
   . rintro σ H8 ⟨L, U, v1, v5, v6, v7, v8, rfl, W8⟩
     have ne8 := W8.ps (by omega)
     have len8 := W8.l1
     refine ⟨rfl, _, rfl, _, a1, L, rfl, rfl, W8.h1, W8.join (by omega), L, sgOf k, U, rfl, ne8, fun x m => lineOk_is (W8.ok x m), by omega, W8.rn, fun l H9 e9 s9 => ⟨_, rfl, l, a2, U, U, rfl, rfl, e9, s9 _ _ W8.h2, ?_⟩⟩
     rw [decide_eq_true (rfl : U = U)]
     exact h H9
   clear W0 e1' e2 ne s3' s33 s32 s31 s30 n3 n2 n1 n0 ha2 e1 s2'
   rintro i σ H8 hi ⟨L, U, v1, v5, v6, v7, v8, rfl, W8⟩
   rw [Int.zero_add]
   refine ⟨_, rfl, _, rfl, a, ns, (i : Int), rfl, W8.sc.seq, hn, by omega, by omega, fun H9 y0 s9 => ⟨_, rfl, _, _, rfl, rfl, y0, _, rfl, fun y => ?_⟩⟩
   have W9 := W8.same s9
   refine ⟨_, rfl, k, rfl, k3, fun l ps H10 el pl s10 => ?_⟩
   have W10 := W9.same s10
   apply with_restA (Pr := fun l H => ∃ ps rs, H l = some (.lst (ps.map V.ref)) /\ Prs H ps rs /\ (∀ r ∈ rs, goodR (sgOf k) r = true) /\ 0 < rs.length /\ rs.length <= 50 /\ Lw K a ns k i a1 a2 L U H)
   . intro kn
     refine ⟨_, rfl, _, _, rfl, rfl, by show (0 : Int) < 2; decide, rfl, _, rfl, ?_⟩
     refine if hc : _ then iteD hc ?_ else iteDn hc ?_
     . refine wQj noneT "refused: BadRow" (by decide) (fun R q => ⟨rfl, fun l' H' e' s' => q l' H' (SqL.of e') s'⟩) fun acc ps' H2 hacc pr s2 => ?_
       refine kn acc H2 ⟨ps', _, hacc, pr, fun r m => ?_, by decide, by decide, W10.same s2⟩
       obtain ⟨x, mx, rfl⟩ := List.mem_map.mp m
       exact List.all_eq_true.mp (List.all_eq_true.mp none_ok k (List.mem_range.mpr k3)) x mx
     . refine kn l H10 ⟨ps, _, el, pl, fun r m => List.all_eq_true.mp (List.all_eq_true.mp others_ok k (List.mem_range.mpr k3)) r m, ?_, ?_, W10⟩
       . rcases kk with rfl | rfl | rfl <;> decide
       . rcases kk with rfl | rfl | rfl <;> decide
   clear W10 W9 el pl
   rintro l3 H11 ⟨ps3, rs, el, pl, good, rpos, rlen, W11⟩
   have hlen : (ps3.map V.ref).length = rs.length := by rw [List.length_map, pl.len]
   have m0 := Int.emod_nonneg (y / 2) (show ((ps3.map V.ref).length : Int) ≠ 0 by omega)
   have m1 := Int.emod_lt_of_pos (y / 2) (show (0 : Int) < ((ps3.map V.ref).length : Int) by omega)
   obtain ⟨t, r, e1, e2, ht⟩ := pl.at_ (i := (y / 2 % ((ps3.map V.ref).length : Int)).toNat) (by omega)
   have gr := good r (List.mem_of_getElem? e2)
   have at_ : atI (ps3.map V.ref) (y / 2 % ((ps3.map V.ref).length : Int)) = some (.ref t) := yZw m0 (by rw [List.getElem?_map, e1]; rfl)
   have l1 := W11.l1
   have l2 := W11.l2
   have bd : ∀ {m : Nat}, m <= 900 -> m < sizeLine := fun h => small1000 (by omega)
   refine ⟨_, rfl, _, rfl, _, _, rfl, rfl, ⟨by decide, by decide⟩, _, rfl, l3, _, rfl, .inl (SqL.of el), _, _, rfl, rfl, by omega, l3, _, _, _, rfl, rfl, SqL.of el, at_, t, _, rfl, SqT.of ht, rfl, _, _, rfl, _, _, rfl, rfl, ?_⟩
   refine ⟨_, rfl, .inl ⟨rfl, _, SqL.of W11.h1⟩, _, rfl, a1, _, _, rfl, rfl, W11.h1, bd (by rw [List.length_map]; omega), ?_⟩
   have h2' : upd H11 a1 (.lst (L.map V.str ++ [.str r.1])) a2 = some (.lst (U.map V.str)) := by rw [zWx (Ne.symm W11.ne)]; exact W11.h2
   refine ⟨_, rfl, .inl ⟨rfl, _, SqL.of h2'⟩, _, rfl, a2, _, _, rfl, rfl, h2', bd (by rw [List.length_map]; omega), ?_⟩
   have W12 := W11.app gr
   have l12 : (L ++ [r.1]).length + 1 <= 4 + 2 * (i + 1) := by
     rw [List.length_append]
     show L.length + 1 + 1 <= _
     omega
   generalize upd (upd H11 a1 (HO.lst _)) a2 (HO.lst _) = H12 at W12 ⊢
   refine ⟨_, rfl, _, _, rfl, rfl, ⟨by decide, by decide⟩, _, _, rfl, rfl, by show (0 : Int) < 4; decide, rfl, _, rfl, ?_⟩
   refine if hc : _ then iteD hc ?_ else iteDn hc ?_
   . refine ⟨_, rfl, .inl ⟨rfl, _, SqL.of W12.h1⟩, by show 2 <= sizeLine; decide, fun l5 n5 => ?_⟩
     have s13 := zWq (o := .lst [V.str "", V.str "   "]) n5
     obtain ⟨x, hx, bx, lx⟩ : ∃ x, atI [V.str "", V.str "   "] (y / 2 ^ 14 % 2) = some (.str x) /\ Ev.blank x = true /\ lineOk x = true := by
       have b := List.all_eq_true.mp blank_ok
       have e : y / 2 ^ 14 % 2 = 0 \/ y / 2 ^ 14 % 2 = 1 := by omega
       rcases e with e | e <;> rw [e]
       . exact ⟨_, at0, Bool.and_eq_true_iff.mp (b "" (by simp))⟩
       . exact ⟨_, at1, Bool.and_eq_true_iff.mp (b "   " (by simp))⟩
     have W13 := W12.same s13
     refine ⟨_, rfl, _, _, rfl, rfl, ⟨by decide, by decide, by decide⟩, _, _, rfl, rfl, ⟨by decide, by decide⟩, _, _, rfl, rfl, by show (0 : Int) < 2; decide, l5, _, _, _, rfl, rfl, SqL.of zQz, hx, a1, _, _, rfl, rfl, W13.h1, bd (by rw [List.length_map]; omega), ?_⟩
     exact ⟨_, _, _, _, _, _, _, rfl, W13.blank bx lx l12⟩
   . exact ⟨_, _, _, _, _, _, _, rfl, W12⟩
end
theorem all_mk {l : PySem.W.OpenLaw} {w : World} {K : PySem.W.Frag} {h : Heap} {mg : Str -> Option Value} {fa : Addr} (X : K.In h) (G : h.Ns mainGlobals mg) (hfa : mg "law" = some (.ref fa))
   {C DK cWE cBS cNP cNE cNS cBC cCu cBR cND KD NU : Addr} {tLB : Tok} {tMB : Tok} {tLP : Tok} {tMP : Tok} {tTO : Tok} {tSB : Tok} {tMC : Tok} {tFI : Tok} {tMF : Tok}
   {hN0 hN1 hN2 hN3 hN4 hN5 hN6 hN7 : Int} {sN0 iN0 sN1 iN1 sN2 iN2 sN3 iN3 sN4 iN4 sN5 iN5 sN6 iN6 sN7 iN7 : Tok} {epN : Nat} {fyp fyw fyv fyt fyf fym fyj fyn fz8 fz9 fz0 fy1 fyy fyg fyx fyo fz3 fz7 fyk fx46 fyq fys fy3 fyl fya fyi fy8 fye fyu fyb fy9 fz1 fz5 fz6 fz4 fz2 fy2 fyc fy5 fy6 fy4 fyh fy7 fyr fyd fy0 fyz : Addr} {odyp anyp odyw anyw odyv anyv odyt anyt odyf anyf odym anym odyj anyj odyn anyn odz8 anz8 odz9 anz9 odz0 anz0 ody1 any1 odyy anyy odyg anyg odyx anyx odyo anyo odz3 anz3 odz7 anz7 odyk anyk odx46 anx46 odyq anyq odys anys ody3 any3 odyl anyl odya anya odyi anyi ody8 any8 odye anye odyu anyu odyb anyb ody9 any9 odz1 anz1 odz5 anz5 odz6 anz6 odz4 anz4 odz2 anz2 ody2 any2 odyc anyc ody5 any5 ody6 any6 ody4 any4 odyh anyh ody7 any7 odyr anyr odyd anyd ody0 any0 odyz anyz : Option Addr} {slyp slyw slyv slyt slyf slym slyj slyn slz8 slz9 slz0 sly1 slyy slyg slyx slyo slz3 slz7 slyk slx46 slyq slys sly3 slyl slya slyi sly8 slye slyu slyb sly9 slz1 slz5 slz6 slz4 slz2 sly2 slyc sly5 sly6 sly4 slyh sly7 slyr slyd sly0 slyz : Array (Option Value)} {ocyp kVyp dcyp pmyp cdyp ctyp ocyw kVyw dcyw pmyw cdyw ctyw ocyv kVyv dcyv pmyv cdyv ctyv ocyt kVyt dcyt pmyt cdyt ctyt ocyf kVyf dcyf pmyf cdyf ctyf ocym kVym dcym pmym cdym ctym ocyj kVyj dcyj pmyj cdyj ctyj ocyn kVyn dcyn pmyn cdyn ctyn ocz8 kVz8 dcz8 pmz8 cdz8 ctz8 ocz9 kVz9 dcz9 pmz9 cdz9 ctz9 ocz0 kVz0 dcz0 pmz0 cdz0 ctz0 ocy1 kVy1 dcy1 pmy1 cdy1 cty1 ocyy kVyy dcyy pmyy cdyy ctyy ocyg kVyg dcyg pmyg cdyg ctyg ocyx kVyx dcyx pmyx cdyx ctyx ocyo kVyo dcyo pmyo cdyo ctyo ocz3 kVz3 dcz3 pmz3 cdz3 ctz3 ocz7 kVz7 dcz7 pmz7 cdz7 ctz7 ocyk kVyk dcyk pmyk cdyk ctyk ocx46 kVx46 dcx46 pmx46 cdx46 ctx46 ocyq kVyq dcyq pmyq cdyq ctyq ocys kVys dcys pmys cdys ctys ocy3 kVy3 dcy3 pmy3 cdy3 cty3 ocyl kVyl dcyl pmyl cdyl ctyl ocya kVya dcya pmya cdya ctya ocyi kVyi dcyi pmyi cdyi ctyi ocy8 kVy8 dcy8 pmy8 cdy8 cty8 ocye kVye dcye pmye cdye ctye ocyu kVyu dcyu pmyu cdyu ctyu ocyb kVyb dcyb pmyb cdyb ctyb ocy9 kVy9 dcy9 pmy9 cdy9 cty9 ocz1 kVz1 dcz1 pmz1 cdz1 ctz1 ocz5 kVz5 dcz5 pmz5 cdz5 ctz5 ocz6 kVz6 dcz6 pmz6 cdz6 ctz6 ocz4 kVz4 dcz4 pmz4 cdz4 ctz4 ocz2 kVz2 dcz2 pmz2 cdz2 ctz2 ocy2 kVy2 dcy2 pmy2 cdy2 cty2 ocyc kVyc dcyc pmyc cdyc ctyc ocy5 kVy5 dcy5 pmy5 cdy5 cty5 ocy6 kVy6 dcy6 pmy6 cdy6 cty6 ocy4 kVy4 dcy4 pmy4 cdy4 cty4 ocyh kVyh dcyh pmyh cdyh ctyh ocy7 kVy7 dcy7 pmy7 cdy7 cty7 ocyr kVyr dcyr pmyr cdyr ctyr ocyd kVyd dcyd pmyd cdyd ctyd ocy0 kVy0 dcy0 pmy0 cdy0 cty0 ocyz kVyz dcyz pmyz cdyz ctyz : Value}
   (a_cWE : PySem.W.nsIn K mainGlobals "WearError" = some (some (.ref cWE)))
   (a_cBS : PySem.W.nsIn K mainGlobals "BadSize" = some (some (.ref cBS)))
   (a_cNP : PySem.W.nsIn K mainGlobals "NoPage" = some (some (.ref cNP)))
   (a_cNE : PySem.W.nsIn K mainGlobals "NotErased" = some (some (.ref cNE)))
   (a_cNS : PySem.W.nsIn K mainGlobals "NoSector" = some (some (.ref cNS)))
   (a_cBC : PySem.W.nsIn K mainGlobals "BadContent" = some (some (.ref cBC)))
   (a_cCu : PySem.W.nsIn K mainGlobals "Cut" = some (some (.ref cCu)))
   (a_cBR : PySem.W.nsIn K mainGlobals "BadRow" = some (some (.ref cBR)))
   (a_cND : PySem.W.nsIn K mainGlobals "NoDisk" = some (some (.ref cND)))
   (a_C : PySem.W.nsIn K mainGlobals "Chip" = some (some (.ref C)))
   (a_DK : PySem.W.nsIn K mainGlobals "Disk" = some (some (.ref DK)))
   (x_cBS : PySem.W.excIn K cBS [.type "ValueError", .type "Exception", .type "BaseException", .type "object"] "ValueError.__new__" = true)
   (x_cNP : PySem.W.excIn K cNP [.type "ValueError", .type "Exception", .type "BaseException", .type "object"] "ValueError.__new__" = true)
   (x_cNE : PySem.W.excIn K cNE [.type "ValueError", .type "Exception", .type "BaseException", .type "object"] "ValueError.__new__" = true)
   (x_cCu : PySem.W.excIn K cCu [.type "ValueError", .type "Exception", .type "BaseException", .type "object"] "ValueError.__new__" = true)
   (x_cNS : PySem.W.excIn K cNS [.type "ValueError", .type "Exception", .type "BaseException", .type "object"] "ValueError.__new__" = true)
   (x_cBC : PySem.W.excIn K cBC [.type "ValueError", .type "Exception", .type "BaseException", .type "object"] "ValueError.__new__" = true)
   (x_cBR : PySem.W.excIn K cBR [.type "ValueError", .type "Exception", .type "BaseException", .type "object"] "ValueError.__new__" = true)
   (x_cND : PySem.W.excIn K cND [.type "ValueError", .type "Exception", .type "BaseException", .type "object"] "ValueError.__new__" = true)
   (ex_Cu : PySem.W.exmOne K (.ref cCu) (.ref cCu) = some true)
   (kt_non : PySem.W.kitOne K (.type "NoneType") (.type "tuple") = some false)
   (kt_str : PySem.W.kitOne K (.type "str") (.type "tuple") = some false)
   (kt_tup : PySem.W.kitOne K (.type "tuple") (.type "tuple") = some true)
   (a_KD : PySem.W.nsIn K mainGlobals "Desk" = some (some (.ref KD)))
   (e_cBR_cBR : PySem.W.exmOne K (.ref cBR) (.ref cBR) = some true)
   (e_cND_cBR : PySem.W.exmOne K (.ref cND) (.ref cBR) = some false)
   (e_cND_cND : PySem.W.exmOne K (.ref cND) (.ref cND) = some true)
   (e_cBS_cBR : PySem.W.exmOne K (.ref cBS) (.ref cBR) = some false)
   (e_cBS_cND : PySem.W.exmOne K (.ref cBS) (.ref cND) = some false)
   (e_cBS_cBS : PySem.W.exmOne K (.ref cBS) (.ref cBS) = some true)
   (e_cNP_cBR : PySem.W.exmOne K (.ref cNP) (.ref cBR) = some false)
   (e_cNP_cND : PySem.W.exmOne K (.ref cNP) (.ref cND) = some false)
   (e_cNP_cBS : PySem.W.exmOne K (.ref cNP) (.ref cBS) = some false)
   (e_cNP_cNP : PySem.W.exmOne K (.ref cNP) (.ref cNP) = some true)
   (e_cNS_cBR : PySem.W.exmOne K (.ref cNS) (.ref cBR) = some false)
   (e_cNS_cND : PySem.W.exmOne K (.ref cNS) (.ref cND) = some false)
   (e_cNS_cBS : PySem.W.exmOne K (.ref cNS) (.ref cBS) = some false)
   (e_cNS_cNP : PySem.W.exmOne K (.ref cNS) (.ref cNP) = some false)
   (e_cNS_cNS : PySem.W.exmOne K (.ref cNS) (.ref cNS) = some true)
   (e_cCu_cBR : PySem.W.exmOne K (.ref cCu) (.ref cBR) = some false)
   (e_cCu_cND : PySem.W.exmOne K (.ref cCu) (.ref cND) = some false)
   (e_cCu_cBS : PySem.W.exmOne K (.ref cCu) (.ref cBS) = some false)
   (e_cCu_cNP : PySem.W.exmOne K (.ref cCu) (.ref cNP) = some false)
   (e_cCu_cNS : PySem.W.exmOne K (.ref cCu) (.ref cNS) = some false)
   (e_cCu_cBC : PySem.W.exmOne K (.ref cCu) (.ref cBC) = some false)
   (e_cCu_cCu : PySem.W.exmOne K (.ref cCu) (.ref cCu) = some true)
   (pg : PySem.W.plainGet K C Str.empty = true)
   (hd : PySem.W.hasDictIn K C = true)
   (po : PySem.W.plainOver K C = true)
   (sa : PySem.W.findIn K (.ref C) "__setattr__" = some (some (.builtin "object.__setattr__")))
   (mk : PySem.W.makesIn K C = true)
   (kc : PySem.W.keepIn K (.ref C) = true)
   (pgD : PySem.W.plainGet K DK Str.empty = true)
   (hdD : PySem.W.hasDictIn K DK = true)
   (poD : PySem.W.plainOver K DK = true)
   (saD : PySem.W.findIn K (.ref DK) "__setattr__" = some (some (.builtin "object.__setattr__")))
   (mkD : PySem.W.makesIn K DK = true)
   (kcD : PySem.W.keepIn K (.ref DK) = true)
   (pgK : PySem.W.plainGet K KD Str.empty = true)
   (hdK : PySem.W.hasDictIn K KD = true)
   (poK : PySem.W.plainOver K KD = true)
   (saK : PySem.W.findIn K (.ref KD) "__setattr__" = some (some (.builtin "object.__setattr__")))
   (mkK : PySem.W.makesIn K KD = true)
   (kcK : PySem.W.keepIn K (.ref KD) = true)
   (aB : PySem.W.findIn K (.ref C) "blocks" = some none)
   (aP : PySem.W.findIn K (.ref C) "pages" = some none)
   (aH : PySem.W.findIn K (.ref C) "held" = some none)
   (aE : PySem.W.findIn K (.ref C) "erasures" = some none)
   (aW : PySem.W.findIn K (.ref C) "writes" = some none)
   (aL : PySem.W.findIn K (.ref C) "left" = some none)
   (aD : PySem.W.findIn K (.ref C) "dark" = some none)
   (daC : PySem.W.findIn K (.ref DK) "chip" = some none)
   (daM : PySem.W.findIn K (.ref DK) "many" = some none)
   (daP : PySem.W.findIn K (.ref DK) "places" = some none)
   (daB : PySem.W.findIn K (.ref DK) "block" = some none)
   (daF : PySem.W.findIn K (.ref DK) "filled" = some none)
   (kaC : PySem.W.findIn K (.ref KD) "chip" = some none)
   (kaD : PySem.W.findIn K (.ref KD) "disk" = some none)
   (kaM : PySem.W.findIn K (.ref KD) "many" = some none)
   (z_LB : PySem.W.nsIn K mainGlobals "LEAST_BLOCKS" = some (some (.int 4 tLB)))
   (z_MB : PySem.W.nsIn K mainGlobals "MOST_BLOCKS" = some (some (.int 32 tMB)))
   (z_LP : PySem.W.nsIn K mainGlobals "LEAST_PAGES" = some (some (.int 2 tLP)))
   (z_MP : PySem.W.nsIn K mainGlobals "MOST_PAGES" = some (some (.int 16 tMP)))
   (z_TO : PySem.W.nsIn K mainGlobals "TORN" = some (some (.str "torn" tTO)))
   (z_SB : PySem.W.nsIn K mainGlobals "SPARE_BLOCKS" = some (some (.int 2 tSB)))
   (z_MC : PySem.W.nsIn K mainGlobals "MOST_CONTENT" = some (some (.int 999999999999 tMC)))
   (z_FI : PySem.W.nsIn K mainGlobals "FIGURES" = some (some (.str "0123456789" tFI)))
   (z_MF : PySem.W.nsIn K mainGlobals "MOST_FIGURES" = some (some (.int 12 tMF)))
   (a_NU : PySem.W.nsIn K mainGlobals "NUMBERS" = some (some (.ref NU)))
   (l_NU : K.lookup NU = some ⟨.type "dict", none, .dict #[⟨hN0, .str "chip" sN0, .int 3 iN0⟩, ⟨hN1, .str "write" sN1, .int 2 iN1⟩, ⟨hN2, .str "read" sN2, .int 1 iN2⟩, ⟨hN3, .str "power" sN3, .int 1 iN3⟩, ⟨hN4, .str "mount" sN4, .int 0 iN4⟩, ⟨hN5, .str "worn" sN5, .int 1 iN5⟩, ⟨hN6, .str "written" sN6, .int 0 iN6⟩, ⟨hN7, .str "page" sN7, .int 2 iN7⟩] epN, #[]⟩)
   (h_N0 : hN0 = hashStr w "chip")
   (h_N1 : hN1 = hashStr w "write")
   (h_N2 : hN2 = hashStr w "read")
   (h_N3 : hN3 = hashStr w "power")
   (h_N4 : hN4 = hashStr w "mount")
   (h_N5 : hN5 = hashStr w "worn")
   (h_N6 : hN6 = hashStr w "written")
   (h_N7 : hN7 = hashStr w "page")
   (b_NU : (NU == sysModules) = false)
   (n_len : PySem.W.nsIn K mainGlobals "len" = some none)
   (n_range : PySem.W.nsIn K mainGlobals "range" = some none)
   (n_int : PySem.W.nsIn K mainGlobals "int" = some none)
   (n_list : PySem.W.nsIn K mainGlobals "list" = some none)
   (n_sum : PySem.W.nsIn K mainGlobals "sum" = some none)
   (n_max : PySem.W.nsIn K mainGlobals "max" = some none)
   (n_min : PySem.W.nsIn K mainGlobals "min" = some none)
   (n_isinstance : PySem.W.nsIn K mainGlobals "isinstance" = some none)
   (n_ValueError : PySem.W.nsIn K mainGlobals "ValueError" = some none)
   (n_sorted : PySem.W.nsIn K mainGlobals "sorted" = some none)
   (n_all : PySem.W.nsIn K mainGlobals "all" = some none)
   (n_any : PySem.W.nsIn K mainGlobals "any" = some none)
   (n_tuple : PySem.W.nsIn K mainGlobals "tuple" = some none)
   (n_str : PySem.W.nsIn K mainGlobals "str" = some none)
   (ayp : PySem.W.findIn K (.ref C) "__init__" = some (some (.ref fyp)))
   (iyp : PySem.W.isFn K (.ref fyp) = true)
   (lyp : K.lookup fyp = some ⟨ocyp, odyp, .func (PySem.W.fnOf "__init__" "Chip.__init__" (defArgs sInit) (defBody sInit) (defScope sInit) .none kVyp dcyp pmyp anyp cdyp ctyp), slyp⟩)
   (cyp : PySem.W.codeIn K cdyp "Chip.__init__" = true)
   (kyp : PySem.W.keepIn K (.ref fyp) = true)
   (ayw : PySem.W.findIn K (.ref C) "size" = some (some (.ref fyw)))
   (iyw : PySem.W.isFn K (.ref fyw) = true)
   (lyw : K.lookup fyw = some ⟨ocyw, odyw, .func (PySem.W.fnOf "size" "Chip.size" (defArgs sSize) (defBody sSize) (defScope sSize) .none kVyw dcyw pmyw anyw cdyw ctyw), slyw⟩)
   (cyw : PySem.W.codeIn K cdyw "Chip.size" = true)
   (kyw : PySem.W.keepIn K (.ref fyw) = true)
   (ayv : PySem.W.findIn K (.ref C) "page" = some (some (.ref fyv)))
   (iyv : PySem.W.isFn K (.ref fyv) = true)
   (lyv : K.lookup fyv = some ⟨ocyv, odyv, .func (PySem.W.fnOf "page" "Chip.page" (defArgs sPage) (defBody sPage) (defScope sPage) .none kVyv dcyv pmyv anyv cdyv ctyv), slyv⟩)
   (cyv : PySem.W.codeIn K cdyv "Chip.page" = true)
   (kyv : PySem.W.keepIn K (.ref fyv) = true)
   (ayt : PySem.W.findIn K (.ref C) "worn" = some (some (.ref fyt)))
   (iyt : PySem.W.isFn K (.ref fyt) = true)
   (lyt : K.lookup fyt = some ⟨ocyt, odyt, .func (PySem.W.fnOf "worn" "Chip.worn" (defArgs sWorn) (defBody sWorn) (defScope sWorn) .none kVyt dcyt pmyt anyt cdyt ctyt), slyt⟩)
   (cyt : PySem.W.codeIn K cdyt "Chip.worn" = true)
   (kyt : PySem.W.keepIn K (.ref fyt) = true)
   (ayf : PySem.W.findIn K (.ref C) "written" = some (some (.ref fyf)))
   (iyf : PySem.W.isFn K (.ref fyf) = true)
   (lyf : K.lookup fyf = some ⟨ocyf, odyf, .func (PySem.W.fnOf "written" "Chip.written" (defArgs sWritten) (defBody sWritten) (defScope sWritten) .none kVyf dcyf pmyf anyf cdyf ctyf), slyf⟩)
   (cyf : PySem.W.codeIn K cdyf "Chip.written" = true)
   (kyf : PySem.W.keepIn K (.ref fyf) = true)
   (aym : PySem.W.findIn K (.ref C) "power" = some (some (.ref fym)))
   (iym : PySem.W.isFn K (.ref fym) = true)
   (lym : K.lookup fym = some ⟨ocym, odym, .func (PySem.W.fnOf "power" "Chip.power" (defArgs sPower) (defBody sPower) (defScope sPower) .none kVym dcym pmym anym cdym ctym), slym⟩)
   (cym : PySem.W.codeIn K cdym "Chip.power" = true)
   (kym : PySem.W.keepIn K (.ref fym) = true)
   (ayj : PySem.W.findIn K (.ref C) "write" = some (some (.ref fyj)))
   (iyj : PySem.W.isFn K (.ref fyj) = true)
   (lyj : K.lookup fyj = some ⟨ocyj, odyj, .func (PySem.W.fnOf "write" "Chip.write" (defArgs sWrite) (defBody sWrite) (defScope sWrite) .none kVyj dcyj pmyj anyj cdyj ctyj), slyj⟩)
   (cyj : PySem.W.codeIn K cdyj "Chip.write" = true)
   (kyj : PySem.W.keepIn K (.ref fyj) = true)
   (ayn : PySem.W.findIn K (.ref C) "erase" = some (some (.ref fyn)))
   (iyn : PySem.W.isFn K (.ref fyn) = true)
   (lyn : K.lookup fyn = some ⟨ocyn, odyn, .func (PySem.W.fnOf "erase" "Chip.erase" (defArgs sErase) (defBody sErase) (defScope sErase) .none kVyn dcyn pmyn anyn cdyn ctyn), slyn⟩)
   (cyn : PySem.W.codeIn K cdyn "Chip.erase" = true)
   (kyn : PySem.W.keepIn K (.ref fyn) = true)
   (az8 : PySem.W.findIn K (.ref C) "check_block" = some (some (.ref fz8)))
   (iz8 : PySem.W.isFn K (.ref fz8) = true)
   (lz8 : K.lookup fz8 = some ⟨ocz8, odz8, .func (PySem.W.fnOf "check_block" "Chip.check_block" (defArgs sCB) (defBody sCB) (defScope sCB) .none kVz8 dcz8 pmz8 anz8 cdz8 ctz8), slz8⟩)
   (cz8 : PySem.W.codeIn K cdz8 "Chip.check_block" = true)
   (kz8 : PySem.W.keepIn K (.ref fz8) = true)
   (az9 : PySem.W.findIn K (.ref C) "check_page" = some (some (.ref fz9)))
   (iz9 : PySem.W.isFn K (.ref fz9) = true)
   (lz9 : K.lookup fz9 = some ⟨ocz9, odz9, .func (PySem.W.fnOf "check_page" "Chip.check_page" (defArgs sCP) (defBody sCP) (defScope sCP) .none kVz9 dcz9 pmz9 anz9 cdz9 ctz9), slz9⟩)
   (cz9 : PySem.W.codeIn K cdz9 "Chip.check_page" = true)
   (kz9 : PySem.W.keepIn K (.ref fz9) = true)
   (az0 : PySem.W.findIn K (.ref C) "check_erased_from" = some (some (.ref fz0)))
   (iz0 : PySem.W.isFn K (.ref fz0) = true)
   (lz0 : K.lookup fz0 = some ⟨ocz0, odz0, .func (PySem.W.fnOf "check_erased_from" "Chip.check_erased_from" (defArgs sCE) (defBody sCE) (defScope sCE) .none kVz0 dcz0 pmz0 anz0 cdz0 ctz0), slz0⟩)
   (cz0 : PySem.W.codeIn K cdz0 "Chip.check_erased_from" = true)
   (kz0 : PySem.W.keepIn K (.ref fz0) = true)
   (ay1 : PySem.W.findIn K (.ref C) "draw_power" = some (some (.ref fy1)))
   (iy1 : PySem.W.isFn K (.ref fy1) = true)
   (ly1 : K.lookup fy1 = some ⟨ocy1, ody1, .func (PySem.W.fnOf "draw_power" "Chip.draw_power" (defArgs sDraw) (defBody sDraw) (defScope sDraw) .none kVy1 dcy1 pmy1 any1 cdy1 cty1), sly1⟩)
   (cy1 : PySem.W.codeIn K cdy1 "Chip.draw_power" = true)
   (ky1 : PySem.W.keepIn K (.ref fy1) = true)
   (ayy : PySem.W.findIn K (.ref DK) "__init__" = some (some (.ref fyy)))
   (iyy : PySem.W.isFn K (.ref fyy) = true)
   (lyy : K.lookup fyy = some ⟨ocyy, odyy, .func (PySem.W.fnOf "__init__" "Disk.__init__" (defArgs sDInit) (defBody sDInit) (defScope sDInit) .none kVyy dcyy pmyy anyy cdyy ctyy), slyy⟩)
   (cyy : PySem.W.codeIn K cdyy "Disk.__init__" = true)
   (kyy : PySem.W.keepIn K (.ref fyy) = true)
   (ayg : PySem.W.findIn K (.ref DK) "sectors" = some (some (.ref fyg)))
   (iyg : PySem.W.isFn K (.ref fyg) = true)
   (lyg : K.lookup fyg = some ⟨ocyg, odyg, .func (PySem.W.fnOf "sectors" "Disk.sectors" (defArgs sDSectors) (defBody sDSectors) (defScope sDSectors) .none kVyg dcyg pmyg anyg cdyg ctyg), slyg⟩)
   (cyg : PySem.W.codeIn K cdyg "Disk.sectors" = true)
   (kyg : PySem.W.keepIn K (.ref fyg) = true)
   (ayx : PySem.W.findIn K (.ref DK) "read" = some (some (.ref fyx)))
   (iyx : PySem.W.isFn K (.ref fyx) = true)
   (lyx : K.lookup fyx = some ⟨ocyx, odyx, .func (PySem.W.fnOf "read" "Disk.read" (defArgs sDRead) (defBody sDRead) (defScope sDRead) .none kVyx dcyx pmyx anyx cdyx ctyx), slyx⟩)
   (cyx : PySem.W.codeIn K cdyx "Disk.read" = true)
   (kyx : PySem.W.keepIn K (.ref fyx) = true)
   (ayo : PySem.W.findIn K (.ref DK) "write" = some (some (.ref fyo)))
   (iyo : PySem.W.isFn K (.ref fyo) = true)
   (lyo : K.lookup fyo = some ⟨ocyo, odyo, .func (PySem.W.fnOf "write" "Disk.write" (defArgs sDWrite) (defBody sDWrite) (defScope sDWrite) .none kVyo dcyo pmyo anyo cdyo ctyo), slyo⟩)
   (cyo : PySem.W.codeIn K cdyo "Disk.write" = true)
   (kyo : PySem.W.keepIn K (.ref fyo) = true)
   (az3 : PySem.W.findIn K (.ref DK) "check_sector" = some (some (.ref fz3)))
   (iz3 : PySem.W.isFn K (.ref fz3) = true)
   (lz3 : K.lookup fz3 = some ⟨ocz3, odz3, .func (PySem.W.fnOf "check_sector" "Disk.check_sector" (defArgs sDCheck) (defBody sDCheck) (defScope sDCheck) .none kVz3 dcz3 pmz3 anz3 cdz3 ctz3), slz3⟩)
   (cz3 : PySem.W.codeIn K cdz3 "Disk.check_sector" = true)
   (kz3 : PySem.W.keepIn K (.ref fz3) = true)
   (az7 : PySem.W.findIn K (.ref DK) "begin_block" = some (some (.ref fz7)))
   (iz7 : PySem.W.isFn K (.ref fz7) = true)
   (lz7 : K.lookup fz7 = some ⟨ocz7, odz7, .func (PySem.W.fnOf "begin_block" "Disk.begin_block" (defArgs sDBegin) (defBody sDBegin) (defScope sDBegin) .none kVz7 dcz7 pmz7 anz7 cdz7 ctz7), slz7⟩)
   (cz7 : PySem.W.codeIn K cdz7 "Disk.begin_block" = true)
   (kz7 : PySem.W.keepIn K (.ref fz7) = true)
   (ayk : PySem.W.findIn K (.ref DK) "clean" = some (some (.ref fyk)))
   (iyk : PySem.W.isFn K (.ref fyk) = true)
   (lyk : K.lookup fyk = some ⟨ocyk, odyk, .func (PySem.W.fnOf "clean" "Disk.clean" (defArgs sDClean) (defBody sDClean) (defScope sDClean) .none kVyk dcyk pmyk anyk cdyk ctyk), slyk⟩)
   (cyk : PySem.W.codeIn K cdyk "Disk.clean" = true)
   (kyk : PySem.W.keepIn K (.ref fyk) = true)
   (ax46 : PySem.W.findIn K (.ref DK) "put" = some (some (.ref fx46)))
   (ix46 : PySem.W.isFn K (.ref fx46) = true)
   (lx46 : K.lookup fx46 = some ⟨ocx46, odx46, .func (PySem.W.fnOf "put" "Disk.put" (defArgs sDPut) (defBody sDPut) (defScope sDPut) .none kVx46 dcx46 pmx46 anx46 cdx46 ctx46), slx46⟩)
   (cx46 : PySem.W.codeIn K cdx46 "Disk.put" = true)
   (kx46 : PySem.W.keepIn K (.ref fx46) = true)
   (ayq : PySem.W.findIn K (.ref KD) "__init__" = some (some (.ref fyq)))
   (iyq : PySem.W.isFn K (.ref fyq) = true)
   (lyq : K.lookup fyq = some ⟨ocyq, odyq, .func (PySem.W.fnOf "__init__" "Desk.__init__" (defArgs sKInit) (defBody sKInit) (defScope sKInit) .none kVyq dcyq pmyq anyq cdyq ctyq), slyq⟩)
   (cyq : PySem.W.codeIn K cdyq "Desk.__init__" = true)
   (kyq : PySem.W.keepIn K (.ref fyq) = true)
   (ays : PySem.W.findIn K (.ref KD) "done" = some (some (.ref fys)))
   (iys : PySem.W.isFn K (.ref fys) = true)
   (lys : K.lookup fys = some ⟨ocys, odys, .func (PySem.W.fnOf "done" "Desk.done" (defArgs sKDone) (defBody sKDone) (defScope sKDone) .none kVys dcys pmys anys cdys ctys), slys⟩)
   (cys : PySem.W.codeIn K cdys "Desk.done" = true)
   (kys : PySem.W.keepIn K (.ref fys) = true)
   (ay3 : PySem.W.findIn K (.ref KD) "make_chip" = some (some (.ref fy3)))
   (iy3 : PySem.W.isFn K (.ref fy3) = true)
   (ly3 : K.lookup fy3 = some ⟨ocy3, ody3, .func (PySem.W.fnOf "make_chip" "Desk.make_chip" (defArgs sKMake) (defBody sKMake) (defScope sKMake) .none kVy3 dcy3 pmy3 any3 cdy3 cty3), sly3⟩)
   (cy3 : PySem.W.codeIn K cdy3 "Desk.make_chip" = true)
   (ky3 : PySem.W.keepIn K (.ref fy3) = true)
   (ayl : PySem.W.findIn K (.ref KD) "mount" = some (some (.ref fyl)))
   (iyl : PySem.W.isFn K (.ref fyl) = true)
   (lyl : K.lookup fyl = some ⟨ocyl, odyl, .func (PySem.W.fnOf "mount" "Desk.mount" (defArgs sKMount) (defBody sKMount) (defScope sKMount) .none kVyl dcyl pmyl anyl cdyl ctyl), slyl⟩)
   (cyl : PySem.W.codeIn K cdyl "Desk.mount" = true)
   (kyl : PySem.W.keepIn K (.ref fyl) = true)
   (aya : PySem.W.findIn K (.ref KD) "set_power" = some (some (.ref fya)))
   (iya : PySem.W.isFn K (.ref fya) = true)
   (lya : K.lookup fya = some ⟨ocya, odya, .func (PySem.W.fnOf "set_power" "Desk.set_power" (defArgs sKPower) (defBody sKPower) (defScope sKPower) .none kVya dcya pmya anya cdya ctya), slya⟩)
   (cya : PySem.W.codeIn K cdya "Desk.set_power" = true)
   (kya : PySem.W.keepIn K (.ref fya) = true)
   (ayi : PySem.W.findIn K (.ref KD) "write" = some (some (.ref fyi)))
   (iyi : PySem.W.isFn K (.ref fyi) = true)
   (lyi : K.lookup fyi = some ⟨ocyi, odyi, .func (PySem.W.fnOf "write" "Desk.write" (defArgs sKWrite) (defBody sKWrite) (defScope sKWrite) .none kVyi dcyi pmyi anyi cdyi ctyi), slyi⟩)
   (cyi : PySem.W.codeIn K cdyi "Desk.write" = true)
   (kyi : PySem.W.keepIn K (.ref fyi) = true)
   (ay8 : PySem.W.findIn K (.ref KD) "lose_disk" = some (some (.ref fy8)))
   (iy8 : PySem.W.isFn K (.ref fy8) = true)
   (ly8 : K.lookup fy8 = some ⟨ocy8, ody8, .func (PySem.W.fnOf "lose_disk" "Desk.lose_disk" (defArgs sKLose) (defBody sKLose) (defScope sKLose) .none kVy8 dcy8 pmy8 any8 cdy8 cty8), sly8⟩)
   (cy8 : PySem.W.codeIn K cdy8 "Desk.lose_disk" = true)
   (ky8 : PySem.W.keepIn K (.ref fy8) = true)
   (aye : PySem.W.nsIn K mainGlobals "mounted" = some (some (.ref fye)))
   (lye : K.lookup fye = some ⟨ocye, odye, .func (PySem.W.fnOf "mounted" "mounted" (defArgs sMounted) (defBody sMounted) (defScope sMounted) .none kVye dcye pmye anye cdye ctye), slye⟩)
   (cye : PySem.W.codeIn K cdye "mounted" = true)
   (kye : PySem.W.keepIn K (.ref fye) = true)
   (ayu : PySem.W.nsIn K mainGlobals "mend" = some (some (.ref fyu)))
   (lyu : K.lookup fyu = some ⟨ocyu, odyu, .func (PySem.W.fnOf "mend" "mend" (defArgs sMend) (defBody sMend) (defScope sMend) .none kVyu dcyu pmyu anyu cdyu ctyu), slyu⟩)
   (cyu : PySem.W.codeIn K cdyu "mend" = true)
   (kyu : PySem.W.keepIn K (.ref fyu) = true)
   (ayb : PySem.W.nsIn K mainGlobals "things_on" = some (some (.ref fyb)))
   (lyb : K.lookup fyb = some ⟨ocyb, odyb, .func (PySem.W.fnOf "things_on" "things_on" (defArgs sThings) (defBody sThings) (defScope sThings) .none kVyb dcyb pmyb anyb cdyb ctyb), slyb⟩)
   (cyb : PySem.W.codeIn K cdyb "things_on" = true)
   (kyb : PySem.W.keepIn K (.ref fyb) = true)
   (ay9 : PySem.W.nsIn K mainGlobals "is_erased" = some (some (.ref fy9)))
   (ly9 : K.lookup fy9 = some ⟨ocy9, ody9, .func (PySem.W.fnOf "is_erased" "is_erased" (defArgs sIsEr) (defBody sIsEr) (defScope sIsEr) .none kVy9 dcy9 pmy9 any9 cdy9 cty9), sly9⟩)
   (cy9 : PySem.W.codeIn K cdy9 "is_erased" = true)
   (ky9 : PySem.W.keepIn K (.ref fy9) = true)
   (az1 : PySem.W.nsIn K mainGlobals "has_whole_page" = some (some (.ref fz1)))
   (lz1 : K.lookup fz1 = some ⟨ocz1, odz1, .func (PySem.W.fnOf "has_whole_page" "has_whole_page" (defArgs sHasW) (defBody sHasW) (defScope sHasW) .none kVz1 dcz1 pmz1 anz1 cdz1 ctz1), slz1⟩)
   (cz1 : PySem.W.codeIn K cdz1 "has_whole_page" = true)
   (kz1 : PySem.W.keepIn K (.ref fz1) = true)
   (az5 : PySem.W.nsIn K mainGlobals "block_behind" = some (some (.ref fz5)))
   (lz5 : K.lookup fz5 = some ⟨ocz5, odz5, .func (PySem.W.fnOf "block_behind" "block_behind" (defArgs sBehind) (defBody sBehind) (defScope sBehind) .none kVz5 dcz5 pmz5 anz5 cdz5 ctz5), slz5⟩)
   (cz5 : PySem.W.codeIn K cdz5 "block_behind" = true)
   (kz5 : PySem.W.keepIn K (.ref fz5) = true)
   (az6 : PySem.W.nsIn K mainGlobals "whole_pages" = some (some (.ref fz6)))
   (lz6 : K.lookup fz6 = some ⟨ocz6, odz6, .func (PySem.W.fnOf "whole_pages" "whole_pages" (defArgs sWholeP) (defBody sWholeP) (defScope sWholeP) .none kVz6 dcz6 pmz6 anz6 cdz6 ctz6), slz6⟩)
   (cz6 : PySem.W.codeIn K cdz6 "whole_pages" = true)
   (kz6 : PySem.W.keepIn K (.ref fz6) = true)
   (az4 : PySem.W.nsIn K mainGlobals "newest_block" = some (some (.ref fz4)))
   (lz4 : K.lookup fz4 = some ⟨ocz4, odz4, .func (PySem.W.fnOf "newest_block" "newest_block" (defArgs sNewB) (defBody sNewB) (defScope sNewB) .none kVz4 dcz4 pmz4 anz4 cdz4 ctz4), slz4⟩)
   (cz4 : PySem.W.codeIn K cdz4 "newest_block" = true)
   (kz4 : PySem.W.keepIn K (.ref fz4) = true)
   (az2 : PySem.W.nsIn K mainGlobals "newest_places" = some (some (.ref fz2)))
   (lz2 : K.lookup fz2 = some ⟨ocz2, odz2, .func (PySem.W.fnOf "newest_places" "newest_places" (defArgs sNewP) (defBody sNewP) (defScope sNewP) .none kVz2 dcz2 pmz2 anz2 cdz2 ctz2), slz2⟩)
   (cz2 : PySem.W.codeIn K cdz2 "newest_places" = true)
   (kz2 : PySem.W.keepIn K (.ref fz2) = true)
   (ay2 : PySem.W.nsIn K mainGlobals "last_block" = some (some (.ref fy2)))
   (ly2 : K.lookup fy2 = some ⟨ocy2, ody2, .func (PySem.W.fnOf "last_block" "last_block" (defArgs sLast) (defBody sLast) (defScope sLast) .none kVy2 dcy2 pmy2 any2 cdy2 cty2), sly2⟩)
   (cy2 : PySem.W.codeIn K cdy2 "last_block" = true)
   (ky2 : PySem.W.keepIn K (.ref fy2) = true)
   (ayc : PySem.W.nsIn K mainGlobals "_law_cell" = some (some (.ref fyc)))
   (lyc : K.lookup fyc = some ⟨ocyc, odyc, .func (PySem.W.fnOf "_law_cell" "_law_cell" (defArgs sCell) (defBody sCell) (defScope sCell) .none kVyc dcyc pmyc anyc cdyc ctyc), slyc⟩)
   (cyc : PySem.W.codeIn K cdyc "_law_cell" = true)
   (kyc : PySem.W.keepIn K (.ref fyc) = true)
   (ay5 : PySem.W.nsIn K mainGlobals "_law_drawn" = some (some (.ref fy5)))
   (ly5 : K.lookup fy5 = some ⟨ocy5, ody5, .func (PySem.W.fnOf "_law_drawn" "_law_drawn" (defArgs sDrawn) (defBody sDrawn) (defScope sDrawn) .none kVy5 dcy5 pmy5 any5 cdy5 cty5), sly5⟩)
   (cy5 : PySem.W.codeIn K cdy5 "_law_drawn" = true)
   (ky5 : PySem.W.keepIn K (.ref fy5) = true)
   (ay6 : PySem.W.nsIn K mainGlobals "page_kind" = some (some (.ref fy6)))
   (ly6 : K.lookup fy6 = some ⟨ocy6, ody6, .func (PySem.W.fnOf "page_kind" "page_kind" (defArgs sPKind) (defBody sPKind) (defScope sPKind) .none kVy6 dcy6 pmy6 any6 cdy6 cty6), sly6⟩)
   (cy6 : PySem.W.codeIn K cdy6 "page_kind" = true)
   (ky6 : PySem.W.keepIn K (.ref fy6) = true)
   (ay4 : PySem.W.nsIn K mainGlobals "is_number" = some (some (.ref fy4)))
   (ly4 : K.lookup fy4 = some ⟨ocy4, ody4, .func (PySem.W.fnOf "is_number" "is_number" (defArgs sIsNum) (defBody sIsNum) (defScope sIsNum) .none kVy4 dcy4 pmy4 any4 cdy4 cty4), sly4⟩)
   (cy4 : PySem.W.codeIn K cdy4 "is_number" = true)
   (ky4 : PySem.W.keepIn K (.ref fy4) = true)
   (ayh : PySem.W.nsIn K mainGlobals "parsed" = some (some (.ref fyh)))
   (lyh : K.lookup fyh = some ⟨ocyh, odyh, .func (PySem.W.fnOf "parsed" "parsed" (defArgs sParsed) (defBody sParsed) (defScope sParsed) .none kVyh dcyh pmyh anyh cdyh ctyh), slyh⟩)
   (cyh : PySem.W.codeIn K cdyh "parsed" = true)
   (kyh : PySem.W.keepIn K (.ref fyh) = true)
   (ay7 : PySem.W.nsIn K mainGlobals "answer_to" = some (some (.ref fy7)))
   (ly7 : K.lookup fy7 = some ⟨ocy7, ody7, .func (PySem.W.fnOf "answer_to" "answer_to" (defArgs sAnswer) (defBody sAnswer) (defScope sAnswer) .none kVy7 dcy7 pmy7 any7 cdy7 cty7), sly7⟩)
   (cy7 : PySem.W.codeIn K cdy7 "answer_to" = true)
   (ky7 : PySem.W.keepIn K (.ref fy7) = true)
   (ayr : PySem.W.nsIn K mainGlobals "play" = some (some (.ref fyr)))
   (lyr : K.lookup fyr = some ⟨ocyr, odyr, .func (PySem.W.fnOf "play" "play" (defArgs sPlay) (defBody sPlay) (defScope sPlay) .none kVyr dcyr pmyr anyr cdyr ctyr), slyr⟩)
   (cyr : PySem.W.codeIn K cdyr "play" = true)
   (kyr : PySem.W.keepIn K (.ref fyr) = true)
   (ayd : PySem.W.nsIn K mainGlobals "_law_none" = some (some (.ref fyd)))
   (lyd : K.lookup fyd = some ⟨ocyd, odyd, .func (PySem.W.fnOf "_law_none" "_law_none" (defArgs sNone) (defBody sNone) (defScope sNone) .none kVyd dcyd pmyd anyd cdyd ctyd), slyd⟩)
   (cyd : PySem.W.codeIn K cdyd "_law_none" = true)
   (kyd : PySem.W.keepIn K (.ref fyd) = true)
   (ay0 : PySem.W.nsIn K mainGlobals "_law_others" = some (some (.ref fy0)))
   (ly0 : K.lookup fy0 = some ⟨ocy0, ody0, .func (PySem.W.fnOf "_law_others" "_law_others" (defArgs sOthers) (defBody sOthers) (defScope sOthers) .none kVy0 dcy0 pmy0 any0 cdy0 cty0), sly0⟩)
   (cy0 : PySem.W.codeIn K cdy0 "_law_others" = true)
   (ky0 : PySem.W.keepIn K (.ref fy0) = true)
   (ayz : PySem.W.nsIn K mainGlobals "law" = some (some (.ref fyz)))
   (lyz : K.lookup fyz = some ⟨ocyz, odyz, .func (PySem.W.fnOf "law" "law" (defArgs sLaw) (defBody sLaw) (defScope sLaw) .none kVyz dcyz pmyz anyz cdyz ctyz), slyz⟩)
   (cyz : PySem.W.codeIn K cdyz "law" = true)
   (kyz : PySem.W.keepIn K (.ref fyz) = true) :
   ∃ fd : FuncData, (∀ (s : Shared) (v : Value), BindsTo s fd ⟨[v], []⟩ [("_law_script", v)]) /\ ∀ base : Heap, K.In base -> base.Ns mainGlobals mg -> FnOk l.prog w K mg base (CXw l.prog w) 66 fa fd ["_law_script"] (spLaw K) := by
 have e := hfa.symm.trans (PySem.W.mg_of X G ayz)
 cases e
 have T : Txt K mg C cBS cNP cNE cNS cBC cCu cWE := ⟨⟨pg, hd, po, sa⟩, aB, aP, aH, aE, aW, aL, aD, PySem.W.mg_of X G a_C, PySem.W.mg_of X G a_cBS, PySem.W.mg_of X G a_cNP, PySem.W.mg_of X G a_cNE, PySem.W.mg_of X G a_cNS, PySem.W.mg_of X G a_cBC, PySem.W.mg_of X G a_cCu, PySem.W.mg_of X G a_cWE, ⟨⟨_, _, _, _, PySem.F.excBase_ValueError, x_cBS⟩⟩, ⟨⟨_, _, _, _, PySem.F.excBase_ValueError, x_cNP⟩⟩, ⟨⟨_, _, _, _, PySem.F.excBase_ValueError, x_cNE⟩⟩, ⟨⟨_, _, _, _, PySem.F.excBase_ValueError, x_cCu⟩⟩, ⟨_, PySem.W.mg_of X G z_LB, ⟨_, rfl⟩⟩, ⟨_, PySem.W.mg_of X G z_MB, ⟨_, rfl⟩⟩, ⟨_, PySem.W.mg_of X G z_LP, ⟨_, rfl⟩⟩, ⟨_, PySem.W.mg_of X G z_MP, ⟨_, rfl⟩⟩, ⟨_, PySem.W.mg_of X G z_TO, ⟨_, rfl⟩⟩, PySem.W.mg_none_of X G n_len, PySem.W.mg_none_of X G n_range, PySem.W.mg_none_of X G n_int, PySem.W.mg_none_of X G n_list, PySem.W.mg_none_of X G n_sum, PySem.W.mg_none_of X G n_max, PySem.W.mg_none_of X G n_min, PySem.W.mg_none_of X G n_isinstance, PySem.W.mg_none_of X G n_ValueError⟩
 have TD : TxtD K mg DK cNS cBC := ⟨⟨pgD, hdD, poD, saD⟩, daC, daM, daP, daB, daF, ⟨⟨_, _, _, _, PySem.F.excBase_ValueError, x_cNS⟩⟩, ⟨⟨_, _, _, _, PySem.F.excBase_ValueError, x_cBC⟩⟩, ⟨_, PySem.W.mg_of X G z_SB, ⟨_, rfl⟩⟩, ⟨_, PySem.W.mg_of X G z_MC, ⟨_, rfl⟩⟩, PySem.W.mg_none_of X G n_sorted, PySem.W.mg_none_of X G n_all, PySem.W.mg_none_of X G n_any, PySem.W.mg_none_of X G n_tuple, kt_non, kt_str, kt_tup⟩
 have TL : TxtL K cCu := ⟨ex_Cu⟩
 have TK : TxtK K mg KD cBR cND NU := ⟨⟨pgK, hdK, poK, saK⟩, kaC, kaD, kaM, ⟨⟨_, _, _, _, PySem.F.excBase_ValueError, x_cBR⟩⟩, ⟨⟨_, _, _, _, PySem.F.excBase_ValueError, x_cND⟩⟩, PySem.W.mg_of X G a_cBR, PySem.W.mg_of X G a_cND, ⟨_, PySem.W.mg_of X G z_FI, ⟨_, rfl⟩⟩, ⟨_, PySem.W.mg_of X G z_MF, ⟨_, rfl⟩⟩, PySem.W.mg_of X G a_NU, PySem.W.mg_none_of X G n_str⟩
 have TXX : TxtX K cBR cND cBS cNP cNS cBC cCu := ⟨e_cBR_cBR, e_cND_cBR, e_cND_cND, e_cBS_cBR, e_cBS_cND, e_cBS_cBS, e_cNP_cBR, e_cNP_cND, e_cNP_cBS, e_cNP_cNP, e_cNS_cBR, e_cNS_cND, e_cNS_cBS, e_cNS_cNP, e_cNS_cNS, e_cCu_cBR, e_cCu_cND, e_cCu_cBS, e_cCu_cNP, e_cCu_cNS, e_cCu_cBC, e_cCu_cCu⟩
 have GN : GD l.prog w K NU numK := gd_of l_NU b_NU h_N0 h_N1 h_N2 h_N3 h_N4 h_N5 h_N6 h_N7
 have Fyp := zZz (st := sInit) lyp cyp kyp
 have byp := Fyp.binds (ps := ["self", "blocks", "pages"]) fun _ _ _ _ _ _ us hl => match us, hl with | [_, _, _], _ => rfl
 have Fyw := zZz (st := sSize) lyw cyw kyw
 have byw := Fyw.binds (ps := ["self"]) fun _ _ _ _ _ _ us hl => match us, hl with | [_], _ => rfl
 have Fyv := zZz (st := sPage) lyv cyv kyv
 have byv := Fyv.binds (ps := ["self", "block", "page"]) fun _ _ _ _ _ _ us hl => match us, hl with | [_, _, _], _ => rfl
 have Fyt := zZz (st := sWorn) lyt cyt kyt
 have byt := Fyt.binds (ps := ["self", "block"]) fun _ _ _ _ _ _ us hl => match us, hl with | [_, _], _ => rfl
 have Fyf := zZz (st := sWritten) lyf cyf kyf
 have byf := Fyf.binds (ps := ["self"]) fun _ _ _ _ _ _ us hl => match us, hl with | [_], _ => rfl
 have Fym := zZz (st := sPower) lym cym kym
 have bym := Fym.binds (ps := ["self", "many"]) fun _ _ _ _ _ _ us hl => match us, hl with | [_, _], _ => rfl
 have Fyj := zZz (st := sWrite) lyj cyj kyj
 have byj := Fyj.binds (ps := ["self", "block", "page", "thing"]) fun _ _ _ _ _ _ us hl => match us, hl with | [_, _, _, _], _ => rfl
 have Fyn := zZz (st := sErase) lyn cyn kyn
 have byn := Fyn.binds (ps := ["self", "block"]) fun _ _ _ _ _ _ us hl => match us, hl with | [_, _], _ => rfl
 have Fz8 := zZz (st := sCB) lz8 cz8 kz8
 have bz8 := Fz8.binds (ps := ["self", "block"]) fun _ _ _ _ _ _ us hl => match us, hl with | [_, _], _ => rfl
 have Fz9 := zZz (st := sCP) lz9 cz9 kz9
 have bz9 := Fz9.binds (ps := ["self", "block", "page"]) fun _ _ _ _ _ _ us hl => match us, hl with | [_, _, _], _ => rfl
 have Fz0 := zZz (st := sCE) lz0 cz0 kz0
 have bz0 := Fz0.binds (ps := ["self", "block", "page"]) fun _ _ _ _ _ _ us hl => match us, hl with | [_, _, _], _ => rfl
 have Fy1 := zZz (st := sDraw) ly1 cy1 ky1
 have by1 := Fy1.binds (ps := ["self"]) fun _ _ _ _ _ _ us hl => match us, hl with | [_], _ => rfl
 have Fyy := zZz (st := sDInit) lyy cyy kyy
 have byy := Fyy.binds (ps := ["self", "chip", "many"]) fun _ _ _ _ _ _ us hl => match us, hl with | [_, _, _], _ => rfl
 have Fyg := zZz (st := sDSectors) lyg cyg kyg
 have byg := Fyg.binds (ps := ["self"]) fun _ _ _ _ _ _ us hl => match us, hl with | [_], _ => rfl
 have Fyx := zZz (st := sDRead) lyx cyx kyx
 have byx := Fyx.binds (ps := ["self", "sector"]) fun _ _ _ _ _ _ us hl => match us, hl with | [_, _], _ => rfl
 have Fyo := zZz (st := sDWrite) lyo cyo kyo
 have byo := Fyo.binds (ps := ["self", "sector", "content"]) fun _ _ _ _ _ _ us hl => match us, hl with | [_, _, _], _ => rfl
 have Fz3 := zZz (st := sDCheck) lz3 cz3 kz3
 have bz3 := Fz3.binds (ps := ["self", "sector"]) fun _ _ _ _ _ _ us hl => match us, hl with | [_, _], _ => rfl
 have Fz7 := zZz (st := sDBegin) lz7 cz7 kz7
 have bz7 := Fz7.binds (ps := ["self"]) fun _ _ _ _ _ _ us hl => match us, hl with | [_], _ => rfl
 have Fyk := zZz (st := sDClean) lyk cyk kyk
 have byk := Fyk.binds (ps := ["self", "block"]) fun _ _ _ _ _ _ us hl => match us, hl with | [_, _], _ => rfl
 have Fx46 := zZz (st := sDPut) lx46 cx46 kx46
 have bx46 := Fx46.binds (ps := ["self", "sector", "content"]) fun _ _ _ _ _ _ us hl => match us, hl with | [_, _, _], _ => rfl
 have Fyq := zZz (st := sKInit) lyq cyq kyq
 have byq := Fyq.binds (ps := ["self"]) fun _ _ _ _ _ _ us hl => match us, hl with | [_], _ => rfl
 have Fys := zZz (st := sKDone) lys cys kys
 have bys := Fys.binds (ps := ["self", "name", "given"]) fun _ _ _ _ _ _ us hl => match us, hl with | [_, _, _], _ => rfl
 have Fy3 := zZz (st := sKMake) ly3 cy3 ky3
 have by3 := Fy3.binds (ps := ["self", "blocks", "pages", "many"]) fun _ _ _ _ _ _ us hl => match us, hl with | [_, _, _, _], _ => rfl
 have Fyl := zZz (st := sKMount) lyl cyl kyl
 have byl := Fyl.binds (ps := ["self"]) fun _ _ _ _ _ _ us hl => match us, hl with | [_], _ => rfl
 have Fya := zZz (st := sKPower) lya cya kya
 have bya := Fya.binds (ps := ["self", "many"]) fun _ _ _ _ _ _ us hl => match us, hl with | [_, _], _ => rfl
 have Fyi := zZz (st := sKWrite) lyi cyi kyi
 have byi := Fyi.binds (ps := ["self", "sector", "content"]) fun _ _ _ _ _ _ us hl => match us, hl with | [_, _, _], _ => rfl
 have Fy8 := zZz (st := sKLose) ly8 cy8 ky8
 have by8 := Fy8.binds (ps := ["self"]) fun _ _ _ _ _ _ us hl => match us, hl with | [_], _ => rfl
 have Fye := zZz (st := sMounted) lye cye kye
 have bye := Fye.binds (ps := ["chip", "sectors"]) fun _ _ _ _ _ _ us hl => match us, hl with | [_, _], _ => rfl
 have Fyu := zZz (st := sMend) lyu cyu kyu
 have byu := Fyu.binds (ps := ["chip"]) fun _ _ _ _ _ _ us hl => match us, hl with | [_], _ => rfl
 have Fyb := zZz (st := sThings) lyb cyb kyb
 have byb := Fyb.binds (ps := ["chip", "block"]) fun _ _ _ _ _ _ us hl => match us, hl with | [_, _], _ => rfl
 have Fy9 := zZz (st := sIsEr) ly9 cy9 ky9
 have by9 := Fy9.binds (ps := ["chip", "block"]) fun _ _ _ _ _ _ us hl => match us, hl with | [_, _], _ => rfl
 have Fz1 := zZz (st := sHasW) lz1 cz1 kz1
 have bz1 := Fz1.binds (ps := ["chip", "block"]) fun _ _ _ _ _ _ us hl => match us, hl with | [_, _], _ => rfl
 have Fz5 := zZz (st := sBehind) lz5 cz5 kz5
 have bz5 := Fz5.binds (ps := ["chip", "block"]) fun _ _ _ _ _ _ us hl => match us, hl with | [_, _], _ => rfl
 have Fz6 := zZz (st := sWholeP) lz6 cz6 kz6
 have bz6 := Fz6.binds (ps := ["chip"]) fun _ _ _ _ _ _ us hl => match us, hl with | [_], _ => rfl
 have Fz4 := zZz (st := sNewB) lz4 cz4 kz4
 have bz4 := Fz4.binds (ps := ["chip"]) fun _ _ _ _ _ _ us hl => match us, hl with | [_], _ => rfl
 have Fz2 := zZz (st := sNewP) lz2 cz2 kz2
 have bz2 := Fz2.binds (ps := ["chip", "many"]) fun _ _ _ _ _ _ us hl => match us, hl with | [_, _], _ => rfl
 have Fy2 := zZz (st := sLast) ly2 cy2 ky2
 have by2 := Fy2.binds (ps := ["chip"]) fun _ _ _ _ _ _ us hl => match us, hl with | [_], _ => rfl
 have Fyc := zZz (st := sCell) lyc cyc kyc
 have byc := Fyc.binds (ps := ["_law_script", "_law_k"]) fun _ _ _ _ _ _ us hl => match us, hl with | [_, _], _ => rfl
 have Fy5 := zZz (st := sDrawn) ly5 cy5 ky5
 have by5 := Fy5.binds (ps := ["_law_cell_here", "_law_k"]) fun _ _ _ _ _ _ us hl => match us, hl with | [_, _], _ => rfl
 have Fy6 := zZz (st := sPKind) ly6 cy6 ky6
 have by6 := Fy6.binds (ps := ["thing"]) fun _ _ _ _ _ _ us hl => match us, hl with | [_], _ => rfl
 have Fy4 := zZz (st := sIsNum) ly4 cy4 ky4
 have by4 := Fy4.binds (ps := ["word"]) fun _ _ _ _ _ _ us hl => match us, hl with | [_], _ => rfl
 have Fyh := zZz (st := sParsed) lyh cyh kyh
 have byh := Fyh.binds (ps := ["row"]) fun _ _ _ _ _ _ us hl => match us, hl with | [_], _ => rfl
 have Fy7 := zZz (st := sAnswer) ly7 cy7 ky7
 have by7 := Fy7.binds (ps := ["desk", "row"]) fun _ _ _ _ _ _ us hl => match us, hl with | [_, _], _ => rfl
 have Fyr := zZz (st := sPlay) lyr cyr kyr
 have byr := Fyr.binds (ps := ["text"]) fun _ _ _ _ _ _ us hl => match us, hl with | [_], _ => rfl
 have Fyd := zZz (st := sNone) lyd cyd kyd
 have byd := Fyd.binds (ps := []) fun _ _ _ _ _ _ us hl => match us, hl with | [], _ => rfl
 have Fy0 := zZz (st := sOthers) ly0 cy0 ky0
 have by0 := Fy0.binds (ps := ["_law_stage"]) fun _ _ _ _ _ _ us hl => match us, hl with | [_], _ => rfl
 have Fyz := zZz (st := sLaw) lyz cyz kyz
 have byz := Fyz.binds (ps := ["_law_script"]) fun _ _ _ _ _ _ us hl => match us, hl with | [_], _ => rfl
 refine ⟨PySem.W.fnOf "law" "law" (defArgs sLaw) (defBody sLaw) (defScope sLaw) .none kVyz dcyz pmyz anyz cdyz ctyz, fun s v => .of_eq rfl, fun base _ _ => ?_⟩
 have M_check_block : MtB l.prog w K mg base C _ "check_block" _ _ := ⟨_, _, xKq (P := l.prog) (w := w) (base := base) Fz8 T, bz8, ⟨az8, iz8, kz8⟩⟩
 have M_check_page : MtB l.prog w K mg base C _ "check_page" _ _ := ⟨_, _, ok_check_page (P := l.prog) (w := w) (base := base) Fz9 T M_check_block, bz9, ⟨az9, iz9, kz9⟩⟩
 have M_size : MtB l.prog w K mg base C _ "size" _ _ := ⟨_, _, ok_size (P := l.prog) (w := w) (base := base) Fyw T, byw, ⟨ayw, iyw, kyw⟩⟩
 have M_written : MtB l.prog w K mg base C _ "written" _ _ := ⟨_, _, ok_written (P := l.prog) (w := w) (base := base) Fyf T, byf, ⟨ayf, iyf, kyf⟩⟩
 have M_page : MtB l.prog w K mg base C _ "page" _ _ := ⟨_, _, ok_page (P := l.prog) (w := w) (base := base) Fyv T M_check_page, byv, ⟨ayv, iyv, kyv⟩⟩
 have M_worn : MtB l.prog w K mg base C _ "worn" _ _ := ⟨_, _, ok_worn (P := l.prog) (w := w) (base := base) Fyt T M_check_block, byt, ⟨ayt, iyt, kyt⟩⟩
 have M_power : MtB l.prog w K mg base C _ "power" _ _ := ⟨_, _, ok_power (P := l.prog) (w := w) (base := base) Fym T, bym, ⟨aym, iym, kym⟩⟩
 have M_draw_power : MtB l.prog w K mg base C _ "draw_power" _ _ := ⟨_, _, ok_draw (P := l.prog) (w := w) (base := base) Fy1 T, by1, ⟨ay1, iy1, ky1⟩⟩
 have M_check_erased_from : MtB l.prog w K mg base C _ "check_erased_from" _ _ := ⟨_, _, xZk (P := l.prog) (w := w) (base := base) Fz0 T, bz0, ⟨az0, iz0, kz0⟩⟩
 have M_write : MtB l.prog w K mg base C _ "write" _ _ := ⟨_, _, ok_write (P := l.prog) (w := w) (base := base) Fyj T M_check_page M_check_erased_from M_draw_power, byj, ⟨ayj, iyj, kyj⟩⟩
 have M_erase : MtB l.prog w K mg base C _ "erase" _ _ := ⟨_, _, ok_erase (P := l.prog) (w := w) (base := base) Fyn T M_check_block M_draw_power, byn, ⟨ayn, iyn, kyn⟩⟩
 have B_Chip : MkB l.prog w K mg base C _ "Chip" _ _ := ⟨_, _, ok_init (P := l.prog) (w := w) (base := base) Fyp T, byp, ⟨mk, ayp, iyp, kc⟩, T.g_Chip⟩
 have B_Chip0 := B_Chip
 rw [<- xpSize_eq] at M_size
 rw [<- xpPage_eq] at M_page
 rw [<- xpWritten_eq] at M_written
 rw [<- xpWorn_eq] at M_worn
 rw [<- xpPower_eq] at M_power
 rw [<- xpWrite_eq] at M_write
 rw [<- xpErase_eq] at M_erase
 rw [<- xpInit_eq] at B_Chip
 have B_things_on : FnB l.prog w K mg base _ "things_on" _ _ := ⟨_, _, ok_things (P := l.prog) (w := w) (base := base) Fyb T M_size M_page, byb, PySem.W.mg_of X G ayb, kyb⟩
 have B_is_erased : FnB l.prog w K mg base _ "is_erased" _ _ := ⟨_, _, ok_isEr (P := l.prog) (w := w) (base := base) Fy9 T TD B_things_on, by9, PySem.W.mg_of X G ay9, ky9⟩
 have B_has_whole_page : FnB l.prog w K mg base _ "has_whole_page" _ _ := ⟨_, _, ok_hasW (P := l.prog) (w := w) (base := base) Fz1 T TD B_things_on, bz1, PySem.W.mg_of X G az1, kz1⟩
 have B_block_behind : FnB l.prog w K mg base _ "block_behind" _ _ := ⟨_, _, ok_behind (P := l.prog) (w := w) (base := base) Fz5 T M_size, bz5, PySem.W.mg_of X G az5, kz5⟩
 have B_whole_pages : FnB l.prog w K mg base _ "whole_pages" _ _ := ⟨_, _, ok_whole (P := l.prog) (w := w) (base := base) Fz6 T TD M_size M_page, bz6, PySem.W.mg_of X G az6, kz6⟩
 have B_newest_block : FnB l.prog w K mg base _ "newest_block" _ _ := ⟨_, _, ok_newB (P := l.prog) (w := w) (base := base) Fz4 T M_size B_whole_pages, bz4, PySem.W.mg_of X G az4, kz4⟩
 have B_newest_places : FnB l.prog w K mg base _ "newest_places" _ _ := ⟨_, _, ok_newP (P := l.prog) (w := w) (base := base) Fz2 T M_page B_whole_pages, bz2, PySem.W.mg_of X G az2, kz2⟩
 have B_last_block : FnB l.prog w K mg base _ "last_block" _ _ := ⟨_, _, ok_last (P := l.prog) (w := w) (base := base) Fy2 T M_size B_is_erased B_block_behind, by2, PySem.W.mg_of X G ay2, ky2⟩
 have B_mend : FnB l.prog w K mg base _ "mend" _ _ := ⟨_, _, ok_mend (P := l.prog) (w := w) (base := base) Fyu T M_size M_erase B_is_erased B_has_whole_page B_block_behind B_newest_block, byu, PySem.W.mg_of X G ayu, kyu⟩
 have B_Disk : MkB l.prog w K mg base DK _ "Disk" _ _ := ⟨_, _, ok_dinit (P := l.prog) (w := w) (base := base) Fyy T TD B_newest_places B_last_block B_things_on, byy, ⟨mkD, ayy, iyy, kcD⟩, PySem.W.mg_of X G a_DK⟩
 have B_mounted : FnB l.prog w K mg base _ "mounted" _ _ := ⟨_, _, ok_mounted (P := l.prog) (w := w) (base := base) Fye T TD M_size B_mend B_Disk, bye, PySem.W.mg_of X G aye, kye⟩
 have N_check_sector : MtB l.prog w K mg base DK _ "check_sector" _ _ := ⟨_, _, ok_dcheck (P := l.prog) (w := w) (base := base) Fz3 T TD, bz3, ⟨az3, iz3, kz3⟩⟩
 have N_sectors : MtB l.prog w K mg base DK _ "sectors" _ _ := ⟨_, _, ok_dsectors (C := C) (P := l.prog) (w := w) (base := base) Fyg TD, byg, ⟨ayg, iyg, kyg⟩⟩
 have N_read : MtB l.prog w K mg base DK _ "read" _ _ := ⟨_, _, ok_dread (P := l.prog) (w := w) (base := base) Fyx T TD M_page N_check_sector, byx, ⟨ayx, iyx, kyx⟩⟩
 have N_put : MtB l.prog w K mg base DK _ "put" _ _ := ⟨_, _, ok_dput (P := l.prog) (w := w) (base := base) Fx46 T TD M_write M_written, bx46, ⟨ax46, ix46, kx46⟩⟩
 have N_clean : MtB l.prog w K mg base DK _ "clean" _ _ := ⟨_, _, ok_dclean (P := l.prog) (w := w) (base := base) Fyk T TD M_size M_page M_erase N_put, byk, ⟨ayk, iyk, kyk⟩⟩
 have N_begin_block : MtB l.prog w K mg base DK _ "begin_block" _ _ := ⟨_, _, ok_dbegin (P := l.prog) (w := w) (base := base) Fz7 T TD B_block_behind B_is_erased N_clean, bz7, ⟨az7, iz7, kz7⟩⟩
 have N_write : MtB l.prog w K mg base DK _ "write" _ _ := ⟨_, _, ok_dwrite (P := l.prog) (w := w) (base := base) Fyo T TD M_size N_check_sector N_begin_block N_put, byo, ⟨ayo, iyo, kyo⟩⟩
 rw [<- xpMounted_eq] at B_mounted
 rw [<- xpDRead_eq] at N_read
 rw [<- xpDWrite_eq] at N_write
 have B_law_cell : FnB l.prog w K mg base _ "_law_cell" _ _ := ⟨_, _, ok_cell (P := l.prog) (w := w) (base := base) Fyc T, byc, PySem.W.mg_of X G ayc, kyc⟩
 have B_law_drawn : FnB l.prog w K mg base _ "_law_drawn" _ _ := ⟨_, _, ok_drawn (P := l.prog) (w := w) (base := base) Fy5, by5, PySem.W.mg_of X G ay5, ky5⟩
 have B_Desk : MkB l.prog w K mg base KD _ "Desk" _ _ := ⟨_, _, ok_kinit (P := l.prog) (w := w) (base := base) Fyq TK, byq, ⟨mkK, ayq, iyq, kcK⟩, PySem.W.mg_of X G a_KD⟩
 have B_page_kind : FnB l.prog w K mg base _ "page_kind" _ _ := ⟨_, _, ok_pageKind (P := l.prog) (w := w) (base := base) Fy6, by6, PySem.W.mg_of X G ay6, ky6⟩
 have B_is_number : FnB l.prog w K mg base _ "is_number" _ _ := ⟨_, _, ok_isNum (P := l.prog) (w := w) (base := base) Fy4 T TD TK, by4, PySem.W.mg_of X G ay4, ky4⟩
 have B_parsed : FnB l.prog w K mg base _ "parsed" _ _ := ⟨_, _, ok_parsed (P := l.prog) (w := w) (base := base) Fyh T TD TK GN B_is_number, byh, PySem.W.mg_of X G ayh, kyh⟩
 have D_make_chip : MtB l.prog w K mg base KD _ "make_chip" _ _ := ⟨_, _, ok_kmake (P := l.prog) (w := w) (base := base) Fy3 T TK B_Chip B_mounted, by3, ⟨ay3, iy3, ky3⟩⟩
 have D_mount : MtB l.prog w K mg base KD _ "mount" _ _ := ⟨_, _, ok_kmount (P := l.prog) (w := w) (base := base) Fyl T TK B_mounted, byl, ⟨ayl, iyl, kyl⟩⟩
 have D_set_power : MtB l.prog w K mg base KD _ "set_power" _ _ := ⟨_, _, ok_kpower (DK := DK) (P := l.prog) (w := w) (base := base) Fya T TK M_power, bya, ⟨aya, iya, kya⟩⟩
 have D_write : MtB l.prog w K mg base KD _ "write" _ _ := ⟨_, _, ok_kwrite (P := l.prog) (w := w) (base := base) Fyi T TD TK N_write, byi, ⟨ayi, iyi, kyi⟩⟩
 have D_lose_disk : MtB l.prog w K mg base KD _ "lose_disk" _ _ := ⟨_, _, ok_klose (C := C) (DK := DK) (P := l.prog) (w := w) (base := base) Fy8 TK, by8, ⟨ay8, iy8, ky8⟩⟩
 have D_done : MtB l.prog w K mg base KD _ "done" _ _ := ⟨_, _, ok_kdone (P := l.prog) (w := w) (base := base) Fys T TD TK D_make_chip D_mount D_set_power D_write M_worn M_written M_page B_page_kind N_read, bys, ⟨ays, iys, kys⟩⟩
 have B_answer_to : FnB l.prog w K mg base _ "answer_to" _ _ := ⟨_, _, ok_answer (P := l.prog) (w := w) (base := base) Fy7 T TK TXX B_parsed D_done D_lose_disk, by7, PySem.W.mg_of X G ay7, ky7⟩
 have B_play : FnB l.prog w K mg base _ "play" _ _ := ⟨_, _, ok_play (P := l.prog) (w := w) (base := base) Fyr T TK B_Desk B_answer_to, byr, PySem.W.mg_of X G ayr, kyr⟩
 have B_law_none : FnB l.prog w K mg base _ "_law_none" _ _ := ⟨_, _, ok_none (P := l.prog) (w := w) (base := base) Fyd, byd, PySem.W.mg_of X G ayd, kyd⟩
 have B_law_others : FnB l.prog w K mg base _ "_law_others" _ _ := ⟨_, _, ok_others (P := l.prog) (w := w) (base := base) Fy0, by0, PySem.W.mg_of X G ay0, ky0⟩
 exact ok_law Fyz T B_law_drawn B_law_cell B_law_none B_law_others B_play
theorem scr_of {K : PySem.W.Frag} {H : Hp} {a : Addr} {ns : List Int} (hO : Only H) (hS : SqL K H a (ns.map V.int)) : Scr K H a ns := by
 rcases hS with (h | ⟨o, h⟩) | h
 . rcases hO a with z | ⟨o, xs, z⟩
   . rw [z] at h; cases h
   . rw [z] at h; cases h
 . exact .inl ⟨o, h⟩
 . exact .inr (.inr h)
theorem walk {l : PySem.W.OpenLaw} {q : Program} {loose : List Str} {XP : (Str -> Option Value) -> Heap -> Prop} {YP : World -> Heap -> Prop} {d : DefRec} {K : Params -> PySem.W.Frag} (hn : l.most = some 63) (hdf : d.params.defaults = [])
   (hY : ∀ (w : World) (h : Heap), YP w h -> (K w.params).In h)
   (F : ∀ (w : World) (mg : Str -> Option Value) (fa : Addr) (h : Heap), (K w.params).In h -> h.Ns mainGlobals mg -> mg d.name = some (.ref fa) ->
     ∃ fd : FuncData, (∀ (s : Shared) (u : Value), BindsTo s fd ⟨[u], []⟩ [("_law_script", u)]) /\ ∀ base : Heap, (K w.params).In base -> base.Ns mainGlobals mg -> FnOk l.prog w (K w.params) mg base (CXw l.prog w) 66 fa fd ["_law_script"] (spLaw (K w.params))) :
   PySem.W.WalkO q loose XP YP l.row.toRowW d [] (fun f vs => PySem.call f vs) :=
 L2.walk_of (n := 63) (k := 66) (x := "_law_script") (CX := fun w => CXw l.prog w) (sp := fun w => spLaw (K w.params)) hn (by decide) hdf ⟨fun _ => rfl, by decide, by decide⟩ hY F (fun _ _ a ns hl hO hS => ⟨a, ns, rfl, scr_of hO hS, hl, fun _ => rfl⟩) fun _ _ _ _ _ z => by
   obtain ⟨x, T, cls, H', _, _, _, _, _, _, _, _, _, _, z⟩ := z
   exact z
end Ev
open PySem PySem.W PyProof.Rows
set_option maxRecDepth 100000 in
set_option maxHeartbeats 0 in
theorem PySem.Challenge.cw_evenwear_k17_desk_refusals_holds : PySem.Challenge.rw_evenwear_k17_desk_refusals.Holds := by
 refine Ev.hd ⟨Ev.h2, ?_⟩
 k_fill
 refine Ev.walk (l := PySem.Challenge.rw_evenwear_k17_desk_refusals) rfl rfl (fun w h Y => Y) ?F
 case F =>
   intro w mg fa h KX G hmg
   refine' Ev.all_mk KX G hmg ?a_cWE ?a_cBS ?a_cNP ?a_cNE ?a_cNS ?a_cBC ?a_cCu ?a_cBR ?a_cND ?a_C ?a_DK ?x_cBS ?x_cNP ?x_cNE ?x_cCu ?x_cNS ?x_cBC ?x_cBR ?x_cND ?ex_Cu ?kt_non ?kt_str ?kt_tup ?a_KD ?e_cBR_cBR ?e_cND_cBR ?e_cND_cND ?e_cBS_cBR ?e_cBS_cND ?e_cBS_cBS ?e_cNP_cBR ?e_cNP_cND ?e_cNP_cBS ?e_cNP_cNP ?e_cNS_cBR ?e_cNS_cND ?e_cNS_cBS ?e_cNS_cNP ?e_cNS_cNS ?e_cCu_cBR ?e_cCu_cND ?e_cCu_cBS ?e_cCu_cNP ?e_cCu_cNS ?e_cCu_cBC ?e_cCu_cCu ?pg ?hd ?po ?sa ?mk ?kc ?pgD ?hdD ?poD ?saD ?mkD ?kcD ?pgK ?hdK ?poK ?saK ?mkK ?kcK ?aB ?aP ?aH ?aE ?aW ?aL ?aD ?daC ?daM ?daP ?daB ?daF ?kaC ?kaD ?kaM ?z_LB ?z_MB ?z_LP ?z_MP ?z_TO ?z_SB ?z_MC ?z_FI ?z_MF ?a_NU ?l_NU ?h_N0 ?h_N1 ?h_N2 ?h_N3 ?h_N4 ?h_N5 ?h_N6 ?h_N7 ?b_NU ?n_len ?n_range ?n_int ?n_list ?n_sum ?n_max ?n_min ?n_isinstance ?n_ValueError ?n_sorted ?n_all ?n_any ?n_tuple ?n_str ?ayp ?iyp ?lyp ?cyp ?kyp ?ayw ?iyw ?lyw ?cyw ?kyw ?ayv ?iyv ?lyv ?cyv ?kyv ?ayt ?iyt ?lyt ?cyt ?kyt ?ayf ?iyf ?lyf ?cyf ?kyf ?aym ?iym ?lym ?cym ?kym ?ayj ?iyj ?lyj ?cyj ?kyj ?ayn ?iyn ?lyn ?cyn ?kyn ?az8 ?iz8 ?lz8 ?cz8 ?kz8 ?az9 ?iz9 ?lz9 ?cz9 ?kz9 ?az0 ?iz0 ?lz0 ?cz0 ?kz0 ?ay1 ?iy1 ?ly1 ?cy1 ?ky1 ?ayy ?iyy ?lyy ?cyy ?kyy ?ayg ?iyg ?lyg ?cyg ?kyg ?ayx ?iyx ?lyx ?cyx ?kyx ?ayo ?iyo ?lyo ?cyo ?kyo ?az3 ?iz3 ?lz3 ?cz3 ?kz3 ?az7 ?iz7 ?lz7 ?cz7 ?kz7 ?ayk ?iyk ?lyk ?cyk ?kyk ?ax46 ?ix46 ?lx46 ?cx46 ?kx46 ?ayq ?iyq ?lyq ?cyq ?kyq ?ays ?iys ?lys ?cys ?kys ?ay3 ?iy3 ?ly3 ?cy3 ?ky3 ?ayl ?iyl ?lyl ?cyl ?kyl ?aya ?iya ?lya ?cya ?kya ?ayi ?iyi ?lyi ?cyi ?kyi ?ay8 ?iy8 ?ly8 ?cy8 ?ky8 ?aye ?lye ?cye ?kye ?ayu ?lyu ?cyu ?kyu ?ayb ?lyb ?cyb ?kyb ?ay9 ?ly9 ?cy9 ?ky9 ?az1 ?lz1 ?cz1 ?kz1 ?az5 ?lz5 ?cz5 ?kz5 ?az6 ?lz6 ?cz6 ?kz6 ?az4 ?lz4 ?cz4 ?kz4 ?az2 ?lz2 ?cz2 ?kz2 ?ay2 ?ly2 ?cy2 ?ky2 ?ayc ?lyc ?cyc ?kyc ?ay5 ?ly5 ?cy5 ?ky5 ?ay6 ?ly6 ?cy6 ?ky6 ?ay4 ?ly4 ?cy4 ?ky4 ?ayh ?lyh ?cyh ?kyh ?ay7 ?ly7 ?cy7 ?ky7 ?ayr ?lyr ?cyr ?kyr ?ayd ?lyd ?cyd ?kyd ?ay0 ?ly0 ?cy0 ?ky0 ?ayz ?lyz ?cyz ?kyz
   (case a_cWE | a_cBS | a_cNP | a_cNE | a_cNS | a_cBC | a_cCu | a_cBR | a_cND | a_C | a_DK => k_is)
   (case x_cBS | x_cNP | x_cNE | x_cCu | x_cNS | x_cBC | x_cBR | x_cND => k_exc)
   (case ex_Cu => kts_exm)
   (case kt_non | kt_str | kt_tup => kit_is)
   (case a_KD => k_is)
   (case e_cBR_cBR | e_cND_cBR | e_cND_cND | e_cBS_cBR | e_cBS_cND | e_cBS_cBS | e_cNP_cBR | e_cNP_cND | e_cNP_cBS | e_cNP_cNP | e_cNS_cBR | e_cNS_cND | e_cNS_cBS | e_cNS_cNP | e_cNS_cNS | e_cCu_cBR | e_cCu_cND | e_cCu_cBS | e_cCu_cNP | e_cCu_cNS | e_cCu_cBC | e_cCu_cCu => kts_exm)
   (case pg | hd | po | sa | mk | kc | pgD | hdD | poD | saD | mkD | kcD | pgK | hdK | poK | saK | mkK | kcK | aB | aP | aH | aE | aW | aL | aD | daC | daM | daP | daB | daF | kaC | kaD | kaM | z_LB | z_MB | z_LP | z_MP | z_TO | z_SB | z_MC | z_FI | z_MF | a_NU | l_NU => k_is)
   (case h_N0 | h_N1 | h_N2 | h_N3 | h_N4 | h_N5 | h_N6 | h_N7 | b_NU => exact rfl)
   (case n_len | n_range | n_int | n_list | n_sum | n_max | n_min | n_isinstance | n_ValueError | n_sorted | n_all | n_any | n_tuple | n_str | ayp | iyp | lyp | cyp | kyp | ayw | iyw | lyw | cyw | kyw | ayv | iyv | lyv | cyv | kyv | ayt | iyt | lyt | cyt | kyt | ayf | iyf | lyf | cyf | kyf | aym | iym | lym | cym | kym | ayj | iyj | lyj | cyj | kyj | ayn | iyn | lyn | cyn | kyn | az8 | iz8 | lz8 | cz8 | kz8 | az9 | iz9 | lz9 | cz9 | kz9 | az0 | iz0 | lz0 | cz0 | kz0 | ay1 | iy1 | ly1 | cy1 | ky1 | ayy | iyy | lyy | cyy | kyy | ayg | iyg | lyg | cyg | kyg | ayx | iyx | lyx | cyx | kyx | ayo | iyo | lyo | cyo | kyo | az3 | iz3 | lz3 | cz3 | kz3 | az7 | iz7 | lz7 | cz7 | kz7 | ayk | iyk | lyk | cyk | kyk | ax46 | ix46 | lx46 | cx46 | kx46 | ayq | iyq | lyq | cyq | kyq | ays | iys | lys | cys | kys | ay3 | iy3 | ly3 | cy3 | ky3 | ayl | iyl | lyl | cyl | kyl | aya | iya | lya | cya | kya | ayi | iyi | lyi | cyi | kyi | ay8 | iy8 | ly8 | cy8 | ky8 | aye | lye | cye | kye | ayu | lyu | cyu | kyu | ayb | lyb | cyb | kyb | ay9 | ly9 | cy9 | ky9 | az1 | lz1 | cz1 | kz1 | az5 | lz5 | cz5 | kz5 | az6 | lz6 | cz6 | kz6 | az4 | lz4 | cz4 | kz4 | az2 | lz2 | cz2 | kz2 | ay2 | ly2 | cy2 | ky2 | ayc | lyc | cyc | kyc | ay5 | ly5 | cy5 | ky5 | ay6 | ly6 | cy6 | ky6 | ay4 | ly4 | cy4 | ky4 | ayh | lyh | cyh | kyh | ay7 | ly7 | cy7 | ky7 | ayr | lyr | cyr | kyr | ayd | lyd | cyd | kyd | ay0 | ly0 | cy0 | ky0 | ayz | lyz | cyz | kyz => k_is)
