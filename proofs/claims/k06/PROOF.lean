import PyProof.Rows.All
import Wide.All
import OpenK.AllK
import Wide.FinOn
import HandS.ForMost
import HandS.Walk
import HandS.Wide
import HandS.Defaults
import HandS.IsInst
import HandS.Zip
import HandS.Ends
import KE.KExcPX
import HandS.ForExc
import HandS.ExcInit
import HandS.ExcField
import HandS.TryMany
import HandS.ClsMeth
import HandS.OwnEq
import PyProof.InstNe
import HandS.Call
import KE.KCallOwn
import HandS.MakeKwOnly
import HandS.Style
import HandS.WrittenGet
import HandS.More
import HandS.Flow
import HandS.FStr
import HandS.Strs
import PyProof.EqAt
import PyProof.EqKinds
import PyProof.NeData
import HandS.StrMore
import PySem.Challenge.RW_rolereach_k06_deeds_made
set_option Elab.async false
set_option linter.all false
set_option maxRecDepth 100000
set_option maxHeartbeats 4000000
namespace RL
open PySem PySem.Spec PyProof.Rows L2
/-! ### rules of my own: enumerate of a text, a text times a number, a call by keywords alone -/
def YEnumS (x : Str) : It :=
  ⟨fun i _ => i < x.cps.size, fun i H v H' => ∃ T c, v = .ref T ∧ H T = none ∧ H' = upd H T (.tup [.int (i : Nat), .str ⟨#[c]⟩]) ∧ x.cps[i]? = some c, fun i _ => i = x.cps.size⟩
theorem turn_enumS {P : Program} {w : World} {K : PySem.W.Frag} {elts : List Expr} {kk : Nat} {tpos : Pos} (e it : Addr) (x : Str) (t : Tok) (ty : String) (hty : ty = "str_ascii_iterator" ∨ ty = "str_iterator") :
    Turn P w K (.Tuple elts kk tpos) (YEnumS x) [e, it] e (fun i h => (∃ old, IsEnum h e it ((i : Nat) : Int) old) ∧ h.IsStrIter it ty x t i ∧ e ≠ it) where
  mem := by simp
  obj := fun i h st b hb => by
    obtain ⟨⟨old, he⟩, ⟨o, ho, hc, hd⟩, _⟩ := st
    have e' : b = e ∨ b = it := by simpa using hb
    rcases e' with z | z
    · rw [z]; exact ⟨_, he, fun v q => nomatch q⟩
    · rw [z]; exact ⟨o, ho, fun v q => by rw [hd] at q; cases q⟩
  keep := fun i h h' st k => by
    obtain ⟨⟨old, he⟩, ⟨o, ho, r⟩, hne⟩ := st
    exact ⟨⟨old, k e (by simp) _ he⟩, ⟨o, k it (by simp) o ho, r⟩, hne⟩
  item := by
    intro X hP hw hK hc i pins s σ H E I hf st hg
    subst hP hw hK
    obtain ⟨⟨old, he⟩, hit, hne⟩ := st
    have hel : e < s.heap.objs.size := Heap.lt_size he
    have hil : it < s.heap.objs.size := by obtain ⟨_, q, _⟩ := hit; exact Heap.lt_size q
    have D : Draws X.prog X.w X.A.in1 it [it] x.cps.size (fun i v => ∃ c u, x.cps[i]? = some c ∧ v = .str ⟨#[c]⟩ u) (fun i h => h.IsStrIter it ty x t i) := by
      rcases hty with z | z
      · rw [z]; exact Draws.strAscii (A := X.A.in1) (I.ok.hd hc) it x t
      · rw [z]; exact Draws.strWide (A := X.A.in1) (I.ok.hd hc) it x t
    refine wpAny_pyNext_enum_itemD D he hit hg hne (fun z => hne (by simpa using z)) fun u h' tk hu ho hit' hT hsz hk => ?_
    obtain ⟨c, u', hcx, rfl⟩ := hu
    refine ⟨_, rfl, wpAny_letOwnedTupleGo_enum (s := { s with heap := h', toks := tk + 1 }) ho fun h'' he' sb => ?_⟩
    have hT2 : h''.get? s.heap.objs.size = some { cls := .type "tuple", data := .seq #[.int i tk, .str ⟨#[c]⟩ u'] } := (sb.2 _ (Nat.ne_of_gt hel)).trans hT
    have new : ObjOk X.prog X.w (upd H s.heap.objs.size (.tup [.int (i : Nat), .str ⟨#[c]⟩])) h'' s.heap.objs.size (.tup [.int (i : Nat), .str ⟨#[c]⟩]) :=
      ⟨by show 2 ≤ sizeLine; decide, [.int i tk, .str ⟨#[c]⟩ u'], .cons ⟨_, rfl⟩ (.cons ⟨_, rfl⟩ .nil), ⟨_, hT2, rfl, _, rfl⟩⟩
    have I1 : Inv X pins σ (upd H s.heap.objs.size (.tup [.int (i : Nat), .str ⟨#[c]⟩])) { s with heap := h'', toks := tk + 1 } :=
      I.turnedNew (ch := [e, it]) (fun b ob hb q => (sb.2 b (fun z => hb (by simp [z]))).trans (hk b ob (fun z => hb (by simp [z])) (fun z => hb (by simp [z])) q)) hf (Nat.le_refl _) new
    have hit2 : h''.IsStrIter it ty x t (i + 1) := by
      obtain ⟨o, ho, r⟩ := hit'
      exact ⟨o, (sb.2 it (Ne.symm hne)).trans ho, r⟩
    refine ⟨.ref s.heap.objs.size, _, I1, rfl, ⟨_, c, rfl, I.hok.fresh (Nat.le_refl _), rfl, hcx⟩, ⟨⟨.str ⟨#[c]⟩ u', ?_⟩, hit2, hne⟩, fun b hb => ?_⟩
    · have e1 : ((i + 1 : Nat) : Int) = (i : Int) + 1 := by omega
      rw [e1]; exact he'
    · have hb' : b < s.heap.objs.size := by
        have e' : b = e ∨ b = it := by simpa using hb
        rcases e' with z | z
        · rw [z]; exact hel
        · rw [z]; exact hil
      rw [upd_ne (Nat.ne_of_lt hb')]
      exact (hf b hb).1
  done := by
    intro X hP hw hK hc i pins s σ H E I hf st hg
    subst hP hw hK
    obtain ⟨⟨old, he⟩, hit, hne⟩ := st
    obtain ⟨f0, f1, f2, f3, f4, f5⟩ := hf it (by simp)
    have hg : i = x.cps.size := hg
    subst hg
    have D : Draws X.prog X.w X.A.in1 it [it] x.cps.size (fun i v => ∃ c u, x.cps[i]? = some c ∧ v = .str ⟨#[c]⟩ u) (fun i h => h.IsStrIter it ty x t i) := by
      rcases hty with z | z
      · rw [z]; exact Draws.strAscii (A := X.A.in1) (I.ok.hd hc) it x t
      · rw [z]; exact Draws.strWide (A := X.A.in1) (I.ok.hd hc) it x t
    exact wpAny_pyNext_enum_endD D he hit fun h' eb => ⟨rfl, I.turned (t' := s.toks) (fun b o hb q => eb b o hb q) f0 f1 f3 f4 f5⟩
  self := fun A i s Q E st h => let ⟨⟨_, he⟩, _⟩ := st; wpAny_pyIter_enum he h
def iEnumS (ta : TA) : TI := fun σ H R => ta σ H fun vs H1 => ∃ x, vs = [.str x] ∧ R (YEnumS x) H1
theorem pi_enumS {X : Cx} {e : Expr} {ta : TA} {p pos tpos : Pos} {elts : List Expr} {kk : Nat} (hg : Gl X "enumerate") (hm : X.mg "enumerate" = none) (ha : PA X [e] ta) (hs : starEach [e] X.env = [(false, eval e X.env)] := by rfl) :
    PI X (.Tuple elts kk tpos) (.Call (.Name "enumerate" p) [e] [] pos) (iEnumS ta) := by
  refine ⟨fun pins s σ H R I h => ?_⟩
  refine Call_ (ld_blt I hg hm boot_enumerate (PyProof.Rows.callWith_type1 (thn (ha.run pos pins s σ H _ I h) fun us s1 ⟨vs, H1, I1, r1, q1⟩ => ?_) hs rfl))
  obtain ⟨x, ex, q⟩ := q1
  subst ex
  cases r1 with
  | cons r rr =>
    cases rr
    obtain ⟨t, rfl⟩ := r
    refine call_enumerate_str fun h' he hit hsz hk => wpAny_pyIter_enum he ?_
    have I2 : Inv X pins σ H1 { s1 with heap := h' } := I1.kept (t' := s1.toks) hk
    have hty : strIterType x = "str_ascii_iterator" ∨ strIterType x = "str_iterator" := by
      unfold strIterType
      split
      · exact .inl rfl
      · exact .inr rfl
    refine ⟨s1.heap.objs.size + 1, [s1.heap.objs.size + 1, s1.heap.objs.size], _, _, H1, rfl, I2, turn_enumS (s1.heap.objs.size + 1) s1.heap.objs.size x t (strIterType x) hty, ⟨⟨.none, he⟩, hit, Nat.succ_ne_self _⟩, fun b hb => ?_, q⟩
    have e' : b = s1.heap.objs.size + 1 ∨ b = s1.heap.objs.size := by simpa using hb
    have hle : s1.heap.objs.size ≤ b := by
      rcases e' with z | z
      · rw [z]; exact Nat.le_add_right _ _
      · rw [z]; exact Nat.le_refl _
    exact I1.fpOk hle (I1.hok.fresh hle)
theorem walk_enumS {x : Str} : Walk (YEnumS x) x.cps.size (fun _ => True) (YPair (fun i => some (.int (i : Nat))) (fun i => x.cps[i]?.map fun c => .str ⟨#[c]⟩)) := by
  refine ⟨fun _ _ hi _ => hi, fun _ _ => rfl, fun i H v H' _ _ y => ?_⟩
  obtain ⟨T, c, h1, h2, h3, h4⟩ := y
  exact ⟨T, .int (i : Nat), .str ⟨#[c]⟩, h1, h2, h3, rfl, by show (x.cps[i]?).map _ = _; rw [h4]; rfl⟩
/-- a text n times, its length said -/
def repS (x : Str) (n : Nat) : Str := ⟨((List.replicate n x.cps.toList).flatten).toArray⟩
theorem foldl_app (x : Array Nat) : ∀ (n : Nat) (acc : Array Nat), ((List.replicate n x).foldl (· ++ ·) acc).toList = acc.toList ++ (List.replicate n x.toList).flatten
  | 0, acc => by simp
  | n + 1, acc => by
    rw [List.replicate_succ, List.foldl_cons, foldl_app x n, List.replicate_succ, List.flatten_cons, Array.toList_append, List.append_assoc]
theorem repS_len (x : Str) (n : Nat) : (repS x n).length = n * x.length := by
  show ((List.replicate n x.cps.toList).flatten).toArray.size = _
  rw [List.size_toArray]
  induction n with
  | zero => simp
  | succ n ih =>
    rw [List.replicate_succ, List.flatten_cons, List.length_append, ih, Nat.succ_mul]
    show x.cps.size + _ = _
    rw [Nat.add_comm]
    rfl
theorem op_mul_str {X : Cx} : OpR X (binaryOp .Mult) (fun x y H Q => ∃ (a : Str) (k : Int), x = .str a ∧ y = .int k ∧ 1 ≤ k ∧ k < 1000000000 ∧ a.length * k.toNat ≤ 16000000 ∧ Q (.str (repS a k.toNat)) H) := by
  intro pins s σ H x y v u Q I rx ry h
  obtain ⟨a, k, rfl, rfl, h1, h2, h3, q⟩ := h
  obtain ⟨t, rfl⟩ := rx
  obtain ⟨t', rfl⟩ := ry
  have hn : ¬ k < 1 := by omega
  refine PySem.P.mul_str ?_ ?_ ?_ ?_
  · have e1 : ¬ k < -(2 ^ 63 : Int) := by omega
    have e2 : ¬ k ≥ 2 ^ 63 := by omega
    rw [decide_eq_false e1, decide_eq_false e2]; rfl
  · intro _ _ z
    have z2 : ((a.length : Int) * k) ≤ 16000000 := by
      have : ((a.length * k.toNat : Nat) : Int) ≤ 16000000 := by omega
      rw [Int.natCast_mul, Int.toNat_of_nonneg (by omega)] at this
      exact this
    have z3 : (a.length : Int) ≤ (2 ^ 63 - 1) / k := Int.le_ediv_of_mul_le (by omega) (by omega)
    omega
  · intro _ _
    unfold PySem.Builtin.Str.tooLong
    exact decide_eq_false (by show ¬ _ > 2 ^ 24; omega)
  · rw [if_neg hn]
    by_cases hc : (k == 1 || a.length == 0) = true
    · rw [if_pos hc]
      have e : repS a k.toNat = a := by
        unfold repS
        rw [Bool.or_eq_true, beq_iff_eq, beq_iff_eq] at hc
        rcases hc with hc | hc
        · rw [hc]
          show (⟨((List.replicate 1 a.cps.toList).flatten).toArray⟩ : Str) = a
          simp
        · have z : a.cps.toList = [] := List.eq_nil_of_length_eq_zero (by rw [Array.length_toList]; exact hc)
          have z2 : a = ⟨#[]⟩ := by
            cases a with
            | mk c =>
              congr 1
              apply Array.ext'
              exact z
          rw [z]
          rw [z2]
          congr 1
          apply Array.ext'
          simp
      rw [e] at q
      exact ⟨.str a, H, I, ⟨_, rfl⟩, q⟩
    · rw [if_neg hc]
      have e : (⟨(List.replicate k.toNat a.cps).foldl (· ++ ·) #[]⟩ : Str) = repS a k.toNat := by
        unfold repS
        congr 1
        apply Array.ext'
        rw [foldl_app]
        simp
      rw [e]
      refine ⟨?_, .str (repS a k.toNat), H, I.tok _, ⟨_, rfl⟩, q⟩
      rw [repS_len]
      show _ ≤ 2 ^ 24
      rw [Nat.mul_comm]
      omega
section
variable {X : Cx} {CX : CXT} {k n : Nat} {f : Addr} {fd : FuncData} {ps ks : List Str} {sp : Sp} {E : XK} {x : Str} {p pos : Pos} {kws : List Keyword} {tk : TA} {g : List Value → List Value → List Value} {gV : List V → List V → List V}
def tCallN0 (m : Nat) (sp : Sp) (gV : List V → List V → List V) (E : XK) (tk : TA) : TE := fun σ H Q => tk σ H fun zs H2 => zs.length = m ∧ sp (gV [] zs) H2 Q E
/-- f(k = v, ..) -/
theorem pe_callN0 (F : FnOk X.prog X.w X.K X.mg X.base CX k f fd ps sp) (hr : Room k X.A) (hg : Gl X x) (hm : X.mg x = some (.ref f)) (hk : PySem.W.keepIn X.K (.ref f) = true) (hb : KBn X.K fd ps 0 ks g gV) (hx : Passes CX X E)
    (hkw : PK X kws tk) (hall : (backToKw pos (keywordEach kws X.env)).all (·.1.isSome) = true := by rfl) (hks : (backToKw pos (keywordEach kws X.env)).filterMap (·.1) = ks := by rfl)
    (hdb : (x == ("__debug__" : Str)) = false := by decide)
    (hpl : ((backTo pos (starEach [] X.env)).any (·.1) || (backToKw pos (keywordEach kws X.env)).any (·.1.isNone)) = false := by rfl) :
    PE X (.Call (.Name x p) [] kws pos) (tCallN0 ks.length sp gV E tk) := by
  refine ⟨fun pins s σ H Q I h => ?_⟩
  refine wpAny_Call_Name_kw (ld_glob I hg hm ?_ hdb)
  refine PySem.W.callWith_KW0 (h₀ := X.base) I.ok.mod.kin hk hall ?_ hpl
  refine thn (hkw.run pos pins s σ H _ I h) fun ws s2 ⟨zs, H2, I2, rz, l2, q2⟩ => ⟨I2.kIn, ?_⟩
  rw [hks]
  exact run_fnN (n := 0) F hr hb hx I2 .nil rz rfl l2 q2
end
/-! ### heaps -/
theorem same_upd {H : Hp} {p : Addr} {o : HO} (h : H p = none) : Same H (upd H p o) := fun b x e => by
  rw [upd_ne (ne_of_none e h)]
  exact e
/-- all but b stands as it stood -/
def Keep (b : Addr) (H H' : Hp) : Prop := ∀ a o, a ≠ b → H a = some o → H' a = some o
theorem Keep.refl {b : Addr} {H : Hp} : Keep b H H := fun _ _ _ e => e
theorem Keep.trans {b : Addr} {H H1 H2 : Hp} (k1 : Keep b H H1) (k2 : Keep b H1 H2) : Keep b H H2 := fun a o n e => k2 a o n (k1 a o n e)
theorem Keep.upd {b : Addr} {H : Hp} {o : HO} : Keep b H (upd H b o) := fun a x n e => by
  rw [upd_ne n]
  exact e
theorem Keep.new {b p : Addr} {H : Hp} {o : HO} (h : H p = none) : Keep b H (L2.upd H p o) := fun a x n e => same_upd h a x e
theorem Keep.of {b : Addr} {H H1 : Hp} (s : Same H H1) : Keep b H H1 := fun a o _ e => s a o e
end RL
set_option maxHeartbeats 4000000
/-! ### defs that may ask for a repr: promises where nothing is being shown -/
namespace RG
open PySem PySem.Spec PyProof.Rows L2
section
variable {CX : CXT} {P : Program} {w : World} {K : PySem.W.Frag} {mg : Str → Option Value} {base : Heap} {k : Nat} {f : Addr} {fd : FuncData} {ps : List Str} {sp : Sp}
/-- nothing is being shown -/
abbrev Quiet (A : Around) : Prop := A.guards = some []
/-- as FnOk, where nothing is being shown -/
structure FnG (P : Program) (w : World) (K : PySem.W.Frag) (mg : Str → Option Value) (base : Heap) (CX : CXT) (k : Nat) (f : Addr) (fd : FuncData) (ps : List Str) (sp : Sp) : Prop where
  args : ∀ {vs H Q E}, sp vs H Q E → vs.length = ps.length
  go : ∀ {A : Around} {fr : List Env} {s : Shared} {H : Hp} {ar : Args} {us : List Value} {vs : List V} {Q : VK} {E : XK}, Quiet A → Room k A → Env0 P w K mg base A fr s H → BindsTo s fd ar (ps.zip us) → Vals vs us → sp vs H Q E →
    codeAny (model P w) A (.call (.ref f) ar) (CR CX fr P w H s Q E) s
theorem FnG.of (F : FnOk P w K mg base CX k f fd ps sp) : FnG P w K mg base CX k f fd ps sp where
  args h := F.len _ _ _ _ h
  go _ hr e0 hb r h := F.run _ _ _ _ _ _ _ _ _ hr e0 hb r h
theorem FnG.mono {j : Nat} (F : FnG P w K mg base CX j f fd ps sp) (h : j ≤ k) : FnG P w K mg base CX k f fd ps sp where
  args := F.args
  go q hr := F.go q (hr.mono h)
/-- what a body's end hands on -/
theorem body_end {N : List Str} {qual : Str} {scope : Scope} {cdv : Value} {A : Around} {fr : List Env} {s s2 : Shared} {H : Hp} {Q : VK} {E : XK} {fl : Flow}
    (h : SP (cxOf CX P w K mg base N qual scope f cdv A fr s H E) [] { nx := fun _ H' => Q .non H', rt := Q } fl s2) : CR CX fr P w H s Q E (.ok (match fl with | .next => .ret .none | z => z)) s2 := by
  cases fl with
  | ret u => exact let ⟨v, _, H', J, rv, q⟩ := h; ⟨v, H', J.os, J.bare, J.base, J.hok, rv, q⟩
  | next => exact let ⟨_, H', J, q⟩ := h; ⟨.non, H', J.os, J.bare, J.base, J.hok, rfl, q⟩
  | brk => exact let ⟨_, _, _, q⟩ := h; q.elim
  | cont => exact let ⟨_, _, _, q⟩ := h; q.elim
theorem FnG.mk' {name qual : Str} {params : Arguments} {body : List Stmt} {scope : Scope} {dV kV doc pm cdv ct oc : Value} {an od : Option Addr} {osl : Array (Option Value)} {N : List Str}
    (lk : K.lookup f = some ⟨oc, od, .func (PySem.W.fnOf name qual params body scope dV kV doc pm an cdv ct), osl⟩) (hcd : PySem.W.codeIn K cdv qual = true) (S : FnScope N ps scope) (len : ∀ {vs H Q E}, sp vs H Q E → vs.length = ps.length)
    (hbody : ∀ {A : Around} {fr : List Env} {s : Shared} {H : Hp} {vs : List V} {Q : VK} {E : XK}, Quiet A → Room k (A.deeper (envOfC qual scope s.heap.objs.size f cdv)) → sp vs H Q E →
      ∃ t, PSs (cxOf CX P w K mg base N qual scope f cdv A fr s H E) body t ∧ t { nx := fun _ H' => Q .non H', rt := Q } (start N vs) H) :
    FnG P w K mg base CX (k + 1) f (PySem.W.fnOf name qual params body scope dV kV doc pm an cdv ct) ps sp where
  args := len
  go {A fr s H ar us vs Q E} qt hr e0 hb r h := by
    have old : ∀ {b o}, base.get? b = some o → s.heap.get? b = some o := fun e => (e0.bs _ _ e).1
    refine codeAny_call_function hr.depth (e0.mod.kin.keeps (fun _ _ e => old e) _ _ lk) rfl S.co S.gen rfl (PySem.W.codeRec_of (e0.mod.kin.keeps fun _ _ e => old e) hcd) (hb _ _ _ _ ?_)
    refine wpAny_newFunctionEnv_cells S.kind (fun y hy => (S.par y.1 (List.of_mem_zip hy).1).imp id fun q => ⟨q, PySem.W.cellsFrom_some _ _ _ (.inl q)⟩) fun env he s1 x => ?_
    subst he
    obtain ⟨t, ht, hq⟩ := hbody (fr := fr) qt (hr.deeper _) h
    refine ⟨(e0.mod.nolimit.keeps fun _ _ e => old e).keeps x.toInCall.keep, codeAny_func (wpAny_mono (ht.run [] s1 (start N vs) H _ (inv_start S hr.hd e0 (len h) r x) hq) (fun fl s' hs => ?_) fun _ _ z => z)⟩
    have z := body_end hs
    cases fl with
    | ret u => exact z
    | next => exact z
    | brk => exact (show False from z).elim
    | cont => exact (show False from z).elim
end
section
variable {X : Cx} {CX : CXT} {k : Nat} {f : Addr} {fd : FuncData} {ps : List Str} {sp : Sp} {E : XK} {ds : List Value} {dvs : List V} {x : Str} {p pos : Pos} {e : Expr} {es : List Expr} {t : TA}
/-- f(e, ..) of such a def -/
theorem pe_callG (F : FnG X.prog X.w X.K X.mg X.base CX k f fd ps sp) (qt : Quiet X.A) (hr : Room k X.A) (hg : Gl X x) (hm : X.mg x = some (.ref f)) (hk : PySem.W.keepIn X.K (.ref f) = true) (hb : Binds X.K fd ps ds) (hd : Vals dvs ds) (hx : Passes CX X E)
    (ha : PA X (e :: es) t) (hdb : (x == ("__debug__" : Str)) = false := by decide) (he : starEach (e :: es) X.env = (false, eval e X.env) :: starEach es X.env := by rfl) (hpl : (backTo pos (starEach es X.env)).any (·.1) = false := by rfl) :
    PE X (.Call (.Name x p) (e :: es) [] pos) (tCall sp dvs E t) := ⟨fun pins s σ H Q I h => by
  refine wpAny_Call_Name_kw (ld_glob I hg hm (PySem.W.callWith_K (h₀ := X.base) I.ok.mod.kin hk (thn (ha.run pos pins s σ H _ I h) fun us s1 ⟨vs, H1, I1, r, q⟩ => ⟨I1.kIn, ?_⟩) he hpl) hdb)
  have r2 := r.append hd
  refine wpAny_call (codeAny_mono (F.go qt hr I1.env0 (hb s1 us I1.kIn (r2.length.symm.trans (F.args q))) r2 q) fun rs s2 z => ?_)
  match rs, z with
  | .error er, z => exact hx pins σ H1 s1 er s2 I1 z
  | .ok (.ret u), z => exact I1.after z⟩
end
/-! ### the repr of a list -/
/-- what an item may be: data without a dict; an empty dict; a dict of one text -/
inductive Sd (K : PySem.W.Frag) (H : Hp) : V → PyData → Prop
  | dp {v : V} {d : PyData} : Dp K H v d → Sd K H v d
  | dic0 {a : Addr} : H a = some (.dK []) → Sd K H (.ref a) (.dict [])
  | dic1 {a : Addr} {i : Int} {z : Str} : H a = some (.dK [(.inl i, .str z)]) → Sd K H (.ref a) (.dict [(.int i, .str z)])
/-- items of a list that is shown: plain ones ahead, anything as the last one; or none with a dict -/
inductive SdAll (K : PySem.W.Frag) (H : Hp) : List V → List PyData → Prop
  | last {v : V} {d : PyData} : Sd K H v d → SdAll K H [v] [d]
  | txt {z : Str} {vs : List V} {ds : List PyData} : SdAll K H vs ds → SdAll K H (.str z :: vs) (.str z :: ds)
  | all {vs : List V} {ds : List PyData} : DpAll K H vs ds → SdAll K H vs ds
section
variable {X : Cx} {pins : List (Addr × Obj)} {σ : L2.St} {H : Hp} {s : Shared}
mutual
theorem dp_nodict {K : PySem.W.Frag} {H : Hp} : ∀ {v : V} {d : PyData}, Dp K H v d → d.hasDict = false
  | _, _, .non => by simp [PyData.hasDict]
  | _, _, .bl _ => by simp [PyData.hasDict]
  | _, _, .int _ => by simp [PyData.hasDict]
  | _, _, .str _ => by simp [PyData.hasDict]
  | _, _, .lst _ h => by simp only [PyData.hasDict]; exact dpAll_nodict h
  | _, _, .tup _ h => by simp only [PyData.hasDict]; exact dpAll_nodict h
theorem dpAll_nodict {K : PySem.W.Frag} {H : Hp} : ∀ {vs : List V} {ds : List PyData}, DpAll K H vs ds → PyData.hasDictAll ds = false
  | _, _, .nil => by simp [PyData.hasDictAll]
  | _, _, .cons h t => by simp only [PyData.hasDictAll, dp_nodict h, dpAll_nodict t, Bool.or_self]
end
theorem sd_reads (I : Inv X pins σ H s) {v : V} {d : PyData} {u : Value} (h : Sd X.K H v d) (r : RelV v u) : ∃ as, Reads s.heap u d as ∧ (d.hasDict = true → sysModules ∉ as) := by
  cases h with
  | dp h =>
    obtain ⟨as, q⟩ := Dp.reads I d v u h r
    exact ⟨as, q, fun z => by rw [dp_nodict h] at z; cases z⟩
  | dic0 e =>
    cases r
    obtain ⟨_, hs, vs, kv, o, es, ep, h1, h2, h3, _, hp, _⟩ := (show ObjOk X.prog X.w H s.heap _ (.dK []) from I.hok _ _ e)
    cases kv
    have ee : es.toList = [] := by
      cases hh : es.toList with
      | nil => rfl
      | cons a b => rw [hh] at hp; cases hp
    refine ⟨_, Reads.dict (kvs := []) (as := []) (bs := []) h1 h2.1 h3 (by rw [ee]; exact .nil) (by rw [ee]; exact .nil), fun _ hm => ?_⟩
    have := beq_eq_false_iff_ne.mp hs
    rcases List.mem_cons.mp hm with z | z
    · exact this z.symm
    · simp at z
  | dic1 e =>
    cases r
    rename_i a i z
    obtain ⟨_, hs, vs, kv, o, es, ep, h1, h2, h3, _, hp, _⟩ := (show ObjOk X.prog X.w H s.heap _ (.dK [(.inl i, .str z)]) from I.hok _ _ e)
    cases kv with
    | cons q1 q2 =>
      cases q2
      obtain ⟨q0, q1⟩ := q1
      rename_i kv0 _
      obtain ⟨k0, v0⟩ := kv0
      have q0 : (Sum.inl i : L2.Key) = k0 := q0
      subst q0
      obtain ⟨t, q1⟩ := (show ∃ t, v0 = Value.str z t from q1)
      subst q1
      cases hh : es.toList with
      | nil => rw [hh] at hp; cases hp
      | cons e1 e2 =>
        rw [hh] at hp
        cases hp with
        | cons p1 p2 p3 =>
          cases p3
          have p1 : keyIs (.inl i) e1.key = true := p1
          rcases keyIs_shape p1 with ⟨j, u, hj, hk⟩ | ⟨x, u, hj, hk⟩
          · have ej : i = j := Sum.inl.inj hj
            subst ej
            refine ⟨_, Reads.dict (kvs := [(.int i, .str z)]) (as := [] ++ []) (bs := [] ++ []) h1 h2.1 h3 ?_ ?_, fun _ hm => ?_⟩
            · rw [hh]
              show ReadsAll s.heap [e1.key] [.int i] _
              rw [hk]
              exact .cons (.int _ _) .nil
            · rw [hh]
              show ReadsAll s.heap [e1.val] [.str z] _
              rw [p2]
              exact .cons (.str _ _) .nil
            · have := beq_eq_false_iff_ne.mp hs
              rcases List.mem_cons.mp hm with z | z
              · exact this z.symm
              · simp at z
          · cases hj
theorem sd_readsAll (I : Inv X pins σ H s) : ∀ {vs : List V} {ds : List PyData} {us : List Value}, SdAll X.K H vs ds → Vals vs us → ∃ as, ReadsAll s.heap us ds as ∧ (PyData.hasDictAll ds = true → sysModules ∉ as)
  | _, _, _, .last h, .cons r .nil => by
    obtain ⟨as, q, n⟩ := sd_reads I h r
    refine ⟨_, .cons q .nil, fun z hm => n ?_ (by simpa using hm)⟩
    simpa [PyData.hasDictAll] using z
  | _, _, _, .txt h, .cons r rr => by
    obtain ⟨t, rfl⟩ := r
    obtain ⟨bs, q2, n2⟩ := sd_readsAll I h rr
    exact ⟨_, .cons (.str _ t) q2, fun z hm => n2 (by simpa [PyData.hasDictAll, PyData.hasDict] using z) (by simpa using hm)⟩
  | _, _, _, .all h, r => by
    obtain ⟨as, q⟩ := Dp.readsAll I _ _ _ h r
    exact ⟨as, q, fun z => by rw [dpAll_nodict h] at z; cases z⟩
/-- repr(x), x a list -/
def rRepr (K : PySem.W.Frag) : List V → Hp → VK → Prop := fun vs H Q => ∃ (a : Addr) (xs : List V) (ds : List PyData), vs = [.ref a] ∧ SqL K H a xs ∧ SdAll K H xs ds ∧ PyData.showable (.list ds) = true ∧ (PyData.shown (.list ds)).length ≤ sizeLine ∧ PyData.depth (.list ds) ≤ 60 ∧ Q (.str (PyData.shown (.list ds))) H
theorem call_reprL {k : Nat} (qt : Quiet X.A) (hr : Room k X.A) : CallR X (.builtin "repr") (rRepr X.K) := by
  intro pins s σ H vs us Q I r h
  obtain ⟨a, xs, ds, rfl, hq, hd, hs, hz, hdp, q⟩ := h
  cases r with
  | cons r rr =>
    cases rr
    cases r
    obtain ⟨its, rv, ⟨o, n, ho, hc, _, hdt⟩, _⟩ := I.list hq
    obtain ⟨as, ra, hsm⟩ := sd_readsAll I hd rv
    have hu := hr.units
    have hs' : PyData.showableAll ds = true := by simpa [PyData.showable] using hs
    have hz' : (listText (PyData.shownAll ds)).length ≤ sizeLine := by simpa only [PyData.shown] using hz
    have fin : ∀ (h' : Heap) (u tk : Tok), (∀ b o, s.heap.get? b = some o → h'.get? b = some o) → EP X pins σ Q (.str (PyData.shown (.list ds)) u) { s with heap := h', toks := tk } :=
      fun h' u tk kp => ⟨.str _, H, I.kept kp, ⟨u, rfl⟩, q⟩
    obtain ⟨bs, hb, hk⟩ := ReprAllK.of_readsAll (prog := X.prog) (w := X.w) ra hs' hsm (fun t ht => Nat.le_trans (listText_mem_le ht) hz')
    have hna : a ∉ bs := not_mem_of_deeper (.list (vs := its.toArray) ho hc hdt (by simpa using ra)) (by simp only [PyData.depth]; omega) hb
    have hdp' : PyData.depthAll ds + 1 ≤ 60 := by simpa only [PyData.depth] using hdp
    refine call_repr_slot (by omega) ⟨o, ho, hc⟩ F.slot_list_repr.toG ?_
    cases its with
    | nil =>
      cases ra
      simp only [PyData.shown, PyData.shownAll, listText_nil] at fin
      exact call_list_repr_empty ⟨o, ho, hc⟩ ho hdt ⟨_, _, rfl, fin s.heap _ _ fun _ _ e => e⟩
    | cons x l =>
      refine call_list_reprK ho hc hdt hna (by simpa using hk.length_eq) (fun i y e => hk.item i y (by simpa using e)) (g := []) qt (fun b _ => Clear.nil b) (by show X.A.units + 1 + _ < _; omega) (fun _ _ e => e) (fun h' u tk kp => ⟨_, _, rfl, ?_⟩) hz'
      have := fin h' u tk kp
      simpa only [PyData.shown] using this
end
end RG
set_option maxHeartbeats 4000000
/-! ### the head, where nothing is being shown -/
namespace RG
open PySem PySem.Spec PyProof.Rows L2
section
variable {P : Program} {w : World} {K : PySem.W.Frag} {mg mb : Str → Option Value} {CX : CXT} {k : Nat} {fa a : Addr} {fd : FuncData} {x : Str} {sp : Sp} {s1 : Shared} {vs : List Value} {ns : List Int}
/-- what the law's call is to come to -/
abbrev Won (s1 : Shared) : Result → Shared → Prop := fun r s' => r = .ok (.ret (.bool true)) ∧ OldK s1.heap s'.heap ∧ s'.os = s1.os ∧ AllBare s'.gens
/-- from a tracked heap that holds the script at most -/
theorem won_from {H : Hp} (KX : K.In s1.heap) (hns : s1.heap.Ns mainGlobals mg) (hb : s1.heap.Ns builtinsNs mb) (hbb : ∀ x : Str, x ≠ "__name__" → mb x = bootBuiltins x) (hlim : s1.heap.NoLimit) (hg : s1.gens = #[])
    (hl : ∀ b, H b ≠ none → ∃ o xs, H b = some (.frz o (.lst xs)) ∧ K.lookup b = none) (hdt : ∀ b o es n, s1.heap.get? b = some o → o.data = .dict es n → H b = none) (hok : HOk P w H s1.heap)
    (hr : Room k callerA) (F : ∀ base : Heap, K.In base → base.Ns mainGlobals mg → FnG P w K mg base CX k fa fd [x] sp) (hbind : ∀ (s : Shared) (u : Value), BindsTo s fd ⟨[u], []⟩ [(x, u)])
    (hsp : sp [.ref a] H (fun v _ => v = .bl true) fun _ _ _ => False) (hCX : ∀ e s', CX [] H s1 (fun _ _ _ => False) e s' → False) :
    codeAny (model P w) callerA (.call (.ref fa) ⟨[.ref a], []⟩) (Won s1) s1 := by
  -- the part of the heap that nothing tracks
  have un : ∀ {b : Addr} {m : Str → Option Value}, s1.heap.Ns b m → (hidT s1.heap H).Ns b m := fun ⟨o, es, ep, e, d, r⟩ => ⟨o, es, ep, hidT_get e (hdt _ _ _ _ e d), d, r⟩
  have kin : K.In (hidT s1.heap H) := fun b o e => by
    refine hidT_get (KX b o e) ?_
    cases q : H b with
    | none => rfl
    | some u =>
      obtain ⟨_, _, _, z⟩ := hl b (by rw [q]; exact fun z => nomatch z)
      rw [z] at e
      cases e
  obtain ⟨mc, l1, l2⟩ := hlim
  have env : Env0 P w K mg (hidT s1.heap H) callerA [] s1 H :=
    { frames := rfl, mod := ⟨kin, un hns, ⟨mb, un hb, hbb⟩, mc, un l1, l2⟩, bs := fun _ _ e => of_hidT e, bsz := Nat.le_of_eq (hidT_size _ _), funs := trivial, frf := fun _ z => (nomatch z), hok := hok, bare := .of_eq hg }
  refine codeAny_mono ((F _ kin (un hns)).go (us := [.ref a]) (vs := [.ref a]) rfl hr env (hbind s1 (.ref a)) (.cons rfl .nil) hsp) fun r s2 h => ?_
  match r, h with
  | .error e, h => exact (hCX e s2 h).elim
  | .ok (.ret u), ⟨v, H2, os, bare, U, ok2, rv, ev⟩ =>
    have ev : v = .bl true := ev
    subst ev
    have rv : u = Value.bool true := rv
    subst rv
    refine ⟨rfl, OldK.of_keep fun b o e => ?_, os, bare⟩
    cases q : H b with
    | none => exact U.keep b o e q (fun z => nomatch z) (fun z => nomatch z)
    | some u =>
      obtain ⟨ob, xs, z, _⟩ := hl b (by rw [q]; exact fun z => nomatch z)
      have e1 := (hok b _ z).1
      have e2 := (ok2 b _ (U.frzs b ob _ z)).1
      rw [e1] at e
      cases e
      exact e2
theorem law_callG (KX : K.In s1.heap) (hns : s1.heap.Ns mainGlobals mg) (hb : s1.heap.Ns builtinsNs mb) (hbb : ∀ x : Str, x ≠ "__name__" → mb x = bootBuiltins x) (hlim : s1.heap.NoLimit) (hg : s1.gens = #[])
    (ha : s1.heap.get? a = some { cls := .type "list", data := .seq vs.toArray }) (hi : IntsAre vs ns) (hl : ns.length ≤ sizeLine) (hr : Room k callerA)
    (F : ∀ base : Heap, K.In base → base.Ns mainGlobals mg → FnG P w K mg base CX k fa fd [x] sp) (hbind : ∀ (s : Shared) (u : Value), BindsTo s fd ⟨[u], []⟩ [(x, u)])
    (hsp : ∀ H : Hp, Only H → SqL K H a (ns.map V.int) → sp [.ref a] H (fun v _ => v = .bl true) fun _ _ _ => False) (hCX : ∀ H e s', CX [] H s1 (fun _ _ _ => False) e s' → False) :
    codeAny (model P w) callerA (.call (.ref fa) ⟨[.ref a], []⟩) (Won s1) s1 := by
  have rv := vals_ints hi
  have lenV := hi.length
  cases hk : K.lookup a with
  | some o =>
    have e := (KX a o hk).symm.trans ha
    cases e
    have hS : SqL K (fun _ => none) a (ns.map V.int) := .inr ⟨_, vs.toArray, _, hk, rfl, rfl, rfl, by rw [List.size_toArray, lenV]; exact hl, rv⟩
    exact won_from KX hns hb hbb hlim hg (H := fun _ => none) (fun _ z => absurd rfl z) (fun _ _ _ _ _ _ => rfl) (fun _ _ z => nomatch z) hr F hbind (hsp _ (fun _ => .inl rfl) hS) (hCX _)
  | none =>
    -- the script is tracked, locked
    let H : Hp := upd (fun _ => none) a (.frz { cls := .type "list", data := .seq vs.toArray } (.lst (ns.map V.int)))
    have at_ : H a = some (.frz { cls := .type "list", data := .seq vs.toArray } (.lst (ns.map V.int))) := upd_same
    have off : ∀ {b}, b ≠ a → H b = none := fun n => upd_ne n
    refine won_from KX hns hb hbb hlim hg (H := H) (fun b z => ?_) (fun b o es n e d => ?_) (fun b u z => ?_) hr F hbind (hsp H (fun b => ?_) (.inl (.inr ⟨_, at_⟩))) (hCX _)
    · by_cases q : b = a
      · subst q
        exact ⟨_, _, at_, hk⟩
      · exact absurd (off q) z
    · by_cases q : b = a
      · subst q
        rw [ha] at e
        cases e
        cases d
      · exact off q
    · by_cases q : b = a
      · subst q
        have z2 := Option.some.inj (z.symm.trans at_)
        subst z2
        exact ⟨ha, by rw [List.length_map]; exact hl, vs, _, rv, ha⟩
      · rw [off q] at z
        cases z
    · by_cases q : b = a
      · subst q
        exact .inr ⟨_, _, at_⟩
      · exact .inl (off q)
end
theorem walk_ofG {l : PySem.W.OpenLaw} {n k : Nat} {q : Program} {loose : List Str} {XP : (Str → Option Value) → Heap → Prop} {YP : World → Heap → Prop} {d : DefRec} {K : Params → PySem.W.Frag} {CX : World → CXT} {sp : World → Sp} {x : Str}
    (hn : l.most = some n) (hn2 : n ≤ sizeLine) (hdf : d.params.defaults = []) (hr : Room k callerA) (hY : ∀ (w : World) (h : Heap), YP w h → (K w.params).In h)
    (F : ∀ (w : World) (mg : Str → Option Value) (fa : Addr) (h : Heap), (K w.params).In h → h.Ns mainGlobals mg → mg d.name = some (.ref fa) →
      ∃ fd : FuncData, (∀ (s : Shared) (u : Value), BindsTo s fd ⟨[u], []⟩ [(x, u)]) ∧ ∀ base : Heap, (K w.params).In base → base.Ns mainGlobals mg → FnG l.prog w (K w.params) mg base (CX w) k fa fd [x] (sp w))
    (hsp : ∀ (w : World) (H : Hp) (a : Addr) (ns : List Int), ns.length ≤ n → Only H → SqL (K w.params) H a (ns.map V.int) → sp w [.ref a] H (fun v _ => v = .bl true) fun _ _ _ => False)
    (hCX : ∀ (w : World) (H : Hp) (s : Shared) (e : Value) (s' : Shared), CX w [] H s (fun _ _ _ => False) e s' → False) : PySem.W.WalkO q loose XP YP l.row.toRowW d [] (fun f vs => PySem.call f vs) :=
  Att.attach_call hn hdf fun w s0 s1 mg mb fa o pm cd doc a vs ns G Y _ _ _ hmg hobj hints hlen hg =>
    let ⟨_, hb, hF⟩ := F w mg fa _ (hY w _ Y) G.T.g hmg
    law_callG (hY w _ Y) G.T.g G.T.b G.T.builtins G.T.nolimit hg hobj hints (Nat.le_trans hlen hn2) hr hF hb (fun H hO hS => hsp w H a ns hlen hO hS) fun H e s' => hCX w H s1 e s'
end RG
set_option maxHeartbeats 4000000
/-! ### a try with several clauses that bind the error -/
namespace RX
open PySem PySem.Spec PyProof.Rows L2
/-- a clause: its class, the slot of its name, its suite's reading -/
structure Cl where
  c : Value
  i : Nat
  ts : Addr → Value → Option Addr → TS
/-- behind a suite the slot is empty again -/
def Ends.wipe (D : Ends) (i : Nat) : Ends := { nx := fun σ H => D.nx (σ.set i none) H, rt := D.rt, bk := fun σ H => D.bk (σ.set i none) H, ct := fun σ H => D.ct (σ.set i none) H }
/-- what is wanted of an error: the first clause that takes it; one must -/
def wCl (K : PySem.W.Frag) (D : Ends) : List Cl → WX
  | [] => fun _ _ _ _ => False
  | q :: r => fun cls d σ H => ∃ b, PySem.W.exmOne K cls q.c = some b ∧ (b = true → ∀ a, H a = none → q.ts a cls d (Ends.wipe D q.i) (σ.set q.i (some (.ref a))) H) ∧ (b = false → wCl K D r cls d σ H)
/-- the clauses, from the first; those behind the last of l are never asked -/
inductive Cls' (X : Cx) : List ExceptHandler → List Cl → Prop
  | rest {hs : List ExceptHandler} : Cls' X hs []
  | cons {x n : Str} {q : Cl} {b0 : Stmt} {su : List Stmt} {np ps : Pos} {hs : List ExceptHandler} {l : List Cl} (hi : X.N[q.i]? = some n) (hl : X.env.kindOf n = some .local) (hc : Names X x q.c)
      (hsu : ∀ (a : Addr) (oe : Obj) (cls : Value) (d : Option Addr) (pn : List (Addr × Obj)), Zc cls d oe → (∃ vs, oe.data = .fields vs) → PSs (X.suite a ((a, oe) :: pn)) (b0 :: su) (q.ts a cls d)) (r : Cls' X hs l) :
      Cls' X (.ExceptHandler (some (.Name x np)) (some n) (b0 :: su) ps :: hs) (q :: l)
section
variable {X : Cx} {body : List Stmt} {h0 : ExceptHandler} {hs : List ExceptHandler} {l : List Cl} {pos : Pos} {tb : WX → TS}
theorem ps_tryC (hst : X.stack = X.env :: X.outer) (hf : X.env.frame = some X.env.locals) (hN : X.N.Nodup)
    (hb : ∀ (W : WX) (pn : List (Addr × Obj)) (xe : Value → Shared → Prop), Takes (X.tr pn xe) W → PassesOwn (model X.prog X.w) X.A X.env xe → PSs (X.tr pn xe) body (tb W))
    (hh : Cls' X (h0 :: hs) l) : PS X (.Try body (h0 :: hs) [] [] pos) (fun D σ H => tb (wCl X.K D l) D σ H) := ⟨fun pins s σ H D I h => by
  have ok := I.ok
  refine wpAny_Try_except ?_
  -- the error's way: noted, set in flight, then to the clauses
  let away : Value → Shared → Prop := fun e s1 => wpAny (model X.prog X.w) X.A (noteFrame e X.env) (fun _ s2 => wpAny (model X.prog X.w) X.A (setFlight e none) (fun _ s3 => wpAny (model X.prog X.w) X.A (handleBy e X.env (h0 :: hs)) (SP X pins D) X.xe s3) X.xe s2) X.xe s1
  have take : Takes (X.tr (X.pn ++ pins) away) (wCl X.K D l) := fun u s' xx => by
    obtain ⟨a, B, sI, pins', σ1, H1, cls, d, rfl, J0, nb, up, sky, na, os, ag, w⟩ := xx
    have J : Inv X pins σ1 H1 sI := J0.ofTry ok
    have hfr : X.A.frames = some (X.env :: X.outer) := ok.frames.trans (congrArg some hst)
    have sky1 : Sky B (X.env :: X.outer) a (Zc cls d) X.env.locals s'.heap := hst ▸ sky
    refine Sky.land Zc.steady hfr hf sky1 fun h3 fl up3 => ?_
    have J3 : Inv X pins σ1 H1 { s' with heap := h3 } := J.landed nb fl.1 (up.trans up3) os ag
    obtain ⟨oe, vs, he, hz, hd⟩ := fl.there
    have apart : ∀ {e : Env}, e ∈ X.env :: X.outer → ∀ {z : Addr}, e.frame = some z → z ≠ a := fun {e} he' {z} ez q => by
      subst q
      obtain ⟨_, o', e', hnf⟩ := fl.2.2.1.mem (List.mem_filterMap.mpr ⟨e, he', ez⟩)
      exact hnf _ (by rw [he] at e'; cases e'; exact hd)
    have nL : a ≠ X.env.locals := fun z => apart List.mem_cons_self hf z.symm
    have nF : a ∉ X.fs := fun hm => by
      obtain ⟨e, he', q⟩ := List.mem_filterMap.mp hm
      exact apart (List.mem_cons_of_mem _ he') q rfl
    have S3 := J3.suite he hd na nL nF
    have go : ∀ {hs' : List ExceptHandler} {l' : List Cl}, Cls' X hs' l' → wCl X.K D l' cls d σ1 H1 → wpAny (model X.prog X.w) X.A (handleBy (.ref a) X.env hs') (SP X pins D) X.xe { s' with heap := h3 } := by
      intro hs' l' hk
      induction hk with
      | rest => exact fun w => w.elim
      | @cons x n q b0 su np ps hs2 l2 hi hl hc hsu r ih =>
        rintro ⟨b, hb1, yes, no⟩
        have test : ∀ {Q' : Value → Shared → Prop} {E' : Value → Shared → Prop}, Q' q.c { s' with heap := h3 } → wpAny (model X.prog X.w) (X.A.mark (some (.ref a))) (eval (.Name x np) X.env) Q' E' { s' with heap := h3 } := fun {Q' E'} hq => by
          obtain ⟨g1, g2, m | ⟨m, v, nn⟩⟩ := hc
          · exact ld_glob (X := X.suite a ((a, oe) :: (X.pn ++ pins))) S3 g1 m hq g2
          · exact ld_blt (X := X.suite a ((a, oe) :: (X.pn ++ pins))) S3 g1 m v hq nn g2
        cases b with
        | false => exact PySem.PX.clause_passZ J3.kIn (fun o z => z.1) fl hb1 test (ih (no rfl))
        | true =>
          refine PySem.PX.clause_asZ J3.kIn (fun o z => z.1) fl hb1 test fun h4 fl4 up4 => ?_
          obtain ⟨oe4, vs4, he4, hz4, hd4⟩ := fl4.there
          have S4 := (J.landed nb fl4.1 ((up.trans up3).trans up4) os ag : Inv X pins σ1 H1 { s' with heap := h4 }).suite he4 hd4 na nL nF
          refine store_ok (X := X.suite a ((a, oe4) :: (X.pn ++ pins))) (v := .ref a) S4 hN hi (.inl hl) rfl (fun s5 S5 => ?_) (.inr hl)
          refine wpAny_mono ((hsu a oe4 cls d (X.pn ++ pins) hz4 ⟨_, hd4⟩).run [] s5 _ H1 _ S5 (yes rfl a na)) (fun f s6 hsp => ?_) fun _ _ z => z.elim
          match f, hsp with
          | .next, ⟨_, _, S6, q6⟩ => exact gone_ok (S6.unsuite ok) hN hi hl fun s7 J7 => ⟨_, _, J7, q6⟩
          | .brk, ⟨_, _, S6, q6⟩ => exact gone_ok (S6.unsuite ok) hN hi hl fun s7 J7 => ⟨_, _, J7, q6⟩
          | .cont, ⟨_, _, S6, q6⟩ => exact gone_ok (S6.unsuite ok) hN hi hl fun s7 J7 => ⟨_, _, J7, q6⟩
          | .ret u, ⟨_, _, _, S6, r6, q6⟩ => exact gone_ok (S6.unsuite ok) hN hi hl fun s7 J7 => ⟨_, _, _, J7, r6, q6⟩
    exact go hh w
  refine wpAny_mono ((hb (wCl X.K D l) (X.pn ++ pins) away take PassesOwn.looking).run [] s σ H D (I.toTry _) h) (fun f s1 hsp => ?_) fun e s1 he => he
  match f, hsp with
  | .next, ⟨_, _, J, q⟩ => exact wpAny_execs_nil ⟨_, _, J.ofTry ok, q⟩
  | .brk, ⟨_, _, J, q⟩ => exact ⟨_, _, J.ofTry ok, q⟩
  | .cont, ⟨_, _, J, q⟩ => exact ⟨_, _, J.ofTry ok, q⟩
  | .ret u, ⟨_, _, _, J, r, q⟩ => exact ⟨_, _, _, J.ofTry ok, r, q⟩⟩
end
end RX
set_option maxHeartbeats 4000000
/-! ### an own error whose __init__ calls that of its base by the base's name, then keeps its fields -/
namespace RX
open PySem PySem.Spec PyProof.Rows L2
section
variable {X : Cx} {x : Str} {CR : Addr} {mc : Value} {e : Expr} {es : List Expr} {ta : TA} {p1 p2 pos : Pos}
/-- what of the base's class is read -/
structure BaseI (K : PySem.W.Frag) (mg : Str → Option Value) (x : Str) (CR : Addr) (mc : Value) : Prop where
  gl : mg x = some (.ref CR)
  rd : PySem.W.readsIn K CR mc = true
  ga : PySem.W.specialIn K (.ref CR) "__getattribute__" = some (some (.builtin "type.__getattribute__"))
  ini : PySem.W.findCls K (.ref CR) mc "__init__" = some (.val (.builtin "ValueError.__init__"))
theorem pe_cinit {pl : Sem Bool} (B : BaseI X.K X.mg x CR mc) (hg : Gl X x) (ha : PA X (e :: es) ta) (hdb : (x == ("__debug__" : Str)) = false := by decide)
    (hc : eval (.Call (.Attribute (.Name x p1) "__init__" p2) (e :: es) [] pos) X.env = (do
      let ov ← eval (.Name x p1) X.env
      standAt p2.atName
      let (f, first) ← holding [ov] (getMethod ov "__init__" pl)
      callWith pos f first (backTo pos (starEach (e :: es) X.env)) (backToKw pos (keywordEach [] X.env))) := by rfl)
    (he : starEach (e :: es) X.env = (false, eval e X.env) :: starEach es X.env := by rfl) (hpl : (backTo pos (starEach es X.env)).any (·.1) = false := by rfl) :
    PE X (.Call (.Attribute (.Name x p1) "__init__" p2) (e :: es) [] pos) (tVeI X.K ta) := ⟨fun pins s σ H Q I h => by
  refine PySem.W.methodCall_KW (ld_glob I hg B.gl ?_ hdb) hc
  refine PySem.W.method_cls I.kIn B.ga (PySem.W.cls_value I.kIn B.rd B.ini (by rfl) ?_)
  show wpAny _ _ (callWith pos (Value.builtin "ValueError.__init__") [] (backTo pos (starEach (e :: es) X.env)) []) _ _ _
  refine PyProof.Rows.callWith_method1 (thn (ha.run pos pins _ σ H _ (I.tok _) h) fun us s1 ⟨vs, H1, I1, r1, a, C, ws, ev, hl, T, ea, q⟩ => ?_) he hpl
  subst ev
  match us, r1 with
  | u0 :: ur, .cons ra rw' =>
    cases (show u0 = Value.ref a from ra)
    exact oinit_ok T I1 ea (by rw [← Paired.length rw', sizeLine_eq]; omega) fun s' J => ⟨.non, H1, J, rfl, q⟩⟩
end
end RX
set_option maxHeartbeats 4000000
/-! ### == by own __eq__, either answer: lists item by item -/
namespace RQ
open PySem PySem.SeqAt GQ
open AutoSeq1 (wpAny_loadPart')
open MeetsSeq MeetsSeq2 MeetsSeq3 SeqRoads2
section
variable {prog : Program} {w : World} {A : Around} {R : Result → Shared → Prop}
/-- at each turn the two lists are read anew; the i-th two items compare as ds tells -/
def ListB (prog : Program) (w : World) (A : Around) (E : Value → Shared → Prop) (l b : Addr) (N : Nat) (ds : Nat → Bool) (I : Nat → Shared → Prop) : Prop :=
  ∀ i s, I i s → ∃ (items items2 : Array Value) (n n2 : Nat), s.heap.get? l = some { cls := .type "list", data := .seq items n } ∧ s.heap.get? b = some { cls := .type "list", data := .seq items2 n2 } ∧ items.size = N ∧ items2.size = N ∧
    ∀ (h1 : i < items.size) (h2 : i < items2.size), wpAny (model prog w) A.in1 (eqBool items[i] items2[i]) (fun r s' => r = ds i ∧ I (i + 1) s') E s
theorem eq_loopB (l b : Addr) (N : Nat) (ds : Nat → Bool) (I : Nat → Shared → Prop) (hl : ListB prog w A (fun e s' => R (.error e) s') l b N ds I)
    (fin : ∀ s, (∀ j, j < N → ds j = true) → I N s → R (.ok (.ret (.bool true))) s) (finF : ∀ i s, i < N → ds i = false → I (i + 1) s → R (.ok (.ret (.bool false))) s) (k : Nat) :
    ∀ i : Nat, N - i = k → i ≤ N → (∀ j, j < i → ds j = true) → ∀ s, I i s →
      wpAny (model prog w) A.in1 (Builtin.«list.__eq__.loop» ⟨[.ref l, .ref b, rawInt i, rawInt 2], []⟩) (FinOf prog w A R) (fun e s' => R (.error e) s') s := by
  induction k with
  | zero =>
    intro i hk hi hd s h
    obtain ⟨items, items2, n, n2, hl1, hb1, hs1, hs2, _⟩ := hl _ _ h
    have hi' : i = N := by omega
    have hR : R (.ok (.ret (.bool true))) s := fin s (hi' ▸ hd) (hi' ▸ h)
    obtain ⟨hp, g, d, tk, os⟩ := s
    wp_walk using wpAny_loadPart' hl1, wpAny_loadPart' hb1
    have hi1 : items[((i : Nat) : Int).toNat]? = none := by simp; omega
    have hi2 : items2[((i : Nat) : Int).toNat]? = none := by simp; omega
    rw [hi1, hi2]
    wp_walk using wpAny_loadPart' hl1, wpAny_loadPart' hb1
    show R (.ok (.ret (.bool (items.size == items2.size)))) _
    rw [hs1, hs2]
    simpa using hR
  | succ k ih =>
    intro i hk hi hd s h
    obtain ⟨items, items2, n, n2, hl1, hb1, hs1, hs2, turn⟩ := hl _ _ h
    have hlt : i < items.size := by omega
    have hlt2 : i < items2.size := by omega
    have ht := turn hlt hlt2
    obtain ⟨hp, g, d, tk, os⟩ := s
    wp_walk using wpAny_loadPart' hl1, wpAny_loadPart' hb1
    have hi1 : items[((i : Nat) : Int).toNat]? = some items[i] := by simp [hlt]
    have hi2 : items2[((i : Nat) : Int).toNat]? = some items2[i] := by simp [hlt2]
    have hc : ((i : Int) + 1) = ((i + 1 : Nat) : Int) := by omega
    rw [hi1, hi2]
    refine wpAny_bind (wpAny_mono ht (fun r s2 h2 => ?_) fun _ _ x => x)
    obtain ⟨hr, h2⟩ := h2
    subst hr
    cases hb : ds i with
    | false =>
      have hF := finF i s2 (by omega) hb h2
      obtain ⟨items', items2', n', n2', hl1', hb1', hs1', hs2', _⟩ := hl _ _ h2
      obtain ⟨hp2, g2, d2, tk2, os2⟩ := s2
      wp_walk using wpAny_loadPart' hl1', wpAny_loadPart' hb1'
      have hj1 : items'[((i : Nat) : Int).toNat]? = some (items'[i]'(by omega)) := by
        rw [show ((i : Nat) : Int).toNat = i by simp]
        exact Array.getElem?_eq_getElem (by omega)
      have hj2 : items2'[((i : Nat) : Int).toNat]? = some (items2'[i]'(by omega)) := by
        rw [show ((i : Nat) : Int).toNat = i by simp]
        exact Array.getElem?_eq_getElem (by omega)
      rw [hj1, hj2]
      wp_walk
      exact hF
    | true =>
      have hrec := ih (i + 1) (by omega) (by omega) (fun j hj => by
        rcases Nat.lt_or_ge j i with q | q
        · exact hd j q
        · have : j = i := by omega
          rw [this]; exact hb) s2 h2
      obtain ⟨hp2, g2, d2, tk2, os2⟩ := s2
      wp_walk
      rw [hc]
      exact ⟨plainId_quiet plain_eq_loop _, codeAny_builtin entry_eq_loop (by
        rw [Around.under_plainId plain_eq_loop _]
        exact hrec)⟩
theorem list_eqB (l b : Addr) (N : Nat) (ds : Nat → Bool) (I : Nat → Shared → Prop) (hl : ListB prog w A (fun e s' => R (.error e) s') l b N ds I)
    (fin : ∀ s, (∀ j, j < N → ds j = true) → I N s → R (.ok (.ret (.bool true))) s) (finF : ∀ i s, i < N → ds i = false → I (i + 1) s → R (.ok (.ret (.bool false))) s) {s : Shared} (h : I 0 s) :
    wpAny (model prog w) A.in1 (Builtin.«list.__eq__» ⟨[.ref l, .ref b], []⟩) (FinOf prog w A R) (fun e s' => R (.error e) s') s := by
  obtain ⟨items, items2, n, n2, hl1, hb1, hs1, hs2, _⟩ := hl _ _ h
  have hrec := eq_loopB (A := A) (R := R) l b N ds I hl fin finF _ 0 rfl (Nat.zero_le _) (fun j hj => absurd hj (Nat.not_lt_zero j)) s h
  obtain ⟨hp, g, d, tk, os⟩ := s
  have f3 := AutoSeq1.sub_list_list
  have hne : ¬ (items.size != items2.size) = true := by simp [hs1, hs2]
  wp_walk using wpAny_loadPart' hl1, wpAny_loadPart' hb1
  exact ⟨plainId_quiet plain_eq_loop _, codeAny_builtin entry_eq_loop (by
    rw [Around.under_plainId plain_eq_loop _]
    exact hrec)⟩
/-- lists of unlike lengths -/
theorem list_eqL (l b : Addr) {items items2 : Array Value} {n n2 : Nat} {s : Shared} (hl1 : s.heap.get? l = some { cls := .type "list", data := .seq items n }) (hb1 : s.heap.get? b = some { cls := .type "list", data := .seq items2 n2 }) (hne : items.size ≠ items2.size)
    (q : R (.ok (.ret (.bool false))) s) : wpAny (model prog w) A.in1 (Builtin.«list.__eq__» ⟨[.ref l, .ref b], []⟩) (FinOf prog w A R) (fun e s' => R (.error e) s') s := by
  obtain ⟨hp, g, d, tk, os⟩ := s
  have f3 := AutoSeq1.sub_list_list
  have hne : (items.size != items2.size) = true := by simpa using hne
  wp_walk using wpAny_loadPart' hl1, wpAny_loadPart' hb1
  exact q
end
section
variable {prog : Program} {w : World} {A : Around} {E : Value → Shared → Prop} {s : Shared}
theorem rc_listB {l b : Addr} {N : Nat} {Q : Value → Shared → Prop} (hu : A.units < cLine) (ds : Nat → Bool) (I : Nat → Shared → Prop) (hl : ListB prog w A E l b N ds I)
    (fin : ∀ s, (∀ j, j < N → ds j = true) → I N s → Q (.bool true) s) (finF : ∀ i s, i < N → ds i = false → I (i + 1) s → Q (.bool false) s) (h : I 0 s) : wpAny (model prog w) A (richCompare .Eq (.ref l) (.ref b)) Q E s := by
  obtain ⟨items, items2, n, n2, hl1, hb1, _, _, _⟩ := hl _ _ h
  refine wpAny_richCompare_same_room (op := .Eq) ⟨_, hl1, rfl⟩ ⟨_, hb1, rfl⟩ F.slot_list_eq (call_here F.slot_list_eq ⟨_, hl1, rfl⟩ F.entry_list_eq (F.args_list_eq_2 _ _) ?_) hu
  exact list_eqB (R := wants (fun v s' => v ≠ .notImplemented ∧ Q v s') E) l b N ds I hl (fun s' a q => ⟨(fun x => nomatch x), fin s' a q⟩) (fun i s' a c q => ⟨(fun x => nomatch x), finF i s' a c q⟩) h
theorem rc_listL {l b : Addr} {items items2 : Array Value} {n n2 : Nat} {Q : Value → Shared → Prop} (hu : A.units < cLine) (hl1 : s.heap.get? l = some { cls := .type "list", data := .seq items n }) (hb1 : s.heap.get? b = some { cls := .type "list", data := .seq items2 n2 }) (hne : items.size ≠ items2.size)
    (q : Q (.bool false) s) : wpAny (model prog w) A (richCompare .Eq (.ref l) (.ref b)) Q E s := by
  refine wpAny_richCompare_same_room (op := .Eq) ⟨_, hl1, rfl⟩ ⟨_, hb1, rfl⟩ F.slot_list_eq (call_here F.slot_list_eq ⟨_, hl1, rfl⟩ F.entry_list_eq (F.args_list_eq_2 _ _) ?_) hu
  exact list_eqL (R := wants (fun v s' => v ≠ .notImplemented ∧ Q v s') E) l b hl1 hb1 hne ⟨(fun x => nomatch x), q⟩
end
end RQ
namespace RQ
open PySem PySem.Spec PyProof.Rows L2
/-- how two values compare, by the abstract heap -/
abbrev EqvB := V → V → Hp → Bool → Prop
def MonB (D : EqvB) : Prop := ∀ x y H H' k, Ext H H' → D x y H k → D x y H' k
/-- == gives k for what D says, and only makes objects -/
def EqB (X : Cx) (n : Nat) (D : EqvB) : Prop :=
  ∀ (A : Around) (pins : List (Addr × Obj)) (s : Shared) (σ : L2.St) (H : Hp) (x y : V) (u v : Value) (k : Bool), L2.Sub X n A → Inv X pins σ H s → RelV x u → RelV y v → D x y H k →
    wpAny (model X.prog X.w) A (eqBool u v) (fun r s' => r = k ∧ ∃ H', Inv X pins σ H' s' ∧ Ext H H') X.xe s
def RcB (X : Cx) (n : Nat) (D : EqvB) : Prop :=
  ∀ (A : Around) (pins : List (Addr × Obj)) (s : Shared) (σ : L2.St) (H : Hp) (x y : V) (u v : Value) (k : Bool), L2.Sub X n A → Inv X pins σ H s → RelV x u → RelV y v → D x y H k →
    wpAny (model X.prog X.w) A (richCompare .Eq u v) (fun r s' => r = .bool k ∧ ∃ H', Inv X pins σ H' s' ∧ Ext H H') X.xe s
section
variable {X : Cx} {n : Nat} {D : EqvB}
/-- an own == with either answer -/
def spEqB (R : Addr → V → Hp → Bool → Prop) : Sp := fun vs H Q _ => ∃ a y k, vs = [.ref a, y] ∧ R a y H k ∧ ∀ H', Ext H H' → Q (.bl k) H'
/-- instances of the class at C with the text's own ==, the other one of a class C' that isn't asked first -/
def DInsB (K : PySem.W.Frag) (C : Addr) (R : Addr → V → Hp → Bool → Prop) : EqvB := fun x y H k => ∃ a b dx dy fs gs C', x = .ref a ∧ y = .ref b ∧ H a = some (.ins C dx fs) ∧ H b = some (.ins C' dy gs) ∧ PySem.W.notFirst K C (.ref C') = true ∧ R a (.ref b) H k
theorem rcB_ins {CX : CXT} {C f : Addr} {fd : FuncData} {ps : List Str} {R : Addr → V → Hp → Bool → Prop} {E : XK} (F : FnOk X.prog X.w X.K X.mg X.base CX n f fd ps (spEqB R))
    (hs : PySem.W.findIn X.K (.ref C) "__eq__" = some (some (.ref f))) (hf : PySem.W.isFn X.K (.ref f) = true) (hb : Binds X.K fd ps []) (hx : Passes CX X E) : RcB X n (DInsB X.K C R) := by
  intro A pins s σ H x y u v k sb I rx ry d
  obtain ⟨a, b, dx, dy, fs, gs, C', rfl, rfl, ha, hb', hn, hr⟩ := d
  cases rx
  cases ry
  obtain ⟨mA, J, _⟩ := ins_get I.hok ha
  obtain ⟨mB, J', _⟩ := ins_get I.hok hb'
  obtain ⟨od, J, _⟩ := J.look
  obtain ⟨od', J', _⟩ := J'.look
  obtain ⟨m, hF⟩ := I.fr
  refine PySem.W.cmp_K (op := .Eq) (tb := .ref C') sb.room.units0 hF I.ok.mod.kin J J'.type hn hs hf ?_
  have hsp : spEqB R [.ref a, .ref b] H (fun v H' => v = .bl k ∧ Ext H H') E := ⟨a, .ref b, k, rfl, hr, fun H' e => ⟨rfl, e⟩⟩
  have e0 : Env0 X.prog X.w X.K X.mg X.base A X.stack s H := by
    have e := I.env0
    exact ⟨by rw [sb.fr]; exact e.frames, e.mod, e.bs, e.bsz, e.funs, e.frf, e.hok, e.bare⟩
  have hl := F.len _ _ _ _ hsp
  have r2 : Vals [V.ref a, V.ref b] [Value.ref a, Value.ref b] := .cons rfl (.cons rfl .nil)
  refine wpAny_call (codeAny_mono (F.run A X.stack s H ⟨[.ref a, .ref b], []⟩ [.ref a, .ref b] [.ref a, .ref b] _ E sb.room e0 (by
    have := hb s [.ref a, .ref b] I.kIn (by simpa using hl)
    simpa using this) r2 hsp) fun r s' hq => ?_)
  cases r with
  | error e => exact hx pins σ H s e s' I hq
  | ok fl =>
    cases fl with
    | ret w =>
      obtain ⟨z, H', I', rz, ez, ex⟩ := I.after hq
      subst ez
      cases rz
      exact ⟨rfl, H', I', ex⟩
    | next => exact False.elim hq
    | brk => exact False.elim hq
    | cont => exact False.elim hq
/-- == of two objects within a list: the same object is equal to itself -/
theorem RcB.eqB (h : RcB X n D) (hr : ∀ x y H k, D x y H k → ∃ a b, x = .ref a ∧ y = .ref b) (self : ∀ x H k, D x x H k → k = true) : EqB X n D := by
  intro A pins s σ H x y u v k sb I rx ry d
  obtain ⟨a, b, rfl, rfl⟩ := hr _ _ _ _ d
  cases rx
  cases ry
  by_cases hab : a = b
  · subst hab
    have e := self _ _ _ d
    subst e
    exact SeqAt.EqAt.same (A := A) (s := s) (.ref a) X.prog X.w X.xe _ ⟨rfl, H, I, Ext.rfl'⟩
  · refine GQ.eqBool_refG hab (wpAny_mono (h A pins s σ H (.ref a) (.ref b) _ _ k sb I rfl rfl d) (fun r s' q => ?_) fun _ _ x => x)
    obtain ⟨hr', q⟩ := q
    exact ⟨k, hr', rfl, q⟩
/-- lists, item by item: ks the items' answers -/
def DListB (D : EqvB) : EqvB := fun x y H k => ∃ a b xs ys, x = .ref a ∧ y = .ref b ∧ H a = some (.lst xs) ∧ H b = some (.lst ys) ∧
  ((xs.length ≠ ys.length ∧ k = false) ∨ ∃ ks : List Bool, xs.length = ys.length ∧ ks.length = xs.length ∧ (∀ (i : Nat) x y d, xs[i]? = some x → ys[i]? = some y → ks[i]? = some d → D x y H d) ∧ k = ks.all id)
theorem rcB_list (hD : MonB D) (h : EqB X n D) : RcB X (n + 1) (DListB D) := by
  intro A pins s σ H x y u v k sb I rx ry d
  obtain ⟨a, b, xs, ys, rfl, rfl, ha, hb, d⟩ := d
  cases rx
  cases ry
  obtain ⟨z, its, k1, r, e⟩ := I.hok a _ ha
  obtain ⟨z2, its2, k2, r2, e2⟩ := I.hok b _ hb
  rcases d with ⟨hne, rfl⟩ | ⟨ks, hl, hk, hd, rfl⟩
  · exact rc_listL sb.room.units0 e e2 (by rw [List.size_toArray, List.size_toArray, ← r.length, ← r2.length]; exact hne) ⟨rfl, H, I, Ext.rfl'⟩
  · refine rc_listB (N := xs.length) sb.room.units0 (fun i => ks.getD i true) (fun _ s' => LoopI X pins σ H s') (fun i s' q => ?_) (fun s' a q => ⟨?_, q⟩) (fun i s' hi hf q => ⟨?_, q⟩) ⟨H, I, Ext.rfl'⟩
    · obtain ⟨H1, I1, e1⟩ := id q
      obtain ⟨z, its, k1, r, e⟩ := I1.hok a _ (e1 _ _ ha)
      obtain ⟨z2, its2, k2, r2, e2⟩ := I1.hok b _ (e1 _ _ hb)
      refine ⟨its.toArray, its2.toArray, k1, k2, e, e2, by rw [List.size_toArray, ← r.length], by rw [List.size_toArray, ← r2.length, ← hl], fun h1 h2 => ?_⟩
      have g1 : its[i]? = some its.toArray[i] := by
        have h1' : i < its.length := by simpa using h1
        rw [List.getElem?_eq_getElem h1'] <;> simp
      have g2 : its2[i]? = some its2.toArray[i] := by
        have h2' : i < its2.length := by simpa using h2
        rw [List.getElem?_eq_getElem h2'] <;> simp
      have q1 : i < xs.length := by rw [r.length]; simpa using h1
      have q2 : i < ys.length := by rw [r2.length]; simpa using h2
      have q3 : i < ks.length := by omega
      obtain ⟨u, hu, ru⟩ := r.get (List.getElem?_eq_getElem q1)
      obtain ⟨v, hv, rv⟩ := r2.get (List.getElem?_eq_getElem q2)
      rw [g1] at hu
      rw [g2] at hv
      rw [Option.some.inj hu, Option.some.inj hv]
      have ek : ks.getD i true = ks[i] := by simp [List.getD, List.getElem?_eq_getElem q3]
      refine wpAny_mono (h A.in1 pins s' σ H1 _ _ u v ks[i] sb.in1 I1 ru rv (hD _ _ _ _ _ e1 (hd i _ _ _ (List.getElem?_eq_getElem q1) (List.getElem?_eq_getElem q2) (List.getElem?_eq_getElem q3)))) (fun r s2 q => ?_) fun _ _ x => x
      obtain ⟨hr, H2, I2, e3⟩ := q
      exact ⟨hr.trans ek.symm, H2, I2, e1.trans e3⟩
    · have e : ks.all id = true := by
        rw [List.all_eq_true]
        intro d hd
        obtain ⟨i, hi, rfl⟩ := List.getElem_of_mem hd
        have := a i (by omega)
        simpa [List.getD, List.getElem?_eq_getElem hi] using this
      rw [e]
    · have q3 : i < ks.length := by omega
      have e : ks.all id = false := by
        rw [List.all_eq_false]
        refine ⟨ks[i], List.getElem_mem q3, ?_⟩
        have : ks[i] = false := by simpa [List.getD, List.getElem?_eq_getElem q3] using hf
        rw [this]
        simp
      rw [e]
/-- x == y as an expression -/
def rEqB (D : EqvB) : R2 := fun x y H Q => ∃ k, D x y H k ∧ ∀ H', Ext H H' → Q (.bl k) H'
theorem op_eqB (h : RcB X n D) (hr : Room n X.A) : OpR X (compareOp .Eq) (rEqB D) := by
  intro pins s σ H x y v u Q I rx ry hq
  obtain ⟨k, d, q⟩ := hq
  show wpAny (model X.prog X.w) X.A (richCompare .Eq v u) (EP X pins σ Q) X.xe s
  refine wpAny_mono (h X.A pins s σ H x y v u k ⟨hr, rfl⟩ I rx ry d) (fun r s' z => ?_) fun _ _ x => x
  obtain ⟨hr', H', I', e⟩ := z
  subst hr'
  exact ⟨.bl k, H', I', rfl, q H' e⟩
end
end RQ
set_option maxHeartbeats 4000000
/-! ### != of instances by their own __eq__ -/
namespace RQ
open PySem PySem.Spec PyProof.Rows PySem.SeqAt Builtin
section
variable {M : Model} {prog : Program} {w : World} {A : Around} {E : Value → Shared → Prop} {s : Shared} {K : PySem.W.Frag} {x y C f : Addr} {ox : Obj} {od : Option Obj}
theorem entry_ne (hu : A.units < cLine) (X : K.In s.heap) (I : PySem.W.InstAt s.heap x ox C od) (hs : PySem.W.findIn K (.ref C) "__eq__" = some (some (.ref f))) (hf : PySem.W.isFn K (.ref f) = true) {Q : Fin → Shared → Prop}
    (hcall : wpAny M A (call (.ref f) [.ref x, .ref y]) (fun v s' => ∃ b, v = .bool b ∧ Q (.done (.ret (.bool (!b)))) s') E s) : wpAny M A (Builtin.«object.__ne__» ⟨[.ref x, .ref y], []⟩) Q E s := by
  unfold Builtin.«object.__ne__»
  repeat (first
    | with_reducible refine wpAny_cRoomFor hu ?_
    | (refine wpAny_bind (m := callSpecialIfBound? (.ref x) (Str.ofString "__eq__") [.ref y])
        (PySem.W.ifBound_K X I hs hf (wpAny_mono hcall (fun r s' hr => by
          obtain ⟨b, rfl, hq⟩ := hr
          repeat (first | exact hq | exact wpAny_pure hq | exact wpAny_truthy_bool hq | (refine wpAny_bind (m := truthy (.bool _)) (wpAny_truthy_bool ?_)) | wp_step)) fun _ _ e => e)))
    | wp_step)
theorem ifBound_objNe {args : List Value} {Q : Option Value → Shared → Prop} (X : K.In s.heap) (I : PySem.W.InstAt s.heap x ox C od) (hs : PySem.W.findIn K (.ref C) "__ne__" = some (some (.builtin "object.__ne__")))
    (h : wpAny M A (call (.builtin "object.__ne__") (.ref x :: args)) (fun v => Q (some v)) E s) : wpAny M A (callSpecialIfBound? (.ref x) "__ne__" args) Q E s := by
  simp only [callSpecialIfBound?, bindSpecialIfBound?]
  refine wpAny_holding (wpAny_bind (wpAny_bind (wpAny_bind (I.type.here ((PySem.W.looks_findIn X hs).here ?_)))))
  refine wpAny_bind (wpAny_askSetting (wpAny_ite ?_))
  have fin : wpAny M A (call (.builtin "object.__ne__") ([.ref x] ++ args) >>= fun v => pure (some v)) Q E s := wpAny_bind (wpAny_mono h (fun v s' h' => wpAny_pure h') fun _ _ h' => h')
  split
  · exact wpAny_bind (wpAny_of_eq (F.cmp_object.ne.bind _) (wpAny_pure (by exact fin)))
  · exact wpAny_tryCatch (wpAny_bind (wpAny_of_eq (F.cmp_object.ne.bind _) (wpAny_pure (by exact fin))))
theorem call_objNe (hu : A.units + 1 < cLine) (X : K.In s.heap) (I : PySem.W.InstAt s.heap x ox C od) (hm : PySem.W.mroIn K C (.type "object") = some true) (hs : PySem.W.findIn K (.ref C) "__eq__" = some (some (.ref f))) (hf : PySem.W.isFn K (.ref f) = true) {Q : Value → Shared → Prop}
    (hcall : wpAny (model prog w) A.in1 (call (.ref f) [.ref x, .ref y]) (fun v s' => ∃ b, v = .bool b ∧ Q (.bool (!b)) s') E s) : wpAny (model prog w) A (call (.builtin "object.__ne__") [.ref x, .ref y]) Q E s :=
  wpAny_call (codeAny_call_builtin F.cmp_object.ne.plain F.cmpEntry_ne (PySem.W.check_slot F.cmpKind_ne F.cmpSplit_ne (I.type.andThen (PySem.W.looks_mroIn X hm)) (F.cmpArgs_ne _ _)
    (entry_ne (A := A.in1) hu X I hs hf (wpAny_mono hcall (fun v s' hv => by obtain ⟨b, rfl, q⟩ := hv; exact ⟨b, rfl, q⟩) fun _ _ e => e))))
theorem ne_K {tb : Value} {Q : Value → Shared → Prop} (hu : A.units + 1 < cLine) (X : K.In s.heap) (I : PySem.W.InstAt s.heap x ox C od) (hb : PySem.W.Looks (model prog w) s.heap (typeOf (.ref y)) tb)
    (hn : PySem.W.notFirst K C tb = true) (hm : PySem.W.mroIn K C (.type "object") = some true) (hne : PySem.W.findIn K (.ref C) "__ne__" = some (some (.builtin "object.__ne__"))) (hs : PySem.W.findIn K (.ref C) "__eq__" = some (some (.ref f))) (hf : PySem.W.isFn K (.ref f) = true)
    (hcall : wpAny (model prog w) A.in1 (call (.ref f) [.ref x, .ref y]) (fun v s' => ∃ b, v = .bool b ∧ Q (.bool (!b)) s') E s) : wpAny (model prog w) A (richCompare .NotEq (.ref x) (.ref y)) Q E s := by
  have one : wpAny (model prog w) A (tryCompare (.ref x) "__ne__" (.ref y)) (fun r s' => ∃ b, r = some (.bool b) ∧ Q (.bool b) s') E s := by
    unfold tryCompare
    refine wpAny_bind (ifBound_objNe X I hne (call_objNe hu X I hm hs hf (wpAny_mono hcall (fun v s' hv => ?_) fun _ _ e => e)))
    obtain ⟨b, rfl, q⟩ := hv
    exact ⟨b, rfl, wpAny_pure ⟨_, rfl, q⟩⟩
  simp only [richCompare, cmpInfo_NotEq, oneThing_ref]
  refine wpAny_holding (wpAny_bind (wpAny_cRoomFor (Nat.lt_of_succ_lt hu) ?_))
  refine wpAny_bind (I.type.here (wpAny_bind (hb.here ?_)))
  split
  · rename_i q
    have e : PySem.W.subIn K tb (.ref C) = some false := by
      rcases Bool.or_eq_true_iff.mp hn with e | e
      · rw [beq_iff_eq.mp e] at q; simp at q
      · exact beq_iff_eq.mp e
    refine wpAny_bind ((PySem.W.looks_subIn X e).here ?_)
    simp only [Bool.false_eq_true, if_false]
    refine wpAny_bind (wpAny_mono one (fun r s' z => ?_) fun _ _ e => e)
    obtain ⟨b, rfl, hq⟩ := z
    exact wpAny_pure hq
  · refine wpAny_bind (wpAny_pure ?_)
    simp only [Bool.false_eq_true, if_false]
    refine wpAny_bind (wpAny_mono one (fun r s' z => ?_) fun _ _ e => e)
    obtain ⟨b, rfl, hq⟩ := z
    exact wpAny_pure hq
end
end RQ
namespace RQ
open PySem PySem.Spec PyProof.Rows L2
section
variable {X : Cx} {n : Nat}
/-- x != y, x an instance with an own == and no own != -/
def rNeB (D : EqvB) : R2 := fun x y H Q => ∃ k, D x y H k ∧ ∀ H', Ext H H' → Q (.bl (!k)) H'
theorem op_neB {CX : CXT} {C f : Addr} {fd : FuncData} {ps : List Str} {R : Addr → V → Hp → Bool → Prop} {E : XK} (F : FnOk X.prog X.w X.K X.mg X.base CX n f fd ps (spEqB R)) (hr : Room (n + 1) X.A)
    (hm : PySem.W.mroIn X.K C (.type "object") = some true) (hne : PySem.W.findIn X.K (.ref C) "__ne__" = some (some (.builtin "object.__ne__"))) (hs : PySem.W.findIn X.K (.ref C) "__eq__" = some (some (.ref f))) (hf : PySem.W.isFn X.K (.ref f) = true) (hb : Binds X.K fd ps []) (hx : Passes CX X E) :
    OpR X (compareOp .NotEq) (rNeB (DInsB X.K C R)) := by
  intro pins s σ H x y v u Q I rx ry hq
  obtain ⟨k, d, q⟩ := hq
  obtain ⟨a, b, dx, dy, fs, gs, C', rfl, rfl, ha, hb', hn, hrr⟩ := d
  cases rx
  cases ry
  obtain ⟨mA, J, _⟩ := ins_get I.hok ha
  obtain ⟨mB, J', _⟩ := ins_get I.hok hb'
  obtain ⟨od, J, _⟩ := J.look
  obtain ⟨od', J', _⟩ := J'.look
  show wpAny (model X.prog X.w) X.A (richCompare .NotEq (.ref a) (.ref b)) (EP X pins σ Q) X.xe s
  refine ne_K (tb := .ref C') (by have := hr.un; omega) I.kIn J J'.type hn hm hne hs hf ?_
  have hsp : spEqB R [.ref a, .ref b] H (fun v H' => v = .bl k ∧ Ext H H') E := ⟨a, .ref b, k, rfl, hrr, fun H' e => ⟨rfl, e⟩⟩
  have e0 : Env0 X.prog X.w X.K X.mg X.base X.A.in1 X.stack s H := by
    have e := I.env0
    exact ⟨e.frames, e.mod, e.bs, e.bsz, e.funs, e.frf, e.hok, e.bare⟩
  have hl := F.len _ _ _ _ hsp
  have r2 : Vals [V.ref a, V.ref b] [Value.ref a, Value.ref b] := .cons rfl (.cons rfl .nil)
  refine wpAny_call (codeAny_mono (F.run X.A.in1 X.stack s H ⟨[.ref a, .ref b], []⟩ [.ref a, .ref b] [.ref a, .ref b] _ E hr.in1 e0 (by
    have := hb s [.ref a, .ref b] I.kIn (by simpa using hl)
    simpa using this) r2 hsp) fun r s' hq => ?_)
  cases r with
  | error e => exact hx pins σ H s e s' I hq
  | ok fl =>
    cases fl with
    | ret w =>
      obtain ⟨z, H', I', rz, ez, ex⟩ := I.after hq
      subst ez
      cases rz
      exact ⟨k, rfl, .bl (!k), H', I', rfl, q H' ex⟩
    | next => exact False.elim hq
    | brk => exact False.elim hq
    | cont => exact False.elim hq
end
end RQ
set_option maxHeartbeats 4000000
/-! ### == and != of an instance by its own __eq__, the other side any value whose class is known -/
namespace RQ
open PySem PySem.Spec PyProof.Rows PySem.SeqAt Builtin
section
variable {M : Model} {prog : Program} {w : World} {A : Around} {E : Value → Shared → Prop} {s : Shared} {K : PySem.W.Frag} {x C f : Addr} {y : Value} {ox : Obj} {od : Option Obj}
theorem entry_neV (hu : A.units < cLine) (X : K.In s.heap) (I : PySem.W.InstAt s.heap x ox C od) (hs : PySem.W.findIn K (.ref C) "__eq__" = some (some (.ref f))) (hf : PySem.W.isFn K (.ref f) = true) {Q : Fin → Shared → Prop}
    (hcall : wpAny M A (call (.ref f) [.ref x, y]) (fun v s' => ∃ b, v = .bool b ∧ Q (.done (.ret (.bool (!b)))) s') E s) : wpAny M A (Builtin.«object.__ne__» ⟨[.ref x, y], []⟩) Q E s := by
  unfold Builtin.«object.__ne__»
  repeat (first
    | with_reducible refine wpAny_cRoomFor hu ?_
    | (refine wpAny_bind (m := callSpecialIfBound? (.ref x) (Str.ofString "__eq__") [y])
        (PySem.W.ifBound_K X I hs hf (wpAny_mono hcall (fun r s' hr => by
          obtain ⟨b, rfl, hq⟩ := hr
          repeat (first | exact hq | exact wpAny_pure hq | exact wpAny_truthy_bool hq | (refine wpAny_bind (m := truthy (.bool _)) (wpAny_truthy_bool ?_)) | wp_step)) fun _ _ e => e)))
    | wp_step)
theorem call_objNeV (hu : A.units + 1 < cLine) (X : K.In s.heap) (I : PySem.W.InstAt s.heap x ox C od) (hm : PySem.W.mroIn K C (.type "object") = some true) (hs : PySem.W.findIn K (.ref C) "__eq__" = some (some (.ref f))) (hf : PySem.W.isFn K (.ref f) = true) {Q : Value → Shared → Prop}
    (hcall : wpAny (model prog w) A.in1 (call (.ref f) [.ref x, y]) (fun v s' => ∃ b, v = .bool b ∧ Q (.bool (!b)) s') E s) : wpAny (model prog w) A (call (.builtin "object.__ne__") [.ref x, y]) Q E s :=
  wpAny_call (codeAny_call_builtin F.cmp_object.ne.plain F.cmpEntry_ne (PySem.W.check_slot F.cmpKind_ne F.cmpSplit_ne (I.type.andThen (PySem.W.looks_mroIn X hm)) (F.cmpArgs_ne _ _)
    (entry_neV (A := A.in1) hu X I hs hf (wpAny_mono hcall (fun v s' hv => by obtain ⟨b, rfl, q⟩ := hv; exact ⟨b, rfl, q⟩) fun _ _ e => e))))
theorem ne_V {tb : Value} {Q : Value → Shared → Prop} (hu : A.units + 1 < cLine) (X : K.In s.heap) (I : PySem.W.InstAt s.heap x ox C od) (hb : PySem.W.Looks (model prog w) s.heap (typeOf y) tb)
    (hn : PySem.W.notFirst K C tb = true) (hm : PySem.W.mroIn K C (.type "object") = some true) (hne : PySem.W.findIn K (.ref C) "__ne__" = some (some (.builtin "object.__ne__"))) (hs : PySem.W.findIn K (.ref C) "__eq__" = some (some (.ref f))) (hf : PySem.W.isFn K (.ref f) = true)
    (hcall : wpAny (model prog w) A.in1 (call (.ref f) [.ref x, y]) (fun v s' => ∃ b, v = .bool b ∧ Q (.bool (!b)) s') E s) : wpAny (model prog w) A (richCompare .NotEq (.ref x) y) Q E s := by
  have one : wpAny (model prog w) A (tryCompare (.ref x) "__ne__" y) (fun r s' => ∃ b, r = some (.bool b) ∧ Q (.bool b) s') E s := by
    unfold tryCompare
    refine wpAny_bind (ifBound_objNe X I hne (call_objNeV hu X I hm hs hf (wpAny_mono hcall (fun v s' hv => ?_) fun _ _ e => e)))
    obtain ⟨b, rfl, q⟩ := hv
    exact ⟨b, rfl, wpAny_pure ⟨_, rfl, q⟩⟩
  simp only [richCompare, cmpInfo_NotEq, oneThing_ref]
  refine wpAny_holding (wpAny_bind (wpAny_cRoomFor (Nat.lt_of_succ_lt hu) ?_))
  refine wpAny_bind (I.type.here (wpAny_bind (hb.here ?_)))
  split
  · rename_i q
    have e : PySem.W.subIn K tb (.ref C) = some false := by
      rcases Bool.or_eq_true_iff.mp hn with e | e
      · rw [beq_iff_eq.mp e] at q; simp at q
      · exact beq_iff_eq.mp e
    refine wpAny_bind ((PySem.W.looks_subIn X e).here ?_)
    simp only [Bool.false_eq_true, if_false]
    refine wpAny_bind (wpAny_mono one (fun r s' z => ?_) fun _ _ e => e)
    obtain ⟨b, rfl, hq⟩ := z
    exact wpAny_pure hq
  · refine wpAny_bind (wpAny_pure ?_)
    simp only [Bool.false_eq_true, if_false]
    refine wpAny_bind (wpAny_mono one (fun r s' z => ?_) fun _ _ e => e)
    obtain ⟨b, rfl, hq⟩ := z
    exact wpAny_pure hq
end
end RQ
namespace RQ
open PySem PySem.Spec PyProof.Rows L2
section
variable {X : Cx} {n : Nat}
/-- an instance of the class at C beside any value of the class t, which isn't asked first -/
def DAnyB (K : PySem.W.Frag) (C : Addr) (R : Addr → V → Hp → Bool → Prop) : EqvB := fun x y H k => ∃ a dx fs t, x = .ref a ∧ H a = some (.ins C dx fs) ∧ TyX K H y t ∧ PySem.W.notFirst K C t = true ∧ R a y H k
theorem looks_ty {pins : List (Addr × Obj)} {σ : L2.St} {H : Hp} {s : Shared} {y : V} {v t : Value} {M : Model} (I : Inv X pins σ H s) (ry : RelV y v) (ty : TyX X.K H y t) : PySem.W.Looks M s.heap (typeOf v) t := by
  obtain ⟨P, Z, p, _⟩ := kit_of I ry ty
  exact Z.ty _ _ I.kIn p
theorem rcB_any {CX : CXT} {C f : Addr} {fd : FuncData} {ps : List Str} {R : Addr → V → Hp → Bool → Prop} {E : XK} (F : FnOk X.prog X.w X.K X.mg X.base CX n f fd ps (spEqB R))
    (hs : PySem.W.findIn X.K (.ref C) "__eq__" = some (some (.ref f))) (hf : PySem.W.isFn X.K (.ref f) = true) (hb : Binds X.K fd ps []) (hx : Passes CX X E) : RcB X n (DAnyB X.K C R) := by
  intro A pins s σ H x y u v k sb I rx ry d
  obtain ⟨a, dx, fs, t, rfl, ha, ty, hn, hr⟩ := d
  cases rx
  obtain ⟨mA, J, _⟩ := ins_get I.hok ha
  obtain ⟨od, J, _⟩ := J.look
  obtain ⟨m, hF⟩ := I.fr
  refine PySem.W.cmp_K (op := .Eq) (tb := t) sb.room.units0 hF I.ok.mod.kin J (looks_ty I ry ty) hn hs hf ?_
  have hsp : spEqB R [.ref a, y] H (fun v H' => v = .bl k ∧ Ext H H') E := ⟨a, y, k, rfl, hr, fun H' e => ⟨rfl, e⟩⟩
  have e0 : Env0 X.prog X.w X.K X.mg X.base A X.stack s H := by
    have e := I.env0
    exact ⟨by rw [sb.fr]; exact e.frames, e.mod, e.bs, e.bsz, e.funs, e.frf, e.hok, e.bare⟩
  have hl := F.len _ _ _ _ hsp
  have r2 : Vals [V.ref a, y] [Value.ref a, v] := .cons rfl (.cons ry .nil)
  refine wpAny_call (codeAny_mono (F.run A X.stack s H ⟨[.ref a, v], []⟩ [.ref a, v] [.ref a, y] _ E sb.room e0 (by
    have := hb s [.ref a, v] I.kIn (by simpa using hl)
    simpa using this) r2 hsp) fun r s' hq => ?_)
  cases r with
  | error e => exact hx pins σ H s e s' I hq
  | ok fl =>
    cases fl with
    | ret w =>
      obtain ⟨z, H', I', rz, ez, ex⟩ := I.after hq
      subst ez
      cases rz
      exact ⟨rfl, H', I', ex⟩
    | next => exact False.elim hq
    | brk => exact False.elim hq
    | cont => exact False.elim hq
theorem op_neAny {CX : CXT} {C f : Addr} {fd : FuncData} {ps : List Str} {R : Addr → V → Hp → Bool → Prop} {E : XK} (F : FnOk X.prog X.w X.K X.mg X.base CX n f fd ps (spEqB R)) (hr : Room (n + 1) X.A)
    (hm : PySem.W.mroIn X.K C (.type "object") = some true) (hne : PySem.W.findIn X.K (.ref C) "__ne__" = some (some (.builtin "object.__ne__"))) (hs : PySem.W.findIn X.K (.ref C) "__eq__" = some (some (.ref f))) (hf : PySem.W.isFn X.K (.ref f) = true) (hb : Binds X.K fd ps []) (hx : Passes CX X E) :
    OpR X (compareOp .NotEq) (rNeB (DAnyB X.K C R)) := by
  intro pins s σ H x y v u Q I rx ry hq
  obtain ⟨k, d, q⟩ := hq
  obtain ⟨a, dx, fs, t, rfl, ha, ty, hn, hrr⟩ := d
  cases rx
  obtain ⟨mA, J, _⟩ := ins_get I.hok ha
  obtain ⟨od, J, _⟩ := J.look
  show wpAny (model X.prog X.w) X.A (richCompare .NotEq (.ref a) u) (EP X pins σ Q) X.xe s
  refine ne_V (tb := t) (by have := hr.un; omega) I.kIn J (looks_ty I ry ty) hn hm hne hs hf ?_
  have hsp : spEqB R [.ref a, y] H (fun v H' => v = .bl k ∧ Ext H H') E := ⟨a, y, k, rfl, hrr, fun H' e => ⟨rfl, e⟩⟩
  have e0 : Env0 X.prog X.w X.K X.mg X.base X.A.in1 X.stack s H := by
    have e := I.env0
    exact ⟨e.frames, e.mod, e.bs, e.bsz, e.funs, e.frf, e.hok, e.bare⟩
  have hl := F.len _ _ _ _ hsp
  have r2 : Vals [V.ref a, y] [Value.ref a, u] := .cons rfl (.cons ry .nil)
  refine wpAny_call (codeAny_mono (F.run X.A.in1 X.stack s H ⟨[.ref a, u], []⟩ [.ref a, u] [.ref a, y] _ E hr.in1 e0 (by
    have := hb s [.ref a, u] I.kIn (by simpa using hl)
    simpa using this) r2 hsp) fun r s' hq => ?_)
  cases r with
  | error e => exact hx pins σ H s e s' I hq
  | ok fl =>
    cases fl with
    | ret w =>
      obtain ⟨z, H', I', rz, ez, ex⟩ := I.after hq
      subst ez
      cases rz
      exact ⟨k, rfl, .bl (!k), H', I', rfl, q H' ex⟩
    | next => exact False.elim hq
    | brk => exact False.elim hq
    | cont => exact False.elim hq
end
end RQ
set_option maxHeartbeats 4000000
/-! ### B.m(e, ..), B an own class, m a plain def of it: as __init__ of a base within that of a subclass -/
namespace RC
open PySem PySem.Spec PyProof.Rows L2
/-- what of the class is read -/
structure CDef (K : PySem.W.Frag) (mg : Str → Option Value) (x : Str) (CR : Addr) (mc : Value) (m : Str) (g : Addr) : Prop where
  gl : mg x = some (.ref CR)
  rd : PySem.W.readsIn K CR mc = true
  ga : PySem.W.specialIn K (.ref CR) "__getattribute__" = some (some (.builtin "type.__getattribute__"))
  at_ : PySem.W.findCls K (.ref CR) mc m = some (.val (.ref g))
  kp : PySem.W.keepIn K (.ref g) = true
section
variable {X : Cx} {CX : CXT} {k : Nat} {g : Addr} {fd : FuncData} {ps : List Str} {sp : Sp} {dvs : List V} {ds : List Value} {E : XK} {x m : Str} {CR : Addr} {mc : Value} {e : Expr} {es : List Expr} {t : TA} {p1 p2 pos : Pos}
theorem pe_ccall {pl : Sem Bool} (B : CDef X.K X.mg x CR mc m g) (F : FnOk X.prog X.w X.K X.mg X.base CX k g fd ps sp) (hr : Room k X.A) (hb : Binds X.K fd ps ds) (hd : Vals dvs ds) (hx : Passes CX X E) (hg : Gl X x) (ha : PA X (e :: es) t) (hdb : (x == ("__debug__" : Str)) = false := by decide)
    (hc : eval (.Call (.Attribute (.Name x p1) m p2) (e :: es) [] pos) X.env = (do
      let ov ← eval (.Name x p1) X.env
      standAt p2.atName
      let (f, first) ← holding [ov] (getMethod ov m pl)
      callWith pos f first (backTo pos (starEach (e :: es) X.env)) (backToKw pos (keywordEach [] X.env))) := by rfl)
    (he : starEach (e :: es) X.env = (false, eval e X.env) :: starEach es X.env := by rfl) (hpl : (backTo pos (starEach es X.env)).any (·.1) = false := by rfl) :
    PE X (.Call (.Attribute (.Name x p1) m p2) (e :: es) [] pos) (tCall sp dvs E t) := ⟨fun pins s σ H Q I h => by
  refine PySem.W.methodCall_KW (ld_glob I hg B.gl ?_ hdb) hc
  refine PySem.W.method_cls I.kIn B.ga (PySem.W.cls_value I.kIn B.rd B.at_ (by rfl) ?_)
  show wpAny _ _ (callWith pos (Value.ref g) [] (backTo pos (starEach (e :: es) X.env)) []) _ _ _
  exact PySem.W.callWith_K (h₀ := X.base) I.ok.mod.kin B.kp (thn (ha.run pos pins _ σ H _ (I.tok _) h) fun us s1 ⟨vs, H1, I1, r, q⟩ => ⟨I1.kIn, run_fn F hr hb hd hx I1 r q⟩) he hpl⟩
end
end RC
set_option maxHeartbeats 4000000
/-! ### len(o), str(o) by an own __len__, __str__ -/
namespace RC
open PySem PySem.Spec PyProof.Rows L2
section
variable {X : Cx} {CX : CXT} {n : Nat} {C f : Addr} {fd : FuncData} {ps : List Str} {sp : Sp} {E : XK}
/-- an own special def of one argument, somewhere below -/
theorem run_special {A : Around} {pins : List (Addr × Obj)} {σ : L2.St} {H : Hp} {s : Shared} {a : Addr} {Q : VK} {R : Value → Shared → Prop} (F : FnOk X.prog X.w X.K X.mg X.base CX n f fd ps sp) (hr : Room n A) (hfr : A.frames = X.A.frames) (hb : Binds X.K fd ps []) (hx : Passes CX X E) (I : Inv X pins σ H s)
    (h : sp [.ref a] H Q E) (hR : ∀ v u H' s', Inv X pins σ H' s' → RelV v u → Q v H' → R u s') : wpAny (model X.prog X.w) A (call (.ref f) [.ref a]) R X.xe s := by
  have e0 : Env0 X.prog X.w X.K X.mg X.base A X.stack s H := by
    have e := I.env0
    exact ⟨by rw [hfr]; exact e.frames, e.mod, e.bs, e.bsz, e.funs, e.frf, e.hok, e.bare⟩
  have hl := F.len _ _ _ _ h
  refine wpAny_call (codeAny_mono (F.run A X.stack s H ⟨[.ref a], []⟩ [.ref a] [.ref a] _ E hr e0 (by
    have := hb s [.ref a] I.kIn (by simpa using hl)
    simpa using this) (.cons rfl .nil) h) fun r s' hq => ?_)
  cases r with
  | error e => exact hx pins σ H s e s' I hq
  | ok fl =>
    cases fl with
    | ret w =>
      obtain ⟨z, H', I', rz, q⟩ := I.after hq
      exact hR z w H' s' I' rz q
    | next => exact False.elim hq
    | brk => exact False.elim hq
    | cont => exact False.elim hq
theorem call_lenO (F : FnOk X.prog X.w X.K X.mg X.base CX n f fd ps sp) (hr : Room (n + 1) X.A) (hs : PySem.W.findIn X.K (.ref C) "__len__" = some (some (.ref f))) (hf : PySem.W.isFn X.K (.ref f) = true) (hb : Binds X.K fd ps []) (hx : Passes CX X E) :
    CallR X (.builtin "len") (fun xs H Q => ∃ a dx fs, xs = [.ref a] ∧ H a = some (.ins C dx fs) ∧ sp [.ref a] H (fun v H' => ∃ k : Int, v = .int k ∧ 0 ≤ k ∧ k < 2 ^ 63 ∧ Q (.int k) H') E) := by
  intro pins s σ H xs us Q I r h
  obtain ⟨a, dx, fs, rfl, ha, h⟩ := h
  cases r with
  | cons r rr =>
    cases rr
    cases r
    obtain ⟨mA, J, _⟩ := ins_get I.hok ha
    obtain ⟨od, J, _⟩ := J.look
    obtain ⟨m, hF⟩ := I.fr
    refine PySem.W.len_K hF I.ok.mod.kin J hs hf (run_special F hr.in1 rfl hb hx I h fun v u H' s' I' rz q => ?_)
    obtain ⟨k, rfl, h0, h1, q⟩ := q
    obtain ⟨t, rfl⟩ := rz
    exact ⟨⟨h0, h1⟩, .int k, H', I'.tok _, ⟨_, rfl⟩, q⟩
theorem call_strO (F : FnOk X.prog X.w X.K X.mg X.base CX n f fd ps sp) (hr : Room (n + 2) X.A) (hs : PySem.W.findIn X.K (.ref C) "__str__" = some (some (.ref f))) (hf : PySem.W.isFn X.K (.ref f) = true) (hb : Binds X.K fd ps []) (hx : Passes CX X E) :
    CallR X (.type "str") (fun xs H Q => ∃ a dx fs, xs = [.ref a] ∧ H a = some (.ins C dx fs) ∧ sp [.ref a] H (fun v H' => ∃ z : Str, v = .str z ∧ Q (.str z) H') E) := by
  intro pins s σ H xs us Q I r h
  obtain ⟨a, dx, fs, rfl, ha, h⟩ := h
  cases r with
  | cons r rr =>
    cases rr
    cases r
    obtain ⟨mA, J, _⟩ := ins_get I.hok ha
    obtain ⟨od, J, _⟩ := J.look
    refine PySem.W.kso_call (hr.in1.in1.units0) I.kIn J hs hf (run_special F hr.in1.in1 rfl hb hx I h fun v u H' s' I' rz q => ?_)
    obtain ⟨z, rfl, q⟩ := q
    obtain ⟨t, rfl⟩ := rz
    exact ⟨.str z, H', I', ⟨_, rfl⟩, q⟩
end
end RC
set_option maxHeartbeats 4000000
namespace K06
open PySem PySem.Spec PyProof.Rows L2
/-! ### the text -/
def topS (i : Nat) : Stmt := PySem.Challenge.pw_rolereach_k06_deeds_made.main.body.getD i (.Pass ⟨0, 0, 0, 0⟩)
abbrev s__wall : Stmt := topS 0
abbrev N__wall : List Str := ["k"]
theorem sc__wall : FnScope N__wall ["k"] (defScope s__wall) := ⟨rfl, rfl, rfl, by decide +kernel, rfl, by decide +kernel, by decide +kernel⟩
abbrev s_InvalidName_init : Stmt := inClass (topS 3) 0
abbrev N_InvalidName_init : List Str := ["self", "value"]
theorem sc_InvalidName_init : FnScope N_InvalidName_init ["self", "value"] (defScope s_InvalidName_init) := ⟨rfl, rfl, rfl, by decide +kernel, rfl, by decide +kernel, by decide +kernel⟩
abbrev s_InvalidTaker_init : Stmt := inClass (topS 4) 0
abbrev N_InvalidTaker_init : List Str := ["self", "value"]
theorem sc_InvalidTaker_init : FnScope N_InvalidTaker_init ["self", "value"] (defScope s_InvalidTaker_init) := ⟨rfl, rfl, rfl, by decide +kernel, rfl, by decide +kernel, by decide +kernel⟩
abbrev s_InvalidRight_init : Stmt := inClass (topS 5) 0
abbrev N_InvalidRight_init : List Str := ["self", "value"]
theorem sc_InvalidRight_init : FnScope N_InvalidRight_init ["self", "value"] (defScope s_InvalidRight_init) := ⟨rfl, rfl, rfl, by decide +kernel, rfl, by decide +kernel, by decide +kernel⟩
abbrev s_InvalidKind_init : Stmt := inClass (topS 6) 0
abbrev N_InvalidKind_init : List Str := ["self", "value"]
theorem sc_InvalidKind_init : FnScope N_InvalidKind_init ["self", "value"] (defScope s_InvalidKind_init) := ⟨rfl, rfl, rfl, by decide +kernel, rfl, by decide +kernel, by decide +kernel⟩
abbrev s_InvalidFlag_init : Stmt := inClass (topS 7) 0
abbrev N_InvalidFlag_init : List Str := ["self", "value"]
theorem sc_InvalidFlag_init : FnScope N_InvalidFlag_init ["self", "value"] (defScope s_InvalidFlag_init) := ⟨rfl, rfl, rfl, by decide +kernel, rfl, by decide +kernel, by decide +kernel⟩
abbrev s_InvalidGrant_init : Stmt := inClass (topS 8) 0
abbrev N_InvalidGrant_init : List Str := ["self", "value"]
theorem sc_InvalidGrant_init : FnScope N_InvalidGrant_init ["self", "value"] (defScope s_InvalidGrant_init) := ⟨rfl, rfl, rfl, by decide +kernel, rfl, by decide +kernel, by decide +kernel⟩
abbrev s_InvalidDefault_init : Stmt := inClass (topS 9) 0
abbrev N_InvalidDefault_init : List Str := ["self", "value"]
theorem sc_InvalidDefault_init : FnScope N_InvalidDefault_init ["self", "value"] (defScope s_InvalidDefault_init) := ⟨rfl, rfl, rfl, by decide +kernel, rfl, by decide +kernel, by decide +kernel⟩
abbrev s_is_name : Stmt := topS 16
abbrev N_is_name : List Str := ["value"]
theorem sc_is_name : FnScope N_is_name ["value"] (defScope s_is_name) := ⟨rfl, rfl, rfl, by decide +kernel, rfl, by decide +kernel, by decide +kernel⟩
abbrev s_is_taker : Stmt := topS 17
abbrev N_is_taker : List Str := ["value"]
theorem sc_is_taker : FnScope N_is_taker ["value"] (defScope s_is_taker) := ⟨rfl, rfl, rfl, by decide +kernel, rfl, by decide +kernel, by decide +kernel⟩
abbrev s_is_right : Stmt := topS 18
abbrev N_is_right : List Str := ["value"]
theorem sc_is_right : FnScope N_is_right ["value"] (defScope s_is_right) := ⟨rfl, rfl, rfl, by decide +kernel, rfl, by decide +kernel, by decide +kernel⟩
abbrev s_is_made_kind : Stmt := topS 19
abbrev N_is_made_kind : List Str := ["value"]
theorem sc_is_made_kind : FnScope N_is_made_kind ["value"] (defScope s_is_made_kind) := ⟨rfl, rfl, rfl, by decide +kernel, rfl, by decide +kernel, by decide +kernel⟩
abbrev s_is_flag : Stmt := topS 20
abbrev N_is_flag : List Str := ["value"]
theorem sc_is_flag : FnScope N_is_flag ["value"] (defScope s_is_flag) := ⟨rfl, rfl, rfl, by decide +kernel, rfl, by decide +kernel, by decide +kernel⟩
abbrev s_kind_of : Stmt := topS 21
abbrev N_kind_of : List Str := ["right"]
theorem sc_kind_of : FnScope N_kind_of ["right"] (defScope s_kind_of) := ⟨rfl, rfl, rfl, by decide +kernel, rfl, by decide +kernel, by decide +kernel⟩
abbrev s_check_name : Stmt := topS 23
abbrev N_check_name : List Str := ["value"]
theorem sc_check_name : FnScope N_check_name ["value"] (defScope s_check_name) := ⟨rfl, rfl, rfl, by decide +kernel, rfl, by decide +kernel, by decide +kernel⟩
abbrev s_check_taker : Stmt := topS 24
abbrev N_check_taker : List Str := ["value"]
theorem sc_check_taker : FnScope N_check_taker ["value"] (defScope s_check_taker) := ⟨rfl, rfl, rfl, by decide +kernel, rfl, by decide +kernel, by decide +kernel⟩
abbrev s_check_taker_from : Stmt := topS 25
abbrev N_check_taker_from : List Str := ["giver", "value"]
theorem sc_check_taker_from : FnScope N_check_taker_from ["giver", "value"] (defScope s_check_taker_from) := ⟨rfl, rfl, rfl, by decide +kernel, rfl, by decide +kernel, by decide +kernel⟩
abbrev s_check_right : Stmt := topS 26
abbrev N_check_right : List Str := ["value"]
theorem sc_check_right : FnScope N_check_right ["value"] (defScope s_check_right) := ⟨rfl, rfl, rfl, by decide +kernel, rfl, by decide +kernel, by decide +kernel⟩
abbrev s_check_right_on : Stmt := topS 27
abbrev N_check_right_on : List Str := ["kind", "value"]
theorem sc_check_right_on : FnScope N_check_right_on ["kind", "value"] (defScope s_check_right_on) := ⟨rfl, rfl, rfl, by decide +kernel, rfl, by decide +kernel, by decide +kernel⟩
abbrev s_check_made_kind : Stmt := topS 28
abbrev N_check_made_kind : List Str := ["value"]
theorem sc_check_made_kind : FnScope N_check_made_kind ["value"] (defScope s_check_made_kind) := ⟨rfl, rfl, rfl, by decide +kernel, rfl, by decide +kernel, by decide +kernel⟩
abbrev s_check_flag : Stmt := topS 29
abbrev N_check_flag : List Str := ["value"]
theorem sc_check_flag : FnScope N_check_flag ["value"] (defScope s_check_flag) := ⟨rfl, rfl, rfl, by decide +kernel, rfl, by decide +kernel, by decide +kernel⟩
abbrev s_check_option : Stmt := topS 30
abbrev N_check_option : List Str := ["value", "taker"]
theorem sc_check_option : FnScope N_check_option ["value", "taker"] (defScope s_check_option) := ⟨rfl, rfl, rfl, by decide +kernel, rfl, by decide +kernel, by decide +kernel⟩
abbrev s_Give_init : Stmt := inClass (topS 33) 0
abbrev N_Give_init : List Str := ["self", "right", "thing", "taker", "option"]
theorem sc_Give_init : FnScope N_Give_init ["self", "right", "thing", "taker", "option"] (defScope s_Give_init) := ⟨rfl, rfl, rfl, by decide +kernel, rfl, by decide +kernel, by decide +kernel⟩
abbrev s_Give_eq : Stmt := inClass (topS 33) 1
abbrev N_Give_eq : List Str := ["self", "other"]
theorem sc_Give_eq : FnScope N_Give_eq ["self", "other"] (defScope s_Give_eq) := ⟨rfl, rfl, rfl, by decide +kernel, rfl, by decide +kernel, by decide +kernel⟩
abbrev s_Give_str : Stmt := inClass (topS 33) 2
abbrev N_Give_str : List Str := ["self", "words"]
theorem sc_Give_str : FnScope N_Give_str ["self"] (defScope s_Give_str) := ⟨rfl, rfl, rfl, by decide +kernel, rfl, by decide +kernel, by decide +kernel⟩
abbrev s_Take_init : Stmt := inClass (topS 34) 0
abbrev N_Take_init : List Str := ["self", "right", "thing", "taker", "giver", "only_option", "cascade"]
theorem sc_Take_init : FnScope N_Take_init ["self", "right", "thing", "taker", "giver", "only_option", "cascade"] (defScope s_Take_init) := ⟨rfl, rfl, rfl, by decide +kernel, rfl, by decide +kernel, by decide +kernel⟩
abbrev s_Take_eq : Stmt := inClass (topS 34) 1
abbrev N_Take_eq : List Str := ["self", "other"]
theorem sc_Take_eq : FnScope N_Take_eq ["self", "other"] (defScope s_Take_eq) := ⟨rfl, rfl, rfl, by decide +kernel, rfl, by decide +kernel, by decide +kernel⟩
abbrev s_Take_str : Stmt := inClass (topS 34) 2
abbrev N_Take_str : List Str := ["self", "words"]
theorem sc_Take_str : FnScope N_Take_str ["self"] (defScope s_Take_str) := ⟨rfl, rfl, rfl, by decide +kernel, rfl, by decide +kernel, by decide +kernel⟩
abbrev s_Call_init : Stmt := inClass (topS 35) 0
abbrev N_Call_init : List Str := ["self", "function"]
theorem sc_Call_init : FnScope N_Call_init ["self", "function"] (defScope s_Call_init) := ⟨rfl, rfl, rfl, by decide +kernel, rfl, by decide +kernel, by decide +kernel⟩
abbrev s_Call_eq : Stmt := inClass (topS 35) 1
abbrev N_Call_eq : List Str := ["self", "other"]
theorem sc_Call_eq : FnScope N_Call_eq ["self", "other"] (defScope s_Call_eq) := ⟨rfl, rfl, rfl, by decide +kernel, rfl, by decide +kernel, by decide +kernel⟩
abbrev s_Call_str : Stmt := inClass (topS 35) 2
abbrev N_Call_str : List Str := ["self"]
theorem sc_Call_str : FnScope N_Call_str ["self"] (defScope s_Call_str) := ⟨rfl, rfl, rfl, by decide +kernel, rfl, by decide +kernel, by decide +kernel⟩
abbrev s_Preset_init : Stmt := inClass (topS 36) 0
abbrev N_Preset_init : List Str := ["self", "kind", "right", "taker", "option"]
theorem sc_Preset_init : FnScope N_Preset_init ["self", "kind", "right", "taker", "option"] (defScope s_Preset_init) := ⟨rfl, rfl, rfl, by decide +kernel, rfl, by decide +kernel, by decide +kernel⟩
abbrev s_Preset_eq : Stmt := inClass (topS 36) 1
abbrev N_Preset_eq : List Str := ["self", "other"]
theorem sc_Preset_eq : FnScope N_Preset_eq ["self", "other"] (defScope s_Preset_eq) := ⟨rfl, rfl, rfl, by decide +kernel, rfl, by decide +kernel, by decide +kernel⟩
abbrev s_Preset_str : Stmt := inClass (topS 36) 2
abbrev N_Preset_str : List Str := ["self", "words"]
theorem sc_Preset_str : FnScope N_Preset_str ["self"] (defScope s_Preset_str) := ⟨rfl, rfl, rfl, by decide +kernel, rfl, by decide +kernel, by decide +kernel⟩
abbrev s_Use_init : Stmt := inClass (topS 37) 0
abbrev N_Use_init : List Str := ["self", "right", "thing"]
theorem sc_Use_init : FnScope N_Use_init ["self", "right", "thing"] (defScope s_Use_init) := ⟨rfl, rfl, rfl, by decide +kernel, rfl, by decide +kernel, by decide +kernel⟩
abbrev s_Use_eq : Stmt := inClass (topS 37) 1
abbrev N_Use_eq : List Str := ["self", "other"]
theorem sc_Use_eq : FnScope N_Use_eq ["self", "other"] (defScope s_Use_eq) := ⟨rfl, rfl, rfl, by decide +kernel, rfl, by decide +kernel, by decide +kernel⟩
abbrev s_Use_str : Stmt := inClass (topS 37) 2
abbrev N_Use_str : List Str := ["self"]
theorem sc_Use_str : FnScope N_Use_str ["self"] (defScope s_Use_str) := ⟨rfl, rfl, rfl, by decide +kernel, rfl, by decide +kernel, by decide +kernel⟩
abbrev s_Grant_init : Stmt := inClass (topS 39) 0
abbrev N_Grant_init : List Str := ["self", "giver", "taker", "right", "thing", "option"]
theorem sc_Grant_init : FnScope N_Grant_init ["self", "giver", "taker", "right", "thing", "option"] (defScope s_Grant_init) := ⟨rfl, rfl, rfl, by decide +kernel, rfl, by decide +kernel, by decide +kernel⟩
abbrev s_Grant_eq : Stmt := inClass (topS 39) 4
abbrev N_Grant_eq : List Str := ["self", "other"]
theorem sc_Grant_eq : FnScope N_Grant_eq ["self", "other"] (defScope s_Grant_eq) := ⟨rfl, rfl, rfl, by decide +kernel, rfl, by decide +kernel, by decide +kernel⟩
abbrev s_Grant_lt : Stmt := inClass (topS 39) 5
abbrev N_Grant_lt : List Str := ["self", "other"]
theorem sc_Grant_lt : FnScope N_Grant_lt ["self", "other"] (defScope s_Grant_lt) := ⟨rfl, rfl, rfl, by decide +kernel, rfl, by decide +kernel, by decide +kernel⟩
abbrev s_Grant_le : Stmt := inClass (topS 39) 6
abbrev N_Grant_le : List Str := ["self", "other"]
theorem sc_Grant_le : FnScope N_Grant_le ["self", "other"] (defScope s_Grant_le) := ⟨rfl, rfl, rfl, by decide +kernel, rfl, by decide +kernel, by decide +kernel⟩
abbrev s_Grant_gt : Stmt := inClass (topS 39) 7
abbrev N_Grant_gt : List Str := ["self", "other"]
theorem sc_Grant_gt : FnScope N_Grant_gt ["self", "other"] (defScope s_Grant_gt) := ⟨rfl, rfl, rfl, by decide +kernel, rfl, by decide +kernel, by decide +kernel⟩
abbrev s_Grant_ge : Stmt := inClass (topS 39) 8
abbrev N_Grant_ge : List Str := ["self", "other"]
theorem sc_Grant_ge : FnScope N_Grant_ge ["self", "other"] (defScope s_Grant_ge) := ⟨rfl, rfl, rfl, by decide +kernel, rfl, by decide +kernel, by decide +kernel⟩
abbrev s_Default_init : Stmt := inClass (topS 40) 0
abbrev N_Default_init : List Str := ["self", "maker", "kind", "right", "taker", "option"]
theorem sc_Default_init : FnScope N_Default_init ["self", "maker", "kind", "right", "taker", "option"] (defScope s_Default_init) := ⟨rfl, rfl, rfl, by decide +kernel, rfl, by decide +kernel, by decide +kernel⟩
abbrev s_Default_eq : Stmt := inClass (topS 40) 3
abbrev N_Default_eq : List Str := ["self", "other"]
theorem sc_Default_eq : FnScope N_Default_eq ["self", "other"] (defScope s_Default_eq) := ⟨rfl, rfl, rfl, by decide +kernel, rfl, by decide +kernel, by decide +kernel⟩
abbrev s_Default_lt : Stmt := inClass (topS 40) 4
abbrev N_Default_lt : List Str := ["self", "other"]
theorem sc_Default_lt : FnScope N_Default_lt ["self", "other"] (defScope s_Default_lt) := ⟨rfl, rfl, rfl, by decide +kernel, rfl, by decide +kernel, by decide +kernel⟩
abbrev s_Default_le : Stmt := inClass (topS 40) 5
abbrev N_Default_le : List Str := ["self", "other"]
theorem sc_Default_le : FnScope N_Default_le ["self", "other"] (defScope s_Default_le) := ⟨rfl, rfl, rfl, by decide +kernel, rfl, by decide +kernel, by decide +kernel⟩
abbrev s_Default_gt : Stmt := inClass (topS 40) 6
abbrev N_Default_gt : List Str := ["self", "other"]
theorem sc_Default_gt : FnScope N_Default_gt ["self", "other"] (defScope s_Default_gt) := ⟨rfl, rfl, rfl, by decide +kernel, rfl, by decide +kernel, by decide +kernel⟩
abbrev s_Default_ge : Stmt := inClass (topS 40) 7
abbrev N_Default_ge : List Str := ["self", "other"]
theorem sc_Default_ge : FnScope N_Default_ge ["self", "other"] (defScope s_Default_ge) := ⟨rfl, rfl, rfl, by decide +kernel, rfl, by decide +kernel, by decide +kernel⟩
abbrev s_check_is_grant : Stmt := topS 41
abbrev N_check_is_grant : List Str := ["value"]
theorem sc_check_is_grant : FnScope N_check_is_grant ["value"] (defScope s_check_is_grant) := ⟨rfl, rfl, rfl, by decide +kernel, rfl, by decide +kernel, by decide +kernel⟩
abbrev s_check_is_default : Stmt := topS 42
abbrev N_check_is_default : List Str := ["value"]
theorem sc_check_is_default : FnScope N_check_is_default ["value"] (defScope s_check_is_default) := ⟨rfl, rfl, rfl, by decide +kernel, rfl, by decide +kernel, by decide +kernel⟩
abbrev s__law_cell : Stmt := topS 44
abbrev N__law_cell : List Str := ["_law_script", "_law_k"]
theorem sc__law_cell : FnScope N__law_cell ["_law_script", "_law_k"] (defScope s__law_cell) := ⟨rfl, rfl, rfl, by decide +kernel, rfl, by decide +kernel, by decide +kernel⟩
abbrev s__law_box : Stmt := topS 45
abbrev N__law_box : List Str := ["_law_cell_here"]
theorem sc__law_box : FnScope N__law_box ["_law_cell_here"] (defScope s__law_box) := ⟨rfl, rfl, rfl, by decide +kernel, rfl, by decide +kernel, by decide +kernel⟩
abbrev s__law_take : Stmt := topS 46
abbrev N__law_take : List Str := ["_law_box_here", "_law_many", "_law_digit", "_law_number"]
theorem sc__law_take : FnScope N__law_take ["_law_box_here", "_law_many"] (defScope s__law_take) := ⟨rfl, rfl, rfl, by decide +kernel, rfl, by decide +kernel, by decide +kernel⟩
abbrev s__law_names : Stmt := topS 47
abbrev N__law_names : List Str := ["_law_box_here", "_law_many", "_law_letters", "_law_stems", "_law_way", "_law_first", "_law_at", "_law_stem", "_law_found", "_law_letter", "_law_group", "_law_k"]
theorem sc__law_names : FnScope N__law_names ["_law_box_here", "_law_many"] (defScope s__law_names) := ⟨rfl, rfl, rfl, by decide +kernel, rfl, by decide +kernel, by decide +kernel⟩
abbrev s__law_rows : Stmt := topS 48
abbrev N__law_rows : List Str := ["_law_box_here", "_law_names_here", "_law_mark", "_law_more", "_law_word", "_law_way", "_law_taker", "_law_by", "_law_sort"]
theorem sc__law_rows : FnScope N__law_rows ["_law_box_here"] (defScope s__law_rows) := ⟨rfl, rfl, rfl, by decide +kernel, rfl, by decide +kernel, by decide +kernel⟩
abbrev s__law_made : Stmt := topS 49
abbrev N__law_made : List Str := ["_law_row"]
theorem sc__law_made : FnScope N__law_made ["_law_row"] (defScope s__law_made) := ⟨rfl, rfl, rfl, by decide +kernel, rfl, by decide +kernel, by decide +kernel⟩
abbrev s__law_told : Stmt := topS 50
abbrev N__law_told : List Str := ["_law_row", "_law_deed"]
theorem sc__law_told : FnScope N__law_told ["_law_row", "_law_deed"] (defScope s__law_told) := ⟨rfl, rfl, rfl, by decide +kernel, rfl, by decide +kernel, by decide +kernel⟩
abbrev s__law_text : Stmt := topS 51
abbrev N__law_text : List Str := ["_law_row", "_law_words"]
theorem sc__law_text : FnScope N__law_text ["_law_row"] (defScope s__law_text) := ⟨rfl, rfl, rfl, by decide +kernel, rfl, by decide +kernel, by decide +kernel⟩
abbrev s__law_otherwise : Stmt := topS 52
abbrev N__law_otherwise : List Str := ["_law_box_here", "_law_row", "_law_found", "_law_at"]
theorem sc__law_otherwise : FnScope N__law_otherwise ["_law_box_here", "_law_row"] (defScope s__law_otherwise) := ⟨rfl, rfl, rfl, by decide +kernel, rfl, by decide +kernel, by decide +kernel⟩
abbrev s__law_right : Stmt := topS 53
abbrev N__law_right : List Str := ["_law_box_here", "_law_row", "_law_deed", "_law_twin", "_law_other", "_law_turn", "_law_grant"]
theorem sc__law_right : FnScope N__law_right ["_law_box_here", "_law_row"] (defScope s__law_right) := ⟨rfl, rfl, rfl, by decide +kernel, rfl, by decide +kernel, by decide +kernel⟩
abbrev s_law : Stmt := topS 54
abbrev N_law : List Str := ["_law_script", "_law_k", "_law_box_here", "_law_rows_here", "_law_row", "_law_one", "_law_other", "_law_turn"]
theorem sc_law : FnScope N_law ["_law_script"] (defScope s_law) := ⟨rfl, rfl, rfl, by decide +kernel, rfl, by decide +kernel, by decide +kernel⟩
end K06
set_option maxHeartbeats 4000000
namespace RM
open PySem PySem.Spec PyProof.Rows L2 TL
/-! ### the words between the places of a sign are what split tells -/
def sp (c : Nat) : List Nat → List (List Nat)
  | [] => [[]]
  | x :: r => if x = c then [] :: sp c r else (x :: (sp c r).headD []) :: (sp c r).tail
theorem sp_ne (c : Nat) : ∀ l, sp c l ≠ []
  | [] => by simp [sp]
  | x :: r => by
    unfold sp
    split <;> simp
/-- the places -/
def pos (c : Nat) : List Nat → Int → List Int
  | [], _ => []
  | x :: r, k => if x = c then k :: pos c r (k + 1) else pos c r (k + 1)
def sl (l : List Nat) (i j : Int) : List Nat := (l.drop i.toNat).take (j.toNat - i.toNat)
def G (l : List Nat) : Int → List Int → List (List Nat)
  | _, [] => []
  | a, b :: bs => sl l (a + 1) b :: G l b bs
theorem G_shift (x : Nat) (r : List Nat) : ∀ (bs : List Int) (a : Int), -1 ≤ a → (∀ b ∈ bs, 0 ≤ b) → G (x :: r) (a + 1) (bs.map (· + 1)) = G r a bs
  | [], _, _, _ => rfl
  | b :: bs, a, ha, hb => by
    have h0 : 0 ≤ b := hb b (List.mem_cons_self ..)
    show sl (x :: r) (a + 1 + 1) (b + 1) :: G (x :: r) (b + 1) (bs.map (· + 1)) = sl r (a + 1) b :: G r b bs
    rw [G_shift x r bs b (by omega) (fun z hz => hb z (List.mem_cons_of_mem _ hz))]
    congr 1
    unfold sl
    have e1 : (a + 1 + 1).toNat = (a + 1).toNat + 1 := by omega
    have e2 : (b + 1).toNat = b.toNat + 1 := by omega
    rw [e1, e2, List.drop_succ_cons]
    congr 1
    omega
theorem pos_shift (c : Nat) : ∀ (l : List Nat) (k : Int), pos c l (k + 1) = (pos c l k).map (· + 1)
  | [], _ => rfl
  | x :: r, k => by
    unfold pos
    rw [pos_shift c r (k + 1)]
    split <;> simp
theorem pos_nonneg (c : Nat) : ∀ (l : List Nat) (k : Int), 0 ≤ k → ∀ b ∈ pos c l k, 0 ≤ b
  | [], _, _, b, h => by cases h
  | x :: r, k, hk, b, h => by
    unfold pos at h
    split at h
    · rcases List.mem_cons.mp h with e | h
      · omega
      · exact pos_nonneg c r (k + 1) (by omega) b h
    · exact pos_nonneg c r (k + 1) (by omega) b h
theorem G_sp (c : Nat) : ∀ l : List Nat, G l (-1) (pos c l 0 ++ [(l.length : Int)]) = sp c l
  | [] => rfl
  | x :: r => by
    have ih := G_sp c r
    have hn : ∀ b ∈ pos c r 0 ++ [(r.length : Int)], 0 ≤ b := fun b hb => by
      rcases List.mem_append.mp hb with h | h
      · exact pos_nonneg c r 0 (by omega) b h
      · rw [List.mem_singleton.mp h]; omega
    have em : (pos c r 1 ++ [((x :: r).length : Int)]) = (pos c r 0 ++ [(r.length : Int)]).map (· + 1) := by
      rw [List.map_append, ← pos_shift c r 0]
      rfl
    unfold pos sp
    show G (x :: r) (-1) ((if x = c then (0 : Int) :: pos c r (0 + 1) else pos c r (0 + 1)) ++ _) = _
    rw [show (0 : Int) + 1 = 1 from rfl]
    by_cases hx : x = c
    · rw [if_pos hx, if_pos hx, List.cons_append, em]
      show sl (x :: r) 0 0 :: G (x :: r) (-1 + 1) _ = _
      rw [G_shift x r _ (-1) (by omega) hn, ih]
      rfl
    · rw [if_neg hx, if_neg hx, em]
      cases e : pos c r 0 ++ [(r.length : Int)] with
      | nil => simp at e
      | cons b bs =>
        rw [e] at ih hn
        have h0 : 0 ≤ b := hn b (List.mem_cons_self ..)
        rw [List.map_cons]
        show sl (x :: r) 0 (b + 1) :: G (x :: r) (b + 1) (bs.map (· + 1)) = _
        rw [G_shift x r bs b (by omega) (fun z hz => hn z (List.mem_cons_of_mem _ hz)), ← ih]
        show _ = (x :: sl r 0 b) :: G r b bs
        congr 1
        unfold sl
        have e2 : (b + 1).toNat - (0 : Int).toNat = b.toNat + 1 := by
          show (b + 1).toNat - 0 = _
          omega
        rw [e2]
        rfl
theorem sp_hit {c : Nat} (r : List Nat) : sp c (c :: r) = [] :: sp c r := if_pos rfl
theorem sp_miss {c x : Nat} (r : List Nat) (h : x ≠ c) : sp c (x :: r) = (x :: (sp c r).headD []) :: (sp c r).tail := if_neg h
theorem hd_tl {l : List (List Nat)} (h : l ≠ []) : l.headD [] :: l.tail = l := by
  cases l with
  | nil => exact absurd rfl h
  | cons a b => rfl
theorem spl_sp (c : Nat) : ∀ (l acc : List Nat), spl [c] 0 acc l = (acc ++ (sp c l).headD []) :: (sp c l).tail
  | [], acc => by
    rw [spl_nil]
    show [acc] = [acc ++ []]
    rw [List.append_nil]
  | x :: r, acc => by
    by_cases hx : x = c
    · subst hx
      have := spl_part1 (s := x) (S := []) (p := []) (rest := r) (acc := acc) (by simp)
      rw [List.nil_append] at this
      have e : ([x] ++ r) = x :: r := rfl
      rw [e] at this
      rw [this, spl_sp x r [], sp_hit, List.append_nil, List.nil_append, hd_tl (sp_ne x r)]
      show _ = (acc ++ []) :: sp x r
      rw [List.append_nil]
    · have e : spl [c] 0 acc (x :: r) = spl [c] 0 (acc ++ [x]) r := spl_miss (pre_of_head [] r hx)
      rw [e, spl_sp c r (acc ++ [x]), sp_miss r hx, List.append_assoc]
      rfl
/-- what is due of a line: none, or its words -/
def due (c : Nat) (l : List Nat) : Option (List (List Nat)) := if 10 ∈ l then none else if [] ∈ sp c l then none else some (sp c l)
theorem split_eq (x : Str) {c : Nat} (hc : c < 256) : (Txt.split x ⟨#[c]⟩).map tl = sp c (tl x) := by
  have h := split_spl x ⟨#[c]⟩ (by show [c] ≠ []; simp) (kind_ok (by simp [hc]))
  rw [h]
  show spl [c] 0 [] (tl x) = _
  rw [spl_sp, List.nil_append]
  have := sp_ne c (tl x)
  cases h : sp c (tl x) with
  | nil => exact absurd h this
  | cons a b => rfl
/-- texts of lists of codes -/
def tx (l : List Nat) : Str := ⟨l.toArray⟩
theorem tx_tl (x : Str) : tx (tl x) = x := by
  unfold tx tl
  cases x
  simp
theorem split_tx (x : Str) {c : Nat} (hc : c < 256) : Txt.split x ⟨#[c]⟩ = (sp c (tl x)).map tx := by
  rw [← split_eq x hc, List.map_map]
  have : (tx ∘ tl) = id := by
    funext z
    exact tx_tl z
  rw [this, List.map_id]
theorem sp_nil (c : Nat) : sp c [] = [[]] := rfl
theorem due_nil (c : Nat) : due c [] = none := by
  unfold due
  rw [if_neg (by simp), if_pos (by rw [sp_nil]; simp)]
theorem sp_len (c : Nat) : ∀ l, (sp c l).length ≤ l.length + 1
  | [] => Nat.le_refl _
  | x :: r => by
    have := sp_len c r
    unfold sp
    split
    · simp only [List.length_cons]; omega
    · simp only [List.length_cons, List.length_tail]; omega
end RM
set_option maxHeartbeats 4000000
/-! ### a dict beside a text -/
namespace RE
open PySem PySem.SeqAt PySem.Spec PyProof.Rows
open AutoSeq1 (wpAny_loadPart')
open MeetsSeq
theorem dict_eq_txt (a : Addr) (o : Obj) (hc : o.cls = .type "dict") (b : Str) (u : Tok) :
    Meets (Builtin.«dict.__eq__» ⟨[.ref a, .str b u], []⟩) (fun _ R s => s.heap.get? a = some o ∧ R (.ok (.ret .notImplemented)) s) :=
  .of_wp fun prog w A R s h => by
    obtain ⟨hp, g, d, tk, os⟩ := s
    obtain ⟨hl, h⟩ := h
    have f1 := F.sub_str_dict
    wp_walk using wpAny_loadPart' hl, wpAny_load hl
    exact ⟨_, rfl, h⟩
theorem dict_ne_txt (a : Addr) (o : Obj) (hc : o.cls = .type "dict") (b : Str) (u : Tok) :
    Meets (Builtin.«dict.__ne__» ⟨[.ref a, .str b u], []⟩) (fun _ R s => s.heap.get? a = some o ∧ R (.ok (.ret .notImplemented)) s) :=
  .of_wp fun prog w A R s h => by
    obtain ⟨hp, g, d, tk, os⟩ := s
    obtain ⟨hl, h⟩ := h
    have f1 := F.sub_str_dict
    wp_walk using wpAny_loadPart' hl, wpAny_load hl
    exact ⟨_, rfl, h⟩
theorem txt_eq_dict (a : Addr) (o : Obj) (es) (n) (hd : o.data = .dict es n) (b : Str) (u : Tok) :
    Meets (Builtin.«str.__eq__» ⟨[.str b u, .ref a], []⟩) (fun _ R s => s.heap.get? a = some o ∧ R (.ok (.ret .notImplemented)) s) :=
  .of_wp fun prog w A R s h => by
    obtain ⟨hp, g, d, tk, os⟩ := s
    obtain ⟨hl, h⟩ := h
    obtain ⟨cls, dd, data, sl⟩ := o
    simp only at hd
    subst hd
    wp_walk using wpAny_loadPart' hl, wpAny_load hl
    exact ⟨_, rfl, h⟩
theorem txt_ne_dict (a : Addr) (o : Obj) (es) (n) (hd : o.data = .dict es n) (b : Str) (u : Tok) :
    Meets (Builtin.«str.__ne__» ⟨[.str b u, .ref a], []⟩) (fun _ R s => s.heap.get? a = some o ∧ R (.ok (.ret .notImplemented)) s) :=
  .of_wp fun prog w A R s h => by
    obtain ⟨hp, g, d, tk, os⟩ := s
    obtain ⟨hl, h⟩ := h
    obtain ⟨cls, dd, data, sl⟩ := o
    simp only at hd
    subst hd
    wp_walk using wpAny_loadPart' hl, wpAny_load hl
    exact ⟨_, rfl, h⟩
section
variable {A : Around} {s : Shared}
theorem rc_dict_str {a : Addr} {o : Obj} (ho : s.heap.get? a = some o) (hc : o.cls = .type "dict") {es} {n} (hd : o.data = .dict es n) (b : Str) (u : Tok) (hu : A.units < cLine) : RcAt A s (.ref a) (.str b u) false := fun prog w E Q h =>
  rc_eq_decline_or (k := false) ⟨_, ho, hc⟩ (typeIs_str s b u) (by decide) F.sub_str_dict F.slot_dict_eq F.slot_str_eq_refl
    (fun _ hq => call_meets F.slot_dict_eq ⟨_, ho, hc⟩ F.entry_dict_eq (F.args_dict_eq_2 _ _) (dict_eq_txt a o hc b u) ⟨ho, hq⟩)
    (fun _ hq => call_meets F.slot_str_eq_refl (typeIs_str s b u) F.entry_str_eq (F.args_str_eq_2 _ _) (txt_eq_dict a o _ _ hd b u) ⟨ho, hq⟩)
    (fun _ hq => wpAny_of_eq (rfl : isSame (.ref a) (.str b u) = pure false) hq) (.inr hu) h
theorem rc_str_dict {a : Addr} {o : Obj} (ho : s.heap.get? a = some o) (hc : o.cls = .type "dict") {es} {n} (hd : o.data = .dict es n) (b : Str) (u : Tok) (hu : A.units < cLine) : RcAt A s (.str b u) (.ref a) false := fun prog w E Q h =>
  rc_eq_decline_or (k := false) (typeIs_str s b u) ⟨_, ho, hc⟩ (by decide) F.sub_dict_str F.slot_str_eq F.slot_dict_eq_refl
    (fun _ hq => call_meets F.slot_str_eq (typeIs_str s b u) F.entry_str_eq (F.args_str_eq_2 _ _) (txt_eq_dict a o _ _ hd b u) ⟨ho, hq⟩)
    (fun _ hq => call_meets F.slot_dict_eq_refl ⟨_, ho, hc⟩ F.entry_dict_eq (F.args_dict_eq_2 _ _) (dict_eq_txt a o hc b u) ⟨ho, hq⟩)
    (fun _ hq => wpAny_of_eq (rfl : isSame (.str b u) (.ref a) = pure false) hq) (.inr hu) h
theorem rn_dict_str {a : Addr} {o : Obj} (ho : s.heap.get? a = some o) (hc : o.cls = .type "dict") {es} {n} (hd : o.data = .dict es n) (b : Str) (u : Tok) (hu : A.units < cLine) : RcNeAt A s (.ref a) (.str b u) true := fun prog w E Q h =>
  rc_ne_decline_or (k := false) ⟨_, ho, hc⟩ (typeIs_str s b u) (by decide) F.sub_str_dict F.slot_dict_ne F.slot_str_ne_refl
    (fun _ hq => call_meets F.slot_dict_ne ⟨_, ho, hc⟩ F.entry_dict_ne (F.args_dict_ne_2 _ _) (dict_ne_txt a o hc b u) ⟨ho, hq⟩)
    (fun _ hq => call_meets F.slot_str_ne_refl (typeIs_str s b u) F.entry_str_ne (F.args_str_ne_2 _ _) (txt_ne_dict a o _ _ hd b u) ⟨ho, hq⟩)
    (fun _ hq => wpAny_of_eq (rfl : isSame (.ref a) (.str b u) = pure false) hq) (.inr hu) h
theorem eq_str_dict {a : Addr} {o : Obj} (ho : s.heap.get? a = some o) (hc : o.cls = .type "dict") {es} {n} (hd : o.data = .dict es n) (b : Str) (u : Tok) (hu : A.units < cLine) : EqAt A s (.str b u) (.ref a) false := fun prog w E Q h => by
  unfold eqBool
  refine wpAny_holding ?_
  refine wpAny_ite_split (fun hab => absurd (eq_of_beq hab) nofun) (fun _ => ?_)
  exact wpAny_bind (rc_str_dict ho hc hd b u hu prog w E _ (wpAny_truthy_bool h))
end
end RE
namespace RE
open PySem PySem.Spec PyProof.Rows L2
/-- a value of these kinds: flat, a list, a tuple, a dict -/
inductive OdV (K : PySem.W.Frag) (H : Hp) : V → Prop
  | flat {v : V} : flatV v = true → OdV K H v
  | lst {p : Addr} {xs : List V} : SqL K H p xs → OdV K H (.ref p)
  | tup {p : Addr} {xs : List V} : SqT K H p xs → OdV K H (.ref p)
  | dic {p : Addr} {kvs : List (Key × V)} : H p = some (.dK kvs) → OdV K H (.ref p)
def isT (z : Str) : V → Bool
  | .str x => x == z
  | _ => false
theorem isT_dec (z : Str) (v : V) : decide (v = .str z) = isT z v := by
  cases v with
  | str x =>
    show _ = (x == z)
    rw [Bool.eq_iff_iff]
    simp
  | _ => exact decide_eq_false (fun e => nomatch e)
section
variable {X : Cx}
/-- v == text -/
def rOdEq (K : PySem.W.Frag) : R2 := fun x y H Q => ∃ z, y = .str z ∧ OdV K H x ∧ Q (.bl (isT z x)) H
def rOdNe (K : PySem.W.Frag) : R2 := fun x y H Q => ∃ z, y = .str z ∧ OdV K H x ∧ Q (.bl (!isT z x)) H
theorem op_odEq (hu : X.A.units < cLine) : OpR X (compareOp .Eq) (rOdEq X.K) := by
  intro pins s σ H x y v u Q I rx ry h
  obtain ⟨z, rfl, ho, q⟩ := h
  have ryr := ry
  obtain ⟨t, rfl⟩ := ry
  cases ho with
  | flat f =>
    have q2 := q
    rw [← isT_dec] at q2
    refine op_eq pins s σ H x (.str z) v (.str z t) Q I rx ryr ⟨?_, q2⟩
    cases x <;> first | rfl | exact absurd (show false = true from f) Bool.false_ne_true
  | lst hl =>
    cases rx
    obtain ⟨its, rv, pl, hz⟩ := I.list hl
    exact SeqAt.RcAt.list_str z t pl.isList hu X.prog X.w _ _ ⟨.bl false, H, I, rfl, q⟩
  | tup hl =>
    cases rx
    obtain ⟨its, rv, pl, hz⟩ := I.tuple hl
    exact SeqAt.RcAt.tuple_str z t pl hu X.prog X.w _ _ ⟨.bl false, H, I, rfl, q⟩
  | dic e =>
    cases rx
    obtain ⟨_, hs, vs, kv, o, es, ep, h1, h2, h3, _, hp, _⟩ := (show ObjOk X.prog X.w H s.heap _ (.dK _) from I.hok _ _ e)
    exact rc_dict_str h1 h2.1 h3 z t hu X.prog X.w _ _ ⟨.bl false, H, I, rfl, q⟩
theorem op_odNe (hu : X.A.units < cLine) : OpR X (compareOp .NotEq) (rOdNe X.K) := by
  intro pins s σ H x y v u Q I rx ry h
  obtain ⟨z, rfl, ho, q⟩ := h
  have ryr := ry
  obtain ⟨t, rfl⟩ := ry
  cases ho with
  | flat f =>
    have q2 := q
    rw [← isT_dec] at q2
    refine op_ne pins s σ H x (.str z) v (.str z t) Q I rx ryr ⟨?_, q2⟩
    cases x <;> first | rfl | exact absurd (show false = true from f) Bool.false_ne_true
  | lst hl =>
    cases rx
    obtain ⟨its, rv, pl, hz⟩ := I.list hl
    exact SeqAt.RcNeAt.list_str z t pl.isList hu X.prog X.w _ _ ⟨.bl true, H, I, rfl, q⟩
  | tup hl =>
    cases rx
    obtain ⟨its, rv, pl, hz⟩ := I.tuple hl
    exact SeqAt.RcNeAt.tuple_str z t pl hu X.prog X.w _ _ ⟨.bl true, H, I, rfl, q⟩
  | dic e =>
    cases rx
    obtain ⟨_, hs, vs, kv, o, es, ep, h1, h2, h3, _, hp, _⟩ := (show ObjOk X.prog X.w H s.heap _ (.dK _) from I.hok _ _ e)
    exact rn_dict_str h1 h2.1 h3 z t hu X.prog X.w _ _ ⟨.bl true, H, I, rfl, q⟩
/-! ### v in a tuple or list of texts -/
def inT (x : V) (zs : List Str) : Bool := zs.any fun z => isT z x
theorem odEqAt {A : Around} {pins : List (Addr × Obj)} {σ : L2.St} {H : Hp} {s : Shared} (I : Inv X pins σ H s) (hu : A.units < cLine) {x : V} {v : Value} (rx : RelV x v) (ho : OdV X.K H x) (z : Str) (t : Tok) : SeqAt.EqAt A s (.str z t) v (isT z x) := by
  cases ho with
  | flat f =>
    have h := eqAt_V (A := A) (s := s) (y := .str z) (u := .str z t) ⟨t, rfl⟩ rx rfl f
    have e : eqV (.str z) x = isT z x := by
      cases x <;> first | rfl | exact Bool.eq_iff_iff.mpr ⟨fun e => beq_iff_eq.mpr (beq_iff_eq.mp e).symm, fun e => beq_iff_eq.mpr (beq_iff_eq.mp e).symm⟩
    rw [e] at h
    exact h
  | lst hl =>
    cases rx
    obtain ⟨its, rv, pl, hz⟩ := I.list hl
    exact SeqAt.EqAt.str_list z t pl.isList hu
  | tup hl =>
    cases rx
    obtain ⟨its, rv, pl, hz⟩ := I.tuple hl
    exact SeqAt.EqAt.str_tuple z t pl hu
  | dic e =>
    cases rx
    obtain ⟨_, hs, vs, kv, o, es, ep, h1, h2, h3, _, hp, _⟩ := (show ObjOk X.prog X.w H s.heap _ (.dK _) from I.hok _ _ e)
    exact eq_str_dict h1 h2.1 h3 z t hu
def inU (x : V) : Value → Bool
  | .str z _ => isT z x
  | _ => false
theorem any_inU {x : V} : ∀ {zs : List Str} {us : List Value}, Vals (zs.map V.str) us → us.any (inU x) = inT x zs
  | [], _, .nil => rfl
  | z :: zs, _, .cons r t => by
    obtain ⟨tk, rfl⟩ := r
    rw [List.any_cons, any_inU t]
    rfl
theorem mem_inU {A : Around} {pins : List (Addr × Obj)} {σ : L2.St} {H : Hp} {s : Shared} (I : Inv X pins σ H s) (hu : A.units < cLine) {x : V} {v : Value} (rx : RelV x v) (ho : OdV X.K H x) : ∀ {zs : List Str} {us : List Value}, Vals (zs.map V.str) us → ∀ u ∈ us, SeqAt.EqAt A s u v (inU x u)
  | [], _, .nil => fun u hu => by cases hu
  | z :: zs, _, .cons r t => fun u' hm => by
    rcases List.mem_cons.mp hm with rfl | hm
    · obtain ⟨tk, rfl⟩ := r
      exact odEqAt I hu rx ho z tk
    · exact mem_inU I hu rx ho t u' hm
def rOdIn (K : PySem.W.Frag) (neg : Bool) : R2 := fun x y H Q => ∃ p zs, y = .ref p ∧ (SqL K H p (zs.map V.str) ∨ SqT K H p (zs.map V.str)) ∧ OdV K H x ∧ Q (.bl (if neg then !inT x zs else inT x zs)) H
theorem op_odIn (hu : X.A.units + 1 < cLine) : OpR X (compareOp .In) (rOdIn X.K false) := by
  intro pins s σ H x y v u Q I rx ry h
  obtain ⟨p, zs, rfl, hq, ho, q⟩ := h
  cases ry
  have hu1 : X.A.in1.units < cLine := hu
  rcases hq with hq | hq
  · obtain ⟨its, r, pl, hz⟩ := I.list hq
    refine SeqAt.in_listAt (inU x) pl.isList (fun w hw => mem_inU I hu1 rx ho r w (by simpa using hw)) ⟨.bl _, H, I, rfl, ?_⟩
    rw [show its.toArray.any (inU x) = its.any (inU x) by simp, any_inU r]
    exact q
  · obtain ⟨its, r, pl, hz⟩ := I.tuple hq
    refine SeqAt.in_tupleAt (inU x) pl (fun w hw => mem_inU I hu1 rx ho r w (by simpa using hw)) ⟨.bl _, H, I, rfl, ?_⟩
    rw [show its.toArray.any (inU x) = its.any (inU x) by simp, any_inU r]
    exact q
/-- v is True, v is False -/
theorem op_isB : OpR X (compareOp .Is) (fun x y H Q => ∃ b, y = .bl b ∧ OdV X.K H x ∧ Q (.bl (decide (x = .bl b))) H) := by
  intro pins s σ H x y v u Q I rx ry h
  obtain ⟨b, rfl, ho, q⟩ := h
  cases (show u = Value.bool b from ry)
  have no : ∀ {a : Addr}, x = .ref a → EP X pins σ Q (.bool false) s := fun e => ⟨.bl false, H, I, rfl, by rw [decide_eq_false (by rw [e]; exact fun z => nomatch z)] at q; exact q⟩
  cases ho with
  | flat f =>
    cases x with
    | bl c =>
      cases (show v = Value.bool c from rx)
      by_cases e : c = b
      · subst e
        exact wpAny_is_self rfl ⟨.bl true, H, I, rfl, by simpa using q⟩
      · exact wpAny_is_other rfl (fun z => e (Value.bool.inj z)) ⟨.bl false, H, I, rfl, by simpa [e] using q⟩
    | non =>
      cases (show v = Value.none from rx)
      exact wpAny_is_other rfl (fun z => nomatch z) ⟨.bl false, H, I, rfl, q⟩
    | int i =>
      obtain ⟨t, rfl⟩ := rx
      exact wpAny_is_other rfl (fun z => nomatch z) ⟨.bl false, H, I, rfl, q⟩
    | str z =>
      obtain ⟨t, rfl⟩ := rx
      exact wpAny_is_other rfl (fun z => nomatch z) ⟨.bl false, H, I, rfl, q⟩
    | _ => exact absurd (show false = true from f) Bool.false_ne_true
  | lst hl =>
    cases rx
    exact wpAny_is_other rfl (fun z => nomatch z) (no rfl)
  | tup hl =>
    cases rx
    exact wpAny_is_other rfl (fun z => nomatch z) (no rfl)
  | dic e =>
    cases rx
    exact wpAny_is_other rfl (fun z => nomatch z) (no rfl)
end
end RE
set_option maxHeartbeats 4000000
/-! ### names, rights, takers, flags, read off a value -/
namespace RN
open PySem PySem.Spec PyProof.Rows L2 TL RE
def lowC (c : Nat) : Bool := decide (97 ≤ c) && decide (c ≤ 122)
def upC (c : Nat) : Bool := decide (65 ≤ c) && decide (c ≤ 90)
theorem tab : ∀ c, c < 128 → Unicode.isAlpha c = (upC c || lowC c) ∧ Unicode.isLower c = lowC c ∧ (Unicode.isUpper c || Unicode.isTitle c) = upC c := by decide +kernel
theorem low_eq (z : Str) : (Txt.isascii z && (Txt.isalpha z && Txt.islower z)) = (decide (0 < z.length) && (tl z).all lowC) := by
  have e1 : Txt.isascii z = (tl z).all (fun c => decide (c < 128)) := by
    show z.cps.all _ = _
    rw [← Array.all_toList]
  have e2 : Txt.isalpha z = (decide (0 < z.length) && (tl z).all Unicode.isAlpha) := by
    show (decide (z.length > 0) && z.cps.all _) = _
    rw [← Array.all_toList]
  have e3 : Txt.islower z = ((tl z).any Unicode.isLower && !(tl z).any fun c => Unicode.isUpper c || Unicode.isTitle c) := by
    show (z.cps.any _ && !z.cps.any _) = _
    rw [← Array.any_toList, ← Array.any_toList]
  have hl : z.length = (tl z).length := len_tl z
  rw [e1, e2, e3, hl]
  generalize tl z = l
  clear e1 e2 e3 hl z
  rw [Bool.eq_iff_iff]
  simp only [Bool.and_eq_true, List.all_eq_true, decide_eq_true_eq, Bool.not_eq_true', List.any_eq_true, List.any_eq_false]
  constructor
  · rintro ⟨h1, ⟨h2, h3⟩, h4, h5⟩
    refine ⟨h2, fun c hc => ?_⟩
    have t := tab c (h1 c hc)
    have a := h3 c hc
    have u := h5 c hc
    rw [t.1] at a
    rw [t.2.2] at u
    cases hu : upC c with
    | true => exact absurd hu u
    | false => rw [hu, Bool.false_or] at a; exact a
  · rintro ⟨h2, h3⟩
    have lt : ∀ c ∈ l, c < 128 := fun c hc => by
      have := h3 c hc
      simp only [lowC, Bool.and_eq_true, decide_eq_true_eq] at this
      omega
    refine ⟨lt, ⟨h2, fun c hc => ?_⟩, ?_, fun c hc => ?_⟩
    · rw [(tab c (lt c hc)).1, h3 c hc, Bool.or_true]
    · cases l with
      | nil => exact absurd h2 (Nat.lt_irrefl 0)
      | cons c r => exact ⟨c, List.mem_cons_self .., by rw [(tab c (lt c (List.mem_cons_self ..))).2.1]; exact h3 c (List.mem_cons_self ..)⟩
    · rw [(tab c (lt c hc)).2.2]
      have := h3 c hc
      simp only [lowC, upC, Bool.and_eq_true, decide_eq_true_eq] at this ⊢
      omega
def isS : V → Bool
  | .str _ => true
  | _ => false
def isFlag : V → Bool
  | .bl _ => true
  | _ => false
abbrev tPub : Str := Str.ofString "public"
abbrev tCal : Str := Str.ofString "caller"
def nameT (z : Str) : Bool := decide (1 ≤ z.length) && decide (z.length ≤ 8) && (tl z).all lowC && !(z == tPub) && !(z == tCal)
def isName : V → Bool
  | .str z => nameT z
  | _ => false
def isTaker (v : V) : Bool := isName v || isT tPub v
def rightsT : List Str := [Str.ofString "inherit", Str.ofString "act", Str.ofString "read", Str.ofString "write", Str.ofString "call"]
def kindT (z : Str) : Option Str :=
  if z = Str.ofString "inherit" then some (Str.ofString "role") else if z = Str.ofString "act" then some (Str.ofString "role") else if z = Str.ofString "read" then some (Str.ofString "table") else
  if z = Str.ofString "write" then some (Str.ofString "table") else if z = Str.ofString "call" then some (Str.ofString "function") else none
def isRight : V → Bool
  | .str z => (kindT z).isSome
  | _ => false
def isMade (v : V) : Bool := isT (Str.ofString "table") v || isT (Str.ofString "function") v
theorem k_NoneType_str : kitB "NoneType" "str" = some false := by decide +kernel
theorem k_NoneType_bool : kitB "NoneType" "bool" = some false := by decide +kernel
theorem k_NoneType_list : kitB "NoneType" "list" = some false := by decide +kernel
theorem k_NoneType_dict : kitB "NoneType" "dict" = some false := by decide +kernel
theorem k_bool_str : kitB "bool" "str" = some false := by decide +kernel
theorem k_bool_bool : kitB "bool" "bool" = some true := by decide +kernel
theorem k_bool_list : kitB "bool" "list" = some false := by decide +kernel
theorem k_bool_dict : kitB "bool" "dict" = some false := by decide +kernel
theorem k_int_str : kitB "int" "str" = some false := by decide +kernel
theorem k_int_bool : kitB "int" "bool" = some false := by decide +kernel
theorem k_int_list : kitB "int" "list" = some false := by decide +kernel
theorem k_int_dict : kitB "int" "dict" = some false := by decide +kernel
theorem k_str_str : kitB "str" "str" = some true := by decide +kernel
theorem k_str_bool : kitB "str" "bool" = some false := by decide +kernel
theorem k_str_list : kitB "str" "list" = some false := by decide +kernel
theorem k_str_dict : kitB "str" "dict" = some false := by decide +kernel
theorem k_list_str : kitB "list" "str" = some false := by decide +kernel
theorem k_list_bool : kitB "list" "bool" = some false := by decide +kernel
theorem k_list_list : kitB "list" "list" = some true := by decide +kernel
theorem k_list_dict : kitB "list" "dict" = some false := by decide +kernel
theorem k_tuple_str : kitB "tuple" "str" = some false := by decide +kernel
theorem k_tuple_bool : kitB "tuple" "bool" = some false := by decide +kernel
theorem k_tuple_list : kitB "tuple" "list" = some false := by decide +kernel
theorem k_tuple_dict : kitB "tuple" "dict" = some false := by decide +kernel
theorem k_dict_str : kitB "dict" "str" = some false := by decide +kernel
theorem k_dict_bool : kitB "dict" "bool" = some false := by decide +kernel
theorem k_dict_list : kitB "dict" "list" = some false := by decide +kernel
theorem k_dict_dict : kitB "dict" "dict" = some true := by decide +kernel
theorem od_ty {K : PySem.W.Frag} {H : Hp} {x : V} (h : OdV K H x) : ∃ t, TyX K H x t ∧ PySem.W.kitOne K t (.type "str") = some (isS x) ∧ PySem.W.kitOne K t (.type "bool") = some (isFlag x) := by
  cases h with
  | flat f =>
    cases x with
    | non => exact ⟨_, .base .non, kit_ty k_NoneType_str, kit_ty k_NoneType_bool⟩
    | bl b => exact ⟨_, .base (.bl b), kit_ty k_bool_str, kit_ty k_bool_bool⟩
    | int i => exact ⟨_, .base (.int i), kit_ty k_int_str, kit_ty k_int_bool⟩
    | str z => exact ⟨_, .base (.str z), kit_ty k_str_str, kit_ty k_str_bool⟩
    | _ => exact absurd (show false = true from f) Bool.false_ne_true
  | lst h =>
    rcases h with h | ⟨o, its, n, h, c, _⟩
    · rcases h with h | ⟨o, h⟩
      · exact ⟨_, .base (.lst h), kit_ty k_list_str, kit_ty k_list_bool⟩
      · exact ⟨_, .base (.frz h), kit_ty k_list_str, kit_ty k_list_bool⟩
    · exact ⟨_, .kList h c, kit_ty k_list_str, kit_ty k_list_bool⟩
  | tup h =>
    rcases h with h | ⟨o, its, n, h, c, _⟩
    · rcases h with h | ⟨o, h⟩
      · exact ⟨_, .base (.tup h), kit_ty k_tuple_str, kit_ty k_tuple_bool⟩
      · exact ⟨_, .fTuple h, kit_ty k_tuple_str, kit_ty k_tuple_bool⟩
    · exact ⟨_, .kTuple h c, kit_ty k_tuple_str, kit_ty k_tuple_bool⟩
  | dic h => exact ⟨_, .base (.dK h), kit_ty k_dict_str, kit_ty k_dict_bool⟩
theorem isS_str {x : V} (h : isS x = true) : ∃ z, x = .str z := by
  cases x with
  | str z => exact ⟨z, rfl⟩
  | _ => exact absurd (show false = true from h) Bool.false_ne_true
theorem notS_name {x : V} (h : isS x = false) : isName x = false := by
  cases x with
  | str z => exact absurd (show false = true from (show true = false from h).symm) Bool.false_ne_true
  | _ => rfl
end RN
set_option maxHeartbeats 4000000
namespace K06
open PySem PySem.Spec PyProof.Rows L2 RL RE RN RM TL RQ
/-- a tuple or list of the module with these texts -/
def KTup (K : PySem.W.Frag) (a : Addr) (zs : List Str) : Prop :=
  ∃ (o : Obj) (its : Array Value) (n : Nat), K.lookup a = some o ∧ o.cls = .type "tuple" ∧ o.data = .seq its n ∧ its.size ≤ sizeLine ∧ Vals (zs.map V.str) its.toList
theorem KTup.sq {K : PySem.W.Frag} {a : Addr} {zs : List Str} {H : Hp} (h : KTup K a zs) : SqT K H a (zs.map V.str) := .inr h
/-- KIND_BY_RIGHT -/
structure KRight (K : PySem.W.Frag) (w : World) (d : Addr) : Prop where
  dict : ∃ es n, KDict K w d es n
  get : ∀ z, ∃ r, PySem.W.nsIn K d z = some r ∧ r.isSome = (kindT z).isSome ∧ ∀ k, kindT z = some k → ∃ t, r = some (.str k t)
/-- a value of a row -/
def Od (K : PySem.W.Frag) (H : Hp) (v : V) : Prop := OdV K H v ∧ ∀ z, v = .str z → z.length ≤ 1000 ∧ ∀ x ∈ tl z, x < 256
theorem le_ite {z : Str} {n : Nat} (h : z.length ≤ 1000) (hn : 1000 ≤ n) : z.length ≤ n := Nat.le_trans h hn
theorem nameT_no1 {z : Str} (h : ¬ 1 ≤ z.length) : nameT z = false := by
  unfold nameT
  rw [decide_eq_false h]
  simp
theorem nameT_no8 {z : Str} (h : ¬ z.length ≤ 8) : nameT z = false := by
  unfold nameT
  rw [decide_eq_false h]
  simp
theorem inV2 (z a b : Str) : inV (.str z) [.str a, .str b] = (z == a || z == b) := by
  show ((a == z) || ((b == z) || false)) = _
  rw [Bool.or_false, BEq.comm (a := a), BEq.comm (a := b)]
theorem nameT_eq {z : Str} (h1 : 1 ≤ z.length) (h8 : z.length ≤ 8) : nameT z = (Txt.isascii z && (Txt.isalpha z && (Txt.islower z && !(inV (.str z) [.str tPub, .str tCal])))) := by
  have e := low_eq z
  have h0 : decide (0 < z.length) = true := decide_eq_true (by omega)
  rw [h0, Bool.true_and] at e
  unfold nameT
  rw [decide_eq_true h1, decide_eq_true h8, ← e, inV2]
  cases Txt.isascii z <;> cases Txt.isalpha z <;> cases Txt.islower z <;> cases (z == tPub) <;> cases (z == tCal) <;> rfl
section
variable {P : Program} {w : World} {K : PySem.W.Frag} {mg : Str → Option Value} {base : Heap} {f : Addr} {fd : FuncData}
def spP (K : PySem.W.Frag) (p : V → Bool) : Sp := fun vs H Q _ => ∃ v, vs = [v] ∧ Od K H v ∧ Q (.bl (p v)) H
theorem spP_len {p : V → Bool} : ∀ vs H Q E, spP K p vs H Q E → vs.length = 1 := fun vs H Q E h => by
  obtain ⟨v, rfl, _⟩ := h
  rfl
theorem ok_is_name {aR : Addr} {tL : Tok} (F : Fun K "is_name" "is_name" s_is_name f fd) (mi : mg "isinstance" = none) (ms : mg "str" = none) (ml : mg "len" = none) (mL : mg "LONGEST_NAME" = some (.int 8 tL)) (mR : mg "RESERVED" = some (.ref aR)) (hR : KTup K aR [tPub, tCal]) :
    FnOk P w K mg base CX0 1 f fd ["value"] (spP K isName) := by
  refine F.ok sc_is_name spP_len (fun cdv A outer s H vs Q E hr h => ?_)
  obtain ⟨v, rfl, hv, q⟩ := h
  refine ⟨_, PSs.nox (pss_cons (ps_if (PW.pt (pw_or (pt_not (pt_val (pe_callB call_isi (by rfl) mi boot_isinstance (pa_cons (pv 0) (pa_cons (pe_bltn (v := .ty "str") (by rfl) ms PyProof.Rows.boot_str rfl) pa_nil)))))
      (pw_or1 (pt_not (pt_chain op_le op_le pe_int (pe_callB call_len_str (by rfl) ml PySem.boot_len (pa_cons (pv 0) pa_nil)) (pe_glob (v := .int 8) (by rfl) mL ⟨_, rfl⟩)))))) (pss_one (ps_ret pe_bl)) pss_nil)
    (pss_one (ps_ret (pe_and (pe_m0 PySem.F.slot_str_isascii PySem.F.type_str_isascii mt_isascii (pv 0)) (pe_and (pe_m0 PySem.F.slot_str_isalpha PySem.F.type_str_isalpha mt_isalpha (pv 0)) (pe_and (pe_m0 PySem.F.slot_str_islower PySem.F.type_str_islower mt_islower (pv 0))
      (pe_one (pe_cmpR op_notIn_seq (pv 0) (pe_glob (v := .ref aR) (by rfl) mR rfl) (by rfl))))))))), ?_⟩
  obtain ⟨t, ht, hs, hb⟩ := od_ty hv.1
  refine ⟨_, rfl, v, .ty "str", t, .type "str", _, rfl, .ty _, ht, hs, _, rfl, ?_⟩
  cases hS : isS v with
  | false =>
    rw [notS_name hS] at q
    exact iteT q
  | true =>
    obtain ⟨z, rfl⟩ := isS_str hS
    have hz := (hv.2 z rfl).1
    refine iteF ?_
    refine ⟨_, rfl, z, rfl, Nat.le_trans hz (by decide), 1, z.length, rfl, rfl, _, rfl, ?_⟩
    by_cases h1 : 1 ≤ z.length
    · have e1 : decide ((1 : Int) ≤ (z.length : Nat)) = true := decide_eq_true (by omega)
      rw [e1]
      refine iteT ⟨z.length, 8, rfl, rfl, _, rfl, ?_⟩
      by_cases h8 : z.length ≤ 8
      · have e2 : decide (((z.length : Nat) : Int) ≤ 8) = true := decide_eq_true (by omega)
        rw [e2]
        refine iteF ?_
        have e := nameT_eq h1 h8
        have q : Q (.bl (nameT z)) H := q
        rw [e] at q
        refine ⟨_, rfl, ⟨z, rfl⟩, z, rfl, rfl, trivial, _, rfl, ?_⟩
        cases hA : Txt.isascii z with
        | false => rw [hA] at q; exact iteF q
        | true =>
          rw [hA] at q
          refine iteT ⟨_, rfl, ⟨z, rfl⟩, z, rfl, rfl, trivial, _, rfl, ?_⟩
          cases hB : Txt.isalpha z with
          | false => rw [hB] at q; exact iteF q
          | true =>
            rw [hB] at q
            refine iteT ⟨_, rfl, ⟨z, rfl⟩, z, rfl, rfl, trivial, _, rfl, ?_⟩
            cases hC : Txt.islower z with
            | false => rw [hC] at q; exact iteF q
            | true =>
              rw [hC] at q
              exact iteT ⟨_, rfl, aR, _, rfl, .inr hR.sq, rfl, rfl, q⟩
      · have e2 : decide (((z.length : Nat) : Int) ≤ 8) = false := decide_eq_false (by omega)
        rw [e2]
        have q : Q (.bl (nameT z)) H := q
        rw [nameT_no8 h8] at q
        exact iteT q
    · have e1 : decide ((1 : Int) ≤ (z.length : Nat)) = false := decide_eq_false (by omega)
      rw [e1]
      have q : Q (.bl (nameT z)) H := q
      rw [nameT_no1 h1] at q
      exact ⟨_, rfl, iteT q⟩
end
end K06
set_option maxHeartbeats 4000000
namespace K06
open PySem PySem.Spec PyProof.Rows L2 RL RE RN RM TL RQ
section
variable {P : Program} {w : World} {K : PySem.W.Frag} {mg : Str → Option Value} {base : Heap} {f : Addr} {fd : FuncData}
theorem ok_is_taker {fN : Addr} {fdN : FuncData} (F : Fun K "is_taker" "is_taker" s_is_taker f fd) (N : FnOk P w K mg base CX0 1 fN fdN ["value"] (spP K isName)) (bN : Binds K fdN ["value"] []) (kN : PySem.W.keepIn K (.ref fN) = true) (gN : mg "is_name" = some (.ref fN)) :
    FnOk P w K mg base CX0 2 f fd ["value"] (spP K isTaker) := by
  refine F.ok sc_is_taker spP_len (fun cdv A outer s H vs Q E hr h => ?_)
  obtain ⟨v, rfl, hv, q⟩ := h
  refine ⟨_, PSs.nox (pss_one (ps_ret (pe_or (pe_call N hr (by rfl) gN kN bN .nil pass0 (pa_cons (pv 0) pa_nil)) (pe_one (pe_cmpR (op_odEq (Nat.lt_of_succ_lt (hu_of hr))) (pv 0) pe_str (nomark _)))))), ?_⟩
  refine ⟨_, rfl, v, rfl, hv, _, rfl, ?_⟩
  have q : Q (.bl (isName v || isT tPub v)) H := q
  cases hN : isName v with
  | true => rw [hN] at q; exact iteT q
  | false => rw [hN] at q; exact iteF ⟨_, rfl, _, rfl, hv.1, q⟩
theorem ok_is_right {d : Addr} (F : Fun K "is_right" "is_right" s_is_right f fd) (mi : mg "isinstance" = none) (ms : mg "str" = none) (mD : mg "KIND_BY_RIGHT" = some (.ref d)) (hD : KRight K w d) :
    FnOk P w K mg base CX0 1 f fd ["value"] (spP K isRight) := by
  obtain ⟨es, n, kd⟩ := hD.dict
  refine F.ok sc_is_right spP_len (fun cdv A outer s H vs Q E hr h => ?_)
  obtain ⟨v, rfl, hv, q⟩ := h
  refine ⟨_, PSs.nox (pss_one (ps_ret (pe_and (pe_callB call_isi (by rfl) mi boot_isinstance (pa_cons (pv 0) (pa_cons (pe_bltn (v := .ty "str") (by rfl) ms PyProof.Rows.boot_str rfl) pa_nil)))
    (pe_one (pe_cmpR (op_in_kd (d := d) (es := es) (n := n) kd) (pv 0) (pe_glob (v := .ref d) (by rfl) mD rfl) (by rfl)))))), ?_⟩
  obtain ⟨t, ht, hs, hb⟩ := od_ty hv.1
  refine ⟨_, rfl, v, .ty "str", t, .type "str", _, rfl, .ty _, ht, hs, _, rfl, ?_⟩
  cases hS : isS v with
  | false =>
    have e : isRight v = false := by
      cases v with
      | str z => exact absurd (show false = true from (show true = false from hS).symm) Bool.false_ne_true
      | _ => rfl
    rw [e] at q
    exact iteF q
  | true =>
    obtain ⟨z, rfl⟩ := isS_str hS
    obtain ⟨r, h1, h2, h3⟩ := hD.get z
    have q : Q (.bl (kindT z).isSome) H := q
    rw [← h2] at q
    exact iteT ⟨_, rfl, z, r, rfl, rfl, h1, q⟩
theorem ok_is_made {aM : Addr} (F : Fun K "is_made_kind" "is_made_kind" s_is_made_kind f fd) (mM : mg "MADE_KINDS" = some (.ref aM)) (hM : KTup K aM [Str.ofString "table", Str.ofString "function"]) :
    FnOk P w K mg base CX0 1 f fd ["value"] (spP K isMade) := by
  refine F.ok sc_is_made_kind spP_len (fun cdv A outer s H vs Q E hr h => ?_)
  obtain ⟨v, rfl, hv, q⟩ := h
  refine ⟨_, PSs.nox (pss_one (ps_ret (pe_cmpR (op_odIn (hu_of hr)) (pv 0) (pe_glob (v := .ref aM) (by rfl) mM rfl) (by rfl)))), ?_⟩
  refine ⟨_, rfl, aM, _, rfl, .inr hM.sq, hv.1, ?_⟩
  have e : inT v [Str.ofString "table", Str.ofString "function"] = isMade v := by
    show (isT _ v || (isT _ v || false)) = _
    rw [Bool.or_false]
    rfl
  show Q (.bl (inT v _)) H
  rw [e]
  exact q
theorem ok_is_flag (F : Fun K "is_flag" "is_flag" s_is_flag f fd) : FnOk P w K mg base CX0 1 f fd ["value"] (spP K isFlag) := by
  refine F.ok sc_is_flag spP_len (fun cdv A outer s H vs Q E hr h => ?_)
  obtain ⟨v, rfl, hv, q⟩ := h
  refine ⟨_, PSs.nox (pss_one (ps_ret (pe_or (pe_cmpR op_isB (pv 0) pe_bl (by rfl)) (pe_one (pe_cmpR op_isB (pv 0) pe_bl (by rfl)))))), ?_⟩
  refine ⟨_, rfl, _, rfl, hv.1, _, rfl, ?_⟩
  by_cases h1 : v = .bl true
  · rw [decide_eq_true h1]
    rw [h1] at q
    exact iteT q
  · rw [decide_eq_false h1]
    refine iteF ⟨_, rfl, _, rfl, hv.1, ?_⟩
    have e : isFlag v = decide (v = .bl false) := by
      cases v with
      | bl b =>
        cases b with
        | true => exact absurd rfl h1
        | false => rfl
      | _ => exact (decide_eq_false (fun e => nomatch e)).symm
    rw [e] at q
    exact q
end
end K06
set_option maxHeartbeats 4000000
namespace K06
open PySem PySem.Spec PyProof.Rows L2 RL RE RN RM TL RQ
/-! ### a def that is there, in short -/
def Df (P : Program) (w : World) (K : PySem.W.Frag) (mg : Str → Option Value) (base : Heap) (CX : CXT) (k : Nat) (x : Str) (ps : List Str) (sp : Sp) : Prop :=
  ∃ (f : Addr) (fd : FuncData), FnOk P w K mg base CX k f fd ps sp ∧ Binds K fd ps [] ∧ PySem.W.keepIn K (.ref f) = true ∧ mg x = some (.ref f)
section
variable {X : Cx} {k : Nat} {x : Str} {ps : List Str} {sp : Sp} {t : TA} {e : Expr} {es : List Expr} {p pos : Pos}
theorem pe_df0 (D : Df X.prog X.w X.K X.mg X.base CX0 k x ps sp) (hr : Room k X.A) (hg : Gl X x) (ha : PA X (e :: es) t) (hdb : (x == ("__debug__" : Str)) = false := by decide)
    (he : starEach (e :: es) X.env = (false, eval e X.env) :: starEach es X.env := by rfl) (hpl : (backTo pos (starEach es X.env)).any (·.1) = false := by rfl) : PE X (.Call (.Name x p) (e :: es) [] pos) (tCall sp [] (fun _ _ _ => False) t) := by
  obtain ⟨f, fd, F, b, kp, g⟩ := D
  exact pe_call F hr hg g kp b .nil pass0 ha hdb he hpl
end
/-! ### the checks, where nothing is due -/
section
variable {P : Program} {w : World} {K : PySem.W.Frag} {mg : Str → Option Value} {base : Heap} {f : Addr} {fd : FuncData}
def spG (K : PySem.W.Frag) (p : V → Bool) : Sp := fun vs H Q _ => ∃ v, vs = [v] ∧ Od K H v ∧ p v = true ∧ Q .non H
theorem spG_len {p : V → Bool} : ∀ vs H Q E, spG K p vs H Q E → vs.length = 1 := fun vs H Q E h => by
  obtain ⟨v, rfl, _⟩ := h
  rfl
theorem ok_check_name (F : Fun K "check_name" "check_name" s_check_name f fd) (N : Df P w K mg base CX0 1 "is_name" ["value"] (spP K isName)) : FnOk P w K mg base CX0 2 f fd ["value"] (spG K isName) := by
  refine F.ok sc_check_name spG_len (fun cdv A outer s H vs Q E hr h => ?_)
  obtain ⟨v, rfl, hv, hp, q⟩ := h
  refine ⟨_, PSs.nox (pss_one (ps_if (pt_not (pt_val (pe_df0 N hr (by rfl) (pa_cons (pv 0) pa_nil)))) (pss_one ps_never) pss_nil)), ?_⟩
  refine ⟨_, rfl, v, rfl, hv, _, rfl, ?_⟩
  rw [hp]
  exact iteF q
theorem ok_check_taker (F : Fun K "check_taker" "check_taker" s_check_taker f fd) (N : Df P w K mg base CX0 2 "is_taker" ["value"] (spP K isTaker)) : FnOk P w K mg base CX0 3 f fd ["value"] (spG K isTaker) := by
  refine F.ok sc_check_taker spG_len (fun cdv A outer s H vs Q E hr h => ?_)
  obtain ⟨v, rfl, hv, hp, q⟩ := h
  refine ⟨_, PSs.nox (pss_one (ps_if (pt_not (pt_val (pe_df0 N hr (by rfl) (pa_cons (pv 0) pa_nil)))) (pss_one ps_never) pss_nil)), ?_⟩
  refine ⟨_, rfl, v, rfl, hv, _, rfl, ?_⟩
  rw [hp]
  exact iteF q
theorem ok_check_right (F : Fun K "check_right" "check_right" s_check_right f fd) (N : Df P w K mg base CX0 1 "is_right" ["value"] (spP K isRight)) : FnOk P w K mg base CX0 2 f fd ["value"] (spG K isRight) := by
  refine F.ok sc_check_right spG_len (fun cdv A outer s H vs Q E hr h => ?_)
  obtain ⟨v, rfl, hv, hp, q⟩ := h
  refine ⟨_, PSs.nox (pss_one (ps_if (pt_not (pt_val (pe_df0 N hr (by rfl) (pa_cons (pv 0) pa_nil)))) (pss_one ps_never) pss_nil)), ?_⟩
  refine ⟨_, rfl, v, rfl, hv, _, rfl, ?_⟩
  rw [hp]
  exact iteF q
/-- check_option: a flag, False beside public -/
def spGO (K : PySem.W.Frag) : Sp := fun vs H Q _ => ∃ (b : Bool) (t : V), vs = [.bl b, t] ∧ Od K H t ∧ (b = true → isT tPub t = false) ∧ Q .non H
theorem ok_check_option (F : Fun K "check_option" "check_option" s_check_option f fd) (N : Df P w K mg base CX0 1 "is_flag" ["value"] (spP K isFlag)) : FnOk P w K mg base CX0 2 f fd ["value", "taker"] (spGO K) := by
  refine F.ok sc_check_option (fun vs H Q E h => by obtain ⟨b, t, rfl, _⟩ := h; rfl) (fun cdv A outer s H vs Q E hr h => ?_)
  obtain ⟨b, t, rfl, ht, hp, q⟩ := h
  refine ⟨_, PSs.nox (pss_one (ps_if (PW.pt (pw_or (pt_not (pt_val (pe_df0 N hr (by rfl) (pa_cons (pv 0) pa_nil)))) (pw_or1 (PW.pt (pw_and (pt_val (pv 0)) (pw_and1 (pt_cmpR (op_odEq (Nat.lt_of_succ_lt (hu_of hr))) (pv 1) pe_str (nomark _)))))))) (pss_one ps_never) pss_nil)), ?_⟩
  refine ⟨_, rfl, .bl b, rfl, ⟨.flat rfl, fun z e => nomatch e⟩, _, rfl, ?_⟩
  refine iteF ⟨_, rfl, _, rfl, ?_⟩
  cases b with
  | false => exact iteF (iteF q)
  | true =>
    refine iteT ⟨_, rfl, _, rfl, ht.1, _, rfl, ?_⟩
    rw [hp rfl]
    exact iteF q
theorem ok_check_flag (F : Fun K "check_flag" "check_flag" s_check_flag f fd) (N : Df P w K mg base CX0 1 "is_flag" ["value"] (spP K isFlag)) : FnOk P w K mg base CX0 2 f fd ["value"] (spG K isFlag) := by
  refine F.ok sc_check_flag spG_len (fun cdv A outer s H vs Q E hr h => ?_)
  obtain ⟨v, rfl, hv, hp, q⟩ := h
  refine ⟨_, PSs.nox (pss_one (ps_if (pt_not (pt_val (pe_df0 N hr (by rfl) (pa_cons (pv 0) pa_nil)))) (pss_one ps_never) pss_nil)), ?_⟩
  refine ⟨_, rfl, v, rfl, hv, _, rfl, ?_⟩
  rw [hp]
  exact iteF q
theorem ok_check_made (F : Fun K "check_made_kind" "check_made_kind" s_check_made_kind f fd) (N : Df P w K mg base CX0 1 "is_made_kind" ["value"] (spP K isMade)) : FnOk P w K mg base CX0 2 f fd ["value"] (spG K isMade) := by
  refine F.ok sc_check_made_kind spG_len (fun cdv A outer s H vs Q E hr h => ?_)
  obtain ⟨v, rfl, hv, hp, q⟩ := h
  refine ⟨_, PSs.nox (pss_one (ps_if (pt_not (pt_val (pe_df0 N hr (by rfl) (pa_cons (pv 0) pa_nil)))) (pss_one ps_never) pss_nil)), ?_⟩
  refine ⟨_, rfl, v, rfl, hv, _, rfl, ?_⟩
  rw [hp]
  exact iteF q
/-- the kind of a right -/
def spKind (K : PySem.W.Frag) : Sp := fun vs H Q _ => ∃ (z k : Str), vs = [.str z] ∧ Od K H (.str z) ∧ kindT z = some k ∧ Q (.str k) H
theorem ok_kind_of {d : Addr} (F : Fun K "kind_of" "kind_of" s_kind_of f fd) (N : Df P w K mg base CX0 1 "is_right" ["value"] (spP K isRight)) (mD : mg "KIND_BY_RIGHT" = some (.ref d)) (hD : KRight K w d) :
    FnOk P w K mg base CX0 2 f fd ["right"] (spKind K) := by
  obtain ⟨es, n, kd⟩ := hD.dict
  refine F.ok sc_kind_of (fun vs H Q E h => by obtain ⟨z, k, rfl, _⟩ := h; rfl) (fun cdv A outer s H vs Q E hr h => ?_)
  obtain ⟨z, k, rfl, hv, hk, q⟩ := h
  refine ⟨_, PSs.nox (pss_cons (ps_if (pt_not (pt_val (pe_df0 N hr (by rfl) (pa_cons (pv 0) pa_nil)))) (pss_one ps_never) pss_nil)
    (pss_one (ps_ret (pe_ix ix_kdict (pe_glob (v := .ref d) (by rfl) mD rfl) (pv 0) (fun _ _ => rfl))))), ?_⟩
  refine ⟨_, rfl, _, rfl, hv, _, rfl, ?_⟩
  have e : isRight (.str z) = true := by
    show (kindT z).isSome = true
    rw [hk]; rfl
  rw [e]
  refine iteF ?_
  obtain ⟨r, h1, h2, h3⟩ := hD.get z
  obtain ⟨t, rfl⟩ := h3 k hk
  exact ⟨_, rfl, d, z, .str k, rfl, rfl, ⟨es, n, _, kd.at_, kd.lit, h1, ⟨_, rfl⟩⟩, q⟩
def spOn (K : PySem.W.Frag) : Sp := fun vs H Q _ => ∃ (z k : Str), vs = [.str k, .str z] ∧ Od K H (.str z) ∧ kindT z = some k ∧ Q .non H
theorem ok_check_right_on (F : Fun K "check_right_on" "check_right_on" s_check_right_on f fd) (N : Df P w K mg base CX0 2 "kind_of" ["right"] (spKind K)) : FnOk P w K mg base CX0 3 f fd ["kind", "value"] (spOn K) := by
  refine F.ok sc_check_right_on (fun vs H Q E h => by obtain ⟨z, k, rfl, _⟩ := h; rfl) (fun cdv A outer s H vs Q E hr h => ?_)
  obtain ⟨z, k, rfl, hv, hk, q⟩ := h
  refine ⟨_, PSs.nox (pss_one (ps_if (pt_cmpR op_ne (pe_df0 N hr (by rfl) (pa_cons (pv 1) pa_nil)) (pv 0) (nomark _)) (pss_one ps_never) pss_nil)), ?_⟩
  refine ⟨_, rfl, z, k, rfl, hv, hk, _, rfl, rfl, _, rfl, ?_⟩
  rw [decide_eq_true rfl]
  exact iteF q
/-- a taker that is not the giver -/
def spFrom (K : PySem.W.Frag) : Sp := fun vs H Q _ => ∃ (g z : Str), vs = [.str g, .str z] ∧ Od K H (.str z) ∧ isTaker (.str z) = true ∧ z ≠ g ∧ Q .non H
theorem ok_check_from (F : Fun K "check_taker_from" "check_taker_from" s_check_taker_from f fd) (N : Df P w K mg base CX0 2 "is_taker" ["value"] (spP K isTaker)) : FnOk P w K mg base CX0 3 f fd ["giver", "value"] (spFrom K) := by
  refine F.ok sc_check_taker_from (fun vs H Q E h => by obtain ⟨z, k, rfl, _⟩ := h; rfl) (fun cdv A outer s H vs Q E hr h => ?_)
  obtain ⟨g, z, rfl, hv, hk, ne, q⟩ := h
  refine ⟨_, PSs.nox (pss_one (ps_if (PW.pt (pw_or (pt_not (pt_val (pe_df0 N hr (by rfl) (pa_cons (pv 1) pa_nil)))) (pw_or1 (pt_cmpR op_eq (pv 1) (pv 0) (nomark _))))) (pss_one ps_never) pss_nil)), ?_⟩
  refine ⟨_, rfl, _, rfl, hv, _, rfl, ?_⟩
  rw [hk]
  refine iteF ⟨_, rfl, _, rfl, rfl, _, rfl, ?_⟩
  rw [decide_eq_false (fun e => ne (V.str.inj e))]
  exact iteF q
end
end K06
set_option maxHeartbeats 4000000
namespace K06
open PySem PySem.Spec PyProof.Rows L2 RL RE RN RM TL RQ
/-! ### the deeds -/
inductive Cl | give | take | call | preset | use
  deriving DecidableEq
inductive Dm
  | give (w t k : Str) (o : Bool)
  | take (w t k : Str) (g : Option Str) (p c : Bool)
  | call (n : Str)
  | preset (s w k : Str) (o : Bool)
  | use (w t : Str)
  deriving DecidableEq
def txt (z : Str) : Prop := z.length ≤ 1000 ∧ ∀ x ∈ tl z, x < 256
theorem txt.od {K : PySem.W.Frag} {H : Hp} {z : Str} (h : txt z) : Od K H (.str z) := ⟨.flat rfl, fun y e => by cases e; exact h⟩
abbrev tTab : Str := Str.ofString "table"
abbrev tFun : Str := Str.ofString "function"
def okD : Dm → Prop
  | .give w t k o => txt w ∧ txt t ∧ txt k ∧ (kindT w).isSome = true ∧ nameT t = true ∧ (isT tCal (.str k) = true ∨ isTaker (.str k) = true) ∧ (o = true → isT tPub (.str k) = false)
  | .take w t k g p c => txt w ∧ txt t ∧ txt k ∧ (kindT w).isSome = true ∧ nameT t = true ∧ isTaker (.str k) = true ∧ ∀ y, g = some y → txt y ∧ nameT y = true
  | .call n => txt n ∧ nameT n = true
  | .preset s w k o => txt s ∧ txt w ∧ txt k ∧ (s = tTab ∨ s = tFun) ∧ kindT w = some s ∧ isTaker (.str k) = true ∧ (o = true → isT tPub (.str k) = false)
  | .use w t => txt w ∧ txt t ∧ (kindT w).isSome = true ∧ nameT t = true
def gV : Option Str → V
  | none => .non
  | some y => .str y
def fieldsD : Dm → List (Str × V)
  | .give w t k o => [("right", .str w), ("thing", .str t), ("taker", .str k), ("option", .bl o)]
  | .take w t k g p c => [("right", .str w), ("thing", .str t), ("taker", .str k), ("giver", gV g), ("only_option", .bl p), ("cascade", .bl c)]
  | .call n => [("function", .str n)]
  | .preset s w k o => [("kind", .str s), ("right", .str w), ("taker", .str k), ("option", .bl o)]
  | .use w t => [("right", .str w), ("thing", .str t)]
def argsD (d : Dm) : List V := (fieldsD d).map (·.2)
def clD : Dm → Cl
  | .give .. => .give
  | .take .. => .take
  | .call .. => .call
  | .preset .. => .preset
  | .use .. => .use
abbrev Cs := Cl → Addr
def DeedAt (c : Cs) (H : Hp) (a : Addr) (d : Dm) : Prop := ∃ dx, H a = some (.ins (c (clD d)) dx (fieldsD d))
section
variable {P : Program} {w : World} {K : PySem.W.Frag} {mg : Str → Option Value} {base : Heap} {f : Addr} {fd : FuncData}
/-- the checks -/
structure Chk (P : Program) (w : World) (K : PySem.W.Frag) (mg : Str → Option Value) (base : Heap) : Prop where
  R : Df P w K mg base CX0 2 "check_right" ["value"] (spG K isRight)
  N : Df P w K mg base CX0 2 "check_name" ["value"] (spG K isName)
  T : Df P w K mg base CX0 3 "check_taker" ["value"] (spG K isTaker)
  O : Df P w K mg base CX0 2 "check_option" ["value", "taker"] (spGO K)
  F : Df P w K mg base CX0 2 "check_flag" ["value"] (spG K isFlag)
  M : Df P w K mg base CX0 2 "check_made_kind" ["value"] (spG K isMade)
  On : Df P w K mg base CX0 3 "check_right_on" ["kind", "value"] (spOn K)
  Fr : Df P w K mg base CX0 3 "check_taker_from" ["giver", "value"] (spFrom K)
def spInit (K : PySem.W.Frag) (C : Addr) (cl : Cl) : Sp := fun vs H Q _ => ∃ (a dx : Addr) (m : Dm), vs = .ref a :: argsD m ∧ clD m = cl ∧ okD m ∧ H a = some (.ins C dx []) ∧ Q .non (upd H a (.ins C dx (fieldsD m)))
theorem ok_CallI {C : Addr} (F : Fun K "__init__" "Call.__init__" s_Call_init f fd) (G : Chk P w K mg base) (c : Cls K C) (n1 : NoAttr K C "function") :
    FnOk P w K mg base CX0 4 f fd ["self", "function"] (spInit K C .call) := by
  refine F.ok sc_Call_init (fun vs H Q E h => by obtain ⟨a, dx, m, rfl, e, _⟩ := h; cases m <;> cases e; rfl) (fun cdv A outer s H vs Q E hr h => ?_)
  obtain ⟨a, dx, m, rfl, e, ok, ea, q⟩ := h
  cases m <;> cases e
  refine ⟨_, PSs.nox (pss_cons (ps_expr (pe_df0 G.N (hr.mono (by decide)) (by rfl) (pa_cons (pv 1) pa_nil))) (pss_one (ps_fld (pv 0) (pv 1) rfl))), ?_⟩
  refine ⟨_, rfl, _, rfl, ok.1.od, ok.2, ?_⟩
  exact ⟨_, rfl, _, rfl, a, C, dx, _, rfl, ea, c, n1, by decide, q⟩
theorem ok_UseI {C : Addr} (F : Fun K "__init__" "Use.__init__" s_Use_init f fd) (G : Chk P w K mg base) (c : Cls K C) (n1 : NoAttr K C "right") (n2 : NoAttr K C "thing") :
    FnOk P w K mg base CX0 4 f fd ["self", "right", "thing"] (spInit K C .use) := by
  refine F.ok sc_Use_init (fun vs H Q E h => by obtain ⟨a, dx, m, rfl, e, _⟩ := h; cases m <;> cases e; rfl) (fun cdv A outer s H vs Q E hr h => ?_)
  obtain ⟨a, dx, m, rfl, e, ok, ea, q⟩ := h
  cases m <;> cases e
  rename_i wd t
  obtain ⟨tw, tt, h1, h2⟩ := ok
  refine ⟨_, PSs.nox (pss_cons (ps_expr (pe_df0 G.R (hr.mono (by decide)) (by rfl) (pa_cons (pv 1) pa_nil)))
    (pss_cons (ps_expr (pe_df0 G.N (hr.mono (by decide)) (by rfl) (pa_cons (pv 2) pa_nil))) (pss_cons (ps_fld (pv 0) (pv 1) rfl) (pss_one (ps_fld (pv 0) (pv 2) rfl))))), ?_⟩
  refine ⟨_, rfl, _, rfl, tw.od, h1, ?_⟩
  refine ⟨_, rfl, _, rfl, tt.od, h2, ?_⟩
  refine ⟨_, rfl, _, rfl, a, C, dx, _, rfl, ea, c, n1, by decide, ?_⟩
  refine ⟨_, rfl, _, rfl, a, C, dx, _, rfl, upd_same, c, n2, by show 1 < 1000; decide, ?_⟩
  have up : ∀ {u : HO}, upd (upd H a u) a (.ins C dx (fieldsD (.use wd t))) = upd H a (.ins C dx (fieldsD (.use wd t))) := by
    intro u
    rw [upd_upd]
  rw [← up] at q
  exact q
theorem ok_GiveI {C : Addr} {dvs : List V} {kws : List (Str × V)} (F : FunD K "__init__" "Give.__init__" (defArgs s_Give_init) (defBody s_Give_init) (defScope s_Give_init) dvs kws f fd) (G : Chk P w K mg base)
    (c : Cls K C) (n1 : NoAttr K C "right") (n2 : NoAttr K C "thing") (n3 : NoAttr K C "taker") (n4 : NoAttr K C "option") :
    FnOk P w K mg base CX0 4 f fd ["self", "right", "thing", "taker", "option"] (spInit K C .give) := by
  refine F.ok sc_Give_init (fun vs H Q E h => by obtain ⟨a, dx, m, rfl, e, _⟩ := h; cases m <;> cases e; rfl) (fun cdv A outer s H vs Q E hr h => ?_)
  obtain ⟨a, dx, m, rfl, e, ok, ea, q⟩ := h
  cases m <;> cases e
  rename_i wd t k o
  obtain ⟨tw, tt, tk, h1, h2, h3, h4⟩ := ok
  refine ⟨_, PSs.nox (pss_cons (ps_expr (pe_df0 G.R (hr.mono (by decide)) (by rfl) (pa_cons (pv 1) pa_nil)))
    (pss_cons (ps_expr (pe_df0 G.N (hr.mono (by decide)) (by rfl) (pa_cons (pv 2) pa_nil)))
    (pss_cons (ps_if (pt_cmpR (op_odNe (Nat.lt_of_succ_lt (hu_of hr))) (pv 3) pe_str (nomark _)) (pss_one (ps_expr (pe_df0 G.T hr (by rfl) (pa_cons (pv 3) pa_nil)))) pss_nil)
    (pss_cons (ps_expr (pe_df0 G.O (hr.mono (by decide)) (by rfl) (pa_cons (pv 4) (pa_cons (pv 3) pa_nil))))
    (pss_cons (ps_fld (pv 0) (pv 1) rfl) (pss_cons (ps_fld (pv 0) (pv 2) rfl) (pss_cons (ps_fld (pv 0) (pv 3) rfl) (pss_one (ps_fld (pv 0) (pv 4) rfl))))))))), ?_⟩
  refine ⟨_, rfl, _, rfl, tw.od, h1, ?_⟩
  refine ⟨_, rfl, _, rfl, tt.od, h2, ?_⟩
  refine ⟨_, rfl, _, rfl, tk.od.1, _, rfl, ?_⟩
  have up : ∀ {u v x : HO}, upd (upd (upd (upd H a u) a v) a x) a (.ins C dx (fieldsD (.give wd t k o))) = upd H a (.ins C dx (fieldsD (.give wd t k o))) := by
    intro u v x
    rw [upd_upd, upd_upd, upd_upd]
  cases hc : isT tCal (.str k) with
  | true =>
    refine iteF ?_
    refine ⟨_, rfl, _, rfl, o, _, rfl, tk.od, h4, ?_⟩
    refine ⟨_, rfl, _, rfl, a, C, dx, _, rfl, ea, c, n1, by decide, ?_⟩
    refine ⟨_, rfl, _, rfl, a, C, dx, _, rfl, upd_same, c, n2, by show 1 < 1000; decide, ?_⟩
    refine ⟨_, rfl, _, rfl, a, C, dx, _, rfl, upd_same, c, n3, by show 2 < 1000; decide, ?_⟩
    refine ⟨_, rfl, _, rfl, a, C, dx, _, rfl, upd_same, c, n4, by show 3 < 1000; decide, ?_⟩
    rw [← up] at q
    exact q
  | false =>
    have ht : isTaker (.str k) = true := h3.resolve_left (by rw [hc]; exact Bool.false_ne_true)
    refine iteT ⟨_, rfl, _, rfl, tk.od, ht, ?_⟩
    refine ⟨_, rfl, _, rfl, o, _, rfl, tk.od, h4, ?_⟩
    refine ⟨_, rfl, _, rfl, a, C, dx, _, rfl, ea, c, n1, by decide, ?_⟩
    refine ⟨_, rfl, _, rfl, a, C, dx, _, rfl, upd_same, c, n2, by show 1 < 1000; decide, ?_⟩
    refine ⟨_, rfl, _, rfl, a, C, dx, _, rfl, upd_same, c, n3, by show 2 < 1000; decide, ?_⟩
    refine ⟨_, rfl, _, rfl, a, C, dx, _, rfl, upd_same, c, n4, by show 3 < 1000; decide, ?_⟩
    rw [← up] at q
    exact q
theorem ok_PresetI {C : Addr} {dvs : List V} {kws : List (Str × V)} (F : FunD K "__init__" "Preset.__init__" (defArgs s_Preset_init) (defBody s_Preset_init) (defScope s_Preset_init) dvs kws f fd) (G : Chk P w K mg base)
    (c : Cls K C) (n1 : NoAttr K C "kind") (n2 : NoAttr K C "right") (n3 : NoAttr K C "taker") (n4 : NoAttr K C "option") :
    FnOk P w K mg base CX0 4 f fd ["self", "kind", "right", "taker", "option"] (spInit K C .preset) := by
  refine F.ok sc_Preset_init (fun vs H Q E h => by obtain ⟨a, dx, m, rfl, e, _⟩ := h; cases m <;> cases e; rfl) (fun cdv A outer s H vs Q E hr h => ?_)
  obtain ⟨a, dx, m, rfl, e, ok, ea, q⟩ := h
  cases m <;> cases e
  rename_i sd wd k o
  obtain ⟨ts, tw, tk, h1, h2, h3, h4⟩ := ok
  have hm : isMade (.str sd) = true := by
    rcases h1 with e | e <;> rw [e] <;> decide +kernel
  refine ⟨_, PSs.nox (pss_cons (ps_expr (pe_df0 G.M (hr.mono (by decide)) (by rfl) (pa_cons (pv 1) pa_nil)))
    (pss_cons (ps_expr (pe_df0 G.On hr (by rfl) (pa_cons (pv 1) (pa_cons (pv 2) pa_nil))))
    (pss_cons (ps_expr (pe_df0 G.T hr (by rfl) (pa_cons (pv 3) pa_nil)))
    (pss_cons (ps_expr (pe_df0 G.O (hr.mono (by decide)) (by rfl) (pa_cons (pv 4) (pa_cons (pv 3) pa_nil))))
    (pss_cons (ps_fld (pv 0) (pv 1) rfl) (pss_cons (ps_fld (pv 0) (pv 2) rfl) (pss_cons (ps_fld (pv 0) (pv 3) rfl) (pss_one (ps_fld (pv 0) (pv 4) rfl))))))))), ?_⟩
  refine ⟨_, rfl, _, rfl, ts.od, hm, ?_⟩
  refine ⟨_, rfl, _, rfl, wd, sd, rfl, tw.od, h2, ?_⟩
  refine ⟨_, rfl, _, rfl, tk.od, h3, ?_⟩
  refine ⟨_, rfl, _, rfl, o, _, rfl, tk.od, h4, ?_⟩
  refine ⟨_, rfl, _, rfl, a, C, dx, _, rfl, ea, c, n1, by decide, ?_⟩
  refine ⟨_, rfl, _, rfl, a, C, dx, _, rfl, upd_same, c, n2, by show 1 < 1000; decide, ?_⟩
  refine ⟨_, rfl, _, rfl, a, C, dx, _, rfl, upd_same, c, n3, by show 2 < 1000; decide, ?_⟩
  refine ⟨_, rfl, _, rfl, a, C, dx, _, rfl, upd_same, c, n4, by show 3 < 1000; decide, ?_⟩
  have up : ∀ {u v x : HO}, upd (upd (upd (upd H a u) a v) a x) a (.ins C dx (fieldsD (.preset sd wd k o))) = upd H a (.ins C dx (fieldsD (.preset sd wd k o))) := by
    intro u v x
    rw [upd_upd, upd_upd, upd_upd]
  rw [← up] at q
  exact q
theorem ok_TakeI {C : Addr} {dvs : List V} {kws : List (Str × V)} (F : FunD K "__init__" "Take.__init__" (defArgs s_Take_init) (defBody s_Take_init) (defScope s_Take_init) dvs kws f fd) (G : Chk P w K mg base)
    (c : Cls K C) (n1 : NoAttr K C "right") (n2 : NoAttr K C "thing") (n3 : NoAttr K C "taker") (n4 : NoAttr K C "giver") (n5 : NoAttr K C "only_option") (n6 : NoAttr K C "cascade") :
    FnOk P w K mg base CX0 4 f fd ["self", "right", "thing", "taker", "giver", "only_option", "cascade"] (spInit K C .take) := by
  refine F.ok sc_Take_init (fun vs H Q E h => by obtain ⟨a, dx, m, rfl, e, _⟩ := h; cases m <;> cases e; rfl) (fun cdv A outer s H vs Q E hr h => ?_)
  obtain ⟨a, dx, m, rfl, e, ok, ea, q⟩ := h
  cases m <;> cases e
  rename_i wd t k g p cc
  obtain ⟨tw, tt, tk, h1, h2, h3, h4⟩ := ok
  refine ⟨_, PSs.nox (pss_cons (ps_expr (pe_df0 G.R (hr.mono (by decide)) (by rfl) (pa_cons (pv 1) pa_nil)))
    (pss_cons (ps_expr (pe_df0 G.N (hr.mono (by decide)) (by rfl) (pa_cons (pv 2) pa_nil)))
    (pss_cons (ps_expr (pe_df0 G.T hr (by rfl) (pa_cons (pv 3) pa_nil)))
    (pss_cons (ps_if (pt_cmpR op_notN (pv 4) pe_non (by rfl)) (pss_one (ps_expr (pe_df0 G.N (hr.mono (by decide)) (by rfl) (pa_cons (pv 4) pa_nil)))) pss_nil)
    (pss_cons (ps_expr (pe_df0 G.F (hr.mono (by decide)) (by rfl) (pa_cons (pv 5) pa_nil)))
    (pss_cons (ps_expr (pe_df0 G.F (hr.mono (by decide)) (by rfl) (pa_cons (pv 6) pa_nil)))
    (pss_cons (ps_fld (pv 0) (pv 1) rfl) (pss_cons (ps_fld (pv 0) (pv 2) rfl) (pss_cons (ps_fld (pv 0) (pv 3) rfl) (pss_cons (ps_fld (pv 0) (pv 4) rfl) (pss_cons (ps_fld (pv 0) (pv 5) rfl) (pss_one (ps_fld (pv 0) (pv 6) rfl))))))))))))), ?_⟩
  refine ⟨_, rfl, _, rfl, tw.od, h1, ?_⟩
  refine ⟨_, rfl, _, rfl, tt.od, h2, ?_⟩
  refine ⟨_, rfl, _, rfl, tk.od, h3, ?_⟩
  have up : ∀ {u v x y z : HO}, upd (upd (upd (upd (upd (upd H a u) a v) a x) a y) a z) a (.ins C dx (fieldsD (.take wd t k g p cc))) = upd H a (.ins C dx (fieldsD (.take wd t k g p cc))) := by
    intro u v x y z
    rw [upd_upd, upd_upd, upd_upd, upd_upd, upd_upd]
  cases g with
  | none =>
    refine ⟨_, rfl, rfl, _, rfl, ?_⟩
    refine iteF ?_
    refine ⟨_, rfl, _, rfl, ⟨.flat rfl, fun z e => nomatch e⟩, rfl, ?_⟩
    refine ⟨_, rfl, _, rfl, ⟨.flat rfl, fun z e => nomatch e⟩, rfl, ?_⟩
    refine ⟨_, rfl, _, rfl, a, C, dx, _, rfl, ea, c, n1, by decide, ?_⟩
    refine ⟨_, rfl, _, rfl, a, C, dx, _, rfl, upd_same, c, n2, by show 1 < 1000; decide, ?_⟩
    refine ⟨_, rfl, _, rfl, a, C, dx, _, rfl, upd_same, c, n3, by show 2 < 1000; decide, ?_⟩
    refine ⟨_, rfl, _, rfl, a, C, dx, _, rfl, upd_same, c, n4, by show 3 < 1000; decide, ?_⟩
    refine ⟨_, rfl, _, rfl, a, C, dx, _, rfl, upd_same, c, n5, by show 4 < 1000; decide, ?_⟩
    refine ⟨_, rfl, _, rfl, a, C, dx, _, rfl, upd_same, c, n6, by show 5 < 1000; decide, ?_⟩
    rw [← up] at q
    exact q
  | some y =>
    obtain ⟨ty, ny⟩ := h4 y rfl
    refine ⟨_, rfl, rfl, _, rfl, ?_⟩
    refine iteT ⟨_, rfl, _, rfl, ty.od, ny, ?_⟩
    refine ⟨_, rfl, _, rfl, ⟨.flat rfl, fun z e => nomatch e⟩, rfl, ?_⟩
    refine ⟨_, rfl, _, rfl, ⟨.flat rfl, fun z e => nomatch e⟩, rfl, ?_⟩
    refine ⟨_, rfl, _, rfl, a, C, dx, _, rfl, ea, c, n1, by decide, ?_⟩
    refine ⟨_, rfl, _, rfl, a, C, dx, _, rfl, upd_same, c, n2, by show 1 < 1000; decide, ?_⟩
    refine ⟨_, rfl, _, rfl, a, C, dx, _, rfl, upd_same, c, n3, by show 2 < 1000; decide, ?_⟩
    refine ⟨_, rfl, _, rfl, a, C, dx, _, rfl, upd_same, c, n4, by show 3 < 1000; decide, ?_⟩
    refine ⟨_, rfl, _, rfl, a, C, dx, _, rfl, upd_same, c, n5, by show 4 < 1000; decide, ?_⟩
    refine ⟨_, rfl, _, rfl, a, C, dx, _, rfl, upd_same, c, n6, by show 5 < 1000; decide, ?_⟩
    rw [← up] at q
    exact q
end
end K06
set_option maxHeartbeats 4000000
namespace K06
open PySem PySem.Spec PyProof.Rows L2 RL RE RN RM TL RQ
structure TyC (K : PySem.W.Frag) (C : Addr) : Prop where
  cl : Cls K C
  ha : PySem.W.findIn K (.ref C) "__class__" = some (some (.builtin "object.__class__"))
  hn : PySem.W.specialIn K (.builtin "object.__class__") "__get__" = some (some (.builtin "getset_descriptor.__get__"))
  ht : PySem.W.takesIn K (.builtin "object.__class__") = some true
  hm : PySem.W.mroIn K C (.type "object") = some true
theorem TyC.ty {K : PySem.W.Frag} {C : Addr} (t : TyC K C) {H : Hp} {a dx : Addr} {fs : List (Str × V)} (e : H a = some (.ins C dx fs)) : TyX K H (.ref a) (.ref C) := .base (.ins e t.cl t.ha t.hn t.ht t.hm)
/-- the classes of deeds -/
structure DC (K : PySem.W.Frag) (mg : Str → Option Value) (c : Cs) : Prop where
  t : ∀ x, TyC K (c x)
  kk : ∀ x y, PySem.W.kitOne K (.ref (c x)) (.ref (c y)) = some (decide (x = y))
  gGive : mg "Give" = some (.ref (c .give))
  nGive0 : NoAttr K (c .give) "right"
  nGive1 : NoAttr K (c .give) "thing"
  nGive2 : NoAttr K (c .give) "taker"
  nGive3 : NoAttr K (c .give) "option"
  gTake : mg "Take" = some (.ref (c .take))
  nTake0 : NoAttr K (c .take) "right"
  nTake1 : NoAttr K (c .take) "thing"
  nTake2 : NoAttr K (c .take) "taker"
  nTake3 : NoAttr K (c .take) "giver"
  nTake4 : NoAttr K (c .take) "only_option"
  nTake5 : NoAttr K (c .take) "cascade"
  gCall : mg "Call" = some (.ref (c .call))
  nCall0 : NoAttr K (c .call) "function"
  gPreset : mg "Preset" = some (.ref (c .preset))
  nPreset0 : NoAttr K (c .preset) "kind"
  nPreset1 : NoAttr K (c .preset) "right"
  nPreset2 : NoAttr K (c .preset) "taker"
  nPreset3 : NoAttr K (c .preset) "option"
  gUse : mg "Use" = some (.ref (c .use))
  nUse0 : NoAttr K (c .use) "right"
  nUse1 : NoAttr K (c .use) "thing"
theorem gV_inj {g g' : Option Str} (h : gV g = gV g') : g = g' := by
  cases g <;> cases g' <;> cases h <;> rfl
theorem gV_scal (g g' : Option Str) : scal (gV g) (gV g') = true := by
  cases g <;> cases g' <;> rfl
/-- how a deed of the class x compares: with another deed, or with a value of another class -/
def RD (K : PySem.W.Frag) (c : Cs) (x : Cl) : Addr → V → Hp → Bool → Prop := fun a y H k => ∃ d, clD d = x ∧ DeedAt c H a d ∧ ((∃ (d' : Dm) (b : Addr), y = .ref b ∧ DeedAt c H b d' ∧ k = decide (d = d')) ∨ (∃ t, TyX K H y t ∧ PySem.W.kitOne K t (.ref (c x)) = some false ∧ k = false))
section
variable {P : Program} {w : World} {K : PySem.W.Frag} {mg : Str → Option Value} {base : Heap} {f : Addr} {fd : FuncData}
theorem spEqB_len {R : Addr → V → Hp → Bool → Prop} : ∀ vs H Q E, spEqB R vs H Q E → vs.length = 2 := fun vs H Q E h => by
  obtain ⟨a, y, k, rfl, _⟩ := h
  rfl
theorem ok_GiveE {c : Cs} (F : Fun K "__eq__" "Give.__eq__" s_Give_eq f fd) (G : DC K mg c) (mi : mg "isinstance" = none) : FnOk P w K mg base CX0 1 f fd ["self", "other"] (spEqB (RD K c .give)) := by
  refine F.ok sc_Give_eq spEqB_len (fun cdv A outer s H vs Q E hr h => ?_)
  obtain ⟨a, y, kb, rfl, ⟨d, hd, ⟨dx, ea⟩, hk⟩, q⟩ := h
  refine ⟨_, PSs.nox (pss_one (ps_ret (pe_and (pe_callB call_isi (by rfl) mi boot_isinstance (pa_cons (pv 1) (pa_cons (pe_glob (v := .ref (c .give)) (by rfl) G.gGive rfl) pa_nil))) (pe_and (pe_cmpR op_eq (pe_fld (pv 0) rfl) (pe_fld (pv 1) rfl) (by rfl)) (pe_and (pe_cmpR op_eq (pe_fld (pv 0) rfl) (pe_fld (pv 1) rfl) (by rfl)) (pe_and (pe_cmpR op_eq (pe_fld (pv 0) rfl) (pe_fld (pv 1) rfl) (by rfl)) (pe_one (pe_cmpR op_eq (pe_fld (pv 0) rfl) (pe_fld (pv 1) rfl) (by rfl))))))))), ?_⟩
  cases d <;> cases hd
  rename_i wd t k o
  rcases hk with ⟨d', b, rfl, ⟨dy, eb⟩, rfl⟩ | ⟨t0, ty, kf, rfl⟩
  · refine ⟨_, rfl, .ref b, .ref (c .give), .ref (c (clD d')), .ref (c .give), _, rfl, .own _, (G.t _).ty eb, G.kk _ _, _, rfl, ?_⟩
    by_cases hc : clD d' = .give
    case neg =>
      rw [decide_eq_false hc]
      rw [decide_eq_false (fun e => hc (by rw [← e]; rfl))] at q
      exact iteF (q H Ext.rfl')
    rw [decide_eq_true hc]
    cases d' <;> cases hc
    rename_i wd' t' k' o'
    refine iteT ⟨_, rfl, a, c .give, dx, _, _, rfl, ea, (G.t .give).cl, G.nGive0, rfl, _, rfl, b, c .give, dy, _, _, rfl, eb, (G.t .give).cl, G.nGive0, rfl, rfl, _, rfl, ?_⟩
    by_cases h0 : wd = wd'
    case neg =>
      rw [decide_eq_false (fun e => h0 (V.str.inj e))]
      rw [decide_eq_false (fun e => by cases e; exact h0 rfl)] at q
      exact iteF (q H Ext.rfl')
    subst h0
    rw [decide_eq_true rfl]
    refine iteT ⟨_, rfl, a, c .give, dx, _, _, rfl, ea, (G.t .give).cl, G.nGive1, rfl, _, rfl, b, c .give, dy, _, _, rfl, eb, (G.t .give).cl, G.nGive1, rfl, rfl, _, rfl, ?_⟩
    by_cases h1 : t = t'
    case neg =>
      rw [decide_eq_false (fun e => h1 (V.str.inj e))]
      rw [decide_eq_false (fun e => by cases e; exact h1 rfl)] at q
      exact iteF (q H Ext.rfl')
    subst h1
    rw [decide_eq_true rfl]
    refine iteT ⟨_, rfl, a, c .give, dx, _, _, rfl, ea, (G.t .give).cl, G.nGive2, rfl, _, rfl, b, c .give, dy, _, _, rfl, eb, (G.t .give).cl, G.nGive2, rfl, rfl, _, rfl, ?_⟩
    by_cases h2 : k = k'
    case neg =>
      rw [decide_eq_false (fun e => h2 (V.str.inj e))]
      rw [decide_eq_false (fun e => by cases e; exact h2 rfl)] at q
      exact iteF (q H Ext.rfl')
    subst h2
    rw [decide_eq_true rfl]
    refine iteT ⟨_, rfl, a, c .give, dx, _, _, rfl, ea, (G.t .give).cl, G.nGive3, rfl, _, rfl, b, c .give, dy, _, _, rfl, eb, (G.t .give).cl, G.nGive3, rfl, rfl, ?_⟩
    have e : decide (V.bl o = V.bl o') = decide (Dm.give wd t k o = Dm.give wd t k o') := by
      rw [Bool.eq_iff_iff]
      simp
    show Q (.bl (decide (V.bl o = V.bl o'))) H
    rw [e]
    exact q H Ext.rfl'
  · refine ⟨_, rfl, y, .ref (c .give), t0, .ref (c .give), _, rfl, .own _, ty, kf, _, rfl, ?_⟩
    exact iteF (q H Ext.rfl')
theorem ok_TakeE {c : Cs} (F : Fun K "__eq__" "Take.__eq__" s_Take_eq f fd) (G : DC K mg c) (mi : mg "isinstance" = none) : FnOk P w K mg base CX0 1 f fd ["self", "other"] (spEqB (RD K c .take)) := by
  refine F.ok sc_Take_eq spEqB_len (fun cdv A outer s H vs Q E hr h => ?_)
  obtain ⟨a, y, kb, rfl, ⟨d, hd, ⟨dx, ea⟩, hk⟩, q⟩ := h
  refine ⟨_, PSs.nox (pss_one (ps_ret (pe_and (pe_callB call_isi (by rfl) mi boot_isinstance (pa_cons (pv 1) (pa_cons (pe_glob (v := .ref (c .take)) (by rfl) G.gTake rfl) pa_nil))) (pe_and (pe_cmpR op_eq (pe_fld (pv 0) rfl) (pe_fld (pv 1) rfl) (by rfl)) (pe_and (pe_cmpR op_eq (pe_fld (pv 0) rfl) (pe_fld (pv 1) rfl) (by rfl)) (pe_and (pe_cmpR op_eq (pe_fld (pv 0) rfl) (pe_fld (pv 1) rfl) (by rfl)) (pe_and (pe_cmpR op_eq (pe_fld (pv 0) rfl) (pe_fld (pv 1) rfl) (by rfl)) (pe_and (pe_cmpR op_eq (pe_fld (pv 0) rfl) (pe_fld (pv 1) rfl) (by rfl)) (pe_one (pe_cmpR op_eq (pe_fld (pv 0) rfl) (pe_fld (pv 1) rfl) (by rfl))))))))))), ?_⟩
  cases d <;> cases hd
  rename_i wd t k g p cc
  rcases hk with ⟨d', b, rfl, ⟨dy, eb⟩, rfl⟩ | ⟨t0, ty, kf, rfl⟩
  · refine ⟨_, rfl, .ref b, .ref (c .take), .ref (c (clD d')), .ref (c .take), _, rfl, .own _, (G.t _).ty eb, G.kk _ _, _, rfl, ?_⟩
    by_cases hc : clD d' = .take
    case neg =>
      rw [decide_eq_false hc]
      rw [decide_eq_false (fun e => hc (by rw [← e]; rfl))] at q
      exact iteF (q H Ext.rfl')
    rw [decide_eq_true hc]
    cases d' <;> cases hc
    rename_i wd' t' k' g' p' cc'
    refine iteT ⟨_, rfl, a, c .take, dx, _, _, rfl, ea, (G.t .take).cl, G.nTake0, rfl, _, rfl, b, c .take, dy, _, _, rfl, eb, (G.t .take).cl, G.nTake0, rfl, rfl, _, rfl, ?_⟩
    by_cases h0 : wd = wd'
    case neg =>
      rw [decide_eq_false (fun e => h0 (V.str.inj e))]
      rw [decide_eq_false (fun e => by cases e; exact h0 rfl)] at q
      exact iteF (q H Ext.rfl')
    subst h0
    rw [decide_eq_true rfl]
    refine iteT ⟨_, rfl, a, c .take, dx, _, _, rfl, ea, (G.t .take).cl, G.nTake1, rfl, _, rfl, b, c .take, dy, _, _, rfl, eb, (G.t .take).cl, G.nTake1, rfl, rfl, _, rfl, ?_⟩
    by_cases h1 : t = t'
    case neg =>
      rw [decide_eq_false (fun e => h1 (V.str.inj e))]
      rw [decide_eq_false (fun e => by cases e; exact h1 rfl)] at q
      exact iteF (q H Ext.rfl')
    subst h1
    rw [decide_eq_true rfl]
    refine iteT ⟨_, rfl, a, c .take, dx, _, _, rfl, ea, (G.t .take).cl, G.nTake2, rfl, _, rfl, b, c .take, dy, _, _, rfl, eb, (G.t .take).cl, G.nTake2, rfl, rfl, _, rfl, ?_⟩
    by_cases h2 : k = k'
    case neg =>
      rw [decide_eq_false (fun e => h2 (V.str.inj e))]
      rw [decide_eq_false (fun e => by cases e; exact h2 rfl)] at q
      exact iteF (q H Ext.rfl')
    subst h2
    rw [decide_eq_true rfl]
    refine iteT ⟨_, rfl, a, c .take, dx, _, _, rfl, ea, (G.t .take).cl, G.nTake3, rfl, _, rfl, b, c .take, dy, _, _, rfl, eb, (G.t .take).cl, G.nTake3, rfl, gV_scal _ _, _, rfl, ?_⟩
    by_cases h3 : g = g'
    case neg =>
      rw [decide_eq_false (fun e => h3 (gV_inj e))]
      rw [decide_eq_false (fun e => by cases e; exact h3 rfl)] at q
      exact iteF (q H Ext.rfl')
    subst h3
    rw [decide_eq_true rfl]
    refine iteT ⟨_, rfl, a, c .take, dx, _, _, rfl, ea, (G.t .take).cl, G.nTake4, rfl, _, rfl, b, c .take, dy, _, _, rfl, eb, (G.t .take).cl, G.nTake4, rfl, rfl, _, rfl, ?_⟩
    by_cases h4 : p = p'
    case neg =>
      rw [decide_eq_false (fun e => h4 (V.bl.inj e))]
      rw [decide_eq_false (fun e => by cases e; exact h4 rfl)] at q
      exact iteF (q H Ext.rfl')
    subst h4
    rw [decide_eq_true rfl]
    refine iteT ⟨_, rfl, a, c .take, dx, _, _, rfl, ea, (G.t .take).cl, G.nTake5, rfl, _, rfl, b, c .take, dy, _, _, rfl, eb, (G.t .take).cl, G.nTake5, rfl, rfl, ?_⟩
    have e : decide (V.bl cc = V.bl cc') = decide (Dm.take wd t k g p cc = Dm.take wd t k g p cc') := by
      rw [Bool.eq_iff_iff]
      simp
    show Q (.bl (decide (V.bl cc = V.bl cc'))) H
    rw [e]
    exact q H Ext.rfl'
  · refine ⟨_, rfl, y, .ref (c .take), t0, .ref (c .take), _, rfl, .own _, ty, kf, _, rfl, ?_⟩
    exact iteF (q H Ext.rfl')
theorem ok_CallE {c : Cs} (F : Fun K "__eq__" "Call.__eq__" s_Call_eq f fd) (G : DC K mg c) (mi : mg "isinstance" = none) : FnOk P w K mg base CX0 1 f fd ["self", "other"] (spEqB (RD K c .call)) := by
  refine F.ok sc_Call_eq spEqB_len (fun cdv A outer s H vs Q E hr h => ?_)
  obtain ⟨a, y, kb, rfl, ⟨d, hd, ⟨dx, ea⟩, hk⟩, q⟩ := h
  refine ⟨_, PSs.nox (pss_one (ps_ret (pe_and (pe_callB call_isi (by rfl) mi boot_isinstance (pa_cons (pv 1) (pa_cons (pe_glob (v := .ref (c .call)) (by rfl) G.gCall rfl) pa_nil))) (pe_one (pe_cmpR op_eq (pe_fld (pv 0) rfl) (pe_fld (pv 1) rfl) (by rfl)))))), ?_⟩
  cases d <;> cases hd
  rename_i n
  rcases hk with ⟨d', b, rfl, ⟨dy, eb⟩, rfl⟩ | ⟨t0, ty, kf, rfl⟩
  · refine ⟨_, rfl, .ref b, .ref (c .call), .ref (c (clD d')), .ref (c .call), _, rfl, .own _, (G.t _).ty eb, G.kk _ _, _, rfl, ?_⟩
    by_cases hc : clD d' = .call
    case neg =>
      rw [decide_eq_false hc]
      rw [decide_eq_false (fun e => hc (by rw [← e]; rfl))] at q
      exact iteF (q H Ext.rfl')
    rw [decide_eq_true hc]
    cases d' <;> cases hc
    rename_i n'
    refine iteT ⟨_, rfl, a, c .call, dx, _, _, rfl, ea, (G.t .call).cl, G.nCall0, rfl, _, rfl, b, c .call, dy, _, _, rfl, eb, (G.t .call).cl, G.nCall0, rfl, rfl, ?_⟩
    have e : decide (V.str n = V.str n') = decide (Dm.call  n = Dm.call  n') := by
      rw [Bool.eq_iff_iff]
      simp
    show Q (.bl (decide (V.str n = V.str n'))) H
    rw [e]
    exact q H Ext.rfl'
  · refine ⟨_, rfl, y, .ref (c .call), t0, .ref (c .call), _, rfl, .own _, ty, kf, _, rfl, ?_⟩
    exact iteF (q H Ext.rfl')
theorem ok_PresetE {c : Cs} (F : Fun K "__eq__" "Preset.__eq__" s_Preset_eq f fd) (G : DC K mg c) (mi : mg "isinstance" = none) : FnOk P w K mg base CX0 1 f fd ["self", "other"] (spEqB (RD K c .preset)) := by
  refine F.ok sc_Preset_eq spEqB_len (fun cdv A outer s H vs Q E hr h => ?_)
  obtain ⟨a, y, kb, rfl, ⟨d, hd, ⟨dx, ea⟩, hk⟩, q⟩ := h
  refine ⟨_, PSs.nox (pss_one (ps_ret (pe_and (pe_callB call_isi (by rfl) mi boot_isinstance (pa_cons (pv 1) (pa_cons (pe_glob (v := .ref (c .preset)) (by rfl) G.gPreset rfl) pa_nil))) (pe_and (pe_cmpR op_eq (pe_fld (pv 0) rfl) (pe_fld (pv 1) rfl) (by rfl)) (pe_and (pe_cmpR op_eq (pe_fld (pv 0) rfl) (pe_fld (pv 1) rfl) (by rfl)) (pe_and (pe_cmpR op_eq (pe_fld (pv 0) rfl) (pe_fld (pv 1) rfl) (by rfl)) (pe_one (pe_cmpR op_eq (pe_fld (pv 0) rfl) (pe_fld (pv 1) rfl) (by rfl))))))))), ?_⟩
  cases d <;> cases hd
  rename_i sd wd k o
  rcases hk with ⟨d', b, rfl, ⟨dy, eb⟩, rfl⟩ | ⟨t0, ty, kf, rfl⟩
  · refine ⟨_, rfl, .ref b, .ref (c .preset), .ref (c (clD d')), .ref (c .preset), _, rfl, .own _, (G.t _).ty eb, G.kk _ _, _, rfl, ?_⟩
    by_cases hc : clD d' = .preset
    case neg =>
      rw [decide_eq_false hc]
      rw [decide_eq_false (fun e => hc (by rw [← e]; rfl))] at q
      exact iteF (q H Ext.rfl')
    rw [decide_eq_true hc]
    cases d' <;> cases hc
    rename_i sd' wd' k' o'
    refine iteT ⟨_, rfl, a, c .preset, dx, _, _, rfl, ea, (G.t .preset).cl, G.nPreset0, rfl, _, rfl, b, c .preset, dy, _, _, rfl, eb, (G.t .preset).cl, G.nPreset0, rfl, rfl, _, rfl, ?_⟩
    by_cases h0 : sd = sd'
    case neg =>
      rw [decide_eq_false (fun e => h0 (V.str.inj e))]
      rw [decide_eq_false (fun e => by cases e; exact h0 rfl)] at q
      exact iteF (q H Ext.rfl')
    subst h0
    rw [decide_eq_true rfl]
    refine iteT ⟨_, rfl, a, c .preset, dx, _, _, rfl, ea, (G.t .preset).cl, G.nPreset1, rfl, _, rfl, b, c .preset, dy, _, _, rfl, eb, (G.t .preset).cl, G.nPreset1, rfl, rfl, _, rfl, ?_⟩
    by_cases h1 : wd = wd'
    case neg =>
      rw [decide_eq_false (fun e => h1 (V.str.inj e))]
      rw [decide_eq_false (fun e => by cases e; exact h1 rfl)] at q
      exact iteF (q H Ext.rfl')
    subst h1
    rw [decide_eq_true rfl]
    refine iteT ⟨_, rfl, a, c .preset, dx, _, _, rfl, ea, (G.t .preset).cl, G.nPreset2, rfl, _, rfl, b, c .preset, dy, _, _, rfl, eb, (G.t .preset).cl, G.nPreset2, rfl, rfl, _, rfl, ?_⟩
    by_cases h2 : k = k'
    case neg =>
      rw [decide_eq_false (fun e => h2 (V.str.inj e))]
      rw [decide_eq_false (fun e => by cases e; exact h2 rfl)] at q
      exact iteF (q H Ext.rfl')
    subst h2
    rw [decide_eq_true rfl]
    refine iteT ⟨_, rfl, a, c .preset, dx, _, _, rfl, ea, (G.t .preset).cl, G.nPreset3, rfl, _, rfl, b, c .preset, dy, _, _, rfl, eb, (G.t .preset).cl, G.nPreset3, rfl, rfl, ?_⟩
    have e : decide (V.bl o = V.bl o') = decide (Dm.preset sd wd k o = Dm.preset sd wd k o') := by
      rw [Bool.eq_iff_iff]
      simp
    show Q (.bl (decide (V.bl o = V.bl o'))) H
    rw [e]
    exact q H Ext.rfl'
  · refine ⟨_, rfl, y, .ref (c .preset), t0, .ref (c .preset), _, rfl, .own _, ty, kf, _, rfl, ?_⟩
    exact iteF (q H Ext.rfl')
theorem ok_UseE {c : Cs} (F : Fun K "__eq__" "Use.__eq__" s_Use_eq f fd) (G : DC K mg c) (mi : mg "isinstance" = none) : FnOk P w K mg base CX0 1 f fd ["self", "other"] (spEqB (RD K c .use)) := by
  refine F.ok sc_Use_eq spEqB_len (fun cdv A outer s H vs Q E hr h => ?_)
  obtain ⟨a, y, kb, rfl, ⟨d, hd, ⟨dx, ea⟩, hk⟩, q⟩ := h
  refine ⟨_, PSs.nox (pss_one (ps_ret (pe_and (pe_callB call_isi (by rfl) mi boot_isinstance (pa_cons (pv 1) (pa_cons (pe_glob (v := .ref (c .use)) (by rfl) G.gUse rfl) pa_nil))) (pe_and (pe_cmpR op_eq (pe_fld (pv 0) rfl) (pe_fld (pv 1) rfl) (by rfl)) (pe_one (pe_cmpR op_eq (pe_fld (pv 0) rfl) (pe_fld (pv 1) rfl) (by rfl))))))), ?_⟩
  cases d <;> cases hd
  rename_i wd t
  rcases hk with ⟨d', b, rfl, ⟨dy, eb⟩, rfl⟩ | ⟨t0, ty, kf, rfl⟩
  · refine ⟨_, rfl, .ref b, .ref (c .use), .ref (c (clD d')), .ref (c .use), _, rfl, .own _, (G.t _).ty eb, G.kk _ _, _, rfl, ?_⟩
    by_cases hc : clD d' = .use
    case neg =>
      rw [decide_eq_false hc]
      rw [decide_eq_false (fun e => hc (by rw [← e]; rfl))] at q
      exact iteF (q H Ext.rfl')
    rw [decide_eq_true hc]
    cases d' <;> cases hc
    rename_i wd' t'
    refine iteT ⟨_, rfl, a, c .use, dx, _, _, rfl, ea, (G.t .use).cl, G.nUse0, rfl, _, rfl, b, c .use, dy, _, _, rfl, eb, (G.t .use).cl, G.nUse0, rfl, rfl, _, rfl, ?_⟩
    by_cases h0 : wd = wd'
    case neg =>
      rw [decide_eq_false (fun e => h0 (V.str.inj e))]
      rw [decide_eq_false (fun e => by cases e; exact h0 rfl)] at q
      exact iteF (q H Ext.rfl')
    subst h0
    rw [decide_eq_true rfl]
    refine iteT ⟨_, rfl, a, c .use, dx, _, _, rfl, ea, (G.t .use).cl, G.nUse1, rfl, _, rfl, b, c .use, dy, _, _, rfl, eb, (G.t .use).cl, G.nUse1, rfl, rfl, ?_⟩
    have e : decide (V.str t = V.str t') = decide (Dm.use wd t = Dm.use wd t') := by
      rw [Bool.eq_iff_iff]
      simp
    show Q (.bl (decide (V.str t = V.str t'))) H
    rw [e]
    exact q H Ext.rfl'
  · refine ⟨_, rfl, y, .ref (c .use), t0, .ref (c .use), _, rfl, .own _, ty, kf, _, rfl, ?_⟩
    exact iteF (q H Ext.rfl')
end
end K06
set_option maxHeartbeats 4000000
namespace K06
open PySem PySem.Spec PyProof.Rows L2 RL RE RN RM TL RQ
def opt (b : Bool) (z : Str) : List Str := if b then [z] else []
def wordsD : Dm → List Str
  | .give w t k o => [Str.ofString "give", w, t, k] ++ opt o (Str.ofString "option")
  | .take w t k g p c => [Str.ofString "take", w, t, k] ++ (match g with | none => [] | some y => [Str.ofString "by", y]) ++ opt p (Str.ofString "option") ++ opt c (Str.ofString "cascade")
  | .call n => [Str.ofString "call", n]
  | .preset s w k o => [Str.ofString "preset", s, w, k] ++ opt o (Str.ofString "option")
  | .use w t => [Str.ofString "use", w, t]
def strD (d : Dm) : Str := Txt.join (Str.ofString " ") (wordsD d)
def spStr (c : Cs) (x : Cl) : Sp := fun vs H Q _ => ∃ (a : Addr) (d : Dm), vs = [.ref a] ∧ DeedAt c H a d ∧ okD d ∧ clD d = x ∧ ∀ H', Ext H H' → Q (.str (strD d)) H'
theorem words_sz : ∀ ws : List Str, (∀ y ∈ ws, y.length ≤ 1000) → ws.length ≤ 20 → (ws.map (·.length)).sum + ws.length * 1 ≤ 16777216 := fun ws h hl => by
  have key : ∀ l : List Str, (∀ y ∈ l, y.length ≤ 1000) → (l.map (·.length)).sum ≤ 1000 * l.length := fun l => by
    induction l with
    | nil => intro _; simp
    | cons a r ih =>
      intro h
      have h1 := h a (List.mem_cons_self ..)
      have h2 := ih fun y hy => h y (List.mem_cons_of_mem _ hy)
      rw [List.map_cons, List.sum_cons, List.length_cons]
      omega
  have := key ws h
  omega
section
variable {P : Program} {w : World} {K : PySem.W.Frag} {mg : Str → Option Value} {base : Heap} {f : Addr} {fd : FuncData}
theorem ok_CallS {c : Cs} (F : Fun K "__str__" "Call.__str__" s_Call_str f fd) (G : DC K mg c) : FnOk P w K mg base CX0 1 f fd ["self"] (spStr c .call) := by
  refine F.ok sc_Call_str (fun vs H Q E h => by obtain ⟨a, d, rfl, _⟩ := h; rfl) (fun cdv A outer s H vs Q E hr h => ?_)
  obtain ⟨a, d, rfl, ⟨dx, ea⟩, ok, hp, q⟩ := h
  refine ⟨_, PSs.nox (pss_one (ps_ret (pe_join pe_str (pe_lst (pa_cons pe_str (pa_cons (pe_fld (pv 0) rfl) pa_nil)))))), ?_⟩
  cases d <;> cases hp
  rename_i n
  have hl := ok.1.1
  refine ⟨⟨_, rfl⟩, _, rfl, a, c .call, dx, _, _, rfl, ea, (G.t .call).cl, G.nCall0, rfl, by show 2 ≤ sizeLine; decide, fun p np => ?_⟩
  refine ⟨_, p, wordsD (.call n), rfl, rfl, .inl (SqL.of upd_same), ?_, q _ (Ext.upd np)⟩
  show (4 + (n.length + 0)) + 2 * 1 ≤ 16777216
  omega
theorem ok_UseS {c : Cs} (F : Fun K "__str__" "Use.__str__" s_Use_str f fd) (G : DC K mg c) : FnOk P w K mg base CX0 1 f fd ["self"] (spStr c .use) := by
  refine F.ok sc_Use_str (fun vs H Q E h => by obtain ⟨a, d, rfl, _⟩ := h; rfl) (fun cdv A outer s H vs Q E hr h => ?_)
  obtain ⟨a, d, rfl, ⟨dx, ea⟩, ok, hp, q⟩ := h
  refine ⟨_, PSs.nox (pss_one (ps_ret (pe_join pe_str (pe_lst (pa_cons pe_str (pa_cons (pe_fld (pv 0) rfl) (pa_cons (pe_fld (pv 0) rfl) pa_nil))))))), ?_⟩
  cases d <;> cases hp
  rename_i wd t
  obtain ⟨⟨l1, _⟩, ⟨l2, _⟩, _⟩ := ok
  refine ⟨⟨_, rfl⟩, _, rfl, a, c .use, dx, _, _, rfl, ea, (G.t .use).cl, G.nUse0, rfl, _, rfl, a, c .use, dx, _, _, rfl, ea, (G.t .use).cl, G.nUse1, rfl, by show 3 ≤ sizeLine; decide, fun p np => ?_⟩
  refine ⟨_, p, wordsD (.use wd t), rfl, rfl, .inl (SqL.of upd_same), ?_, q _ (Ext.upd np)⟩
  show (3 + (wd.length + (t.length + 0))) + 3 * 1 ≤ 16777216
  omega
theorem ok_GiveS {c : Cs} (F : Fun K "__str__" "Give.__str__" s_Give_str f fd) (G : DC K mg c) : FnOk P w K mg base CX0 1 f fd ["self"] (spStr c .give) := by
  refine F.ok sc_Give_str (fun vs H Q E h => by obtain ⟨a, d, rfl, _⟩ := h; rfl) (fun cdv A outer s H vs Q E hr h => ?_)
  obtain ⟨a, d, rfl, ⟨dx, ea⟩, ok, hp, q⟩ := h
  refine ⟨_, PSs.nox (pss_cons (ps_set (i := 1) sc_Give_str.nd rfl (.inl rfl) (pe_lst (pa_cons pe_str (pa_cons (pe_fld (pv 0) rfl) (pa_cons (pe_fld (pv 0) rfl) (pa_cons (pe_fld (pv 0) rfl) pa_nil))))))
    (pss_cons (ps_if (pt_val (pe_fld (pv 0) rfl)) (pss_one (ps_expr (pe_bm PySem.F.plainAttrs_list PySem.F.slot_list_append PySem.F.type_list_append mt_append (pv 1) (pa_cons pe_str pa_nil)))) pss_nil)
    (pss_one (ps_ret (pe_join pe_str (pv 1)))))), ?_⟩
  cases d <;> cases hp
  rename_i wd t k o
  obtain ⟨⟨l1, _⟩, ⟨l2, _⟩, ⟨l3, _⟩, _⟩ := ok
  refine ⟨_, rfl, a, c .give, dx, _, _, rfl, ea, (G.t .give).cl, G.nGive0, rfl, ?_⟩
  refine ⟨_, rfl, a, c .give, dx, _, _, rfl, ea, (G.t .give).cl, G.nGive1, rfl, ?_⟩
  refine ⟨_, rfl, a, c .give, dx, _, _, rfl, ea, (G.t .give).cl, G.nGive2, rfl, by show 4 ≤ sizeLine; decide, fun p np => ?_⟩
  have e1 : (upd H p (.lst [.str (Str.ofString "give"), .str wd, .str t, .str k])) p = some (.lst [.str (Str.ofString "give"), .str wd, .str t, .str k]) := upd_same
  have x1 : Ext H (upd H p (.lst [.str (Str.ofString "give"), .str wd, .str t, .str k])) := Ext.upd np
  generalize upd H p (.lst [.str (Str.ofString "give"), .str wd, .str t, .str k]) = H1 at e1 x1 ⊢
  refine ⟨_, rfl, a, c .give, dx, _, _, rfl, x1 _ _ ea, (G.t .give).cl, G.nGive3, rfl, _, rfl, ?_⟩
  cases o with
  | false =>
    refine iteF ⟨⟨_, rfl⟩, _, rfl, _, p, wordsD (.give wd t k false), rfl, rfl, .inl (SqL.of e1), ?_, q _ x1⟩
    show (4 + (wd.length + (t.length + (k.length + 0)))) + 4 * 1 ≤ 16777216
    omega
  | true =>
    refine iteT ⟨_, rfl, .inl ⟨rfl, _, .inl (.inl e1)⟩, p, _, _, rfl, rfl, e1, by show 4 < sizeLine; decide, ?_⟩
    have x2 : Ext H (upd H1 p (.lst ([.str (Str.ofString "give"), .str wd, .str t, .str k] ++ [.str (Str.ofString "option")]))) := fun b o e => by
      rw [upd_ne (fun z => by rw [z, np] at e; cases e)]
      exact x1 b o e
    refine ⟨⟨_, rfl⟩, _, rfl, _, p, wordsD (.give wd t k true), rfl, rfl, .inl (SqL.of upd_same), ?_, q _ x2⟩
    show (4 + (wd.length + (t.length + (k.length + (6 + 0))))) + 5 * 1 ≤ 16777216
    omega
theorem ok_PresetS {c : Cs} (F : Fun K "__str__" "Preset.__str__" s_Preset_str f fd) (G : DC K mg c) : FnOk P w K mg base CX0 1 f fd ["self"] (spStr c .preset) := by
  refine F.ok sc_Preset_str (fun vs H Q E h => by obtain ⟨a, d, rfl, _⟩ := h; rfl) (fun cdv A outer s H vs Q E hr h => ?_)
  obtain ⟨a, d, rfl, ⟨dx, ea⟩, ok, hp, q⟩ := h
  refine ⟨_, PSs.nox (pss_cons (ps_set (i := 1) sc_Preset_str.nd rfl (.inl rfl) (pe_lst (pa_cons pe_str (pa_cons (pe_fld (pv 0) rfl) (pa_cons (pe_fld (pv 0) rfl) (pa_cons (pe_fld (pv 0) rfl) pa_nil))))))
    (pss_cons (ps_if (pt_val (pe_fld (pv 0) rfl)) (pss_one (ps_expr (pe_bm PySem.F.plainAttrs_list PySem.F.slot_list_append PySem.F.type_list_append mt_append (pv 1) (pa_cons pe_str pa_nil)))) pss_nil)
    (pss_one (ps_ret (pe_join pe_str (pv 1)))))), ?_⟩
  cases d <;> cases hp
  rename_i sd wd k o
  obtain ⟨⟨l1, _⟩, ⟨l2, _⟩, ⟨l3, _⟩, _⟩ := ok
  refine ⟨_, rfl, a, c .preset, dx, _, _, rfl, ea, (G.t .preset).cl, G.nPreset0, rfl, ?_⟩
  refine ⟨_, rfl, a, c .preset, dx, _, _, rfl, ea, (G.t .preset).cl, G.nPreset1, rfl, ?_⟩
  refine ⟨_, rfl, a, c .preset, dx, _, _, rfl, ea, (G.t .preset).cl, G.nPreset2, rfl, by show 4 ≤ sizeLine; decide, fun p np => ?_⟩
  have e1 : (upd H p (.lst [.str (Str.ofString "preset"), .str sd, .str wd, .str k])) p = some (.lst [.str (Str.ofString "preset"), .str sd, .str wd, .str k]) := upd_same
  have x1 : Ext H (upd H p (.lst [.str (Str.ofString "preset"), .str sd, .str wd, .str k])) := Ext.upd np
  generalize upd H p (.lst [.str (Str.ofString "preset"), .str sd, .str wd, .str k]) = H1 at e1 x1 ⊢
  refine ⟨_, rfl, a, c .preset, dx, _, _, rfl, x1 _ _ ea, (G.t .preset).cl, G.nPreset3, rfl, _, rfl, ?_⟩
  cases o with
  | false =>
    refine iteF ⟨⟨_, rfl⟩, _, rfl, _, p, wordsD (.preset sd wd k false), rfl, rfl, .inl (SqL.of e1), ?_, q _ x1⟩
    show (6 + (sd.length + (wd.length + (k.length + 0)))) + 4 * 1 ≤ 16777216
    omega
  | true =>
    refine iteT ⟨_, rfl, .inl ⟨rfl, _, .inl (.inl e1)⟩, p, _, _, rfl, rfl, e1, by show 4 < sizeLine; decide, ?_⟩
    have x2 : Ext H (upd H1 p (.lst ([.str (Str.ofString "preset"), .str sd, .str wd, .str k] ++ [.str (Str.ofString "option")]))) := fun b o e => by
      rw [upd_ne (fun z => by rw [z, np] at e; cases e)]
      exact x1 b o e
    refine ⟨⟨_, rfl⟩, _, rfl, _, p, wordsD (.preset sd wd k true), rfl, rfl, .inl (SqL.of upd_same), ?_, q _ x2⟩
    show (6 + (sd.length + (wd.length + (k.length + (6 + 0))))) + 5 * 1 ≤ 16777216
    omega
/-- a growing list of words -/
structure Gr (H0 H : Hp) (p : Addr) (ws : List Str) : Prop where
  at_ : H p = some (.lst (ws.map V.str))
  ex : Ext H0 H
  new : H0 p = none
theorem Gr.app {H0 H : Hp} {p : Addr} {ws : List Str} (g : Gr H0 H p ws) (y : Str) : Gr H0 (upd H p (.lst (ws.map V.str ++ [.str y]))) p (ws ++ [y]) :=
  ⟨by rw [upd_same, List.map_append]; rfl, fun b o e => by rw [upd_ne (fun z => by rw [z, g.new] at e; cases e)]; exact g.ex b o e, g.new⟩
theorem ok_TakeS {c : Cs} (F : Fun K "__str__" "Take.__str__" s_Take_str f fd) (G : DC K mg c) : FnOk P w K mg base CX0 1 f fd ["self"] (spStr c .take) := by
  refine F.ok sc_Take_str (fun vs H Q E h => by obtain ⟨a, d, rfl, _⟩ := h; rfl) (fun cdv A outer s H vs Q E hr h => ?_)
  obtain ⟨a, d, rfl, ⟨dx, ea⟩, ok, hp, q⟩ := h
  refine ⟨_, PSs.nox (pss_cons (ps_set (i := 1) sc_Take_str.nd rfl (.inl rfl) (pe_lst (pa_cons pe_str (pa_cons (pe_fld (pv 0) rfl) (pa_cons (pe_fld (pv 0) rfl) (pa_cons (pe_fld (pv 0) rfl) pa_nil))))))
    (pss_cons (ps_if (pt_cmpR op_notN (pe_fld (pv 0) rfl) pe_non (by rfl)) (pss_cons (ps_expr (pe_bm PySem.F.plainAttrs_list PySem.F.slot_list_append PySem.F.type_list_append mt_append (pv 1) (pa_cons pe_str pa_nil))) (pss_one (ps_expr (pe_bm PySem.F.plainAttrs_list PySem.F.slot_list_append PySem.F.type_list_append mt_append (pv 1) (pa_cons (pe_fld (pv 0) rfl) pa_nil))))) pss_nil)
    (pss_cons (ps_if (pt_val (pe_fld (pv 0) rfl)) (pss_one (ps_expr (pe_bm PySem.F.plainAttrs_list PySem.F.slot_list_append PySem.F.type_list_append mt_append (pv 1) (pa_cons pe_str pa_nil)))) pss_nil)
    (pss_cons (ps_if (pt_val (pe_fld (pv 0) rfl)) (pss_one (ps_expr (pe_bm PySem.F.plainAttrs_list PySem.F.slot_list_append PySem.F.type_list_append mt_append (pv 1) (pa_cons pe_str pa_nil)))) pss_nil)
    (pss_one (ps_ret (pe_join pe_str (pv 1)))))))), ?_⟩
  cases d <;> cases hp
  rename_i wd t k g po cc
  obtain ⟨⟨l1, _⟩, ⟨l2, _⟩, ⟨l3, _⟩, _, _, _, hg⟩ := ok
  refine ⟨_, rfl, a, c .take, dx, _, _, rfl, ea, (G.t .take).cl, G.nTake0, rfl, ?_⟩
  refine ⟨_, rfl, a, c .take, dx, _, _, rfl, ea, (G.t .take).cl, G.nTake1, rfl, ?_⟩
  refine ⟨_, rfl, a, c .take, dx, _, _, rfl, ea, (G.t .take).cl, G.nTake2, rfl, by show 4 ≤ sizeLine; decide, fun p np => ?_⟩
  have g1 : Gr H (upd H p (.lst [.str (Str.ofString "take"), .str wd, .str t, .str k])) p [Str.ofString "take", wd, t, k] := ⟨upd_same, Ext.upd np, np⟩
  generalize upd H p (.lst [.str (Str.ofString "take"), .str wd, .str t, .str k]) = H1 at g1 ⊢
  cases g with
  | none =>
    refine ⟨_, rfl, a, c .take, dx, _, _, rfl, g1.ex _ _ ea, (G.t .take).cl, G.nTake3, rfl, rfl, _, rfl, ?_⟩
    refine iteF ?_
    refine ⟨_, rfl, a, c .take, dx, _, _, rfl, g1.ex _ _ ea, (G.t .take).cl, G.nTake4, rfl, _, rfl, ?_⟩
    cases po with
    | false =>
      refine iteF ?_
      refine ⟨_, rfl, a, c .take, dx, _, _, rfl, g1.ex _ _ ea, (G.t .take).cl, G.nTake5, rfl, _, rfl, ?_⟩
      cases cc with
      | false =>
        refine iteF ?_
        refine ⟨⟨_, rfl⟩, _, rfl, _, p, wordsD (.take wd t k none false false), rfl, rfl, .inl (SqL.of g1.at_), ?_, q _ g1.ex⟩
        show (4 + (wd.length + (t.length + (k.length + 0)))) + 4 * 1 ≤ 16777216
        omega
      | true =>
        refine iteT ⟨_, rfl, .inl ⟨rfl, _, .inl (.inl g1.at_)⟩, p, _, _, rfl, rfl, g1.at_, by show 4 < sizeLine; decide, ?_⟩
        have g1 := g1.app (Str.ofString "cascade")
        refine ⟨⟨_, rfl⟩, _, rfl, _, p, wordsD (.take wd t k none false true), rfl, rfl, .inl (SqL.of g1.at_), ?_, q _ g1.ex⟩
        show (4 + (wd.length + (t.length + (k.length + (7 + 0))))) + 5 * 1 ≤ 16777216
        omega
    | true =>
      refine iteT ⟨_, rfl, .inl ⟨rfl, _, .inl (.inl g1.at_)⟩, p, _, _, rfl, rfl, g1.at_, by show 4 < sizeLine; decide, ?_⟩
      have g1 := g1.app (Str.ofString "option")
      refine ⟨_, rfl, a, c .take, dx, _, _, rfl, g1.ex _ _ ea, (G.t .take).cl, G.nTake5, rfl, _, rfl, ?_⟩
      cases cc with
      | false =>
        refine iteF ?_
        refine ⟨⟨_, rfl⟩, _, rfl, _, p, wordsD (.take wd t k none true false), rfl, rfl, .inl (SqL.of g1.at_), ?_, q _ g1.ex⟩
        show (4 + (wd.length + (t.length + (k.length + (6 + 0))))) + 5 * 1 ≤ 16777216
        omega
      | true =>
        refine iteT ⟨_, rfl, .inl ⟨rfl, _, .inl (.inl g1.at_)⟩, p, _, _, rfl, rfl, g1.at_, by show 5 < sizeLine; decide, ?_⟩
        have g1 := g1.app (Str.ofString "cascade")
        refine ⟨⟨_, rfl⟩, _, rfl, _, p, wordsD (.take wd t k none true true), rfl, rfl, .inl (SqL.of g1.at_), ?_, q _ g1.ex⟩
        show (4 + (wd.length + (t.length + (k.length + (6 + (7 + 0)))))) + 6 * 1 ≤ 16777216
        omega
  | some y =>
    refine ⟨_, rfl, a, c .take, dx, _, _, rfl, g1.ex _ _ ea, (G.t .take).cl, G.nTake3, rfl, rfl, _, rfl, ?_⟩
    have l4 := (hg y rfl).1.1
    refine iteT ⟨_, rfl, .inl ⟨rfl, _, .inl (.inl g1.at_)⟩, p, _, _, rfl, rfl, g1.at_, by show 4 < sizeLine; decide, ?_⟩
    have g1 := g1.app (Str.ofString "by")
    refine ⟨_, rfl, .inl ⟨rfl, _, .inl (.inl g1.at_)⟩, _, rfl, a, c .take, dx, _, _, rfl, g1.ex _ _ ea, (G.t .take).cl, G.nTake3, rfl, p, _, _, rfl, rfl, g1.at_, by show 5 < sizeLine; decide, ?_⟩
    have g1 := g1.app y
    refine ⟨_, rfl, a, c .take, dx, _, _, rfl, g1.ex _ _ ea, (G.t .take).cl, G.nTake4, rfl, _, rfl, ?_⟩
    cases po with
    | false =>
      refine iteF ?_
      refine ⟨_, rfl, a, c .take, dx, _, _, rfl, g1.ex _ _ ea, (G.t .take).cl, G.nTake5, rfl, _, rfl, ?_⟩
      cases cc with
      | false =>
        refine iteF ?_
        refine ⟨⟨_, rfl⟩, _, rfl, _, p, wordsD (.take wd t k (some y) false false), rfl, rfl, .inl (SqL.of g1.at_), ?_, q _ g1.ex⟩
        show (4 + (wd.length + (t.length + (k.length + (2 + (y.length + 0)))))) + 6 * 1 ≤ 16777216
        omega
      | true =>
        refine iteT ⟨_, rfl, .inl ⟨rfl, _, .inl (.inl g1.at_)⟩, p, _, _, rfl, rfl, g1.at_, by show 6 < sizeLine; decide, ?_⟩
        have g1 := g1.app (Str.ofString "cascade")
        refine ⟨⟨_, rfl⟩, _, rfl, _, p, wordsD (.take wd t k (some y) false true), rfl, rfl, .inl (SqL.of g1.at_), ?_, q _ g1.ex⟩
        show (4 + (wd.length + (t.length + (k.length + (2 + (y.length + (7 + 0))))))) + 7 * 1 ≤ 16777216
        omega
    | true =>
      refine iteT ⟨_, rfl, .inl ⟨rfl, _, .inl (.inl g1.at_)⟩, p, _, _, rfl, rfl, g1.at_, by show 6 < sizeLine; decide, ?_⟩
      have g1 := g1.app (Str.ofString "option")
      refine ⟨_, rfl, a, c .take, dx, _, _, rfl, g1.ex _ _ ea, (G.t .take).cl, G.nTake5, rfl, _, rfl, ?_⟩
      cases cc with
      | false =>
        refine iteF ?_
        refine ⟨⟨_, rfl⟩, _, rfl, _, p, wordsD (.take wd t k (some y) true false), rfl, rfl, .inl (SqL.of g1.at_), ?_, q _ g1.ex⟩
        show (4 + (wd.length + (t.length + (k.length + (2 + (y.length + (6 + 0))))))) + 7 * 1 ≤ 16777216
        omega
      | true =>
        refine iteT ⟨_, rfl, .inl ⟨rfl, _, .inl (.inl g1.at_)⟩, p, _, _, rfl, rfl, g1.at_, by show 7 < sizeLine; decide, ?_⟩
        have g1 := g1.app (Str.ofString "cascade")
        refine ⟨⟨_, rfl⟩, _, rfl, _, p, wordsD (.take wd t k (some y) true true), rfl, rfl, .inl (SqL.of g1.at_), ?_, q _ g1.ex⟩
        show (4 + (wd.length + (t.length + (k.length + (2 + (y.length + (6 + (7 + 0)))))))) + 8 * 1 ≤ 16777216
        omega
end
end K06
set_option maxHeartbeats 4000000
namespace K06
open PySem PySem.Spec PyProof.Rows L2 RL RE RN RM TL RQ
theorem pe_never {X : Cx} {e : Expr} : PE X e (fun _ _ _ => False) := ⟨fun _ _ _ _ _ _ h => h.elim⟩
/-! ### grants and defaults -/
/-- RIGHTS, MADE_KINDS: plain tuples of the module -/
def KTupN (K : PySem.W.Frag) (a : Addr) (zs : List Str) : Prop := KTup K a zs ∧ ∃ o, K.lookup a = some o ∧ o.cls = .type "tuple" ∧ o.dict = none
def dig (i : Int) : Str := toString i
theorem dig_len : ∀ j : Nat, j < 5 → (dig (j : Int)).length = 1
  | 0, _ => by decide +kernel
  | 1, _ => by decide +kernel
  | 2, _ => by decide +kernel
  | 3, _ => by decide +kernel
  | 4, _ => by decide +kernel
  | _ + 5, h => absurd h (by omega)
theorem dig_b (o : Bool) : (dig (if o = true then 1 else 0)).length = 1 := by
  cases o <;> decide +kernel
theorem dig_log : ∀ j : Nat, j < 5 → (j : Int).natAbs.log2 < 1920
  | 0, _ => by decide +kernel
  | 1, _ => by decide +kernel
  | 2, _ => by decide +kernel
  | 3, _ => by decide +kernel
  | 4, _ => by decide +kernel
  | _ + 5, h => absurd h (by omega)
theorem dig_logb (o : Bool) : (if o = true then 1 else 0 : Int).natAbs.log2 < 1920 := by
  cases o <;> decide +kernel
/-- the place of a right among the rights -/
def rIx (w : Str) : Nat := (rightsT.findIdx? fun z => decide (z = w)).getD 0
theorem rIx_ok {w : Str} (h : (kindT w).isSome = true) : rIx w < 5 ∧ rightsT[rIx w]? = some w ∧ ∀ m, m < rIx w → rightsT[m]? ≠ some w := by
  unfold kindT at h
  by_cases g1 : w = Str.ofString "inherit"
  · subst g1; decide +kernel
  by_cases g2 : w = Str.ofString "act"
  · subst g2; decide +kernel
  by_cases g3 : w = Str.ofString "read"
  · subst g3; decide +kernel
  by_cases g4 : w = Str.ofString "write"
  · subst g4; decide +kernel
  by_cases g5 : w = Str.ofString "call"
  · subst g5; decide +kernel
  simp [g1, g2, g3, g4, g5] at h
def kIx (s : Str) : Nat := if s = tTab then 0 else 1
theorem kIx_ok {s : Str} (h : s = tTab ∨ s = tFun) : kIx s < 2 ∧ [tTab, tFun][kIx s]? = some s ∧ ∀ m, m < kIx s → [tTab, tFun][m]? ≠ some s := by
  rcases h with e | e <;> subst e <;> decide +kernel
abbrev sp1 : Str := Str.ofString " "
theorem app_len (x y : Str) : (x ++ y).length = x.length + y.length := Array.size_append
def placeG (g k w t : Str) (o : Bool) : Str := ((((((((Str.empty ++ t) ++ sp1) ++ dig (rIx w : Nat)) ++ sp1) ++ g) ++ sp1) ++ k) ++ sp1) ++ dig (if o = true then 1 else 0)
def placeF (m s w k : Str) (o : Bool) : Str := ((((((((Str.empty ++ m) ++ sp1) ++ dig (kIx s : Nat)) ++ sp1) ++ dig (rIx w : Nat)) ++ sp1) ++ k) ++ sp1) ++ dig (if o = true then 1 else 0)
def fieldsG (g k w t : Str) (o : Bool) : List (Str × V) := [("giver", .str g), ("taker", .str k), ("right", .str w), ("thing", .str t), ("option", .bl o), ("place", .str (placeG g k w t o))]
def fieldsF (m s w k : Str) (o : Bool) : List (Str × V) := [("maker", .str m), ("kind", .str s), ("right", .str w), ("taker", .str k), ("option", .bl o), ("place", .str (placeF m s w k o))]
def okG (g k w t : Str) (o : Bool) : Prop := txt g ∧ nameT g = true ∧ txt k ∧ isTaker (.str k) = true ∧ k ≠ g ∧ txt w ∧ (kindT w).isSome = true ∧ txt t ∧ nameT t = true ∧ (o = true → isT tPub (.str k) = false)
def okF (m s w k : Str) (o : Bool) : Prop := txt m ∧ nameT m = true ∧ txt s ∧ (s = tTab ∨ s = tFun) ∧ txt w ∧ kindT w = some s ∧ txt k ∧ isTaker (.str k) = true ∧ k ≠ m ∧ (o = true → isT tPub (.str k) = false)
section
variable {P : Program} {w : World} {K : PySem.W.Frag} {mg : Str → Option Value} {base : Heap} {f : Addr} {fd : FuncData}
def spGrant (K : PySem.W.Frag) (C : Addr) : Sp := fun vs H Q _ => ∃ (a dx : Addr) (g k w t : Str) (o : Bool), vs = [.ref a, .str g, .str k, .str w, .str t, .bl o] ∧ okG g k w t o ∧ H a = some (.ins C dx []) ∧ Q .non (upd H a (.ins C dx (fieldsG g k w t o)))
theorem le_sz {n : Nat} (h : n ≤ 100000) : n ≤ sizeLine := Nat.le_trans h (by decide)
theorem ok_GrantI {C aR : Addr} {dvs : List V} {kws : List (Str × V)} (F : FunD K "__init__" "Grant.__init__" (defArgs s_Grant_init) (defBody s_Grant_init) (defScope s_Grant_init) dvs kws f fd) (G : Chk P w K mg base)
    (c : Cls K C) (n1 : NoAttr K C "giver") (n2 : NoAttr K C "taker") (n3 : NoAttr K C "right") (n4 : NoAttr K C "thing") (n5 : NoAttr K C "option") (n6 : NoAttr K C "place") (gR : mg "RIGHTS" = some (.ref aR)) (hR : KTupN K aR rightsT) (mi : mg "int" = none) :
    FnOk P w K mg base CX0 4 f fd ["self", "giver", "taker", "right", "thing", "option"] (spGrant K C) := by
  refine F.ok sc_Grant_init (fun vs H Q E h => by obtain ⟨a, dx, g, k, wd, t, o, rfl, _⟩ := h; rfl) (fun cdv A outer s H vs Q E hr h => ?_)
  obtain ⟨a, dx, g, k, wd, t, o, rfl, ⟨tg, ng, tk, nk, ne, tw, nw, tt, nt, no⟩, ea, q⟩ := h
  refine ⟨_, PSs.nox (pss_cons (ps_expr (pe_df0 G.N (hr.mono (by decide)) (by rfl) (pa_cons (pv 1) pa_nil)))
    (pss_cons (ps_expr (pe_df0 G.Fr hr (by rfl) (pa_cons (pv 1) (pa_cons (pv 2) pa_nil))))
    (pss_cons (ps_expr (pe_df0 G.R (hr.mono (by decide)) (by rfl) (pa_cons (pv 3) pa_nil)))
    (pss_cons (ps_expr (pe_df0 G.N (hr.mono (by decide)) (by rfl) (pa_cons (pv 4) pa_nil)))
    (pss_cons (ps_expr (pe_df0 G.O (hr.mono (by decide)) (by rfl) (pa_cons (pv 5) (pa_cons (pv 2) pa_nil))))
    (pss_cons (ps_fld (pv 0) (pv 1) rfl) (pss_cons (ps_fld (pv 0) (pv 2) rfl) (pss_cons (ps_fld (pv 0) (pv 3) rfl) (pss_cons (ps_fld (pv 0) (pv 4) rfl) (pss_cons (ps_fld (pv 0) (pv 5) rfl)
    (pss_one (ps_fld (pv 0) (pe_joined (.cons (pe_fmt (pv 4)) (.cons pe_str (.cons (pe_fmt (pe_bm PySem.F.plainAttrs_tuple PySem.F.slot_tuple_index PySem.F.type_tuple_index mt_tup_index (pe_glob (v := .ref aR) (by rfl) gR rfl) (pa_cons (pv 3) pa_nil))) (.cons pe_str (.cons (pe_fmt (pv 1)) (.cons pe_str (.cons (pe_fmt (pv 2)) (.cons pe_str (.cons (pe_fmt (pe_callTy call_int1 (by rfl) mi (by decide +kernel) (pa_cons (pv 5) pa_nil))) .nil)))))))))) rfl)))))))))))), ?_⟩
  refine ⟨_, rfl, _, rfl, tg.od, ng, ?_⟩
  refine ⟨_, rfl, _, rfl, g, k, rfl, tk.od, nk, ne, ?_⟩
  refine ⟨_, rfl, _, rfl, tw.od, nw, ?_⟩
  refine ⟨_, rfl, _, rfl, tt.od, nt, ?_⟩
  refine ⟨_, rfl, _, rfl, o, _, rfl, tk.od, no, ?_⟩
  refine ⟨_, rfl, _, rfl, a, C, dx, _, rfl, ea, c, n1, by decide, ?_⟩
  refine ⟨_, rfl, _, rfl, a, C, dx, _, rfl, upd_same, c, n2, by show 1 < 1000; decide, ?_⟩
  refine ⟨_, rfl, _, rfl, a, C, dx, _, rfl, upd_same, c, n3, by show 2 < 1000; decide, ?_⟩
  refine ⟨_, rfl, _, rfl, a, C, dx, _, rfl, upd_same, c, n4, by show 3 < 1000; decide, ?_⟩
  refine ⟨_, rfl, _, rfl, a, C, dx, _, rfl, upd_same, c, n5, by show 4 < 1000; decide, ?_⟩
  obtain ⟨r5, r1, r2⟩ := rIx_ok nw
  have l1 := tt.1
  have l2 := tg.1
  have l3 := tk.1
  have e0 : Str.empty.length = 0 := rfl
  have e1 : (Str.ofString " ").length = 1 := rfl
  have d1 := dig_len _ r5
  have d2 := dig_b o
  refine ⟨_, rfl, .inl ⟨t, rfl, le_sz (by omega), _, rfl, le_sz (by simp only [app_len]; omega), ?_⟩⟩
  refine ⟨_, rfl, le_sz (by simp only [app_len]; omega), ?_⟩
  refine ⟨.inr (.inl ⟨rfl, hR.2⟩), _, rfl, aR, rightsT, wd, rIx wd, rfl, rfl, hR.1.sq, r1, r2, .inr ⟨_, rfl, dig_log _ r5, dig (rIx wd : Nat), rfl, le_sz (by simp only [app_len]; omega), ?_⟩⟩
  refine ⟨_, rfl, le_sz (by simp only [app_len]; omega), ?_⟩
  refine ⟨_, rfl, .inl ⟨g, rfl, le_sz (by omega), _, rfl, le_sz (by simp only [app_len]; omega), ?_⟩⟩
  refine ⟨_, rfl, le_sz (by simp only [app_len]; omega), ?_⟩
  refine ⟨_, rfl, .inl ⟨k, rfl, le_sz (by omega), _, rfl, le_sz (by simp only [app_len]; omega), ?_⟩⟩
  refine ⟨_, rfl, le_sz (by simp only [app_len]; omega), ?_⟩
  refine ⟨_, rfl, .inr ⟨_, rfl, .inr ⟨_, rfl, dig_logb o, dig (if o = true then 1 else 0), rfl, le_sz (by simp only [app_len]; omega), ?_⟩⟩⟩
  refine ⟨_, rfl, a, C, dx, _, rfl, upd_same, c, n6, by show 5 < 1000; decide, ?_⟩
  have up : ∀ {u v x y z : HO}, upd (upd (upd (upd (upd (upd H a u) a v) a x) a y) a z) a (.ins C dx (fieldsG g k wd t o)) = upd H a (.ins C dx (fieldsG g k wd t o)) := by
    intro u v x y z
    rw [upd_upd, upd_upd, upd_upd, upd_upd, upd_upd]
  rw [← up] at q
  exact q
def spDefault (K : PySem.W.Frag) (C : Addr) : Sp := fun vs H Q _ => ∃ (a dx : Addr) (m s w k : Str) (o : Bool), vs = [.ref a, .str m, .str s, .str w, .str k, .bl o] ∧ okF m s w k o ∧ H a = some (.ins C dx []) ∧ Q .non (upd H a (.ins C dx (fieldsF m s w k o)))
theorem ok_DefaultI {C aR aM : Addr} {dvs : List V} {kws : List (Str × V)} (F : FunD K "__init__" "Default.__init__" (defArgs s_Default_init) (defBody s_Default_init) (defScope s_Default_init) dvs kws f fd) (G : Chk P w K mg base)
    (c : Cls K C) (n1 : NoAttr K C "maker") (n2 : NoAttr K C "kind") (n3 : NoAttr K C "right") (n4 : NoAttr K C "taker") (n5 : NoAttr K C "option") (n6 : NoAttr K C "place") (gR : mg "RIGHTS" = some (.ref aR)) (hR : KTupN K aR rightsT) (gM : mg "MADE_KINDS" = some (.ref aM)) (hM : KTupN K aM [tTab, tFun]) (mi : mg "int" = none) :
    FnOk P w K mg base CX0 4 f fd ["self", "maker", "kind", "right", "taker", "option"] (spDefault K C) := by
  refine F.ok sc_Default_init (fun vs H Q E h => by obtain ⟨a, dx, g, k, wd, t, o, rfl, _⟩ := h; rfl) (fun cdv A outer s H vs Q E hr h => ?_)
  obtain ⟨a, dx, m, sd, wd, k, o, rfl, ⟨tm, nm, ts, hs, tw, hw, tk, nk, ne, no⟩, ea, q⟩ := h
  have nw : (kindT wd).isSome = true := by rw [hw]; rfl
  have hm : isMade (.str sd) = true := by
    rcases hs with e | e <;> rw [e] <;> decide +kernel
  refine ⟨_, PSs.nox (pss_cons (ps_expr (pe_df0 G.N (hr.mono (by decide)) (by rfl) (pa_cons (pv 1) pa_nil)))
    (pss_cons (ps_expr (pe_df0 G.M (hr.mono (by decide)) (by rfl) (pa_cons (pv 2) pa_nil)))
    (pss_cons (ps_expr (pe_df0 G.On hr (by rfl) (pa_cons (pv 2) (pa_cons (pv 3) pa_nil))))
    (pss_cons (ps_expr (pe_df0 G.Fr hr (by rfl) (pa_cons (pv 1) (pa_cons (pv 4) pa_nil))))
    (pss_cons (ps_expr (pe_df0 G.O (hr.mono (by decide)) (by rfl) (pa_cons (pv 5) (pa_cons (pv 4) pa_nil))))
    (pss_cons (ps_fld (pv 0) (pv 1) rfl) (pss_cons (ps_fld (pv 0) (pv 2) rfl) (pss_cons (ps_fld (pv 0) (pv 3) rfl) (pss_cons (ps_fld (pv 0) (pv 4) rfl) (pss_cons (ps_fld (pv 0) (pv 5) rfl)
    (pss_one (ps_fld (pv 0) (pe_joined (.cons (pe_fmt (pv 1)) (.cons pe_str (.cons (pe_fmt (pe_bm PySem.F.plainAttrs_tuple PySem.F.slot_tuple_index PySem.F.type_tuple_index mt_tup_index (pe_glob (v := .ref aM) (by rfl) gM rfl) (pa_cons (pv 2) pa_nil))) (.cons pe_str (.cons (pe_fmt (pe_bm PySem.F.plainAttrs_tuple PySem.F.slot_tuple_index PySem.F.type_tuple_index mt_tup_index (pe_glob (v := .ref aR) (by rfl) gR rfl) (pa_cons (pv 3) pa_nil))) (.cons pe_str (.cons (pe_fmt (pv 4)) (.cons pe_str (.cons (pe_fmt (pe_callTy call_int1 (by rfl) mi (by decide +kernel) (pa_cons (pv 5) pa_nil))) .nil)))))))))) rfl)))))))))))), ?_⟩
  refine ⟨_, rfl, _, rfl, tm.od, nm, ?_⟩
  refine ⟨_, rfl, _, rfl, ts.od, hm, ?_⟩
  refine ⟨_, rfl, _, rfl, wd, sd, rfl, tw.od, hw, ?_⟩
  refine ⟨_, rfl, _, rfl, m, k, rfl, tk.od, nk, ne, ?_⟩
  refine ⟨_, rfl, _, rfl, o, _, rfl, tk.od, no, ?_⟩
  refine ⟨_, rfl, _, rfl, a, C, dx, _, rfl, ea, c, n1, by decide, ?_⟩
  refine ⟨_, rfl, _, rfl, a, C, dx, _, rfl, upd_same, c, n2, by show 1 < 1000; decide, ?_⟩
  refine ⟨_, rfl, _, rfl, a, C, dx, _, rfl, upd_same, c, n3, by show 2 < 1000; decide, ?_⟩
  refine ⟨_, rfl, _, rfl, a, C, dx, _, rfl, upd_same, c, n4, by show 3 < 1000; decide, ?_⟩
  refine ⟨_, rfl, _, rfl, a, C, dx, _, rfl, upd_same, c, n5, by show 4 < 1000; decide, ?_⟩
  obtain ⟨r5, r1, r2⟩ := rIx_ok nw
  obtain ⟨k2, m1, m2⟩ := kIx_ok hs
  have l2 := tm.1
  have l3 := tk.1
  have e0 : Str.empty.length = 0 := rfl
  have e1 : (Str.ofString " ").length = 1 := rfl
  have d1 := dig_len _ r5
  have d3 := dig_len (kIx sd) (by omega)
  have d2 := dig_b o
  refine ⟨_, rfl, .inl ⟨m, rfl, le_sz (by omega), _, rfl, le_sz (by simp only [app_len]; omega), ?_⟩⟩
  refine ⟨_, rfl, le_sz (by simp only [app_len]; omega), ?_⟩
  refine ⟨.inr (.inl ⟨rfl, hM.2⟩), _, rfl, aM, [tTab, tFun], sd, kIx sd, rfl, rfl, hM.1.sq, m1, m2, .inr ⟨_, rfl, dig_log _ (by omega), dig (kIx sd : Nat), rfl, le_sz (by simp only [app_len]; omega), ?_⟩⟩
  refine ⟨_, rfl, le_sz (by simp only [app_len]; omega), ?_⟩
  refine ⟨.inr (.inl ⟨rfl, hR.2⟩), _, rfl, aR, rightsT, wd, rIx wd, rfl, rfl, hR.1.sq, r1, r2, .inr ⟨_, rfl, dig_log _ r5, dig (rIx wd : Nat), rfl, le_sz (by simp only [app_len]; omega), ?_⟩⟩
  refine ⟨_, rfl, le_sz (by simp only [app_len]; omega), ?_⟩
  refine ⟨_, rfl, .inl ⟨k, rfl, le_sz (by omega), _, rfl, le_sz (by simp only [app_len]; omega), ?_⟩⟩
  refine ⟨_, rfl, le_sz (by simp only [app_len]; omega), ?_⟩
  refine ⟨_, rfl, .inr ⟨_, rfl, .inr ⟨_, rfl, dig_logb o, dig (if o = true then 1 else 0), rfl, le_sz (by simp only [app_len]; omega), ?_⟩⟩⟩
  refine ⟨_, rfl, a, C, dx, _, rfl, upd_same, c, n6, by show 5 < 1000; decide, ?_⟩
  have up : ∀ {u v x y z : HO}, upd (upd (upd (upd (upd (upd H a u) a v) a x) a y) a z) a (.ins C dx (fieldsF m sd wd k o)) = upd H a (.ins C dx (fieldsF m sd wd k o)) := by
    intro u v x y z
    rw [upd_upd, upd_upd, upd_upd, upd_upd, upd_upd]
  rw [← up] at q
  exact q
/-- == of a grant with what is none -/
def RGo (K : PySem.W.Frag) (C : Addr) : Addr → V → Hp → Bool → Prop := fun a y H k => ∃ t, TyX K H y t ∧ PySem.W.kitOne K t (.ref C) = some false ∧ k = false
theorem ok_GrantE {C : Addr} (F : Fun K "__eq__" "Grant.__eq__" s_Grant_eq f fd) (gC : mg "Grant" = some (.ref C)) (mi : mg "isinstance" = none) : FnOk P w K mg base CX0 1 f fd ["self", "other"] (spEqB (RGo K C)) := by
  refine F.ok sc_Grant_eq spEqB_len (fun cdv A outer s H vs Q E hr h => ?_)
  obtain ⟨a, y, kb, rfl, ⟨t0, ty, kf, rfl⟩, q⟩ := h
  refine ⟨_, PSs.nox (pss_one (ps_ret (pe_and (pe_callB call_isi (by rfl) mi boot_isinstance (pa_cons (pv 1) (pa_cons (pe_glob (v := .ref C) (by rfl) gC rfl) pa_nil))) (pe_one pe_never)))), ?_⟩
  refine ⟨_, rfl, y, .ref C, t0, .ref C, _, rfl, .own _, ty, kf, _, rfl, ?_⟩
  exact iteF (q H Ext.rfl')
end
end K06
set_option maxHeartbeats 4000000
namespace K06
open PySem PySem.Spec PyProof.Rows L2 RL RE RN RM TL RQ
section
variable {P : Program} {w : World} {K : PySem.W.Frag} {mg : Str → Option Value} {base : Heap}
/-! ### cells and boxes -/
def spCell (K : PySem.W.Frag) : Sp := fun vs H Q _ => ∃ (a : Addr) (ns : List Int) (k : Nat), vs = [.ref a, .int k] ∧ SqL K H a (ns.map V.int) ∧ k < 1000 ∧ ns.length < 1000 ∧ ∀ v : Int, Q (.int v) H
theorem ok_cell {f : Addr} {fd : FuncData} (F : Fun K "_law_cell" "_law_cell" s__law_cell f fd) (ml : mg "len" = none) : FnOk P w K mg base CX0 1 f fd ["_law_script", "_law_k"] (spCell K) := by
  refine F.ok sc__law_cell (fun vs H Q E h => ?_) (fun cdv A outer s H vs Q E hr h => ?_)
  · obtain ⟨a, ns, k, rfl, _⟩ := h
    rfl
  · obtain ⟨a, ns, k, rfl, hS, hk, hl, q⟩ := h
    refine ⟨_, pss_one (ps_ret (pe_ifExp (pt_cmpR op_lt (pv 1) (pe_callB call_len_seq (by rfl) ml PySem.boot_len (pa_cons (pv 0) pa_nil)) (nomark _)) (pe_ix ix_list (pv 0) (pv 1) (fun _ _ => rfl)) (pe_op op_add (pe_op op_mul pe_int (pv 1)) pe_int))), ?_⟩
    refine ⟨_, rfl, .ref a, rfl, a, ns.map V.int, rfl, .inl hS, (k : Int), _, rfl, rfl, _, rfl, ?_⟩
    refine ite2 (fun e => ?_) (fun e => ?_)
    · have h1 := of_decide_eq_true e
      rw [List.length_map] at h1
      have h2 : k < ns.length := by omega
      refine ⟨_, rfl, _, rfl, a, _, (k : Int), .int ns[k], rfl, rfl, hS, ?_, q _⟩
      exact atI_nat (by rw [List.getElem?_map, List.getElem?_eq_getElem h2]; rfl)
    · exact ⟨_, rfl, 7231, (k : Int), rfl, rfl, .inl ⟨by decide, by decide⟩, 7231 * (k : Int), 353, rfl, rfl, q _⟩
def Bx (H : Hp) (b : Addr) (n : Int) : Prop := ∃ g m k : Int, H b = some (.lst [.int g, .int m, .int k]) ∧ 0 ≤ g ∧ 0 ≤ m ∧ m < 2147483629 ∧ 0 ≤ k ∧ k ≤ n
theorem Bx.mono {H : Hp} {b : Addr} {n n' : Int} (h : Bx H b n) (hn : n ≤ n') : Bx H b n' := by
  obtain ⟨g, m, k, e, h1, h2, h3, h4, h5⟩ := h
  exact ⟨g, m, k, e, h1, h2, h3, h4, by omega⟩
theorem Bx.same {H H' : Hp} {b : Addr} {n : Int} (h : Bx H b n) (s : Same H H') : Bx H' b n := by
  obtain ⟨g, m, k, e, r⟩ := h
  exact ⟨g, m, k, s _ _ e, r⟩
def spBox : Sp := fun vs H Q _ => ∃ v : Int, vs = [.int v] ∧ ∀ p H', H p = none → Same H H' → Bx H' p 0 → Q (.ref p) H'
theorem ok_box {f : Addr} {fd : FuncData} (F : Fun K "_law_box" "_law_box" s__law_box f fd) (mm : mg "max" = none) : FnOk P w K mg base CX0 1 f fd ["_law_cell_here"] spBox := by
  refine F.ok sc__law_box (fun vs H Q E h => ?_) (fun cdv A outer s H vs Q E hr h => ?_)
  · obtain ⟨v, rfl, _⟩ := h
    rfl
  · obtain ⟨v, rfl, q⟩ := h
    refine ⟨_, pss_one (ps_ret (pe_lst (pa_cons (pe_callB (call_max2 rfl) (by rfl) mm PyProof.Rows.boot_max (pa_cons pe_int (pa_cons (pe_op op_sub (pv 0) (pe_op op_pow pe_int pe_int)) pa_nil))) (pa_cons (pe_op op_mod (pv 0) pe_int) (pa_cons pe_int pa_nil))))), ?_⟩
    refine ⟨_, rfl, 10, 18, rfl, rfl, ⟨by decide, by decide, by decide⟩, v, _, rfl, rfl, 0, _, rfl, ?_⟩
    refine ⟨_, rfl, v, 2147483629, rfl, rfl, by show (0 : Int) < 2147483629; decide, ?_⟩
    refine ⟨by show 3 ≤ sizeLine; decide, fun p np => ?_⟩
    refine q p _ np (same_upd np) ⟨_, _, 0, upd_same, ?_, Int.emod_nonneg _ (by decide), Int.emod_lt_of_pos _ (by decide), by decide, by decide⟩
    split <;> omega
/-! ### a draw -/
def spTake : Sp := fun vs H Q _ => ∃ (b : Addr) (q : Int) (n : Int), vs = [.ref b, .int q] ∧ 1 ≤ q ∧ q ≤ 1000000 ∧ 0 ≤ n ∧ n ≤ 100000 ∧ Bx H b n ∧ ∀ d H', 0 ≤ d → d < q → Keep b H H' → Bx H' b (n + 1) → Q (.int d) H'
theorem ok_take {f : Addr} {fd : FuncData} (F : Fun K "_law_take" "_law_take" s__law_take f fd) : FnOk P w K mg base CX0 1 f fd ["_law_box_here", "_law_many"] spTake := by
  refine F.ok sc__law_take (fun vs H Q E h => ?_) (fun cdv A outer s H vs Q E hr h => ?_)
  · obtain ⟨b, q, n, rfl, _⟩ := h
    rfl
  · obtain ⟨b, m, n, rfl, m1, m2, n1, n2, ⟨g, x, k, eb, g0, x0, x1, k0, k1⟩, q⟩ := h
    refine ⟨_, pss_cons (ps_if (pt_cmpR op_gt (pe_ix ix_list (pv 0) pe_int (fun _ _ => rfl)) pe_int (nomark _))
        (pss_cons (ps_set (i := 2) sc__law_take.nd rfl (.inl rfl) (pe_op op_mod (pe_ix ix_list (pv 0) pe_int (fun _ _ => rfl)) (pv 1)))
        (pss_cons (ps_asg (pe_op op_fdiv (pe_ix ix_list (pv 0) pe_int (fun _ _ => rfl)) (pv 1)) (pg_sub (pv 0) pe_int set_list))
        (pss_one (ps_ret (pv 2))))) pss_nil)
      (pss_cons (ps_asg (pe_op op_add (pe_ix ix_list (pv 0) pe_int (fun _ _ => rfl)) pe_int) (pg_sub (pv 0) pe_int set_list))
      (pss_cons (ps_set (i := 3) sc__law_take.nd rfl (.inl rfl) (pe_op op_mod (pe_op op_pow (pe_op op_add (pe_op op_add (pe_ix ix_list (pv 0) pe_int (fun _ _ => rfl)) (pe_op op_mul pe_int (pe_ix ix_list (pv 0) pe_int (fun _ _ => rfl)))) pe_int) pe_int) pe_int))
      (pss_cons (ps_set (i := 3) sc__law_take.nd rfl (.inl rfl) (pe_op op_mod (pe_op op_pow (pe_op op_add (pv 3) (pe_op op_mul pe_int (pe_ix ix_list (pv 0) pe_int (fun _ _ => rfl)))) pe_int) pe_int))
      (pss_one (ps_ret (pe_op op_mod (pe_op op_fdiv (pv 3) pe_int) (pv 1))))))), ?_⟩
    have L : SqL K H b [.int g, .int x, .int k] := SqL.of eb
    refine ⟨_, rfl, b, _, 0, .int g, rfl, rfl, L, atI_nat (j := 0) rfl, g, 0, rfl, rfl, _, rfl, ite2 (fun e => ?_) (fun e => ?_)⟩
    · have hg := of_decide_eq_true e
      refine ⟨_, rfl, b, _, 0, .int g, rfl, rfl, L, atI_nat (j := 0) rfl, _, rfl, g, m, rfl, rfl, by show 0 < m; omega, ?_⟩
      refine ⟨_, rfl, b, _, 0, .int g, rfl, rfl, L, atI_nat (j := 0) rfl, _, rfl, g, m, rfl, rfl, ⟨by omega, by omega⟩, ?_⟩
      refine ⟨_, rfl, b, _, _, 0, rfl, rfl, eb, rfl, ?_⟩
      refine ⟨_, rfl, q _ _ (Int.emod_nonneg _ (by omega)) (Int.emod_lt_of_pos _ (by omega)) Keep.upd ⟨g / m, x, k, upd_same, Int.ediv_nonneg (by omega) (by omega), x0, x1, k0, by omega⟩⟩
    · refine ⟨_, rfl, b, _, 2, .int k, rfl, rfl, L, atI_nat (j := 2) rfl, k, 1, rfl, rfl, ?_⟩
      refine ⟨_, rfl, b, _, _, 2, rfl, rfl, eb, rfl, ?_⟩
      have L2 : SqL K (upd H b (.lst [.int g, .int x, .int (k + 1)])) b [.int g, .int x, .int (k + 1)] := SqL.of upd_same
      refine ⟨_, rfl, b, _, 1, .int x, rfl, rfl, L2, atI_nat (j := 1) rfl, _, rfl, b, _, 2, .int (k + 1), rfl, rfl, L2, atI_nat (j := 2) rfl, 6211, k + 1, rfl, rfl, .inl ⟨by decide, by decide⟩, x, _, rfl, rfl, _, 467, rfl, rfl, _, 5, rfl, rfl, ⟨by decide, by decide, by omega⟩, _, 2147483647, rfl, rfl, by show (0 : Int) < 2147483647; decide, ?_⟩
      have b0 := Int.emod_nonneg ((x + 6211 * (k + 1) + 467) ^ (5 : Int).toNat) (show (2147483647 : Int) ≠ 0 by decide)
      have b1 := Int.emod_lt_of_pos ((x + 6211 * (k + 1) + 467) ^ (5 : Int).toNat) (show (0 : Int) < 2147483647 by decide)
      generalize hy : (x + 6211 * (k + 1) + 467) ^ (5 : Int).toNat % 2147483647 = y at b0 b1
      refine ⟨_, rfl, _, rfl, b, _, 2, .int (k + 1), rfl, rfl, L2, atI_nat (j := 2) rfl, 104729, k + 1, rfl, rfl, .inl ⟨by decide, by decide⟩, y, _, by show V.int (_ % _) = _; rw [hy], rfl, _, 3, rfl, rfl, ⟨by decide, by decide, by omega⟩, _, 2147483587, rfl, rfl, by show (0 : Int) < 2147483587; decide, ?_⟩
      refine ⟨_, rfl, _, 16, rfl, rfl, ⟨by decide, by decide⟩, _, rfl, _, m, rfl, rfl, by show 0 < m; omega, ?_⟩
      exact q _ _ (Int.emod_nonneg _ (by omega)) (Int.emod_lt_of_pos _ (by omega)) Keep.upd ⟨g, x, k + 1, upd_same, g0, x0, x1, by omega, by omega⟩
end
end K06
set_option maxHeartbeats 4000000
namespace K06
open PySem PySem.Spec PyProof.Rows L2 RL RE RN RM TL RQ
/-- all signs of a text are such -/
def okP (p : Nat → Bool) (z : Str) : Prop := ∀ x ∈ tl z, p x = true
def stemC (x : Nat) : Bool := lowC x && decide (x ≠ 108)
theorem okP_joinL {p : Nat → Bool} {S : List Nat} (hS : ∀ x ∈ S, p x = true) : ∀ ps : List (List Nat), (∀ q ∈ ps, ∀ x ∈ q, p x = true) → ∀ x ∈ joinL S ps, p x = true
  | [], _, x, h => by cases h
  | [q], hp, x, h => hp q (List.mem_cons_self ..) x h
  | q :: r :: t, hp, x, h => by
    have h : x ∈ q ++ (S ++ joinL S (r :: t)) := h
    rcases List.mem_append.mp h with h | h
    · exact hp q (List.mem_cons_self ..) x h
    · rcases List.mem_append.mp h with h | h
      · exact hS x h
      · exact okP_joinL hS (r :: t) (fun z hz => hp z (List.mem_cons_of_mem _ hz)) x h
theorem okP_join {p : Nat → Bool} {ys : List Str} (hy : ∀ y ∈ ys, okP p y) : okP p (Txt.join (Str.ofString "") ys) := by
  unfold okP
  rw [join_eq, tl_join]
  refine okP_joinL (fun x h => (by cases h)) _ fun q hq => ?_
  obtain ⟨y, h, rfl⟩ := List.mem_map.mp hq
  exact hy y h
theorem joinL_len : ∀ ps : List (List Nat), (∀ q ∈ ps, q.length = 1) → (joinL [] ps).length = ps.length
  | [], _ => rfl
  | [q], h => h q (List.mem_cons_self ..)
  | q :: r :: t, h => by
    have e : joinL [] (q :: r :: t) = q ++ ([] ++ joinL [] (r :: t)) := rfl
    rw [e, List.length_append, List.nil_append, joinL_len (r :: t) fun z hz => h z (List.mem_cons_of_mem _ hz), h q (List.mem_cons_self ..), List.length_cons, List.length_cons, List.length_cons]
    omega
theorem join1_len {ys : List Str} (h : ∀ y ∈ ys, y.length = 1) : (Txt.join (Str.ofString "") ys).length = ys.length := by
  rw [len_tl, join_eq, tl_join]
  show (joinL [] _).length = _
  rw [joinL_len _ (fun q hq => by obtain ⟨y, hy, rfl⟩ := List.mem_map.mp hq; rw [← len_tl]; exact h y hy), List.length_map]
theorem cut_okP {p : Nat → Bool} {z : Str} (h : okP p z) (a b : Option Int) : okP p (cutS z a b) := by
  intro x hx
  unfold cutS tl at hx
  have hx : x ∈ List.take _ (List.drop _ z.cps.toList) := hx
  exact h x (List.mem_of_mem_drop (List.mem_of_mem_take hx))
theorem app_okP {p : Nat → Bool} {x y : Str} (hx : okP p x) (hy : okP p y) : okP p (x ++ y) := by
  intro c hc
  have hc : c ∈ (x.cps ++ y.cps).toList := hc
  rw [Array.toList_append] at hc
  exact (List.mem_append.mp hc).elim (hx c) (hy c)
theorem okP.imp {p q : Nat → Bool} {z : Str} (h : okP p z) (i : ∀ x, p x = true → q x = true) : okP q z := fun x hx => i x (h x hx)
theorem stem_low {z : Str} (h : okP stemC z) : okP lowC z := h.imp fun x e => (Bool.and_eq_true_iff.mp e).1
theorem cut_two (z : Str) {a : Int} (ha : 0 ≤ a) : (cutS z none (some a)).length + (cutS z (some a) none).length = z.length := by
  unfold cutS
  have e1 : HT.sIx z.length 0 (some a) = min a.toNat z.length := by
    show (if a < 0 then _ else _) = _
    rw [if_neg (by omega)]
  have e2 : HT.sIx z.length z.length (some a) = min a.toNat z.length := by
    show (if a < 0 then _ else _) = _
    rw [if_neg (by omega)]
  rw [e1, e2]
  show (List.toArray _).size + (List.toArray _).size = _
  have e3 : HT.sIx z.length 0 none = 0 := rfl
  have e4 : HT.sIx z.length z.length none = z.length := rfl
  rw [e3, e4, List.size_toArray, List.size_toArray, List.length_take, List.length_drop, List.length_take, List.length_drop]
  have : z.cps.toList.length = z.length := Array.length_toList
  omega
/-- a name by its signs -/
theorem name_of {z : Str} (h1 : 1 ≤ z.length) (h8 : z.length ≤ 8) (hl : okP lowC z) (p : z ≠ tPub) (c : z ≠ tCal) : nameT z = true := by
  unfold nameT
  rw [decide_eq_true h1, decide_eq_true h8, List.all_eq_true.mpr hl, beq_eq_false_iff_ne.mpr p, beq_eq_false_iff_ne.mpr c]
  rfl
/-- one letter ahead of a text without l -/
theorem tail_ne {c : Nat} {z : Str} (h : okP stemC z) : (⟨#[c]⟩ : Str) ++ z ≠ tPub ∧ (⟨#[c]⟩ : Str) ++ z ≠ tCal := by
  have e : tl ((⟨#[c]⟩ : Str) ++ z) = c :: tl z := by
    show (#[c] ++ z.cps).toList = _
    rw [Array.toList_append]
    rfl
  have key : ∀ w : Str, 108 ∈ (tl w).tail → (⟨#[c]⟩ : Str) ++ z ≠ w := fun w hw q => by
    rw [← q, e] at hw
    have := h 108 hw
    revert this
    decide
  exact ⟨key _ (by decide +kernel), key _ (by decide +kernel)⟩
theorem txt_low {z : Str} (h : z.length ≤ 8) (hl : okP lowC z) : txt z := ⟨by omega, fun x hx => by
  have := hl x hx
  simp only [lowC, Bool.and_eq_true, decide_eq_true_eq] at this
  omega⟩
end K06
set_option maxHeartbeats 4000000
namespace K06
open PySem PySem.Spec PyProof.Rows L2 RL RE RN RM TL RQ
theorem cut_len (z : Str) (a b : Option Int) : (cutS z a b).length ≤ z.length := by
  unfold cutS
  show (List.toArray _).size ≤ z.cps.size
  rw [List.size_toArray, List.length_take, List.length_drop]
  have : z.cps.toList.length = z.cps.size := Array.length_toList
  omega
theorem sz {n : Nat} (h : n ≤ 1000) : n ≤ sizeLine := Nat.le_trans h (by decide)
abbrev stems : Str := Str.ofString "abcdefghijkmnopqrstuvwxyz"
abbrev letters : Str := Str.ofString "abcdefghijklmnopqrstuvwxyz"
theorem stems_len : stems.cps.toList.length = 25 := by decide +kernel
theorem letters_len : letters.cps.toList.length = 26 := by decide +kernel
theorem stems_ok : ∀ x ∈ stems.cps.toList, stemC x = true := by
  have h : (stems.cps.toList.all stemC) = true := by decide +kernel
  exact fun x hx => List.all_eq_true.mp h x hx
theorem letters_ok : ∀ x ∈ letters.cps.toList, lowC x = true := by
  have h : (letters.cps.toList.all lowC) = true := by decide +kernel
  exact fun x hx => List.all_eq_true.mp h x hx
theorem okP_one {p : Nat → Bool} {c : Nat} (h : p c = true) : okP p ⟨#[c]⟩ := fun x hx => by
  have : x = c := by simpa [tl] using hx
  rw [this]; exact h
theorem sum1 {ys : List Str} (h1 : ∀ y ∈ ys, y.length = 1) : (ys.map (·.length)).sum = ys.length := by
  induction ys with
  | nil => rfl
  | cons a r ih =>
    rw [List.map_cons, List.sum_cons, h1 a (List.mem_cons_self ..), ih fun y hy => h1 y (List.mem_cons_of_mem _ hy), List.length_cons, Nat.add_comm]
theorem atI_int {α : Type} {xs : List α} {i : Int} {v : α} (h0 : 0 ≤ i) (h : xs[i.toNat]? = some v) : atI xs i = some v := by
  have e : i = ((i.toNat : Nat) : Int) := by omega
  generalize i.toNat = j at e h
  subst e
  exact atI_nat h
section
variable {P : Program} {w : World} {K : PySem.W.Frag} {mg : Str → Option Value} {base : Heap} {f : Addr} {fd : FuncData}
def spNames : Sp := fun vs H Q _ => ∃ (b : Addr) (n : Int) (m : Nat), vs = [.ref b, .int m] ∧ m ≤ 20 ∧ 0 ≤ n ∧ n ≤ 90000 ∧ Bx H b n ∧ ∀ (p : Addr) (ys : List Str) H', ys.length = m → (∀ y ∈ ys, nameT y = true ∧ txt y ∧ y.length ≤ 7) → H p = none → H' p = some (.lst (ys.map V.str)) → Keep b H H' → Bx H' b (n + 9) → Q (.ref p) H'
theorem ok_names (F : Fun K "_law_names" "_law_names" s__law_names f fd) (GT : Df P w K mg base CX0 1 "_law_take" ["_law_box_here", "_law_many"] spTake) (mr : mg "range" = none) : FnOk P w K mg base CX0 2 f fd ["_law_box_here", "_law_many"] spNames := by
  refine F.ok sc__law_names (fun vs H Q E h => by obtain ⟨b, n, m, rfl, _⟩ := h; rfl) (fun cdv A outer s H vs Q E hr h => ?_)
  obtain ⟨b, n, m, rfl, m20, n0, n1, hb, q⟩ := h
  refine ⟨_, PSs.nox (pss_cons (ps_asg (pe_tup (pa_cons pe_str (pa_cons pe_str pa_nil))) (pg_tup (by rfl) (pgs_cons (pg_name (i := 2) sc__law_names.nd rfl (.inl rfl)) (pgs_cons (pg_name (i := 3) sc__law_names.nd rfl (.inr rfl)) pgs_nil))))
    (pss_cons (ps_par3 (i := 4) (j := 5) (l := 6) rfl sc__law_names.nd rfl rfl rfl (by decide) (by decide) (by decide) rfl rfl rfl (pa_cons (pe_df0 GT hr (by rfl) (pa_cons (pv 0) (pa_cons pe_int pa_nil))) (pa_cons (pe_df0 GT hr (by rfl) (pa_cons (pv 0) (pa_cons pe_int pa_nil))) (pa_cons (pe_df0 GT hr (by rfl) (pa_cons (pv 0) (pa_cons pe_int pa_nil))) pa_nil))) (by rfl))
    (pss_cons (ps_set (i := 7) sc__law_names.nd rfl (.inl rfl) (pe_join pe_str (pe_lc (own := [("_law_k", 11)]) (g := gName 11) (by rfl) sc__law_names.nd (pi_range1 (by rfl) mr (pa_cons pe_int pa_nil))
          (blkOk_by (own := [("_law_k", 11)]) (N := N__law_names) (sc := defScope s__law_names) (by decide +kernel)) (fun _ _ _ _ _ => pg_name (i := 11) sc__law_names.nd rfl (Or.inl rfl)) (fun _ _ _ _ _ => pts_nil)
          (fun _ _ _ _ _ => pe_ix ix_str (pv 3) (pe_df0 GT hr (by rfl) (pa_cons (pv 0) (pa_cons pe_int pa_nil))) (fun _ _ => rfl)))))
    (pss_cons (ps_set (i := 8) sc__law_names.nd rfl (.inl rfl) (pe_lst pa_nil))
    (pss_cons (ps_for PassesOwn.never rfl (pi_range1 (by rfl) mr (pa_cons (pv 1) pa_nil)) (pg_name (i := 11) sc__law_names.nd rfl (Or.inl rfl))
      (pss_cons (ps_set (i := 9) sc__law_names.nd rfl (.inl rfl) (pe_ix ix_str (pv 2) (pe_op op_mod (pe_op op_add (pv 5) (pe_op op_mul pe_int (pv 11))) pe_int) (fun _ _ => rfl)))
      (pss_cons (ps_set (i := 10) sc__law_names.nd rfl (.inl rfl) (pe_ix ix_str (pv 2) (pe_op op_mod (pe_op op_add (pv 5) (pe_op op_fdiv (pv 11) pe_int)) pe_int) (fun _ _ => rfl)))
      (pss_one (ps_expr (pe_bm PySem.F.plainAttrs_list PySem.F.slot_list_append PySem.F.type_list_append mt_append (pv 8)
        (pa_cons (pe_ix ix_list (pe_lst (pa_cons (pe_op op_add_str (pe_op op_add_str (pe_slice sl_str (pv 7) po_none (po_some (pv 6))) (pv 9)) (pe_slice sl_str (pv 7) (po_some (pv 6)) po_none))
          (pa_cons (pe_op op_add_str (pv 9) (pe_slice sl_str (pv 7) po_none (po_some (pe_op op_mod (pv 11) pe_int))))
          (pa_cons (pe_op op_add_str (pv 10) (pe_slice sl_str (pv 7) po_none (po_some (pe_op op_mod (pv 11) pe_int)))) pa_nil)))) (pv 4) (fun _ _ => rfl)) pa_nil)))))))
    (pss_one (ps_ret (pv 8)))))))), ?_⟩
  refine ⟨by show 2 ≤ sizeLine; decide, fun T nT => ?_⟩
  refine ⟨T, _, rfl, .inl (.inl upd_same), rfl, _, _, rfl, _, _, rfl, rfl, ?_⟩
  have hb := hb.same (same_upd (o := .tup [.str (Str.ofString "abcdefghijklmnopqrstuvwxyz"), .str (Str.ofString "abcdefghijkmnopqrstuvwxyz")]) nT)
  have s0 := same_upd (H := H) (o := .tup [.str (Str.ofString "abcdefghijklmnopqrstuvwxyz"), .str (Str.ofString "abcdefghijkmnopqrstuvwxyz")]) nT
  generalize upd H T (.tup [.str (Str.ofString "abcdefghijklmnopqrstuvwxyz"), .str (Str.ofString "abcdefghijkmnopqrstuvwxyz")]) = H0 at hb s0
  refine ⟨_, rfl, b, 3, n, rfl, by decide, by decide, n0, by omega, hb, fun way H1 w0 w1 k1 hb1 => ?_⟩
  refine ⟨_, rfl, b, 26, n + 1, rfl, by decide, by decide, by omega, by omega, hb1, fun first H2 f0 f1 k2 hb2 => ?_⟩
  refine ⟨_, rfl, b, 7, n + 1 + 1, rfl, by decide, by decide, by omega, by omega, hb2, fun at_ H3 a0 a1 k3 hb3 => ?_⟩
  refine ⟨_, _, _, rfl, ?_⟩
  refine ⟨⟨_, rfl⟩, 6, rfl, by decide, by decide, fun D nD => ?_⟩
  have nDb : D ≠ b := fun e => by
    obtain ⟨g0, m0, c0, eb1, hb1r⟩ := id hb3
    rw [e, eb1] at nD
    cases nD
  refine lc_range (lo := 0) (n := 6) (fun i H' => ∃ ys : List Str, H' D = some (.lst (ys.map V.str)) ∧ ys.length = i ∧ (∀ y ∈ ys, y.length = 1) ∧ (∀ y ∈ ys, okP stemC y) ∧ Keep b H3 H' ∧ Bx H' b (n + 3 + (i : Int))) ?_ ?_ ?_
  · refine ⟨[], upd_same, rfl, (fun _ h => nomatch h), (fun _ h => nomatch h), Keep.new nD, ?_⟩
    exact (hb3.same (same_upd nD)).mono (by omega)
  · intro i H4 hi h2
    obtain ⟨ys, eD, el, e1, o1, k4, hb4⟩ := h2
    refine ⟨rfl, ?_⟩
    unfold tYes
    refine iteT ?_
    refine ⟨_, rfl, _, rfl, b, 25, n + 3 + (i : Int), rfl, by decide, by decide, by omega, by omega, hb4, fun d2 H5 d20 d21 k5 hb5 => ?_⟩
    have hlt : d2.toNat < stems.cps.toList.length := by rw [stems_len]; omega
    refine ⟨stems, d2, stems.cps.toList[d2.toNat], rfl, rfl, by decide +kernel, atI_int d20 (List.getElem?_eq_getElem hlt), ?_⟩
    refine ⟨ys.map V.str, k5 _ _ nDb eD, ?_, ys ++ [⟨#[stems.cps.toList[d2.toNat]]⟩], ?_, ?_, ?_, ?_, ?_, ?_⟩
    · rw [List.length_map]
      exact Nat.lt_of_lt_of_le (show ys.length < 1000 by omega) (by decide)
    · rw [upd_same, List.map_append]; rfl
    · rw [List.length_append, el]; rfl
    · intro y hy
      rcases List.mem_append.mp hy with h | h
      · exact e1 y h
      · rw [List.mem_singleton.mp h]; rfl
    · intro y hy
      rcases List.mem_append.mp hy with h | h
      · exact o1 y h
      · rw [List.mem_singleton.mp h]; exact okP_one (stems_ok _ (List.getElem_mem hlt))
    · intro a o na ea
      have haD : a ≠ D := fun z => by rw [z, nD] at ea; cases ea
      rw [upd_ne haD]
      exact k5 a o na (k4 a o na ea)
    · obtain ⟨g, m, k, e, r1, r2, r3, r4, r5⟩ := hb5
      exact ⟨g, m, k, by rw [upd_ne nDb.symm]; exact e, r1, r2, r3, r4, by omega⟩
  · intro H4 h2
    obtain ⟨ys, eD, el, e1, o1, k4, hb4⟩ := h2
    refine ⟨_, D, ys, rfl, rfl, .inl (SqL.of eD), ?_, ?_⟩
    · rw [sum1 e1, el]
      decide
    have hz6 : (Txt.join (Str.ofString "") ys).length = 6 := (join1_len e1).trans el
    have hz : (Txt.join (Str.ofString "") ys).length ≤ 6 := Nat.le_of_eq hz6
    have oz : okP stemC (Txt.join (Str.ofString "") ys) := okP_join o1
    generalize Txt.join (Str.ofString "") ys = stem at hz6 hz oz
    have kA : Keep b H0 H4 := ((k1.trans k2).trans k3).trans k4
    refine ⟨by show 0 ≤ sizeLine; decide, fun L nL => ?_⟩
    have nLb : L ≠ b := fun e => by
      obtain ⟨g0, m0, c0, eb1, hb1r⟩ := id hb4
      rw [e, eb1] at nL
      cases nL
    have hb5 := hb4.same (same_upd (o := .lst []) nL)
    have kB : Keep b H0 (upd H4 L (.lst [])) := kA.trans (Keep.new nL)
    have eL : (upd H4 L (.lst [])) L = some (.lst []) := upd_same
    have nHL : H L = none := by
      cases e : H L with
      | none => rfl
      | some o => rw [kA L o nLb (s0 _ _ e)] at nL; cases nL
    have nH0L : H0 L = none := by
      cases e : H0 L with
      | none => rfl
      | some o => rw [kA L o nLb e] at nL; cases nL
    generalize upd H4 L (.lst []) = H5 at hb5 kB eL
    refine ⟨_, rfl, (m : Int), rfl, by omega, by omega, for_range (lo := 0) (n := m) (fun i σ H' => ∃ y9 y10 y11, σ = [some (.ref b), some (.int m), some (.str letters), some (.str stems), some (.int way), some (.int first), some (.int at_), some (.str stem), some (.ref L), y9, y10, y11] ∧
      ∃ zs : List Str, H' L = some (.lst (zs.map V.str)) ∧ zs.length = i ∧ (∀ z ∈ zs, nameT z = true ∧ txt z ∧ z.length ≤ 7) ∧ Keep b H0 H' ∧ Bx H' b (n + 9)) ⟨_, _, _, rfl, [], eL, rfl, (fun _ h => nomatch h), kB, hb5.mono (by omega)⟩ ?_ ?_⟩
    · intro i σ H6 hi h
      obtain ⟨y9, y10, y11, rfl, zs, ez, el6, hz6, k6, hb6⟩ := h
      have letAt : ∀ e : Int, ∃ c, atI letters.cps.toList (e % 26) = some c ∧ lowC c = true := fun e => by
        have b0 := Int.emod_nonneg e (show (26 : Int) ≠ 0 by decide)
        have b1 := Int.emod_lt_of_pos e (show (0 : Int) < 26 by decide)
        have hlt : (e % 26).toNat < letters.cps.toList.length := by rw [letters_len]; omega
        exact ⟨_, atI_int b0 (List.getElem?_eq_getElem hlt), letters_ok _ (List.getElem_mem hlt)⟩
      obtain ⟨c1, ec1, oc1⟩ := letAt (first + 7 * (0 + (i : Int)))
      obtain ⟨c2, ec2, oc2⟩ := letAt (first + (0 + (i : Int)) / 7)
      refine ⟨_, rfl, _, rfl, _, rfl, 7, _, rfl, rfl, .inl ⟨by decide, by decide⟩, _, _, rfl, rfl, _, 26, rfl, rfl, by show (0 : Int) < 26; decide, letters, _, c1, rfl, rfl, by decide +kernel, ec1, ?_⟩
      refine ⟨_, rfl, _, rfl, _, rfl, _, 7, rfl, rfl, ⟨by decide, by decide⟩, _, _, rfl, rfl, _, 26, rfl, rfl, by show (0 : Int) < 26; decide, letters, _, c2, rfl, rfl, by decide +kernel, ec2, ?_⟩
      have z6 : stem.length ≤ sizeLine := sz (by omega)
      have l1 := cut_len stem none (some at_)
      have l3 := cut_len stem (some at_) none
      have l4 := cut_len stem none (some ((0 + (i : Int)) % 7))
      have g1 : ∀ c : Nat, (⟨#[c]⟩ : Str).length = 1 := fun _ => rfl
      have p1 := cut_okP oz none (some at_)
      have p3 := cut_okP oz (some at_) none
      have p4 := cut_okP oz none (some ((0 + (i : Int)) % 7))
      have two := cut_two stem a0
      refine ⟨_, rfl, .inl ⟨rfl, _, .inl (.inl ez)⟩, ?_⟩
      refine ⟨_, rfl, _, rfl, at_, rfl, stem, rfl, z6, _, rfl, _, _, rfl, rfl, sz (by rw [g1]; omega), ?_⟩
      refine ⟨_, rfl, _, rfl, at_, rfl, stem, rfl, z6, _, _, rfl, rfl, sz (by rw [app_len, g1]; omega), ?_⟩
      refine ⟨_, rfl, _, rfl, _, rfl, _, 7, rfl, rfl, by show (0 : Int) < 7; decide, _, rfl, stem, rfl, z6, _, _, rfl, rfl, sz (by rw [g1]; omega), ?_⟩
      refine ⟨_, rfl, _, rfl, _, rfl, _, 7, rfl, rfl, by show (0 : Int) < 7; decide, _, rfl, stem, rfl, z6, _, _, rfl, rfl, sz (by rw [g1]; omega), ?_⟩
      refine ⟨by show 3 ≤ sizeLine; decide, fun p np => ?_⟩
      have hx : ∃ x : Str, atI [V.str (cutS stem none (some at_) ++ ⟨#[c1]⟩ ++ cutS stem (some at_) none), .str (⟨#[c1]⟩ ++ cutS stem none (some ((0 + (i : Int)) % 7))), .str (⟨#[c2]⟩ ++ cutS stem none (some ((0 + (i : Int)) % 7)))] way = some (.str x) ∧ nameT x = true ∧ txt x ∧ x.length ≤ 7 := by
        have hw : way = 0 ∨ way = 1 ∨ way = 2 := by omega
        rcases hw with e | e | e
        · rw [e]
          have lx : (cutS stem none (some at_) ++ ⟨#[c1]⟩ ++ cutS stem (some at_) none).length = 7 := by rw [app_len, app_len, g1]; omega
          have ox : okP lowC (cutS stem none (some at_) ++ ⟨#[c1]⟩ ++ cutS stem (some at_) none) := app_okP (app_okP (stem_low p1) (okP_one oc1)) (stem_low p3)
          exact ⟨_, atI_nat (j := 0) rfl, name_of (by omega) (by omega) ox (fun z => by rw [z] at lx; revert lx; decide +kernel) (fun z => by rw [z] at lx; revert lx; decide +kernel), txt_low (by omega) ox, by omega⟩
        · rw [e]
          have lx : (⟨#[c1]⟩ ++ cutS stem none (some ((0 + (i : Int)) % 7)) : Str).length ≤ 7 ∧ 1 ≤ (⟨#[c1]⟩ ++ cutS stem none (some ((0 + (i : Int)) % 7)) : Str).length := by rw [app_len, g1]; omega
          have ox : okP lowC (⟨#[c1]⟩ ++ cutS stem none (some ((0 + (i : Int)) % 7))) := app_okP (okP_one oc1) (stem_low p4)
          exact ⟨_, atI_nat (j := 1) rfl, name_of lx.2 (by omega) ox (tail_ne p4).1 (tail_ne p4).2, txt_low (by omega) ox, by omega⟩
        · rw [e]
          have lx : (⟨#[c2]⟩ ++ cutS stem none (some ((0 + (i : Int)) % 7)) : Str).length ≤ 7 ∧ 1 ≤ (⟨#[c2]⟩ ++ cutS stem none (some ((0 + (i : Int)) % 7)) : Str).length := by rw [app_len, g1]; omega
          have ox : okP lowC (⟨#[c2]⟩ ++ cutS stem none (some ((0 + (i : Int)) % 7))) := app_okP (okP_one oc2) (stem_low p4)
          exact ⟨_, atI_nat (j := 2) rfl, name_of lx.2 (by omega) ox (tail_ne p4).1 (tail_ne p4).2, txt_low (by omega) ox, by omega⟩
      obtain ⟨x, ex, lx, ox⟩ := hx
      refine ⟨_, rfl, p, _, way, .str x, rfl, rfl, SqL.of upd_same, ex, ?_⟩
      have nLp : L ≠ p := ne_of_none ez np
      refine ⟨L, zs.map V.str, .str x, rfl, rfl, by rw [upd_ne nLp]; exact ez, ?_, ?_⟩
      · rw [List.length_map]
        exact Nat.lt_of_lt_of_le (show zs.length < 1000 by omega) (by decide)
      · refine ⟨_, _, _, rfl, zs ++ [x], ?_, ?_, ?_, ?_, ?_⟩
        · rw [upd_same, List.map_append]; rfl
        · rw [List.length_append, el6]; rfl
        · intro z hz
          rcases List.mem_append.mp hz with h | h
          · exact hz6 z h
          · rw [List.mem_singleton.mp h]; exact ⟨lx, ox⟩
        · intro a o na ea
          have h6 := k6 a o na ea
          have haL : a ≠ L := fun z => by
            subst z
            rw [nH0L] at ea
            cases ea
          rw [upd_ne haL, upd_ne (ne_of_none h6 np)]
          exact h6
        · obtain ⟨g, m, k, e, r1, r2, r3, r4, r5⟩ := hb6
          exact ⟨g, m, k, by rw [upd_ne nLb.symm, upd_ne (ne_of_none e np)]; exact e, r1, r2, r3, r4, r5⟩
    · intro σ H6 h
      obtain ⟨y9, y10, y11, rfl, zs, ez, el6, hz6, k6, hb6⟩ := h
      exact ⟨_, rfl, q L zs H6 el6 hz6 nHL ez (fun a o na ea => k6 a o na (s0 _ _ ea)) hb6⟩
end
end K06
set_option maxHeartbeats 4000000
namespace K06
open PySem PySem.Spec PyProof.Rows L2 RL RE RN RM TL RQ
/-! ### rows: lists of the parts of a deed -/
def tagD : Dm → Str
  | .give .. => Str.ofString "give"
  | .take .. => Str.ofString "take"
  | .call .. => Str.ofString "call"
  | .preset .. => Str.ofString "preset"
  | .use .. => Str.ofString "use"
def valsD (d : Dm) : List V := .str (tagD d) :: argsD d
def RowAt (H : Hp) (p : Addr) (d : Dm) : Prop := H p = some (.lst (valsD d))
/-- the taker is short -/
def sevD : Dm → Prop
  | .give _ _ k _ => k.length ≤ 7
  | .preset _ _ k _ => k.length ≤ 7
  | _ => True
theorem ne_box {H : Hp} {b p : Addr} {n : Int} (hb : Bx H b n) (np : H p = none) : p ≠ b := fun z => by
  subst z
  obtain ⟨g, m, k, eb, _⟩ := hb
  rw [eb] at np
  cases np
theorem none_keep {H H' : Hp} {b p : Addr} (k : Keep b H H') (ne : p ≠ b) (n : H' p = none) : H p = none := by
  cases e : H p with
  | none => rfl
  | some o => rw [k p o ne e] at n; cases n
theorem RowAt.ne {H : Hp} {p b : Addr} {d : Dm} {n : Int} (h : RowAt H p d) (hb : Bx H b n) : p ≠ b := fun z => by
  subst z
  obtain ⟨g, m, k, eb, _⟩ := hb
  unfold RowAt at h
  rw [h] at eb
  have e := HO.lst.inj (Option.some.inj eb)
  unfold valsD at e
  cases (List.cons.inj e).1
theorem RowAt.keep {H H' : Hp} {p b : Addr} {d : Dm} {n : Int} (h : RowAt H p d) (k : Keep b H H') (hb : Bx H b n) : RowAt H' p d := k _ _ (h.ne hb) h
theorem RowAt.same {H H' : Hp} {p : Addr} {d : Dm} (h : RowAt H p d) (s : Same H H') : RowAt H' p d := s _ _ h
/-- four names -/
def Nm (H : Hp) (p : Addr) (ys : List Str) : Prop := H p = some (.lst (ys.map V.str)) ∧ ys.length = 4 ∧ ∀ y ∈ ys, nameT y = true ∧ txt y ∧ y.length ≤ 7
theorem Nm.ne {H : Hp} {p b : Addr} {ys : List Str} {n : Int} (h : Nm H p ys) (hb : Bx H b n) : p ≠ b := fun z => by
  subst z
  obtain ⟨g, m, k, eb, _⟩ := hb
  obtain ⟨e, l, _⟩ := h
  rw [e] at eb
  have e2 := HO.lst.inj (Option.some.inj eb)
  have := congrArg List.length e2
  rw [List.length_map, l] at this
  cases this
theorem Nm.keep {H H' : Hp} {p b : Addr} {ys : List Str} {n : Int} (h : Nm H p ys) (k : Keep b H H') (hb : Bx H b n) : Nm H' p ys := ⟨k _ _ (h.ne hb) h.1, h.2⟩
theorem Nm.same {H H' : Hp} {p : Addr} {ys : List Str} (h : Nm H p ys) (s : Same H H') : Nm H' p ys := ⟨s _ _ h.1, h.2⟩
theorem Nm.at_ {H : Hp} {p : Addr} {ys : List Str} (h : Nm H p ys) (i : Nat) (hi : i < 4) : ∃ y, atI (ys.map V.str) (i : Int) = some (.str y) ∧ nameT y = true ∧ txt y ∧ y.length ≤ 7 := by
  have hlt : i < ys.length := by rw [h.2.1]; exact hi
  refine ⟨ys[i], atI_nat ?_, h.2.2 _ (List.getElem_mem hlt)⟩
  rw [List.getElem?_map, List.getElem?_eq_getElem hlt]
  rfl
theorem name_taker {y : Str} (h : nameT y = true) : isTaker (.str y) = true := by
  show (nameT y || _) = true
  rw [h]; rfl
theorem pub_taker : isTaker (.str tPub) = true := by decide +kernel
theorem lit_txt {z : Str} (h : (decide (z.length ≤ 8) && (tl z).all lowC) = true) : txt z := by
  rw [Bool.and_eq_true] at h
  exact txt_low (of_decide_eq_true h.1) (fun x hx => List.all_eq_true.mp h.2 x hx)
theorem isT_dec' (z y : Str) : decide (V.str y = V.str z) = isT z (.str y) := isT_dec z (.str y)
section
variable {P : Program} {w : World} {K : PySem.W.Frag} {mg : Str → Option Value} {base : Heap} {f : Addr} {fd : FuncData}
def spRows : Sp := fun vs H Q _ => ∃ (b : Addr) (n : Int), vs = [.ref b] ∧ 0 ≤ n ∧ n ≤ 80000 ∧ Bx H b n ∧ ∀ (p : Addr) (d : Dm) H', okD d → sevD d → RowAt H' p d → H p = none → Keep b H H' → Bx H' b (n + 20) → Q (.ref p) H'
theorem ok_rows (F : Fun K "_law_rows" "_law_rows" s__law_rows f fd) (GN : Df P w K mg base CX0 2 "_law_names" ["_law_box_here", "_law_many"] spNames) (GT : Df P w K mg base CX0 1 "_law_take" ["_law_box_here", "_law_many"] spTake) (mi : mg "int" = none) :
    FnOk P w K mg base CX0 3 f fd ["_law_box_here"] spRows := by
  refine F.ok sc__law_rows (fun vs H Q E h => by obtain ⟨b, n, rfl, _⟩ := h; rfl) (fun cdv A outer s H vs Q E hr h => ?_)
  obtain ⟨b, n, rfl, n0, n1, hb, q⟩ := h
  have hr1 := hr.mono (show 1 ≤ 2 by decide)
  refine ⟨_, PSs.nox (pss_cons (ps_set (i := 1) sc__law_rows.nd rfl (.inl rfl) (pe_df0 GN hr (by rfl) (pa_cons (pv 0) (pa_cons pe_int pa_nil))))
    (pss_cons (ps_par (i := 2) (j := 3) (by rfl) sc__law_rows.nd rfl rfl (by decide) rfl rfl (pa_cons (pe_cmpR op_eq (pe_df0 GT hr1 (by rfl) (pa_cons (pv 0) (pa_cons pe_int pa_nil))) pe_int (nomark _)) (pa_cons (pe_cmpR op_eq (pe_df0 GT hr1 (by rfl) (pa_cons (pv 0) (pa_cons pe_int pa_nil))) pe_int (nomark _)) pa_nil)) (by rfl))
    (pss_cons (ps_set (i := 4) sc__law_rows.nd rfl (.inl rfl) (pe_ix ix_list (pe_lst (pa_cons pe_str (pa_cons pe_str (pa_cons pe_str (pa_cons pe_str (pa_cons pe_str pa_nil)))))) (pe_df0 GT hr1 (by rfl) (pa_cons (pv 0) (pa_cons pe_int pa_nil))) (fun _ _ => rfl)))
    (pss_cons (ps_set (i := 5) sc__law_rows.nd rfl (.inl rfl) (pe_df0 GT hr1 (by rfl) (pa_cons (pv 0) (pa_cons pe_int pa_nil))))
    (pss_cons (ps_if (pt_cmpR op_eq (pv 5) pe_int (nomark _))
      (pss_cons (ps_set (i := 6) sc__law_rows.nd rfl (.inl rfl) (pe_ix ix_list (pe_lst (pa_cons (pe_ix ix_list (pv 1) pe_int (fun _ _ => rfl)) (pa_cons pe_str (pa_cons pe_str pa_nil)))) (pe_df0 GT hr1 (by rfl) (pa_cons (pv 0) (pa_cons pe_int pa_nil))) (fun _ _ => rfl)))
        (pss_one (ps_ret (pe_lst (pa_cons pe_str (pa_cons (pv 4) (pa_cons (pe_ix ix_list (pv 1) pe_int (fun _ _ => rfl)) (pa_cons (pv 6) (pa_cons (pe_and (pv 2) (pe_one (pe_cmpR op_ne (pv 6) pe_str (nomark _)))) pa_nil))))))))) pss_nil)
    (pss_cons (ps_if (pt_cmpR op_eq (pv 5) pe_int (nomark _))
      (pss_cons (ps_set (i := 7) sc__law_rows.nd rfl (.inl rfl) (pe_ix ix_list (pe_lst (pa_cons pe_non (pa_cons (pe_ix ix_list (pv 1) pe_int (fun _ _ => rfl)) pa_nil))) (pe_df0 GT hr1 (by rfl) (pa_cons (pv 0) (pa_cons pe_int pa_nil))) (fun _ _ => rfl)))
        (pss_one (ps_ret (pe_lst (pa_cons pe_str (pa_cons (pv 4) (pa_cons (pe_ix ix_list (pv 1) pe_int (fun _ _ => rfl)) (pa_cons (pe_ix ix_list (pe_lst (pa_cons (pe_ix ix_list (pv 1) pe_int (fun _ _ => rfl)) (pa_cons pe_str pa_nil))) (pe_df0 GT hr1 (by rfl) (pa_cons (pv 0) (pa_cons pe_int pa_nil))) (fun _ _ => rfl)) (pa_cons (pv 7) (pa_cons (pv 2) (pa_cons (pv 3) pa_nil))))))))))) pss_nil)
    (pss_cons (ps_if (pt_cmpR op_eq (pv 5) pe_int (nomark _)) (pss_one (ps_ret (pe_lst (pa_cons pe_str (pa_cons (pe_ix ix_list (pv 1) pe_int (fun _ _ => rfl)) pa_nil))))) pss_nil)
    (pss_cons (ps_if (pt_cmpR op_eq (pv 5) pe_int (nomark _))
      (pss_cons (ps_set (i := 8) sc__law_rows.nd rfl (.inl rfl) (pe_ix ix_list (pe_lst (pa_cons pe_str (pa_cons pe_str pa_nil))) (pe_df0 GT hr1 (by rfl) (pa_cons (pv 0) (pa_cons pe_int pa_nil))) (fun _ _ => rfl)))
      (pss_cons (ps_set (i := 4) sc__law_rows.nd rfl (.inl rfl) (pe_ix ix_list (pe_lst (pa_cons pe_str (pa_cons pe_str (pa_cons pe_str pa_nil)))) (pe_ix ix_list (pe_lst (pa_cons (pe_df0 GT hr1 (by rfl) (pa_cons (pv 0) (pa_cons pe_int pa_nil))) (pa_cons pe_int pa_nil))) (pe_callTy call_int1 (by rfl) mi (by decide +kernel) (pa_cons (pe_cmpR op_eq (pv 8) pe_str (nomark _)) pa_nil)) (fun _ _ => rfl)) (fun _ _ => rfl)))
      (pss_cons (ps_set (i := 6) sc__law_rows.nd rfl (.inl rfl) (pe_ix ix_list (pe_lst (pa_cons (pe_ix ix_list (pv 1) pe_int (fun _ _ => rfl)) (pa_cons pe_str pa_nil))) (pe_df0 GT hr1 (by rfl) (pa_cons (pv 0) (pa_cons pe_int pa_nil))) (fun _ _ => rfl)))
        (pss_one (ps_ret (pe_lst (pa_cons pe_str (pa_cons (pv 8) (pa_cons (pv 4) (pa_cons (pv 6) (pa_cons (pe_and (pv 2) (pe_one (pe_cmpR op_ne (pv 6) pe_str (nomark _)))) pa_nil))))))))))) pss_nil)
    (pss_one (ps_ret (pe_lst (pa_cons pe_str (pa_cons (pv 4) (pa_cons (pe_ix ix_list (pv 1) pe_int (fun _ _ => rfl)) pa_nil)))))))))))))), ?_⟩
  refine ⟨_, rfl, b, n, 4, rfl, by decide, n0, by omega, hb, fun pN ys H1 l4 hy npN epN k1 hb1 => ?_⟩
  have hN1 : Nm H1 pN ys := ⟨epN, l4, hy⟩
  obtain ⟨y0, a0, m0, t0, s0⟩ := hN1.at_ 0 (by decide)
  obtain ⟨y1, a1, m1, t1, s1⟩ := hN1.at_ 1 (by decide)
  obtain ⟨y2, a2, m2, t2, s2⟩ := hN1.at_ 2 (by decide)
  refine ⟨_, rfl, b, 2, n + 9, rfl, by decide, by decide, by omega, by omega, hb1, fun d2 H2 _ _ k2 hb2 => ⟨rfl, ?_⟩⟩
  refine ⟨_, rfl, b, 2, n + 10, rfl, by decide, by decide, by omega, by omega, hb2.mono (by omega), fun d3 H3 _ _ k3 hb3 => ⟨rfl, ?_⟩⟩
  refine ⟨_, _, rfl, ?_⟩
  generalize decide (V.int d2 = V.int 0) = mk
  generalize decide (V.int d3 = V.int 0) = mo
  have hN3 := (hN1.keep k2 hb1).keep k3 hb2
  have kA := (k1.trans k2).trans k3
  refine ⟨by show 5 ≤ sizeLine; decide, fun pW npW => ?_⟩
  have s4 := same_upd (o := .lst [.str (Str.ofString "inherit"), .str (Str.ofString "act"), .str (Str.ofString "read"), .str (Str.ofString "write"), .str (Str.ofString "call")]) npW
  have eW : (upd H3 pW (.lst [.str (Str.ofString "inherit"), .str (Str.ofString "act"), .str (Str.ofString "read"), .str (Str.ofString "write"), .str (Str.ofString "call")])) pW = some (.lst [.str (Str.ofString "inherit"), .str (Str.ofString "act"), .str (Str.ofString "read"), .str (Str.ofString "write"), .str (Str.ofString "call")]) := upd_same
  generalize upd H3 pW (.lst [.str (Str.ofString "inherit"), .str (Str.ofString "act"), .str (Str.ofString "read"), .str (Str.ofString "write"), .str (Str.ofString "call")]) = H4 at s4 eW ⊢
  have nWb := ne_box hb3 npW
  have hb4 := hb3.same s4
  refine ⟨_, rfl, b, 5, n + 11, rfl, by decide, by decide, by omega, by omega, hb4.mono (by omega), fun d5 H5 d50 d51 k5 hb5 => ?_⟩
  have hw : ∃ wd : Str, atI [V.str (Str.ofString "inherit"), .str (Str.ofString "act"), .str (Str.ofString "read"), .str (Str.ofString "write"), .str (Str.ofString "call")] d5 = some (.str wd) ∧ (kindT wd).isSome = true ∧ txt wd := by
    have hw : d5 = 0 ∨ d5 = 1 ∨ d5 = 2 ∨ d5 = 3 ∨ d5 = 4 := by omega
    rcases hw with e | e | e | e | e
    · rw [e]; exact ⟨_, atI_nat (j := 0) rfl, by decide +kernel, lit_txt (by decide +kernel)⟩
    · rw [e]; exact ⟨_, atI_nat (j := 1) rfl, by decide +kernel, lit_txt (by decide +kernel)⟩
    · rw [e]; exact ⟨_, atI_nat (j := 2) rfl, by decide +kernel, lit_txt (by decide +kernel)⟩
    · rw [e]; exact ⟨_, atI_nat (j := 3) rfl, by decide +kernel, lit_txt (by decide +kernel)⟩
    · rw [e]; exact ⟨_, atI_nat (j := 4) rfl, by decide +kernel, lit_txt (by decide +kernel)⟩
  obtain ⟨wd, ewd, kw, tw⟩ := hw
  refine ⟨pW, _, d5, .str wd, rfl, rfl, SqL.of (k5 _ _ nWb eW), ewd, ?_⟩
  have hN5 := (hN3.same s4).keep k5 hb4
  have kB := (kA.trans (Keep.of s4)).trans k5
  refine ⟨_, rfl, b, 5, n + 12, rfl, by decide, by decide, by omega, by omega, hb5.mono (by omega), fun way H6 w0 w1 k6 hb6 => ?_⟩
  have hN6 := hN5.keep k6 hb5
  have kC := kB.trans k6
  have hb6 : Bx H6 b (n + 13) := hb6.mono (by omega)
  clear hb1 hb2 hb3 hb4 hb5 hN1 hN3 hN5 k1 k2 k3 k5 k6 kA kB s4 eW npN epN npW nWb
  refine ⟨_, rfl, rfl, _, rfl, ite2 (fun _ => ?_) (fun _ => ?_)⟩
  · refine ⟨_, rfl, pN, _, 1, .str y1, rfl, rfl, SqL.of hN6.1, a1, by show 3 ≤ sizeLine; decide, fun p7 np7 => ?_⟩
    have s7 := same_upd (o := .lst [.str y1, .str tCal, .str tPub]) np7
    have e7 : (upd H6 p7 (.lst [.str y1, .str tCal, .str tPub])) p7 = some (.lst [.str y1, .str tCal, .str tPub]) := upd_same
    generalize upd H6 p7 (.lst [.str y1, .str tCal, .str tPub]) = H7 at s7 e7 ⊢
    have n7b := ne_box hb6 np7
    have hb7 := hb6.same s7
    refine ⟨_, rfl, b, 3, n + 13, rfl, by decide, by decide, by omega, by omega, hb7, fun d8 H8 d80 d81 k8 hb8 => ?_⟩
    have hk : ∃ k : Str, atI [V.str y1, .str tCal, .str tPub] d8 = some (.str k) ∧ txt k ∧ (isT tCal (.str k) = true ∨ isTaker (.str k) = true) ∧ k.length ≤ 7 := by
      have hw : d8 = 0 ∨ d8 = 1 ∨ d8 = 2 := by omega
      rcases hw with e | e | e
      · rw [e]; exact ⟨y1, atI_nat (j := 0) rfl, t1, .inr (name_taker m1), s1⟩
      · rw [e]; exact ⟨tCal, atI_nat (j := 1) rfl, lit_txt (by decide +kernel), .inl (by decide +kernel), by decide +kernel⟩
      · rw [e]; exact ⟨tPub, atI_nat (j := 2) rfl, lit_txt (by decide +kernel), .inr pub_taker, by decide +kernel⟩
    obtain ⟨k, ek, tk, hk, lk⟩ := hk
    refine ⟨p7, _, d8, .str k, rfl, rfl, SqL.of (k8 _ _ n7b e7), ek, ?_⟩
    have hN8 := (hN6.same s7).keep k8 hb7
    have kD := (kC.trans (Keep.of s7)).trans k8
    refine ⟨_, rfl, _, rfl, pN, _, 0, .str y0, rfl, rfl, SqL.of hN8.1, a0, _, rfl, _, rfl, _, rfl, ?_⟩
    have fin : ∀ o : Bool, (o = true → isT tPub (.str k) = false) → ∀ p, H8 p = none → Q (.ref p) (upd H8 p (.lst [.str (Str.ofString "give"), .str wd, .str y0, .str k, .bl o])) := fun o ho p np =>
      q p (.give wd y0 k o) _ ⟨tw, t0, tk, kw, m0, hk, ho⟩ lk upd_same (none_keep kD (ne_box hb8 np) np) (kD.trans (Keep.new np)) ((hb8.same (same_upd np)).mono (by omega))
    cases mk with
    | false => exact iteF ⟨by show 5 ≤ sizeLine; decide, fun p np => fin false (fun h => by cases h) p np⟩
    | true =>
      refine iteT ⟨_, rfl, rfl, by show 5 ≤ sizeLine; decide, fun p np => fin _ (fun h => ?_) p np⟩
      rw [← isT_dec']
      cases hd : decide (V.str k = V.str tPub) with
      | false => rfl
      | true => rw [show decide (V.str k = V.str (Str.ofString "public")) = true from hd] at h; cases h
  refine ⟨_, rfl, rfl, _, rfl, ite2 (fun _ => ?_) (fun _ => ?_)⟩
  · refine ⟨_, rfl, pN, _, 2, .str y2, rfl, rfl, SqL.of hN6.1, a2, by show 2 ≤ sizeLine; decide, fun p7 np7 => ?_⟩
    have s7 := same_upd (o := .lst [V.non, .str y2]) np7
    have e7 : (upd H6 p7 (.lst [V.non, .str y2])) p7 = some (.lst [V.non, .str y2]) := upd_same
    generalize upd H6 p7 (.lst [V.non, .str y2]) = H7 at s7 e7 ⊢
    have n7b := ne_box hb6 np7
    have hb7 := hb6.same s7
    refine ⟨_, rfl, b, 2, n + 13, rfl, by decide, by decide, by omega, by omega, hb7, fun d8 H8 d80 d81 k8 hb8 => ?_⟩
    have hg : ∃ g : Option Str, atI [V.non, .str y2] d8 = some (gV g) ∧ ∀ y, g = some y → txt y ∧ nameT y = true := by
      have hw : d8 = 0 ∨ d8 = 1 := by omega
      rcases hw with e | e
      · rw [e]; exact ⟨none, atI_nat (j := 0) rfl, fun y h => by cases h⟩
      · rw [e]; exact ⟨some y2, atI_nat (j := 1) rfl, fun y h => by cases h; exact ⟨t2, m2⟩⟩
    obtain ⟨g, eg, hg⟩ := hg
    refine ⟨p7, _, d8, gV g, rfl, rfl, SqL.of (k8 _ _ n7b e7), eg, ?_⟩
    have hN8 := (hN6.same s7).keep k8 hb7
    have kD := (kC.trans (Keep.of s7)).trans k8
    refine ⟨_, rfl, _, rfl, pN, _, 0, .str y0, rfl, rfl, SqL.of hN8.1, a0, _, rfl, pN, _, 1, .str y1, rfl, rfl, SqL.of hN8.1, a1, by show 2 ≤ sizeLine; decide, fun p9 np9 => ?_⟩
    have s9 := same_upd (o := .lst [.str y1, .str tPub]) np9
    have e9 : (upd H8 p9 (.lst [.str y1, .str tPub])) p9 = some (.lst [.str y1, .str tPub]) := upd_same
    generalize upd H8 p9 (.lst [.str y1, .str tPub]) = H9 at s9 e9 ⊢
    have n9b := ne_box hb8 np9
    have hb9 := hb8.same s9
    refine ⟨_, rfl, b, 2, n + 14, rfl, by decide, by decide, by omega, by omega, hb9.mono (by omega), fun d10 H10 d100 d101 k10 hb10 => ?_⟩
    have hk : ∃ k : Str, atI [V.str y1, .str tPub] d10 = some (.str k) ∧ txt k ∧ isTaker (.str k) = true ∧ k.length ≤ 7 := by
      have hw : d10 = 0 ∨ d10 = 1 := by omega
      rcases hw with e | e
      · rw [e]; exact ⟨y1, atI_nat (j := 0) rfl, t1, name_taker m1, s1⟩
      · rw [e]; exact ⟨tPub, atI_nat (j := 1) rfl, lit_txt (by decide +kernel), pub_taker, by decide +kernel⟩
    obtain ⟨k, ek, tk, hk, lk⟩ := hk
    have kE := (kD.trans (Keep.of s9)).trans k10
    refine ⟨p9, _, d10, .str k, rfl, rfl, SqL.of (k10 _ _ n9b e9), ek, _, rfl, _, rfl, _, rfl, by show 7 ≤ sizeLine; decide, fun p np => ?_⟩
    exact q p (.take wd y0 k g mk mo) _ ⟨tw, t0, tk, kw, m0, hk, hg⟩ trivial upd_same (none_keep kE (ne_box hb10 np) np) (kE.trans (Keep.new np)) ((hb10.same (same_upd np)).mono (by omega))
  refine ⟨_, rfl, rfl, _, rfl, ite2 (fun _ => ?_) (fun _ => ?_)⟩
  · refine ⟨_, rfl, pN, _, 0, .str y0, rfl, rfl, SqL.of hN6.1, a0, by show 2 ≤ sizeLine; decide, fun p np => ?_⟩
    exact q p (.call y0) _ ⟨t0, m0⟩ trivial upd_same (none_keep kC (ne_box hb6 np) np) (kC.trans (Keep.new np)) ((hb6.same (same_upd np)).mono (by omega))
  refine ⟨_, rfl, rfl, _, rfl, ite2 (fun _ => ?_) (fun _ => ?_)⟩
  · refine ⟨by show 2 ≤ sizeLine; decide, fun p7 np7 => ?_⟩
    have s7 := same_upd (o := .lst [.str tTab, .str tFun]) np7
    have e7 : (upd H6 p7 (.lst [.str tTab, .str tFun])) p7 = some (.lst [.str tTab, .str tFun]) := upd_same
    generalize upd H6 p7 (.lst [.str tTab, .str tFun]) = H7 at s7 e7 ⊢
    have n7b := ne_box hb6 np7
    have hb7 := hb6.same s7
    refine ⟨_, rfl, b, 2, n + 13, rfl, by decide, by decide, by omega, by omega, hb7, fun d8 H8 d80 d81 k8 hb8 => ?_⟩
    have hs : ∃ sd : Str, atI [V.str tTab, .str tFun] d8 = some (.str sd) ∧ (sd = tTab ∨ sd = tFun) := by
      have hw : d8 = 0 ∨ d8 = 1 := by omega
      rcases hw with e | e
      · rw [e]; exact ⟨tTab, atI_nat (j := 0) rfl, .inl rfl⟩
      · rw [e]; exact ⟨tFun, atI_nat (j := 1) rfl, .inr rfl⟩
    obtain ⟨sd, es, hs⟩ := hs
    refine ⟨p7, _, d8, .str sd, rfl, rfl, SqL.of (k8 _ _ n7b e7), es, ?_⟩
    have hN8 := (hN6.same s7).keep k8 hb7
    have kD := (kC.trans (Keep.of s7)).trans k8
    refine ⟨by show 3 ≤ sizeLine; decide, fun p9 np9 => ?_⟩
    have s9 := same_upd (o := .lst [.str (Str.ofString "read"), .str (Str.ofString "write"), .str (Str.ofString "call")]) np9
    have e9 : (upd H8 p9 (.lst [.str (Str.ofString "read"), .str (Str.ofString "write"), .str (Str.ofString "call")])) p9 = some (.lst [.str (Str.ofString "read"), .str (Str.ofString "write"), .str (Str.ofString "call")]) := upd_same
    generalize upd H8 p9 (.lst [.str (Str.ofString "read"), .str (Str.ofString "write"), .str (Str.ofString "call")]) = H9 at s9 e9 ⊢
    have n9b := ne_box hb8 np9
    have hb9 := hb8.same s9
    refine ⟨_, rfl, b, 2, n + 14, rfl, by decide, by decide, by omega, by omega, hb9.mono (by omega), fun d10 H10 d100 d101 k10 hb10 => ?_⟩
    have e9 := k10 _ _ n9b e9
    refine ⟨by show 2 ≤ sizeLine; decide, fun p11 np11 => ?_⟩
    have s11 := same_upd (o := .lst [.int d10, .int 2]) np11
    have e11 : (upd H10 p11 (.lst [.int d10, .int 2])) p11 = some (.lst [.int d10, .int 2]) := upd_same
    generalize upd H10 p11 (.lst [.int d10, .int 2]) = H11 at s11 e11 ⊢
    have hb11 := hb10.same s11
    have hj : ∃ (j : Int) (wr : Str), atI [V.int d10, .int 2] (if decide (V.str sd = V.str (Str.ofString "function")) = true then 1 else 0) = some (.int j) ∧ atI [V.str (Str.ofString "read"), .str (Str.ofString "write"), .str (Str.ofString "call")] j = some (.str wr) ∧ txt wr ∧ kindT wr = some sd := by
      rcases hs with e | e
      · rw [e, show decide (V.str tTab = V.str (Str.ofString "function")) = false by decide +kernel, if_neg (by decide)]
        have hw : d10 = 0 ∨ d10 = 1 := by omega
        rcases hw with e | e
        · rw [e]; exact ⟨0, Str.ofString "read", atI_nat (j := 0) rfl, atI_nat (j := 0) rfl, lit_txt (by decide +kernel), by decide +kernel⟩
        · rw [e]; exact ⟨1, Str.ofString "write", atI_nat (j := 0) rfl, atI_nat (j := 1) rfl, lit_txt (by decide +kernel), by decide +kernel⟩
      · rw [e, decide_eq_true rfl, if_pos rfl]
        exact ⟨2, Str.ofString "call", atI_nat (j := 1) rfl, atI_nat (j := 2) rfl, lit_txt (by decide +kernel), by decide +kernel⟩
    obtain ⟨j, wr, ej, ewr, twr, kwr⟩ := hj
    refine ⟨_, rfl, rfl, .inr ⟨_, rfl, p11, _, _, .int j, rfl, rfl, SqL.of e11, ej, p9, _, j, .str wr, rfl, rfl, SqL.of (s11 _ _ e9), ewr, ?_⟩⟩
    have hN11 := ((hN8.same s9).keep k10 hb9).same s11
    have kE := ((kD.trans (Keep.of s9)).trans k10).trans (Keep.of s11)
    refine ⟨_, rfl, pN, _, 1, .str y1, rfl, rfl, SqL.of hN11.1, a1, by show 2 ≤ sizeLine; decide, fun p12 np12 => ?_⟩
    have s12 := same_upd (o := .lst [.str y1, .str tPub]) np12
    have e12 : (upd H11 p12 (.lst [.str y1, .str tPub])) p12 = some (.lst [.str y1, .str tPub]) := upd_same
    generalize upd H11 p12 (.lst [.str y1, .str tPub]) = H12 at s12 e12 ⊢
    have n12b := ne_box hb11 np12
    have hb12 := hb11.same s12
    refine ⟨_, rfl, b, 2, n + 15, rfl, by decide, by decide, by omega, by omega, hb12.mono (by omega), fun d13 H13 d130 d131 k13 hb13 => ?_⟩
    have hk : ∃ k : Str, atI [V.str y1, .str tPub] d13 = some (.str k) ∧ txt k ∧ isTaker (.str k) = true ∧ k.length ≤ 7 := by
      have hw : d13 = 0 ∨ d13 = 1 := by omega
      rcases hw with e | e
      · rw [e]; exact ⟨y1, atI_nat (j := 0) rfl, t1, name_taker m1, s1⟩
      · rw [e]; exact ⟨tPub, atI_nat (j := 1) rfl, lit_txt (by decide +kernel), pub_taker, by decide +kernel⟩
    obtain ⟨k, ek, tk, hk, lk⟩ := hk
    refine ⟨p12, _, d13, .str k, rfl, rfl, SqL.of (k13 _ _ n12b e12), ek, ?_⟩
    have kF := (kE.trans (Keep.of s12)).trans k13
    have tsd : txt sd := by rcases hs with e | e <;> rw [e] <;> exact lit_txt (by decide +kernel)
    refine ⟨_, rfl, _, rfl, _, rfl, _, rfl, _, rfl, ?_⟩
    have fin : ∀ o : Bool, (o = true → isT tPub (.str k) = false) → ∀ p, H13 p = none → Q (.ref p) (upd H13 p (.lst [.str (Str.ofString "preset"), .str sd, .str wr, .str k, .bl o])) := fun o ho p np =>
      q p (.preset sd wr k o) _ ⟨tsd, twr, tk, hs, kwr, hk, ho⟩ lk upd_same (none_keep kF (ne_box hb13 np) np) (kF.trans (Keep.new np)) ((hb13.same (same_upd np)).mono (by omega))
    cases mk with
    | false => exact iteF ⟨by show 5 ≤ sizeLine; decide, fun p np => fin false (fun h => by cases h) p np⟩
    | true =>
      refine iteT ⟨_, rfl, rfl, by show 5 ≤ sizeLine; decide, fun p np => fin _ (fun h => ?_) p np⟩
      rw [← isT_dec']
      cases hd : decide (V.str k = V.str tPub) with
      | false => rfl
      | true => rw [show decide (V.str k = V.str (Str.ofString "public")) = true from hd] at h; cases h
  refine ⟨_, rfl, _, rfl, pN, _, 0, .str y0, rfl, rfl, SqL.of hN6.1, a0, by show 3 ≤ sizeLine; decide, fun p np => ?_⟩
  exact q p (.use wd y0) _ ⟨tw, t0, kw, m0⟩ trivial upd_same (none_keep kC (ne_box hb6 np) np) (kC.trans (Keep.new np)) ((hb6.same (same_upd np)).mono (by omega))
end
end K06
set_option maxHeartbeats 4000000
namespace K06
open PySem PySem.Spec PyProof.Rows L2 RL RE RN RM TL RQ
theorem hu64 {A : Around} {k : Nat} (hr : Room k A) : A.units + 64 < cLine := by
  have := hr.un
  omega
theorem same_refl {H : Hp} : Same H H := fun _ _ e => e
def rot {α : Type} : List α → List α
  | [c, g, p] => [g, p, c]
  | l => l
abbrev psG : List Str := ["self", "right", "thing", "taker", "option"]
abbrev psT : List Str := ["self", "right", "thing", "taker", "giver", "only_option", "cascade"]
abbrev psP : List Str := ["self", "kind", "right", "taker", "option"]
/-- the five classes made -/
structure MkD (P : Program) (w : World) (K : PySem.W.Frag) (mg : Str → Option Value) (base : Heap) (c : Cs) : Prop where
  G : ∃ (f : Addr) (fd : FuncData) (ds : List Value), Mk K (c .give) f ∧ FnOk P w K mg base CX0 4 f fd psG (spInit K (c .give) .give) ∧ mg "Give" = some (.ref (c .give)) ∧ KBn K fd psG 4 ["option"] (fun us ws => us ++ ws) (fun vs zs => vs ++ zs) ∧ Binds K fd psG ds ∧ Vals [V.bl false] ds
  T : ∃ (f : Addr) (fd : FuncData) (g1 : List Value → List Value → List Value), Mk K (c .take) f ∧ FnOk P w K mg base CX0 4 f fd psT (spInit K (c .take) .take) ∧ mg "Take" = some (.ref (c .take)) ∧ KBn K fd psT 4 ["giver"] g1 (fun vs zs => vs ++ (zs ++ [.bl false, .bl false])) ∧ KBn K fd psT 4 ["cascade", "giver", "only_option"] (fun us ws => us ++ rot ws) (fun vs zs => vs ++ rot zs)
  C : ∃ (f : Addr) (fd : FuncData), Mk K (c .call) f ∧ FnOk P w K mg base CX0 4 f fd ["self", "function"] (spInit K (c .call) .call) ∧ mg "Call" = some (.ref (c .call)) ∧ Binds K fd ["self", "function"] []
  P_ : ∃ (f : Addr) (fd : FuncData), Mk K (c .preset) f ∧ FnOk P w K mg base CX0 4 f fd psP (spInit K (c .preset) .preset) ∧ mg "Preset" = some (.ref (c .preset)) ∧ KBn K fd psP 4 ["option"] (fun us ws => us ++ ws) (fun vs zs => vs ++ zs)
  U : ∃ (f : Addr) (fd : FuncData), Mk K (c .use) f ∧ FnOk P w K mg base CX0 4 f fd ["self", "right", "thing"] (spInit K (c .use) .use) ∧ mg "Use" = some (.ref (c .use)) ∧ Binds K fd ["self", "right", "thing"] []
theorem mk3_same {H : Hp} {x dx : Addr} {u o v : HO} (nx : H x = none) (nd : H dx = none) : Same H (L2.upd (L2.upd (L2.upd H dx o) x u) x v) := fun a y e => by
  rw [upd_ne (ne_of_none e nx), upd_ne (ne_of_none e nx), upd_ne (ne_of_none e nd)]
  exact e
/-- what a call of a class comes to -/
theorem made_ok {K : PySem.W.Frag} {c : Cs} {H : Hp} {d : Dm} {x : Cl} {a dx : Addr} {R : Hp → Prop} (hx : clD d = x) (ok : okD d) (q : ∀ H', Same H H' → DeedAt c H' a d → R H') (na : H a = none) (nd : H dx = none) (ne : dx ≠ a) :
    spInit K (c x) x (.ref a :: argsD d) (upd (upd H dx (.own a)) a (.ins (c x) dx [])) (fun v H3 => v = .non ∧ R H3) (fun _ _ _ => False) :=
  ⟨a, dx, d, rfl, hx, ok, upd_same, rfl, q _ (mk3_same na nd) ⟨dx, by rw [hx]; exact upd_same⟩⟩
section
variable {P : Program} {w : World} {K : PySem.W.Frag} {mg : Str → Option Value} {base : Heap} {f : Addr} {fd : FuncData}
def spMade (c : Cs) : Sp := fun vs H Q _ => ∃ (r : Addr) (d : Dm), vs = [.ref r] ∧ RowAt H r d ∧ okD d ∧ ∀ a H', Same H H' → DeedAt c H' a d → Q (.ref a) H'

theorem ok_made {c : Cs} (F : Fun K "_law_made" "_law_made" s__law_made f fd) (M : MkD P w K mg base c) : FnOk P w K mg base CX0 6 f fd ["_law_row"] (spMade c) := by
  refine F.ok sc__law_made (fun vs H Q E h => by obtain ⟨r, d, rfl, _⟩ := h; rfl) (fun cdv A outer s H vs Q E hr h => ?_)
  obtain ⟨r, d, rfl, er, ok, q⟩ := h
  obtain ⟨fG, fdG, dG, MG, FG, gG, kG, bG, vG⟩ := M.G
  obtain ⟨fT, fdT, g1, MT, FT, gT, kT1, kT3⟩ := M.T
  obtain ⟨fC, fdC, MC, FC, gC, bC⟩ := M.C
  obtain ⟨fP, fdP, MP, FP, gP, kP⟩ := M.P_
  obtain ⟨fU, fdU, MU, FU, gU, bU⟩ := M.U
  refine ⟨_, PSs.nox (pss_cons (ps_if (pt_cmpR op_eq (pe_ix ix_list (pv 0) pe_int (fun _ _ => rfl)) pe_str (nomark _)) (pss_one (ps_ret (pe_ifExp (pt_val (pe_ix ix_list (pv 0) pe_int (fun _ _ => rfl))) (pe_makeK (n := 3) MG FG hr (by rfl) gG kG pass0 (pa_cons (pe_ix ix_list (pv 0) pe_int (fun _ _ => rfl)) (pa_cons (pe_ix ix_list (pv 0) pe_int (fun _ _ => rfl)) (pa_cons (pe_ix ix_list (pv 0) pe_int (fun _ _ => rfl)) pa_nil))) (pk_cons (pe_ix ix_list (pv 0) pe_int (fun _ _ => rfl)) pk_nil)) (pe_make MG FG hr (by rfl) gG bG vG pass0 (pa_cons (pe_ix ix_list (pv 0) pe_int (fun _ _ => rfl)) (pa_cons (pe_ix ix_list (pv 0) pe_int (fun _ _ => rfl)) (pa_cons (pe_ix ix_list (pv 0) pe_int (fun _ _ => rfl)) pa_nil))))))) pss_nil)
    (pss_cons (ps_if (pt_cmpR op_eq (pe_ix ix_list (pv 0) pe_int (fun _ _ => rfl)) pe_str (nomark _)) (pss_cons (ps_if (pt_cmpR (op_eqD (hu64 hr)) (pe_slice sl_list (pv 0) (po_some pe_int) po_none) (pe_lst (pa_cons pe_bl (pa_cons pe_bl pa_nil))) (by rfl)) (pss_one (ps_ret (pe_makeK (n := 3) MT FT hr (by rfl) gT kT1 pass0 (pa_cons (pe_ix ix_list (pv 0) pe_int (fun _ _ => rfl)) (pa_cons (pe_ix ix_list (pv 0) pe_int (fun _ _ => rfl)) (pa_cons (pe_ix ix_list (pv 0) pe_int (fun _ _ => rfl)) pa_nil))) (pk_cons (pe_ix ix_list (pv 0) pe_int (fun _ _ => rfl)) pk_nil)))) pss_nil)
      (pss_one (ps_ret (pe_makeK (n := 3) MT FT hr (by rfl) gT kT3 pass0 (pa_cons (pe_ix ix_list (pv 0) pe_int (fun _ _ => rfl)) (pa_cons (pe_ix ix_list (pv 0) pe_int (fun _ _ => rfl)) (pa_cons (pe_ix ix_list (pv 0) pe_int (fun _ _ => rfl)) pa_nil))) (pk_cons (pe_ix ix_list (pv 0) pe_int (fun _ _ => rfl)) (pk_cons (pe_ix ix_list (pv 0) pe_int (fun _ _ => rfl)) (pk_cons (pe_ix ix_list (pv 0) pe_int (fun _ _ => rfl)) pk_nil))))))) pss_nil)
    (pss_cons (ps_if (pt_cmpR op_eq (pe_ix ix_list (pv 0) pe_int (fun _ _ => rfl)) pe_str (nomark _)) (pss_one (ps_ret (pe_make MC FC hr (by rfl) gC bC .nil pass0 (pa_cons (pe_ix ix_list (pv 0) pe_int (fun _ _ => rfl)) pa_nil)))) pss_nil)
    (pss_cons (ps_if (pt_cmpR op_eq (pe_ix ix_list (pv 0) pe_int (fun _ _ => rfl)) pe_str (nomark _)) (pss_one (ps_ret (pe_makeK (n := 3) MP FP hr (by rfl) gP kP pass0 (pa_cons (pe_ix ix_list (pv 0) pe_int (fun _ _ => rfl)) (pa_cons (pe_ix ix_list (pv 0) pe_int (fun _ _ => rfl)) (pa_cons (pe_ix ix_list (pv 0) pe_int (fun _ _ => rfl)) pa_nil))) (pk_cons (pe_ix ix_list (pv 0) pe_int (fun _ _ => rfl)) pk_nil)))) pss_nil)
    (pss_one (ps_ret (pe_make MU FU hr (by rfl) gU bU .nil pass0 (pa_cons (pe_ix ix_list (pv 0) pe_int (fun _ _ => rfl)) (pa_cons (pe_ix ix_list (pv 0) pe_int (fun _ _ => rfl)) pa_nil))))))))), ?_⟩
  cases d with
  | give wd t k o =>
    refine ⟨_, rfl, r, _, 0, .str (Str.ofString "give"), rfl, rfl, SqL.of er, atI_nat (j := 0) rfl, rfl, _, rfl, ?_⟩
    rw [show decide (V.str (Str.ofString "give") = V.str (Str.ofString "give")) = true from decide_eq_true rfl]
    refine iteT ?_
    refine ⟨_, rfl, r, _, 4, .bl o, rfl, rfl, SqL.of er, atI_nat (j := 4) rfl, _, rfl, ?_⟩
    cases o with
    | true => exact iteT ⟨_, rfl, r, _, 1, .str wd, rfl, rfl, SqL.of er, atI_nat (j := 1) rfl, _, rfl, r, _, 2, .str t, rfl, rfl, SqL.of er, atI_nat (j := 2) rfl, _, rfl, r, _, 3, .str k, rfl, rfl, SqL.of er, atI_nat (j := 3) rfl, _, rfl, r, _, 4, .bl true, rfl, rfl, SqL.of er, atI_nat (j := 4) rfl, rfl, rfl, fun x dx nx nd ne => made_ok (d := .give wd t k true) rfl ok (fun H2 s2 h => q x H2 s2 h) nx nd ne⟩
    | false => exact iteF ⟨_, rfl, r, _, 1, .str wd, rfl, rfl, SqL.of er, atI_nat (j := 1) rfl, _, rfl, r, _, 2, .str t, rfl, rfl, SqL.of er, atI_nat (j := 2) rfl, _, rfl, r, _, 3, .str k, rfl, rfl, SqL.of er, atI_nat (j := 3) rfl, fun x dx nx nd ne => made_ok (d := .give wd t k false) rfl ok (fun H2 s2 h => q x H2 s2 h) nx nd ne⟩
  | take wd t k g p cc =>
    refine ⟨_, rfl, r, _, 0, .str (Str.ofString "take"), rfl, rfl, SqL.of er, atI_nat (j := 0) rfl, rfl, _, rfl, ?_⟩
    rw [show decide (V.str (Str.ofString "take") = V.str (Str.ofString "give")) = false from by decide +kernel]
    refine iteF ?_
    refine ⟨_, rfl, r, _, 0, .str (Str.ofString "take"), rfl, rfl, SqL.of er, atI_nat (j := 0) rfl, rfl, _, rfl, ?_⟩
    rw [show decide (V.str (Str.ofString "take") = V.str (Str.ofString "take")) = true from decide_eq_true rfl]
    refine iteT ?_
    refine ⟨_, rfl, 5, rfl, r, _, rfl, SqL.of er, fun p1 np1 => ?_⟩
    have s1 := same_upd (o := .lst [.bl p, .bl cc]) np1
    have e1 : (upd H p1 (.lst [.bl p, .bl cc])) p1 = some (.lst [.bl p, .bl cc]) := upd_same
    rw [show cutV (valsD (.take wd t k g p cc)) (some 5) none = [.bl p, .bl cc] from rfl]
    generalize upd H p1 (.lst [.bl p, .bl cc]) = H1 at s1 e1 ⊢
    refine ⟨by show 2 ≤ sizeLine; decide, fun p2 np2 => ?_⟩
    have s2 := s1.trans (same_upd (o := .lst [.bl false, .bl false]) np2)
    have e2 : (upd H1 p2 (.lst [.bl false, .bl false])) p2 = some (.lst [.bl false, .bl false]) := upd_same
    have e1 : (upd H1 p2 (.lst [.bl false, .bl false])) p1 = some (.lst [.bl p, .bl cc]) := same_upd np2 _ _ e1
    generalize upd H1 p2 (.lst [.bl false, .bl false]) = H2 at s2 e1 e2 ⊢
    refine ⟨.list [.bool p, .bool cc], .list [.bool false, .bool false], .lst (SqL.of e1) (.cons (.bl _) (.cons (.bl _) .nil)), .lst (SqL.of e2) (.cons (.bl _) (.cons (.bl _) .nil)), by cases p <;> cases cc <;> decide +kernel, by decide +kernel, _, rfl, ?_⟩
    have er := s2 _ _ er
    have A3 : ∀ {R : List V → Hp → Prop}, True := fun {_} => trivial
    by_cases hpc : p = false ∧ cc = false
    · obtain ⟨rfl, rfl⟩ := hpc
      rw [show PyData.eqv (.list [.bool false, .bool false]) (.list [.bool false, .bool false]) = true by decide +kernel]
      exact iteT ⟨_, rfl, r, _, 1, .str wd, rfl, rfl, SqL.of er, atI_nat (j := 1) rfl, _, rfl, r, _, 2, .str t, rfl, rfl, SqL.of er, atI_nat (j := 2) rfl, _, rfl, r, _, 3, .str k, rfl, rfl, SqL.of er, atI_nat (j := 3) rfl, _, rfl, r, _, 4, gV g, rfl, rfl, SqL.of er, atI_nat (j := 4) rfl, rfl, rfl, fun x dx nx nd ne => made_ok (d := .take wd t k g false false) rfl ok (fun H3 s3 h => q x H3 (s2.trans s3) h) nx nd ne⟩
    · have ef : PyData.eqv (.list [.bool p, .bool cc]) (.list [.bool false, .bool false]) = false := by
        cases p <;> cases cc <;> first | exact absurd ⟨rfl, rfl⟩ hpc | decide +kernel
      rw [ef]
      exact iteF ⟨_, rfl, r, _, 1, .str wd, rfl, rfl, SqL.of er, atI_nat (j := 1) rfl, _, rfl, r, _, 2, .str t, rfl, rfl, SqL.of er, atI_nat (j := 2) rfl, _, rfl, r, _, 3, .str k, rfl, rfl, SqL.of er, atI_nat (j := 3) rfl, _, rfl, r, _, 6, .bl cc, rfl, rfl, SqL.of er, atI_nat (j := 6) rfl, _, rfl, r, _, 4, gV g, rfl, rfl, SqL.of er, atI_nat (j := 4) rfl, _, rfl, r, _, 5, .bl p, rfl, rfl, SqL.of er, atI_nat (j := 5) rfl, rfl, rfl, fun x dx nx nd ne => made_ok (d := .take wd t k g p cc) rfl ok (fun H3 s3 h => q x H3 (s2.trans s3) h) nx nd ne⟩
  | call n =>
    refine ⟨_, rfl, r, _, 0, .str (Str.ofString "call"), rfl, rfl, SqL.of er, atI_nat (j := 0) rfl, rfl, _, rfl, ?_⟩
    rw [show decide (V.str (Str.ofString "call") = V.str (Str.ofString "give")) = false from by decide +kernel]
    refine iteF ?_
    refine ⟨_, rfl, r, _, 0, .str (Str.ofString "call"), rfl, rfl, SqL.of er, atI_nat (j := 0) rfl, rfl, _, rfl, ?_⟩
    rw [show decide (V.str (Str.ofString "call") = V.str (Str.ofString "take")) = false from by decide +kernel]
    refine iteF ?_
    refine ⟨_, rfl, r, _, 0, .str (Str.ofString "call"), rfl, rfl, SqL.of er, atI_nat (j := 0) rfl, rfl, _, rfl, ?_⟩
    rw [show decide (V.str (Str.ofString "call") = V.str (Str.ofString "call")) = true from decide_eq_true rfl]
    refine iteT ?_
    exact ⟨_, rfl, r, _, 1, .str n, rfl, rfl, SqL.of er, atI_nat (j := 1) rfl, fun x dx nx nd ne => made_ok (d := .call n) rfl ok (fun H2 s2 h => q x H2 s2 h) nx nd ne⟩
  | preset sd wd k o =>
    refine ⟨_, rfl, r, _, 0, .str (Str.ofString "preset"), rfl, rfl, SqL.of er, atI_nat (j := 0) rfl, rfl, _, rfl, ?_⟩
    rw [show decide (V.str (Str.ofString "preset") = V.str (Str.ofString "give")) = false from by decide +kernel]
    refine iteF ?_
    refine ⟨_, rfl, r, _, 0, .str (Str.ofString "preset"), rfl, rfl, SqL.of er, atI_nat (j := 0) rfl, rfl, _, rfl, ?_⟩
    rw [show decide (V.str (Str.ofString "preset") = V.str (Str.ofString "take")) = false from by decide +kernel]
    refine iteF ?_
    refine ⟨_, rfl, r, _, 0, .str (Str.ofString "preset"), rfl, rfl, SqL.of er, atI_nat (j := 0) rfl, rfl, _, rfl, ?_⟩
    rw [show decide (V.str (Str.ofString "preset") = V.str (Str.ofString "call")) = false from by decide +kernel]
    refine iteF ?_
    refine ⟨_, rfl, r, _, 0, .str (Str.ofString "preset"), rfl, rfl, SqL.of er, atI_nat (j := 0) rfl, rfl, _, rfl, ?_⟩
    rw [show decide (V.str (Str.ofString "preset") = V.str (Str.ofString "preset")) = true from decide_eq_true rfl]
    refine iteT ?_
    exact ⟨_, rfl, r, _, 1, .str sd, rfl, rfl, SqL.of er, atI_nat (j := 1) rfl, _, rfl, r, _, 2, .str wd, rfl, rfl, SqL.of er, atI_nat (j := 2) rfl, _, rfl, r, _, 3, .str k, rfl, rfl, SqL.of er, atI_nat (j := 3) rfl, _, rfl, r, _, 4, .bl o, rfl, rfl, SqL.of er, atI_nat (j := 4) rfl, rfl, rfl, fun x dx nx nd ne => made_ok (d := .preset sd wd k o) rfl ok (fun H2 s2 h => q x H2 s2 h) nx nd ne⟩
  | use wd t =>
    refine ⟨_, rfl, r, _, 0, .str (Str.ofString "use"), rfl, rfl, SqL.of er, atI_nat (j := 0) rfl, rfl, _, rfl, ?_⟩
    rw [show decide (V.str (Str.ofString "use") = V.str (Str.ofString "give")) = false from by decide +kernel]
    refine iteF ?_
    refine ⟨_, rfl, r, _, 0, .str (Str.ofString "use"), rfl, rfl, SqL.of er, atI_nat (j := 0) rfl, rfl, _, rfl, ?_⟩
    rw [show decide (V.str (Str.ofString "use") = V.str (Str.ofString "take")) = false from by decide +kernel]
    refine iteF ?_
    refine ⟨_, rfl, r, _, 0, .str (Str.ofString "use"), rfl, rfl, SqL.of er, atI_nat (j := 0) rfl, rfl, _, rfl, ?_⟩
    rw [show decide (V.str (Str.ofString "use") = V.str (Str.ofString "call")) = false from by decide +kernel]
    refine iteF ?_
    refine ⟨_, rfl, r, _, 0, .str (Str.ofString "use"), rfl, rfl, SqL.of er, atI_nat (j := 0) rfl, rfl, _, rfl, ?_⟩
    rw [show decide (V.str (Str.ofString "use") = V.str (Str.ofString "preset")) = false from by decide +kernel]
    refine iteF ?_
    exact ⟨_, rfl, r, _, 1, .str wd, rfl, rfl, SqL.of er, atI_nat (j := 1) rfl, _, rfl, r, _, 2, .str t, rfl, rfl, SqL.of er, atI_nat (j := 2) rfl, fun x dx nx nd ne => made_ok (d := .use wd t) rfl ok (fun H2 s2 h => q x H2 s2 h) nx nd ne⟩
def spToldD (c : Cs) : Sp := fun vs H Q _ => ∃ (r a : Addr) (d : Dm), vs = [.ref r, .ref a] ∧ RowAt H r d ∧ DeedAt c H a d ∧ ∀ p, H p = none → Q (.ref p) (upd H p (.lst (argsD d)))
theorem ok_toldD {c : Cs} (F : Fun K "_law_told" "_law_told" s__law_told f fd) (G : DC K mg c) : FnOk P w K mg base CX0 1 f fd ["_law_row", "_law_deed"] (spToldD c) := by
  refine F.ok sc__law_told (fun vs H Q E h => by obtain ⟨r, a, d, rfl, _⟩ := h; rfl) (fun cdv A outer s H vs Q E hr h => ?_)
  obtain ⟨r, a, d, rfl, er, ⟨dx, ea⟩, q⟩ := h
  refine ⟨_, PSs.nox (pss_cons (ps_if (pt_cmpR op_eq (pe_ix ix_list (pv 0) pe_int (fun _ _ => rfl)) pe_str (nomark _)) (pss_one (ps_ret (pe_lst (pa_cons (pe_fld (pv 1) rfl) (pa_cons (pe_fld (pv 1) rfl) (pa_cons (pe_fld (pv 1) rfl) (pa_cons (pe_fld (pv 1) rfl) pa_nil))))))) pss_nil)
    (pss_cons (ps_if (pt_cmpR op_eq (pe_ix ix_list (pv 0) pe_int (fun _ _ => rfl)) pe_str (nomark _)) (pss_one (ps_ret (pe_lst (pa_cons (pe_fld (pv 1) rfl) (pa_cons (pe_fld (pv 1) rfl) (pa_cons (pe_fld (pv 1) rfl) (pa_cons (pe_fld (pv 1) rfl) (pa_cons (pe_fld (pv 1) rfl) (pa_cons (pe_fld (pv 1) rfl) pa_nil))))))))) pss_nil)
    (pss_cons (ps_if (pt_cmpR op_eq (pe_ix ix_list (pv 0) pe_int (fun _ _ => rfl)) pe_str (nomark _)) (pss_one (ps_ret (pe_lst (pa_cons (pe_fld (pv 1) rfl) pa_nil)))) pss_nil)
    (pss_cons (ps_if (pt_cmpR op_eq (pe_ix ix_list (pv 0) pe_int (fun _ _ => rfl)) pe_str (nomark _)) (pss_one (ps_ret (pe_lst (pa_cons (pe_fld (pv 1) rfl) (pa_cons (pe_fld (pv 1) rfl) (pa_cons (pe_fld (pv 1) rfl) (pa_cons (pe_fld (pv 1) rfl) pa_nil))))))) pss_nil)
    (pss_one (ps_ret (pe_lst (pa_cons (pe_fld (pv 1) rfl) (pa_cons (pe_fld (pv 1) rfl) pa_nil))))))))), ?_⟩
  cases d with
  | give wd t k o =>
    refine ⟨_, rfl, r, _, 0, .str (Str.ofString "give"), rfl, rfl, SqL.of er, atI_nat (j := 0) rfl, rfl, _, rfl, ?_⟩
    rw [show decide (V.str (Str.ofString "give") = V.str (Str.ofString "give")) = true from decide_eq_true rfl]
    refine iteT ?_
    exact ⟨_, rfl, a, c .give, dx, _, _, rfl, ea, (G.t .give).cl, G.nGive0, rfl, _, rfl, a, c .give, dx, _, _, rfl, ea, (G.t .give).cl, G.nGive1, rfl, _, rfl, a, c .give, dx, _, _, rfl, ea, (G.t .give).cl, G.nGive2, rfl, _, rfl, a, c .give, dx, _, _, rfl, ea, (G.t .give).cl, G.nGive3, rfl, by show 4 ≤ sizeLine; decide, fun p np => q p np⟩
  | take wd t k g p cc =>
    refine ⟨_, rfl, r, _, 0, .str (Str.ofString "take"), rfl, rfl, SqL.of er, atI_nat (j := 0) rfl, rfl, _, rfl, ?_⟩
    rw [show decide (V.str (Str.ofString "take") = V.str (Str.ofString "give")) = false from by decide +kernel]
    refine iteF ?_
    refine ⟨_, rfl, r, _, 0, .str (Str.ofString "take"), rfl, rfl, SqL.of er, atI_nat (j := 0) rfl, rfl, _, rfl, ?_⟩
    rw [show decide (V.str (Str.ofString "take") = V.str (Str.ofString "take")) = true from decide_eq_true rfl]
    refine iteT ?_
    exact ⟨_, rfl, a, c .take, dx, _, _, rfl, ea, (G.t .take).cl, G.nTake0, rfl, _, rfl, a, c .take, dx, _, _, rfl, ea, (G.t .take).cl, G.nTake1, rfl, _, rfl, a, c .take, dx, _, _, rfl, ea, (G.t .take).cl, G.nTake2, rfl, _, rfl, a, c .take, dx, _, _, rfl, ea, (G.t .take).cl, G.nTake3, rfl, _, rfl, a, c .take, dx, _, _, rfl, ea, (G.t .take).cl, G.nTake4, rfl, _, rfl, a, c .take, dx, _, _, rfl, ea, (G.t .take).cl, G.nTake5, rfl, by show 6 ≤ sizeLine; decide, fun p np => q p np⟩
  | call n =>
    refine ⟨_, rfl, r, _, 0, .str (Str.ofString "call"), rfl, rfl, SqL.of er, atI_nat (j := 0) rfl, rfl, _, rfl, ?_⟩
    rw [show decide (V.str (Str.ofString "call") = V.str (Str.ofString "give")) = false from by decide +kernel]
    refine iteF ?_
    refine ⟨_, rfl, r, _, 0, .str (Str.ofString "call"), rfl, rfl, SqL.of er, atI_nat (j := 0) rfl, rfl, _, rfl, ?_⟩
    rw [show decide (V.str (Str.ofString "call") = V.str (Str.ofString "take")) = false from by decide +kernel]
    refine iteF ?_
    refine ⟨_, rfl, r, _, 0, .str (Str.ofString "call"), rfl, rfl, SqL.of er, atI_nat (j := 0) rfl, rfl, _, rfl, ?_⟩
    rw [show decide (V.str (Str.ofString "call") = V.str (Str.ofString "call")) = true from decide_eq_true rfl]
    refine iteT ?_
    exact ⟨_, rfl, a, c .call, dx, _, _, rfl, ea, (G.t .call).cl, G.nCall0, rfl, by show 1 ≤ sizeLine; decide, fun p np => q p np⟩
  | preset sd wd k o =>
    refine ⟨_, rfl, r, _, 0, .str (Str.ofString "preset"), rfl, rfl, SqL.of er, atI_nat (j := 0) rfl, rfl, _, rfl, ?_⟩
    rw [show decide (V.str (Str.ofString "preset") = V.str (Str.ofString "give")) = false from by decide +kernel]
    refine iteF ?_
    refine ⟨_, rfl, r, _, 0, .str (Str.ofString "preset"), rfl, rfl, SqL.of er, atI_nat (j := 0) rfl, rfl, _, rfl, ?_⟩
    rw [show decide (V.str (Str.ofString "preset") = V.str (Str.ofString "take")) = false from by decide +kernel]
    refine iteF ?_
    refine ⟨_, rfl, r, _, 0, .str (Str.ofString "preset"), rfl, rfl, SqL.of er, atI_nat (j := 0) rfl, rfl, _, rfl, ?_⟩
    rw [show decide (V.str (Str.ofString "preset") = V.str (Str.ofString "call")) = false from by decide +kernel]
    refine iteF ?_
    refine ⟨_, rfl, r, _, 0, .str (Str.ofString "preset"), rfl, rfl, SqL.of er, atI_nat (j := 0) rfl, rfl, _, rfl, ?_⟩
    rw [show decide (V.str (Str.ofString "preset") = V.str (Str.ofString "preset")) = true from decide_eq_true rfl]
    refine iteT ?_
    exact ⟨_, rfl, a, c .preset, dx, _, _, rfl, ea, (G.t .preset).cl, G.nPreset0, rfl, _, rfl, a, c .preset, dx, _, _, rfl, ea, (G.t .preset).cl, G.nPreset1, rfl, _, rfl, a, c .preset, dx, _, _, rfl, ea, (G.t .preset).cl, G.nPreset2, rfl, _, rfl, a, c .preset, dx, _, _, rfl, ea, (G.t .preset).cl, G.nPreset3, rfl, by show 4 ≤ sizeLine; decide, fun p np => q p np⟩
  | use wd t =>
    refine ⟨_, rfl, r, _, 0, .str (Str.ofString "use"), rfl, rfl, SqL.of er, atI_nat (j := 0) rfl, rfl, _, rfl, ?_⟩
    rw [show decide (V.str (Str.ofString "use") = V.str (Str.ofString "give")) = false from by decide +kernel]
    refine iteF ?_
    refine ⟨_, rfl, r, _, 0, .str (Str.ofString "use"), rfl, rfl, SqL.of er, atI_nat (j := 0) rfl, rfl, _, rfl, ?_⟩
    rw [show decide (V.str (Str.ofString "use") = V.str (Str.ofString "take")) = false from by decide +kernel]
    refine iteF ?_
    refine ⟨_, rfl, r, _, 0, .str (Str.ofString "use"), rfl, rfl, SqL.of er, atI_nat (j := 0) rfl, rfl, _, rfl, ?_⟩
    rw [show decide (V.str (Str.ofString "use") = V.str (Str.ofString "call")) = false from by decide +kernel]
    refine iteF ?_
    refine ⟨_, rfl, r, _, 0, .str (Str.ofString "use"), rfl, rfl, SqL.of er, atI_nat (j := 0) rfl, rfl, _, rfl, ?_⟩
    rw [show decide (V.str (Str.ofString "use") = V.str (Str.ofString "preset")) = false from by decide +kernel]
    refine iteF ?_
    exact ⟨_, rfl, a, c .use, dx, _, _, rfl, ea, (G.t .use).cl, G.nUse0, rfl, _, rfl, a, c .use, dx, _, _, rfl, ea, (G.t .use).cl, G.nUse1, rfl, by show 2 ≤ sizeLine; decide, fun p np => q p np⟩
end
end K06
set_option maxHeartbeats 4000000
namespace K06
open PySem PySem.Spec PyProof.Rows L2 RL RE RN RM TL RQ
theorem iteB {c : Bool} {A B : Prop} (h : c = true) (a : A) : if c = true then A else B := by rw [if_pos h]; exact a
theorem iteN {c : Bool} {A B : Prop} (h : c = false) (a : B) : if c = true then A else B := by rw [h, if_neg (by decide)]; exact a
/-- a list of words -/
structure At (H0 H : Hp) (p : Addr) (ws : List Str) : Prop where
  at_ : H p = some (.lst (ws.map V.str))
  same : Same H0 H
theorem At.cat {H0 H : Hp} {p pd p2 : Addr} {ws lw : List Str} (g : At H0 H p ws) (n1 : H pd = none) (n2 : (upd H pd (.lst (lw.map V.str))) p2 = none) : At H0 (upd (upd H pd (.lst (lw.map V.str))) p2 (.lst (ws.map V.str ++ lw.map V.str))) p2 (ws ++ lw) :=
  ⟨by rw [upd_same, List.map_append], (g.same.trans (same_upd n1)).trans (same_upd n2)⟩
section
variable {P : Program} {w : World} {K : PySem.W.Frag} {mg : Str → Option Value} {base : Heap} {f : Addr} {fd : FuncData}
def spText : Sp := fun vs H Q _ => ∃ (r : Addr) (d : Dm), vs = [.ref r] ∧ RowAt H r d ∧ okD d ∧ ∀ H', Same H H' → Q (.str (strD d)) H'

theorem ok_text (F : Fun K "_law_text" "_law_text" s__law_text f fd) (mi : mg "int" = none) : FnOk P w K mg base CX0 1 f fd ["_law_row"] spText := by
  refine F.ok sc__law_text (fun vs H Q E h => by obtain ⟨r, d, rfl, _⟩ := h; rfl) (fun cdv A outer s H vs Q E hr h => ?_)
  obtain ⟨r, d, rfl, er, ok, q⟩ := h
  refine ⟨_, PSs.nox (pss_cons (ps_if (pt_cmpR op_in_seq (pe_ix ix_list (pv 0) pe_int (fun _ _ => rfl)) (pe_lst (pa_cons pe_str (pa_cons pe_str pa_nil))) (by rfl))
      (pss_one (ps_ret (pe_join pe_str (pe_op op_cat (pe_slice sl_list (pv 0) po_none (po_some pe_int)) (pe_ix ix_list (pe_lst (pa_cons (pe_lst (pa_cons pe_str pa_nil)) (pa_cons (pe_lst pa_nil) pa_nil))) (pe_callTy call_int1 (by rfl) mi (by decide +kernel) (pa_cons (pe_not (pe_ix ix_list (pv 0) pe_int (fun _ _ => rfl))) pa_nil)) (fun _ _ => rfl)))))) pss_nil)
    (pss_cons (ps_if (pt_cmpR op_eq (pe_ix ix_list (pv 0) pe_int (fun _ _ => rfl)) pe_str (nomark _))
      (pss_cons (ps_set (i := 1) sc__law_text.nd rfl (.inl rfl) (pe_slice sl_list (pv 0) po_none (po_some pe_int)))
      (pss_cons (ps_if (pt_cmpR op_notN (pe_ix ix_list (pv 0) pe_int (fun _ _ => rfl)) pe_non (by rfl)) (pss_one (ps_set (i := 1) sc__law_text.nd rfl (.inl rfl) (pe_op op_cat (pv 1) (pe_lst (pa_cons pe_str (pa_cons (pe_ix ix_list (pv 0) pe_int (fun _ _ => rfl)) pa_nil)))))) pss_nil)
      (pss_cons (ps_if (pt_val (pe_ix ix_list (pv 0) pe_int (fun _ _ => rfl))) (pss_one (ps_set (i := 1) sc__law_text.nd rfl (.inl rfl) (pe_op op_cat (pv 1) (pe_lst (pa_cons pe_str pa_nil))))) pss_nil)
      (pss_one (ps_ret (pe_ifExp (pt_val (pe_ix ix_list (pv 0) pe_int (fun _ _ => rfl))) (pe_join pe_str (pe_op op_cat (pv 1) (pe_lst (pa_cons pe_str pa_nil)))) (pe_join pe_str (pv 1)))))))) pss_nil)
    (pss_one (ps_ret (pe_join pe_str (pv 0)))))), ?_⟩
  cases d with
  | give wd t k o =>
    refine ⟨_, rfl, r, _, 0, .str (Str.ofString "give"), rfl, rfl, SqL.of (er), atI_nat (j := 0) rfl, by show 2 ≤ sizeLine; decide, fun p1 np1 => ?_⟩
    have s1 := same_upd (o := .lst [.str (Str.ofString "give"), .str (Str.ofString "preset")]) np1
    refine ⟨p1, [.str (Str.ofString "give"), .str (Str.ofString "preset")], rfl, .inl (SqL.of upd_same), rfl, rfl, _, rfl, ?_⟩
    generalize upd H p1 (.lst [.str (Str.ofString "give"), .str (Str.ofString "preset")]) = H1 at s1 ⊢
    have er1 := s1 _ _ er
    refine iteB (by decide +kernel) ?_
    obtain ⟨⟨l1, _⟩, ⟨l2, _⟩, ⟨l3, _⟩, _⟩ := ok
    refine ⟨⟨_, rfl⟩, _, rfl, 4, rfl, r, _, rfl, SqL.of er1, fun p2 np2 => ?_⟩
    rw [show cutV (valsD (.give wd t k o)) none (some 4) = [.str (Str.ofString "give"), .str wd, .str t, .str k] from rfl]
    have s2 := s1.trans (same_upd (o := .lst [.str (Str.ofString "give"), .str wd, .str t, .str k]) np2)
    have e2 : (upd H1 p2 (.lst [.str (Str.ofString "give"), .str wd, .str t, .str k])) p2 = some (.lst [.str (Str.ofString "give"), .str wd, .str t, .str k]) := upd_same
    generalize upd H1 p2 (.lst [.str (Str.ofString "give"), .str wd, .str t, .str k]) = H2 at s2 e2 ⊢
    refine ⟨by show 1 ≤ sizeLine; decide, fun p3 np3 => ?_⟩
    have s3 := same_upd (o := .lst [.str (Str.ofString "option")]) np3
    have e3 : (upd H2 p3 (.lst [.str (Str.ofString "option")])) p3 = some (.lst [.str (Str.ofString "option")]) := upd_same
    generalize upd H2 p3 (.lst [.str (Str.ofString "option")]) = H3 at s3 e3 ⊢
    refine ⟨by show 0 ≤ sizeLine; decide, fun p4 np4 => ?_⟩
    have s4 := same_upd (o := .lst []) np4
    have e4 : (upd H3 p4 (.lst [])) p4 = some (.lst []) := upd_same
    generalize upd H3 p4 (.lst []) = H4 at s4 e4 ⊢
    refine ⟨by show 2 ≤ sizeLine; decide, fun p5 np5 => ?_⟩
    have s5 := same_upd (o := .lst [.ref p3, .ref p4]) np5
    have e5 : (upd H4 p5 (.lst [.ref p3, .ref p4])) p5 = some (.lst [.ref p3, .ref p4]) := upd_same
    generalize upd H4 p5 (.lst [.ref p3, .ref p4]) = H5 at s5 e5 ⊢
    have s25 := (s3.trans s4).trans s5
    have sA := s2.trans s25
    cases o with
    | false =>
      refine ⟨_, rfl, r, _, 4, .bl false, rfl, rfl, SqL.of (sA _ _ er), atI_nat (j := 4) rfl, _, rfl, .inr ⟨_, rfl, p5, [.ref p3, .ref p4], 1, .ref p4, rfl, rfl, SqL.of e5, atI_nat (j := 1) rfl, ?_⟩⟩
      refine ⟨p2, p4, [.str (Str.ofString "give"), .str wd, .str t, .str k], [], rfl, rfl, s25 _ _ e2, s5 _ _ e4, by show 4 ≤ sizeLine; decide, fun p6 np6 => ?_⟩
      refine ⟨_, p6, wordsD (.give wd t k false), rfl, rfl, .inl (SqL.of upd_same), ?_, q _ (sA.trans (same_upd np6))⟩
      show (4 + (wd.length + (t.length + (k.length + 0)))) + 4 * 1 ≤ 16777216
      omega
    | true =>
      refine ⟨_, rfl, r, _, 4, .bl true, rfl, rfl, SqL.of (sA _ _ er), atI_nat (j := 4) rfl, _, rfl, .inr ⟨_, rfl, p5, [.ref p3, .ref p4], 0, .ref p3, rfl, rfl, SqL.of e5, atI_nat (j := 0) rfl, ?_⟩⟩
      refine ⟨p2, p3, [.str (Str.ofString "give"), .str wd, .str t, .str k], [.str (Str.ofString "option")], rfl, rfl, s25 _ _ e2, s5 _ _ (s4 _ _ e3), by show 5 ≤ sizeLine; decide, fun p6 np6 => ?_⟩
      refine ⟨_, p6, wordsD (.give wd t k true), rfl, rfl, .inl (SqL.of upd_same), ?_, q _ (sA.trans (same_upd np6))⟩
      show (4 + (wd.length + (t.length + (k.length + (6 + 0))))) + 5 * 1 ≤ 16777216
      omega
  | preset sd wd k o =>
    refine ⟨_, rfl, r, _, 0, .str (Str.ofString "preset"), rfl, rfl, SqL.of (er), atI_nat (j := 0) rfl, by show 2 ≤ sizeLine; decide, fun p1 np1 => ?_⟩
    have s1 := same_upd (o := .lst [.str (Str.ofString "give"), .str (Str.ofString "preset")]) np1
    refine ⟨p1, [.str (Str.ofString "give"), .str (Str.ofString "preset")], rfl, .inl (SqL.of upd_same), rfl, rfl, _, rfl, ?_⟩
    generalize upd H p1 (.lst [.str (Str.ofString "give"), .str (Str.ofString "preset")]) = H1 at s1 ⊢
    have er1 := s1 _ _ er
    refine iteB (by decide +kernel) ?_
    obtain ⟨⟨l1, _⟩, ⟨l2, _⟩, ⟨l3, _⟩, _⟩ := ok
    refine ⟨⟨_, rfl⟩, _, rfl, 4, rfl, r, _, rfl, SqL.of er1, fun p2 np2 => ?_⟩
    rw [show cutV (valsD (.preset sd wd k o)) none (some 4) = [.str (Str.ofString "preset"), .str sd, .str wd, .str k] from rfl]
    have s2 := s1.trans (same_upd (o := .lst [.str (Str.ofString "preset"), .str sd, .str wd, .str k]) np2)
    have e2 : (upd H1 p2 (.lst [.str (Str.ofString "preset"), .str sd, .str wd, .str k])) p2 = some (.lst [.str (Str.ofString "preset"), .str sd, .str wd, .str k]) := upd_same
    generalize upd H1 p2 (.lst [.str (Str.ofString "preset"), .str sd, .str wd, .str k]) = H2 at s2 e2 ⊢
    refine ⟨by show 1 ≤ sizeLine; decide, fun p3 np3 => ?_⟩
    have s3 := same_upd (o := .lst [.str (Str.ofString "option")]) np3
    have e3 : (upd H2 p3 (.lst [.str (Str.ofString "option")])) p3 = some (.lst [.str (Str.ofString "option")]) := upd_same
    generalize upd H2 p3 (.lst [.str (Str.ofString "option")]) = H3 at s3 e3 ⊢
    refine ⟨by show 0 ≤ sizeLine; decide, fun p4 np4 => ?_⟩
    have s4 := same_upd (o := .lst []) np4
    have e4 : (upd H3 p4 (.lst [])) p4 = some (.lst []) := upd_same
    generalize upd H3 p4 (.lst []) = H4 at s4 e4 ⊢
    refine ⟨by show 2 ≤ sizeLine; decide, fun p5 np5 => ?_⟩
    have s5 := same_upd (o := .lst [.ref p3, .ref p4]) np5
    have e5 : (upd H4 p5 (.lst [.ref p3, .ref p4])) p5 = some (.lst [.ref p3, .ref p4]) := upd_same
    generalize upd H4 p5 (.lst [.ref p3, .ref p4]) = H5 at s5 e5 ⊢
    have s25 := (s3.trans s4).trans s5
    have sA := s2.trans s25
    cases o with
    | false =>
      refine ⟨_, rfl, r, _, 4, .bl false, rfl, rfl, SqL.of (sA _ _ er), atI_nat (j := 4) rfl, _, rfl, .inr ⟨_, rfl, p5, [.ref p3, .ref p4], 1, .ref p4, rfl, rfl, SqL.of e5, atI_nat (j := 1) rfl, ?_⟩⟩
      refine ⟨p2, p4, [.str (Str.ofString "preset"), .str sd, .str wd, .str k], [], rfl, rfl, s25 _ _ e2, s5 _ _ e4, by show 4 ≤ sizeLine; decide, fun p6 np6 => ?_⟩
      refine ⟨_, p6, wordsD (.preset sd wd k false), rfl, rfl, .inl (SqL.of upd_same), ?_, q _ (sA.trans (same_upd np6))⟩
      show (6 + (sd.length + (wd.length + (k.length + 0)))) + 4 * 1 ≤ 16777216
      omega
    | true =>
      refine ⟨_, rfl, r, _, 4, .bl true, rfl, rfl, SqL.of (sA _ _ er), atI_nat (j := 4) rfl, _, rfl, .inr ⟨_, rfl, p5, [.ref p3, .ref p4], 0, .ref p3, rfl, rfl, SqL.of e5, atI_nat (j := 0) rfl, ?_⟩⟩
      refine ⟨p2, p3, [.str (Str.ofString "preset"), .str sd, .str wd, .str k], [.str (Str.ofString "option")], rfl, rfl, s25 _ _ e2, s5 _ _ (s4 _ _ e3), by show 5 ≤ sizeLine; decide, fun p6 np6 => ?_⟩
      refine ⟨_, p6, wordsD (.preset sd wd k true), rfl, rfl, .inl (SqL.of upd_same), ?_, q _ (sA.trans (same_upd np6))⟩
      show (6 + (sd.length + (wd.length + (k.length + (6 + 0))))) + 5 * 1 ≤ 16777216
      omega
  | take wd t k g po cc =>
    refine ⟨_, rfl, r, _, 0, .str (Str.ofString "take"), rfl, rfl, SqL.of (er), atI_nat (j := 0) rfl, by show 2 ≤ sizeLine; decide, fun p1 np1 => ?_⟩
    have s1 := same_upd (o := .lst [.str (Str.ofString "give"), .str (Str.ofString "preset")]) np1
    refine ⟨p1, [.str (Str.ofString "give"), .str (Str.ofString "preset")], rfl, .inl (SqL.of upd_same), rfl, rfl, _, rfl, ?_⟩
    generalize upd H p1 (.lst [.str (Str.ofString "give"), .str (Str.ofString "preset")]) = H1 at s1 ⊢
    have er1 := s1 _ _ er
    refine iteN (by decide +kernel) ?_
    obtain ⟨⟨l1, _⟩, ⟨l2, _⟩, ⟨l3, _⟩, _, _, _, hg⟩ := ok
    refine ⟨_, rfl, r, _, 0, .str (Str.ofString "take"), rfl, rfl, SqL.of (er1), atI_nat (j := 0) rfl, rfl, _, rfl, ?_⟩
    refine iteB (decide_eq_true rfl) ?_
    refine ⟨_, rfl, 4, rfl, r, _, rfl, SqL.of er1, fun p2 np2 => ?_⟩
    rw [show cutV (valsD (.take wd t k g po cc)) none (some 4) = [.str (Str.ofString "take"), .str wd, .str t, .str k] from rfl]
    have g1 : At H (upd H1 p2 (.lst [.str (Str.ofString "take"), .str wd, .str t, .str k])) p2 [(Str.ofString "take"), wd, t, k] := ⟨upd_same, s1.trans (same_upd np2)⟩
    generalize upd H1 p2 (.lst [.str (Str.ofString "take"), .str wd, .str t, .str k]) = H2 at g1 ⊢
    cases g with
    | none =>
      refine ⟨_, rfl, r, _, 4, .non, rfl, rfl, SqL.of (g1.same _ _ er), atI_nat (j := 4) rfl, rfl, _, rfl, ?_⟩
      refine iteF ?_
      refine ⟨_, rfl, r, _, 5, .bl po, rfl, rfl, SqL.of (g1.same _ _ er), atI_nat (j := 5) rfl, _, rfl, ?_⟩
      cases po with
      | false =>
        refine iteF ?_
        refine ⟨_, rfl, r, _, 6, .bl cc, rfl, rfl, SqL.of (g1.same _ _ er), atI_nat (j := 6) rfl, _, rfl, ?_⟩
        cases cc with
        | false =>
          refine iteF ⟨⟨_, rfl⟩, _, rfl, _, p2, wordsD (.take wd t k none false false), rfl, rfl, .inl (SqL.of g1.at_), ?_, q _ g1.same⟩
          show (4 + (wd.length + (t.length + (k.length + 0)))) + 4 * 1 ≤ 16777216
          omega
        | true =>
          refine iteT ⟨⟨_, rfl⟩, _, rfl, by show 1 ≤ sizeLine; decide, fun p10 np10 => ?_⟩
          refine ⟨p2, p10, _, _, rfl, rfl, same_upd np10 _ _ g1.at_, upd_same, by show 5 ≤ sizeLine; decide, fun p11 np11 => ?_⟩
          have g1 := g1.cat (lw := [(Str.ofString "cascade")]) np10 np11
          refine ⟨_, p11, wordsD (.take wd t k none false true), rfl, rfl, .inl (SqL.of g1.at_), ?_, q _ g1.same⟩
          show (4 + (wd.length + (t.length + (k.length + (7 + 0))))) + 5 * 1 ≤ 16777216
          omega
      | true =>
        refine iteT ⟨_, rfl, by show 1 ≤ sizeLine; decide, fun p12 np12 => ?_⟩
        refine ⟨p2, p12, _, _, rfl, rfl, same_upd np12 _ _ g1.at_, upd_same, by show 5 ≤ sizeLine; decide, fun p13 np13 => ?_⟩
        have g1 := g1.cat (lw := [(Str.ofString "option")]) np12 np13
        refine ⟨_, rfl, r, _, 6, .bl cc, rfl, rfl, SqL.of (g1.same _ _ er), atI_nat (j := 6) rfl, _, rfl, ?_⟩
        cases cc with
        | false =>
          refine iteF ⟨⟨_, rfl⟩, _, rfl, _, p13, wordsD (.take wd t k none true false), rfl, rfl, .inl (SqL.of g1.at_), ?_, q _ g1.same⟩
          show (4 + (wd.length + (t.length + (k.length + (6 + 0))))) + 5 * 1 ≤ 16777216
          omega
        | true =>
          refine iteT ⟨⟨_, rfl⟩, _, rfl, by show 1 ≤ sizeLine; decide, fun p14 np14 => ?_⟩
          refine ⟨p13, p14, _, _, rfl, rfl, same_upd np14 _ _ g1.at_, upd_same, by show 6 ≤ sizeLine; decide, fun p15 np15 => ?_⟩
          have g1 := g1.cat (lw := [(Str.ofString "cascade")]) np14 np15
          refine ⟨_, p15, wordsD (.take wd t k none true true), rfl, rfl, .inl (SqL.of g1.at_), ?_, q _ g1.same⟩
          show (4 + (wd.length + (t.length + (k.length + (6 + (7 + 0)))))) + 6 * 1 ≤ 16777216
          omega
    | some y =>
      refine ⟨_, rfl, r, _, 4, .str y, rfl, rfl, SqL.of (g1.same _ _ er), atI_nat (j := 4) rfl, rfl, _, rfl, ?_⟩
      have l4 := (hg y rfl).1.1
      refine iteT ⟨_, rfl, _, rfl, r, _, 4, .str y, rfl, rfl, SqL.of (g1.same _ _ er), atI_nat (j := 4) rfl, by show 2 ≤ sizeLine; decide, fun p16 np16 => ?_⟩
      refine ⟨p2, p16, _, _, rfl, rfl, same_upd np16 _ _ g1.at_, upd_same, by show 6 ≤ sizeLine; decide, fun p17 np17 => ?_⟩
      have g1 := g1.cat (lw := [(Str.ofString "by"), y]) np16 np17
      refine ⟨_, rfl, r, _, 5, .bl po, rfl, rfl, SqL.of (g1.same _ _ er), atI_nat (j := 5) rfl, _, rfl, ?_⟩
      cases po with
      | false =>
        refine iteF ?_
        refine ⟨_, rfl, r, _, 6, .bl cc, rfl, rfl, SqL.of (g1.same _ _ er), atI_nat (j := 6) rfl, _, rfl, ?_⟩
        cases cc with
        | false =>
          refine iteF ⟨⟨_, rfl⟩, _, rfl, _, p17, wordsD (.take wd t k (some y) false false), rfl, rfl, .inl (SqL.of g1.at_), ?_, q _ g1.same⟩
          show (4 + (wd.length + (t.length + (k.length + (2 + (y.length + 0)))))) + 6 * 1 ≤ 16777216
          omega
        | true =>
          refine iteT ⟨⟨_, rfl⟩, _, rfl, by show 1 ≤ sizeLine; decide, fun p18 np18 => ?_⟩
          refine ⟨p17, p18, _, _, rfl, rfl, same_upd np18 _ _ g1.at_, upd_same, by show 7 ≤ sizeLine; decide, fun p19 np19 => ?_⟩
          have g1 := g1.cat (lw := [(Str.ofString "cascade")]) np18 np19
          refine ⟨_, p19, wordsD (.take wd t k (some y) false true), rfl, rfl, .inl (SqL.of g1.at_), ?_, q _ g1.same⟩
          show (4 + (wd.length + (t.length + (k.length + (2 + (y.length + (7 + 0))))))) + 7 * 1 ≤ 16777216
          omega
      | true =>
        refine iteT ⟨_, rfl, by show 1 ≤ sizeLine; decide, fun p20 np20 => ?_⟩
        refine ⟨p17, p20, _, _, rfl, rfl, same_upd np20 _ _ g1.at_, upd_same, by show 7 ≤ sizeLine; decide, fun p21 np21 => ?_⟩
        have g1 := g1.cat (lw := [(Str.ofString "option")]) np20 np21
        refine ⟨_, rfl, r, _, 6, .bl cc, rfl, rfl, SqL.of (g1.same _ _ er), atI_nat (j := 6) rfl, _, rfl, ?_⟩
        cases cc with
        | false =>
          refine iteF ⟨⟨_, rfl⟩, _, rfl, _, p21, wordsD (.take wd t k (some y) true false), rfl, rfl, .inl (SqL.of g1.at_), ?_, q _ g1.same⟩
          show (4 + (wd.length + (t.length + (k.length + (2 + (y.length + (6 + 0))))))) + 7 * 1 ≤ 16777216
          omega
        | true =>
          refine iteT ⟨⟨_, rfl⟩, _, rfl, by show 1 ≤ sizeLine; decide, fun p22 np22 => ?_⟩
          refine ⟨p21, p22, _, _, rfl, rfl, same_upd np22 _ _ g1.at_, upd_same, by show 8 ≤ sizeLine; decide, fun p23 np23 => ?_⟩
          have g1 := g1.cat (lw := [(Str.ofString "cascade")]) np22 np23
          refine ⟨_, p23, wordsD (.take wd t k (some y) true true), rfl, rfl, .inl (SqL.of g1.at_), ?_, q _ g1.same⟩
          show (4 + (wd.length + (t.length + (k.length + (2 + (y.length + (6 + (7 + 0)))))))) + 8 * 1 ≤ 16777216
          omega
  | call n =>
    refine ⟨_, rfl, r, _, 0, .str (Str.ofString "call"), rfl, rfl, SqL.of (er), atI_nat (j := 0) rfl, by show 2 ≤ sizeLine; decide, fun p1 np1 => ?_⟩
    have s1 := same_upd (o := .lst [.str (Str.ofString "give"), .str (Str.ofString "preset")]) np1
    refine ⟨p1, [.str (Str.ofString "give"), .str (Str.ofString "preset")], rfl, .inl (SqL.of upd_same), rfl, rfl, _, rfl, ?_⟩
    generalize upd H p1 (.lst [.str (Str.ofString "give"), .str (Str.ofString "preset")]) = H1 at s1 ⊢
    have er1 := s1 _ _ er
    refine iteN (by decide +kernel) ?_
    obtain ⟨⟨l1, _⟩, _⟩ := ok
    refine ⟨_, rfl, r, _, 0, .str (Str.ofString "call"), rfl, rfl, SqL.of (er1), atI_nat (j := 0) rfl, rfl, _, rfl, ?_⟩
    refine iteN (by decide +kernel) ?_
    refine ⟨⟨_, rfl⟩, _, rfl, _, r, wordsD (.call n), rfl, rfl, .inl (SqL.of er1), ?_, q _ s1⟩
    show (4 + (n.length + 0)) + 2 * 1 ≤ 16777216
    omega
  | use wd t =>
    refine ⟨_, rfl, r, _, 0, .str (Str.ofString "use"), rfl, rfl, SqL.of (er), atI_nat (j := 0) rfl, by show 2 ≤ sizeLine; decide, fun p1 np1 => ?_⟩
    have s1 := same_upd (o := .lst [.str (Str.ofString "give"), .str (Str.ofString "preset")]) np1
    refine ⟨p1, [.str (Str.ofString "give"), .str (Str.ofString "preset")], rfl, .inl (SqL.of upd_same), rfl, rfl, _, rfl, ?_⟩
    generalize upd H p1 (.lst [.str (Str.ofString "give"), .str (Str.ofString "preset")]) = H1 at s1 ⊢
    have er1 := s1 _ _ er
    refine iteN (by decide +kernel) ?_
    obtain ⟨⟨l1, _⟩, ⟨l2, _⟩, _⟩ := ok
    refine ⟨_, rfl, r, _, 0, .str (Str.ofString "use"), rfl, rfl, SqL.of (er1), atI_nat (j := 0) rfl, rfl, _, rfl, ?_⟩
    refine iteN (by decide +kernel) ?_
    refine ⟨⟨_, rfl⟩, _, rfl, _, r, wordsD (.use wd t), rfl, rfl, .inl (SqL.of er1), ?_, q _ s1⟩
    show (3 + (wd.length + (t.length + 0))) + 3 * 1 ≤ 16777216
    omega
end
end K06
set_option maxHeartbeats 4000000
namespace K06
open PySem PySem.Spec PyProof.Rows L2 RL RE RN RM TL RQ
/-! ### one part otherwise -/
def tail1 (z : Str) (c : Nat) : Str := cutS z none (some 7) ++ ⟨#[c]⟩
theorem last_app {x : Str} {c : Nat} : (tl (x ++ (⟨#[c]⟩ : Str))).getLast? = some c := by
  have e : tl (x ++ (⟨#[c]⟩ : Str)) = tl x ++ [c] := by
    show (x.cps ++ #[c]).toList = _
    rw [Array.toList_append]
  rw [e]
  simp
theorem name_low {z : Str} (h : nameT z = true) : okP lowC z := by
  unfold nameT at h
  simp only [Bool.and_eq_true] at h
  exact fun x hx => List.all_eq_true.mp h.1.1.2 x hx
theorem cut7 (z : Str) : (cutS z none (some 7)).length ≤ 7 := by
  show (List.toArray (List.take (HT.sIx z.length z.length (some 7) - HT.sIx z.length 0 none) (List.drop (HT.sIx z.length 0 none) z.cps.toList))).size ≤ 7
  rw [List.size_toArray, List.length_take]
  have e2 : HT.sIx z.length z.length (some 7) = min 7 z.length := if_neg (c := (7 : Int) < 0) (t := ((7 : Int) + (z.length : Int)).toNat) (by decide)
  have e4 : HT.sIx z.length 0 none = 0 := rfl
  rw [e2, e4]
  omega
theorem tail_name {z : Str} {c : Nat} (h : nameT z = true) (hc : c = 113 ∨ c = 122) : nameT (tail1 z c) = true ∧ txt (tail1 z c) := by
  have l7 := cut7 z
  have ll : (tail1 z c).length = (cutS z none (some 7)).length + 1 := app_len _ _
  have ok : okP lowC (tail1 z c) := app_okP (cut_okP (name_low h) _ _) (okP_one (by rcases hc with e | e <;> rw [e] <;> decide))
  have key : ∀ w : Str, (tl w).getLast? ≠ some c → tail1 z c ≠ w := fun w hw e => hw (by rw [← e]; exact last_app)
  refine ⟨name_of (by omega) (by omega) ok (key _ ?_) (key _ ?_), txt_low (by omega) ok⟩
  · rcases hc with e | e <;> rw [e] <;> decide +kernel
  · rcases hc with e | e <;> rw [e] <;> decide +kernel
theorem z8_name : nameT (Str.ofString "zzzzzzzz") = true ∧ txt (Str.ofString "zzzzzzzz") := ⟨by decide +kernel, lit_txt (by decide +kernel)⟩
theorem not_pub {z : Str} (h : nameT z = true) : isT tPub (.str z) = false := by
  cases e : isT tPub (.str z) with
  | false => rfl
  | true =>
    rw [← isT_dec'] at e
    have e := V.str.inj (of_decide_eq_true e)
    rw [e] at h
    revert h
    decide +kernel
theorem no_words {k : Str} (h : inV (.str k) [.str tCal, .str tPub] = false) : isT tCal (.str k) = false ∧ isT tPub (.str k) = false := by
  rw [inV2, Bool.or_eq_false_iff] at h
  refine ⟨?_, ?_⟩
  · rw [← isT_dec', decide_eq_false fun e => ?_]
    rw [V.str.inj e, beq_self_eq_true] at h
    cases h.1
  · rw [← isT_dec', decide_eq_false fun e => ?_]
    rw [V.str.inj e, beq_self_eq_true] at h
    cases h.2
theorem taker_name {k : Str} (h : isTaker (.str k) = true) (n : isT tPub (.str k) = false) : nameT k = true := by
  have h : (nameT k || isT tPub (.str k)) = true := h
  rw [n, Bool.or_false] at h
  exact h
theorem opt_ok {k : Str} {o : Bool} (h : (!decide (V.str k = V.str (Str.ofString "public"))) = true) : isT tPub (.str k) = false := by
  rw [← isT_dec']
  cases e : decide (V.str k = V.str tPub) with
  | false => rfl
  | true => rw [show decide (V.str k = V.str (Str.ofString "public")) = true from e] at h; cases h
theorem qz (e : Bool) : ∃ c : Nat, atI [V.str (Str.ofString "q"), .str (Str.ofString "z")] (if e = true then 1 else 0) = some (.str ⟨#[c]⟩) ∧ (c = 113 ∨ c = 122) := by
  cases e with
  | false => exact ⟨113, atI_nat (j := 0) (by rw [show Str.ofString "q" = ⟨#[113]⟩ by decide +kernel]; rfl), .inl rfl⟩
  | true => exact ⟨122, atI_nat (j := 1) (by rw [show Str.ofString "z" = ⟨#[122]⟩ by decide +kernel]; rfl), .inr rfl⟩
section
variable {P : Program} {w : World} {K : PySem.W.Frag} {mg : Str → Option Value} {base : Heap} {f : Addr} {fd : FuncData}
def spOther : Sp := fun vs H Q _ => ∃ (b r : Addr) (n : Int) (d : Dm), vs = [.ref b, .ref r] ∧ 0 ≤ n ∧ n ≤ 90000 ∧ Bx H b n ∧ RowAt H r d ∧ okD d ∧ ∀ (p : Addr) (d' : Dm) H', okD d' → RowAt H' p d' → Keep b H H' → Bx H' b (n + 1) → Q (.ref p) H'

theorem ok_other (F : Fun K "_law_otherwise" "_law_otherwise" s__law_otherwise f fd) (GT : Df P w K mg base CX0 1 "_law_take" ["_law_box_here", "_law_many"] spTake) (ml : mg "len" = none) (mli : mg "list" = none) (mi : mg "int" = none) (mii : mg "isinstance" = none) (mb : mg "bool" = none) :
    FnOk P w K mg base CX0 2 f fd ["_law_box_here", "_law_row"] spOther := by
  refine F.ok sc__law_otherwise (fun vs H Q E h => by obtain ⟨b, r, n, d, rfl, _⟩ := h; rfl) (fun cdv A outer s H vs Q E hr h => ?_)
  obtain ⟨b, r, n, d, rfl, n0, n1, hb, er, ok, q⟩ := h
  refine ⟨_, PSs.nox (pss_cons (ps_set (i := 2) sc__law_otherwise.nd rfl (.inl rfl) (pe_callTy call_list_of (by rfl) mli (by decide +kernel) (pa_cons (pv 1) pa_nil)))
    (pss_cons (ps_set (i := 3) sc__law_otherwise.nd rfl (.inl rfl) (pe_op op_add pe_int (pe_df0 GT hr (by rfl) (pa_cons (pv 0) (pa_cons (pe_op op_sub (pe_callB call_len_seq (by rfl) ml PySem.boot_len (pa_cons (pv 1) pa_nil)) pe_int) pa_nil)))))
    (pss_cons (ps_if (pt_val (pe_callB call_isi (by rfl) mii boot_isinstance (pa_cons (pe_ix ix_list (pv 2) (pv 3) (fun _ _ => rfl)) (pa_cons (pe_bltn (v := .ty "bool") (by rfl) mb PyProof.Rows.boot_bool rfl) pa_nil)))) (pss_one (ps_asg (pe_and (pe_not (pe_ix ix_list (pv 2) (pv 3) (fun _ _ => rfl))) (pe_one (pe_cmpR op_ne (pe_ix ix_list (pv 2) pe_int (fun _ _ => rfl)) pe_str (nomark _)))) (pg_sub (pv 2) (pv 3) set_list))) (pss_one (ps_if (PW.pt (pw_or (PW.pt (pw_and (pt_cmpR op_eq (pv 3) (pe_op op_sub (pe_callB call_len_seq (by rfl) ml PySem.boot_len (pa_cons (pv 1) pa_nil)) pe_int) (by rfl)) (pw_and1 (pt_cmpR op_eq (pe_ix ix_list (pv 1) pe_int (fun _ _ => rfl)) pe_str (nomark _))))) (pw_or1 (pt_cmpR op_eq (pe_ix ix_list (pv 1) pe_int (fun _ _ => rfl)) pe_str (nomark _))))) (pss_one (ps_asg (pe_op op_add_str (pe_slice sl_str (pe_ix ix_list (pv 2) (pv 3) (fun _ _ => rfl)) po_none (po_some pe_int)) (pe_ix ix_list (pe_lst (pa_cons pe_str (pa_cons pe_str pa_nil))) (pe_callTy call_int1 (by rfl) mi (by decide +kernel) (pa_cons (pe_bm PySem.F.plainAttrs_str PySem.F.slot_str_endswith PySem.F.type_str_endswith mt_endswith (pe_slice sl_str (pe_ix ix_list (pv 2) (pv 3) (fun _ _ => rfl)) po_none (po_some pe_int)) (pa_cons pe_str pa_nil)) pa_nil)) (fun _ _ => rfl))) (pg_sub (pv 2) (pv 3) set_list))) (pss_one (ps_if (PW.pt (pw_and (pt_cmpR op_eq (pe_ix ix_list (pv 1) pe_int (fun _ _ => rfl)) pe_str (nomark _)) (pw_and1 (pt_cmpR op_eq (pv 3) pe_int (nomark _))))) (pss_one (ps_asg (pe_ix ix_list (pe_lst (pa_cons pe_str (pa_cons pe_non pa_nil))) (pe_callTy call_int1 (by rfl) mi (by decide +kernel) (pa_cons (pe_cmpR op_notN (pe_ix ix_list (pv 2) (pv 3) (fun _ _ => rfl)) pe_non (by rfl)) pa_nil)) (fun _ _ => rfl)) (pg_sub (pv 2) (pv 3) set_list))) (pss_one (ps_if (PW.pt (pw_and (pt_cmpR op_in_seq (pe_ix ix_list (pv 1) pe_int (fun _ _ => rfl)) (pe_lst (pa_cons pe_str (pa_cons pe_str pa_nil))) (by rfl)) (pw_and (pt_cmpR op_in_seq (pv 3) (pe_lst (pa_cons pe_int (pa_cons pe_int pa_nil))) (by rfl)) (pw_and1 (pt_cmpR op_notIn_seq (pe_ix ix_list (pv 2) (pv 3) (fun _ _ => rfl)) (pe_lst (pa_cons pe_str (pa_cons pe_str pa_nil))) (by rfl)))))) (pss_one (ps_asg (pe_op op_add_str (pe_slice sl_str (pe_ix ix_list (pv 2) (pv 3) (fun _ _ => rfl)) po_none (po_some pe_int)) (pe_ix ix_list (pe_lst (pa_cons pe_str (pa_cons pe_str pa_nil))) (pe_callTy call_int1 (by rfl) mi (by decide +kernel) (pa_cons (pe_bm PySem.F.plainAttrs_str PySem.F.slot_str_endswith PySem.F.type_str_endswith mt_endswith (pe_slice sl_str (pe_ix ix_list (pv 2) (pv 3) (fun _ _ => rfl)) po_none (po_some pe_int)) (pa_cons pe_str pa_nil)) pa_nil)) (fun _ _ => rfl))) (pg_sub (pv 2) (pv 3) set_list))) pss_nil)))))))
    (pss_one (ps_ret (pv 2)))))), ?_⟩
  have rne := er.ne hb
  have rl : SqL K H r (valsD d) := SqL.of er
  refine ⟨_, rfl, r, _, rfl, .inl rl, fun p1 np1 => ?_⟩
  have s1 := same_upd (o := .lst (valsD d)) np1
  have e1 : RowAt (upd H p1 (.lst (valsD d))) p1 d := upd_same
  have n1b := ne_box hb np1
  generalize upd H p1 (.lst (valsD d)) = H1 at s1 e1 ⊢
  have hb1 := hb.same s1
  have er1 := er.same s1
  /- what is stored -/
  have fin : ∀ {H2 H3 : Hp} {d' : Dm}, Keep b H1 H2 → Bx H2 b (n + 1) → Same H2 H3 → okD d' → Q (.ref p1) (upd H3 p1 (.lst (valsD d'))) := fun {H2 H3 d'} k2 hb2 s3 ok' => by
    refine q p1 d' _ ok' upd_same ?_ ?_
    · intro a x na ea
      rw [upd_ne (ne_of_none ea np1)]
      exact s3 _ _ (k2 _ _ na (s1 _ _ ea))
    · obtain ⟨g, m, c, e, r1⟩ := hb2
      exact ⟨g, m, c, by rw [upd_ne n1b.symm]; exact s3 _ _ e, r1⟩
  have fin0 : ∀ {H2 H3 : Hp}, Keep b H1 H2 → Bx H2 b (n + 1) → Same H2 H3 → Q (.ref p1) H3 := fun {H2 H3} k2 hb2 s3 => q p1 d H3 ok (s3 _ _ (k2 _ _ n1b e1)) (fun a x na ea => s3 _ _ (k2 _ _ na (s1 _ _ ea))) (hb2.same s3)
  cases d with
  | give wd t k o =>
    obtain ⟨tw, tt, tk, kw, nt, hk, ho⟩ := ok
    refine ⟨_, rfl, _, rfl, r, _, rfl, .inl (SqL.of er1), 5, 1, rfl, rfl, b, 4, n, rfl, by decide, by decide, n0, by omega, hb1, fun d2 H2 d20 d21 k2 hb2 => ⟨1, d2, rfl, rfl, ?_⟩⟩
    have e2 := k2 _ _ n1b e1
    have er2 := k2 _ _ rne er1
    have hat : d2 = 0 ∨ d2 = 1 ∨ d2 = 2 ∨ d2 = 3 := by omega
    rcases hat with rfl | rfl | rfl | rfl
    · refine ⟨_, rfl, _, rfl, p1, _, 1, .str wd, rfl, rfl, SqL.of (e2), atI_nat (j := 1) rfl, .str wd, .ty "bool", .type "str", .type "bool", false, rfl, .ty _, .base (.str _), kit_ty k_str_bool, _, rfl, ?_⟩
      refine iteF ?_
      refine ⟨_, rfl, _, rfl, r, _, rfl, .inl (SqL.of er2), 5, 1, rfl, rfl, rfl, _, rfl, ?_⟩
      refine iteN (by decide +kernel) ?_
      refine iteF ?_
      refine ⟨_, rfl, r, _, 0, .str (Str.ofString "give"), rfl, rfl, SqL.of (er2), atI_nat (j := 0) rfl, rfl, _, rfl, ?_⟩
      refine iteN (by decide +kernel) ?_
      refine ⟨_, rfl, r, _, 0, .str (Str.ofString "give"), rfl, rfl, SqL.of (er2), atI_nat (j := 0) rfl, rfl, _, rfl, ?_⟩
      refine iteN (by decide +kernel) ?_
      refine ⟨_, rfl, r, _, 0, .str (Str.ofString "give"), rfl, rfl, SqL.of (er2), atI_nat (j := 0) rfl, by show 2 ≤ sizeLine; decide, fun p6 np6 => ?_⟩
      have s6 := same_upd (o := .lst [.str (Str.ofString "give"), .str (Str.ofString "take")]) np6
      refine ⟨p6, [.str (Str.ofString "give"), .str (Str.ofString "take")], rfl, .inl (SqL.of upd_same), rfl, rfl, _, rfl, ?_⟩
      generalize upd H2 p6 (.lst [.str (Str.ofString "give"), .str (Str.ofString "take")]) = H6 at s6 ⊢
      refine iteB (by decide +kernel) ?_
      refine ⟨_, rfl, by show 2 ≤ sizeLine; decide, fun p7 np7 => ?_⟩
      have s7 := s6.trans (same_upd (o := .lst [.int 2, .int 3]) np7)
      refine ⟨p7, [.int 2, .int 3], rfl, .inl (SqL.of upd_same), rfl, rfl, _, rfl, ?_⟩
      generalize upd H6 p7 (.lst [.int 2, .int 3]) = H7 at s7 ⊢
      exact iteN (by decide +kernel) ⟨_, rfl, fin0 k2 hb2 s7⟩
    · refine ⟨_, rfl, _, rfl, p1, _, 2, .str t, rfl, rfl, SqL.of (e2), atI_nat (j := 2) rfl, .str t, .ty "bool", .type "str", .type "bool", false, rfl, .ty _, .base (.str _), kit_ty k_str_bool, _, rfl, ?_⟩
      refine iteF ?_
      refine ⟨_, rfl, _, rfl, r, _, rfl, .inl (SqL.of er2), 5, 1, rfl, rfl, rfl, _, rfl, ?_⟩
      refine iteN (by decide +kernel) ?_
      refine iteF ?_
      refine ⟨_, rfl, r, _, 0, .str (Str.ofString "give"), rfl, rfl, SqL.of (er2), atI_nat (j := 0) rfl, rfl, _, rfl, ?_⟩
      refine iteN (by decide +kernel) ?_
      refine ⟨_, rfl, r, _, 0, .str (Str.ofString "give"), rfl, rfl, SqL.of (er2), atI_nat (j := 0) rfl, rfl, _, rfl, ?_⟩
      refine iteN (by decide +kernel) ?_
      refine ⟨_, rfl, r, _, 0, .str (Str.ofString "give"), rfl, rfl, SqL.of (er2), atI_nat (j := 0) rfl, by show 2 ≤ sizeLine; decide, fun p6 np6 => ?_⟩
      have s6 := same_upd (o := .lst [.str (Str.ofString "give"), .str (Str.ofString "take")]) np6
      refine ⟨p6, [.str (Str.ofString "give"), .str (Str.ofString "take")], rfl, .inl (SqL.of upd_same), rfl, rfl, _, rfl, ?_⟩
      generalize upd H2 p6 (.lst [.str (Str.ofString "give"), .str (Str.ofString "take")]) = H6 at s6 ⊢
      refine iteB (by decide +kernel) ?_
      refine ⟨_, rfl, by show 2 ≤ sizeLine; decide, fun p7 np7 => ?_⟩
      have s7 := s6.trans (same_upd (o := .lst [.int 2, .int 3]) np7)
      refine ⟨p7, [.int 2, .int 3], rfl, .inl (SqL.of upd_same), rfl, rfl, _, rfl, ?_⟩
      generalize upd H6 p7 (.lst [.int 2, .int 3]) = H7 at s7 ⊢
      refine iteB (by decide +kernel) ?_
      refine ⟨_, rfl, _, rfl, p1, _, 2, .str t, rfl, rfl, SqL.of (s7 _ _ e2), atI_nat (j := 2) rfl, by show 2 ≤ sizeLine; decide, fun p8 np8 => ?_⟩
      have s8 := s7.trans (same_upd (o := .lst [.str tCal, .str tPub]) np8)
      refine ⟨p8, [.str tCal, .str tPub], rfl, .inl (SqL.of upd_same), rfl, rfl, _, rfl, ?_⟩
      generalize upd H7 p8 (.lst [.str tCal, .str tPub]) = H8 at s8 ⊢
      cases hin : inV (.str t) [.str tCal, .str tPub] with
      | true => exact iteN rfl ⟨_, rfl, fin0 k2 hb2 s8⟩
      | false =>
        refine iteB rfl ?_
        have lz : t.length ≤ sizeLine := Nat.le_trans tt.1 (by decide)
        have lc := cut7 t
        refine ⟨_, rfl, _, rfl, p1, _, 2, .str t, rfl, rfl, SqL.of ((s8 _ _ e2)), atI_nat (j := 2) rfl, 7, rfl, t, rfl, lz, ?_⟩
        refine ⟨by show 2 ≤ sizeLine; decide, fun p9 np9 => ?_⟩
        have s9 := s8.trans (same_upd (o := .lst [.str (Str.ofString "q"), .str (Str.ofString "z")]) np9)
        have e9 : (upd H8 p9 (.lst [.str (Str.ofString "q"), .str (Str.ofString "z")])) p9 = some (.lst [.str (Str.ofString "q"), .str (Str.ofString "z")]) := upd_same
        have eh9 := same_upd (o := .lst [.str (Str.ofString "q"), .str (Str.ofString "z")]) np9 _ _ ((s8 _ _ e2))
        generalize upd H8 p9 (.lst [.str (Str.ofString "q"), .str (Str.ofString "z")]) = H9 at s9 e9 eh9 ⊢
        refine ⟨_, rfl, _, rfl, p1, _, 2, .str t, rfl, rfl, SqL.of (eh9), atI_nat (j := 2) rfl, 7, rfl, t, rfl, lz, rfl, _, _, rfl, rfl, .inr ⟨_, rfl, ?_⟩⟩
        obtain ⟨c, ec, hc⟩ := qz (Txt.endswith (cutS t none (some 7)) (Str.ofString "q"))
        obtain ⟨n2, t2⟩ := tail_name nt hc
        refine ⟨p9, _, _, .str ⟨#[c]⟩, rfl, rfl, SqL.of e9, ec, _, _, rfl, rfl, ?_, ?_⟩
        · exact Nat.le_trans (show _ ≤ 8 by rw [show (⟨#[c]⟩ : Str).length = 1 from rfl]; omega) (by decide)
        · exact ⟨_, rfl, _, rfl, p1, _, _, 2, rfl, rfl, eh9, rfl, _, rfl, fin (d' := (.give wd (tail1 t c) k o)) k2 hb2 s9 ⟨tw, t2, tk, kw, n2, hk, ho⟩⟩
    · refine ⟨_, rfl, _, rfl, p1, _, 3, .str k, rfl, rfl, SqL.of (e2), atI_nat (j := 3) rfl, .str k, .ty "bool", .type "str", .type "bool", false, rfl, .ty _, .base (.str _), kit_ty k_str_bool, _, rfl, ?_⟩
      refine iteF ?_
      refine ⟨_, rfl, _, rfl, r, _, rfl, .inl (SqL.of er2), 5, 1, rfl, rfl, rfl, _, rfl, ?_⟩
      refine iteN (by decide +kernel) ?_
      refine iteF ?_
      refine ⟨_, rfl, r, _, 0, .str (Str.ofString "give"), rfl, rfl, SqL.of (er2), atI_nat (j := 0) rfl, rfl, _, rfl, ?_⟩
      refine iteN (by decide +kernel) ?_
      refine ⟨_, rfl, r, _, 0, .str (Str.ofString "give"), rfl, rfl, SqL.of (er2), atI_nat (j := 0) rfl, rfl, _, rfl, ?_⟩
      refine iteN (by decide +kernel) ?_
      refine ⟨_, rfl, r, _, 0, .str (Str.ofString "give"), rfl, rfl, SqL.of (er2), atI_nat (j := 0) rfl, by show 2 ≤ sizeLine; decide, fun p6 np6 => ?_⟩
      have s6 := same_upd (o := .lst [.str (Str.ofString "give"), .str (Str.ofString "take")]) np6
      refine ⟨p6, [.str (Str.ofString "give"), .str (Str.ofString "take")], rfl, .inl (SqL.of upd_same), rfl, rfl, _, rfl, ?_⟩
      generalize upd H2 p6 (.lst [.str (Str.ofString "give"), .str (Str.ofString "take")]) = H6 at s6 ⊢
      refine iteB (by decide +kernel) ?_
      refine ⟨_, rfl, by show 2 ≤ sizeLine; decide, fun p7 np7 => ?_⟩
      have s7 := s6.trans (same_upd (o := .lst [.int 2, .int 3]) np7)
      refine ⟨p7, [.int 2, .int 3], rfl, .inl (SqL.of upd_same), rfl, rfl, _, rfl, ?_⟩
      generalize upd H6 p7 (.lst [.int 2, .int 3]) = H7 at s7 ⊢
      refine iteB (by decide +kernel) ?_
      refine ⟨_, rfl, _, rfl, p1, _, 3, .str k, rfl, rfl, SqL.of (s7 _ _ e2), atI_nat (j := 3) rfl, by show 2 ≤ sizeLine; decide, fun p8 np8 => ?_⟩
      have s8 := s7.trans (same_upd (o := .lst [.str tCal, .str tPub]) np8)
      refine ⟨p8, [.str tCal, .str tPub], rfl, .inl (SqL.of upd_same), rfl, rfl, _, rfl, ?_⟩
      generalize upd H7 p8 (.lst [.str tCal, .str tPub]) = H8 at s8 ⊢
      cases hin : inV (.str k) [.str tCal, .str tPub] with
      | true => exact iteN rfl ⟨_, rfl, fin0 k2 hb2 s8⟩
      | false =>
        refine iteB rfl ?_
        have nk := taker_name (hk.resolve_left (by rw [(no_words hin).1]; exact Bool.false_ne_true)) (no_words hin).2
        have lz : k.length ≤ sizeLine := Nat.le_trans tk.1 (by decide)
        have lc := cut7 k
        refine ⟨_, rfl, _, rfl, p1, _, 3, .str k, rfl, rfl, SqL.of ((s8 _ _ e2)), atI_nat (j := 3) rfl, 7, rfl, k, rfl, lz, ?_⟩
        refine ⟨by show 2 ≤ sizeLine; decide, fun p9 np9 => ?_⟩
        have s9 := s8.trans (same_upd (o := .lst [.str (Str.ofString "q"), .str (Str.ofString "z")]) np9)
        have e9 : (upd H8 p9 (.lst [.str (Str.ofString "q"), .str (Str.ofString "z")])) p9 = some (.lst [.str (Str.ofString "q"), .str (Str.ofString "z")]) := upd_same
        have eh9 := same_upd (o := .lst [.str (Str.ofString "q"), .str (Str.ofString "z")]) np9 _ _ ((s8 _ _ e2))
        generalize upd H8 p9 (.lst [.str (Str.ofString "q"), .str (Str.ofString "z")]) = H9 at s9 e9 eh9 ⊢
        refine ⟨_, rfl, _, rfl, p1, _, 3, .str k, rfl, rfl, SqL.of (eh9), atI_nat (j := 3) rfl, 7, rfl, k, rfl, lz, rfl, _, _, rfl, rfl, .inr ⟨_, rfl, ?_⟩⟩
        obtain ⟨c, ec, hc⟩ := qz (Txt.endswith (cutS k none (some 7)) (Str.ofString "q"))
        obtain ⟨n2, t2⟩ := tail_name nk hc
        refine ⟨p9, _, _, .str ⟨#[c]⟩, rfl, rfl, SqL.of e9, ec, _, _, rfl, rfl, ?_, ?_⟩
        · exact Nat.le_trans (show _ ≤ 8 by rw [show (⟨#[c]⟩ : Str).length = 1 from rfl]; omega) (by decide)
        · exact ⟨_, rfl, _, rfl, p1, _, _, 3, rfl, rfl, eh9, rfl, _, rfl, fin (d' := (.give wd t (tail1 k c) o)) k2 hb2 s9 ⟨tw, tt, t2, kw, nt, .inr (name_taker n2), fun _ => not_pub n2⟩⟩
    · refine ⟨_, rfl, _, rfl, p1, _, 4, .bl o, rfl, rfl, SqL.of (e2), atI_nat (j := 4) rfl, .bl o, .ty "bool", .type "bool", .type "bool", true, rfl, .ty _, .base (.bl _), kit_ty k_bool_bool, _, rfl, ?_⟩
      refine iteT ?_
      refine ⟨_, rfl, _, rfl, p1, _, 4, .bl o, rfl, rfl, SqL.of (e2), atI_nat (j := 4) rfl, _, rfl, _, rfl, ?_⟩
      cases o with
      | true => exact iteF ⟨_, rfl, _, rfl, p1, _, _, 4, rfl, rfl, e2, rfl, _, rfl, fin (d' := (.give wd t k false)) k2 hb2 same_refl ⟨tw, tt, tk, kw, nt, hk, (fun h => by cases h)⟩⟩
      | false => exact iteT ⟨_, rfl, p1, _, 3, .str k, rfl, rfl, SqL.of e2, atI_nat (j := 3) rfl, rfl, _, rfl, _, rfl, p1, _, _, 4, rfl, rfl, e2, rfl, _, rfl, fin (d' := (.give wd t k (!decide (V.str k = V.str (Str.ofString "public"))))) k2 hb2 same_refl ⟨tw, tt, tk, kw, nt, hk, (fun h => opt_ok (o := true) h)⟩⟩
  | take wd t k g po cc =>
    obtain ⟨tw, tt, tk, kw, nt, hk, hg⟩ := ok
    refine ⟨_, rfl, _, rfl, r, _, rfl, .inl (SqL.of er1), 7, 1, rfl, rfl, b, 6, n, rfl, by decide, by decide, n0, by omega, hb1, fun d2 H2 d20 d21 k2 hb2 => ⟨1, d2, rfl, rfl, ?_⟩⟩
    have e2 := k2 _ _ n1b e1
    have er2 := k2 _ _ rne er1
    have hat : d2 = 0 ∨ d2 = 1 ∨ d2 = 2 ∨ d2 = 3 ∨ d2 = 4 ∨ d2 = 5 := by omega
    rcases hat with rfl | rfl | rfl | rfl | rfl | rfl
    · refine ⟨_, rfl, _, rfl, p1, _, 1, .str wd, rfl, rfl, SqL.of (e2), atI_nat (j := 1) rfl, .str wd, .ty "bool", .type "str", .type "bool", false, rfl, .ty _, .base (.str _), kit_ty k_str_bool, _, rfl, ?_⟩
      refine iteF ?_
      refine ⟨_, rfl, _, rfl, r, _, rfl, .inl (SqL.of er2), 7, 1, rfl, rfl, rfl, _, rfl, ?_⟩
      refine iteN (by decide +kernel) ?_
      refine iteF ?_
      refine ⟨_, rfl, r, _, 0, .str (Str.ofString "take"), rfl, rfl, SqL.of (er2), atI_nat (j := 0) rfl, rfl, _, rfl, ?_⟩
      refine iteN (by decide +kernel) ?_
      refine ⟨_, rfl, r, _, 0, .str (Str.ofString "take"), rfl, rfl, SqL.of (er2), atI_nat (j := 0) rfl, rfl, _, rfl, ?_⟩
      refine iteB (decide_eq_true rfl) ?_
      refine ⟨_, rfl, rfl, _, rfl, ?_⟩
      refine iteN (by decide +kernel) ?_
      refine ⟨_, rfl, r, _, 0, .str (Str.ofString "take"), rfl, rfl, SqL.of (er2), atI_nat (j := 0) rfl, by show 2 ≤ sizeLine; decide, fun p6 np6 => ?_⟩
      have s6 := same_upd (o := .lst [.str (Str.ofString "give"), .str (Str.ofString "take")]) np6
      refine ⟨p6, [.str (Str.ofString "give"), .str (Str.ofString "take")], rfl, .inl (SqL.of upd_same), rfl, rfl, _, rfl, ?_⟩
      generalize upd H2 p6 (.lst [.str (Str.ofString "give"), .str (Str.ofString "take")]) = H6 at s6 ⊢
      refine iteB (by decide +kernel) ?_
      refine ⟨_, rfl, by show 2 ≤ sizeLine; decide, fun p7 np7 => ?_⟩
      have s7 := s6.trans (same_upd (o := .lst [.int 2, .int 3]) np7)
      refine ⟨p7, [.int 2, .int 3], rfl, .inl (SqL.of upd_same), rfl, rfl, _, rfl, ?_⟩
      generalize upd H6 p7 (.lst [.int 2, .int 3]) = H7 at s7 ⊢
      exact iteN (by decide +kernel) ⟨_, rfl, fin0 k2 hb2 s7⟩
    · refine ⟨_, rfl, _, rfl, p1, _, 2, .str t, rfl, rfl, SqL.of (e2), atI_nat (j := 2) rfl, .str t, .ty "bool", .type "str", .type "bool", false, rfl, .ty _, .base (.str _), kit_ty k_str_bool, _, rfl, ?_⟩
      refine iteF ?_
      refine ⟨_, rfl, _, rfl, r, _, rfl, .inl (SqL.of er2), 7, 1, rfl, rfl, rfl, _, rfl, ?_⟩
      refine iteN (by decide +kernel) ?_
      refine iteF ?_
      refine ⟨_, rfl, r, _, 0, .str (Str.ofString "take"), rfl, rfl, SqL.of (er2), atI_nat (j := 0) rfl, rfl, _, rfl, ?_⟩
      refine iteN (by decide +kernel) ?_
      refine ⟨_, rfl, r, _, 0, .str (Str.ofString "take"), rfl, rfl, SqL.of (er2), atI_nat (j := 0) rfl, rfl, _, rfl, ?_⟩
      refine iteB (decide_eq_true rfl) ?_
      refine ⟨_, rfl, rfl, _, rfl, ?_⟩
      refine iteN (by decide +kernel) ?_
      refine ⟨_, rfl, r, _, 0, .str (Str.ofString "take"), rfl, rfl, SqL.of (er2), atI_nat (j := 0) rfl, by show 2 ≤ sizeLine; decide, fun p6 np6 => ?_⟩
      have s6 := same_upd (o := .lst [.str (Str.ofString "give"), .str (Str.ofString "take")]) np6
      refine ⟨p6, [.str (Str.ofString "give"), .str (Str.ofString "take")], rfl, .inl (SqL.of upd_same), rfl, rfl, _, rfl, ?_⟩
      generalize upd H2 p6 (.lst [.str (Str.ofString "give"), .str (Str.ofString "take")]) = H6 at s6 ⊢
      refine iteB (by decide +kernel) ?_
      refine ⟨_, rfl, by show 2 ≤ sizeLine; decide, fun p7 np7 => ?_⟩
      have s7 := s6.trans (same_upd (o := .lst [.int 2, .int 3]) np7)
      refine ⟨p7, [.int 2, .int 3], rfl, .inl (SqL.of upd_same), rfl, rfl, _, rfl, ?_⟩
      generalize upd H6 p7 (.lst [.int 2, .int 3]) = H7 at s7 ⊢
      refine iteB (by decide +kernel) ?_
      refine ⟨_, rfl, _, rfl, p1, _, 2, .str t, rfl, rfl, SqL.of (s7 _ _ e2), atI_nat (j := 2) rfl, by show 2 ≤ sizeLine; decide, fun p8 np8 => ?_⟩
      have s8 := s7.trans (same_upd (o := .lst [.str tCal, .str tPub]) np8)
      refine ⟨p8, [.str tCal, .str tPub], rfl, .inl (SqL.of upd_same), rfl, rfl, _, rfl, ?_⟩
      generalize upd H7 p8 (.lst [.str tCal, .str tPub]) = H8 at s8 ⊢
      cases hin : inV (.str t) [.str tCal, .str tPub] with
      | true => exact iteN rfl ⟨_, rfl, fin0 k2 hb2 s8⟩
      | false =>
        refine iteB rfl ?_
        have lz : t.length ≤ sizeLine := Nat.le_trans tt.1 (by decide)
        have lc := cut7 t
        refine ⟨_, rfl, _, rfl, p1, _, 2, .str t, rfl, rfl, SqL.of ((s8 _ _ e2)), atI_nat (j := 2) rfl, 7, rfl, t, rfl, lz, ?_⟩
        refine ⟨by show 2 ≤ sizeLine; decide, fun p9 np9 => ?_⟩
        have s9 := s8.trans (same_upd (o := .lst [.str (Str.ofString "q"), .str (Str.ofString "z")]) np9)
        have e9 : (upd H8 p9 (.lst [.str (Str.ofString "q"), .str (Str.ofString "z")])) p9 = some (.lst [.str (Str.ofString "q"), .str (Str.ofString "z")]) := upd_same
        have eh9 := same_upd (o := .lst [.str (Str.ofString "q"), .str (Str.ofString "z")]) np9 _ _ ((s8 _ _ e2))
        generalize upd H8 p9 (.lst [.str (Str.ofString "q"), .str (Str.ofString "z")]) = H9 at s9 e9 eh9 ⊢
        refine ⟨_, rfl, _, rfl, p1, _, 2, .str t, rfl, rfl, SqL.of (eh9), atI_nat (j := 2) rfl, 7, rfl, t, rfl, lz, rfl, _, _, rfl, rfl, .inr ⟨_, rfl, ?_⟩⟩
        obtain ⟨c, ec, hc⟩ := qz (Txt.endswith (cutS t none (some 7)) (Str.ofString "q"))
        obtain ⟨n2, t2⟩ := tail_name nt hc
        refine ⟨p9, _, _, .str ⟨#[c]⟩, rfl, rfl, SqL.of e9, ec, _, _, rfl, rfl, ?_, ?_⟩
        · exact Nat.le_trans (show _ ≤ 8 by rw [show (⟨#[c]⟩ : Str).length = 1 from rfl]; omega) (by decide)
        · exact ⟨_, rfl, _, rfl, p1, _, _, 2, rfl, rfl, eh9, rfl, _, rfl, fin (d' := (.take wd (tail1 t c) k g po cc)) k2 hb2 s9 ⟨tw, t2, tk, kw, n2, hk, hg⟩⟩
    · refine ⟨_, rfl, _, rfl, p1, _, 3, .str k, rfl, rfl, SqL.of (e2), atI_nat (j := 3) rfl, .str k, .ty "bool", .type "str", .type "bool", false, rfl, .ty _, .base (.str _), kit_ty k_str_bool, _, rfl, ?_⟩
      refine iteF ?_
      refine ⟨_, rfl, _, rfl, r, _, rfl, .inl (SqL.of er2), 7, 1, rfl, rfl, rfl, _, rfl, ?_⟩
      refine iteN (by decide +kernel) ?_
      refine iteF ?_
      refine ⟨_, rfl, r, _, 0, .str (Str.ofString "take"), rfl, rfl, SqL.of (er2), atI_nat (j := 0) rfl, rfl, _, rfl, ?_⟩
      refine iteN (by decide +kernel) ?_
      refine ⟨_, rfl, r, _, 0, .str (Str.ofString "take"), rfl, rfl, SqL.of (er2), atI_nat (j := 0) rfl, rfl, _, rfl, ?_⟩
      refine iteB (decide_eq_true rfl) ?_
      refine ⟨_, rfl, rfl, _, rfl, ?_⟩
      refine iteN (by decide +kernel) ?_
      refine ⟨_, rfl, r, _, 0, .str (Str.ofString "take"), rfl, rfl, SqL.of (er2), atI_nat (j := 0) rfl, by show 2 ≤ sizeLine; decide, fun p6 np6 => ?_⟩
      have s6 := same_upd (o := .lst [.str (Str.ofString "give"), .str (Str.ofString "take")]) np6
      refine ⟨p6, [.str (Str.ofString "give"), .str (Str.ofString "take")], rfl, .inl (SqL.of upd_same), rfl, rfl, _, rfl, ?_⟩
      generalize upd H2 p6 (.lst [.str (Str.ofString "give"), .str (Str.ofString "take")]) = H6 at s6 ⊢
      refine iteB (by decide +kernel) ?_
      refine ⟨_, rfl, by show 2 ≤ sizeLine; decide, fun p7 np7 => ?_⟩
      have s7 := s6.trans (same_upd (o := .lst [.int 2, .int 3]) np7)
      refine ⟨p7, [.int 2, .int 3], rfl, .inl (SqL.of upd_same), rfl, rfl, _, rfl, ?_⟩
      generalize upd H6 p7 (.lst [.int 2, .int 3]) = H7 at s7 ⊢
      refine iteB (by decide +kernel) ?_
      refine ⟨_, rfl, _, rfl, p1, _, 3, .str k, rfl, rfl, SqL.of (s7 _ _ e2), atI_nat (j := 3) rfl, by show 2 ≤ sizeLine; decide, fun p8 np8 => ?_⟩
      have s8 := s7.trans (same_upd (o := .lst [.str tCal, .str tPub]) np8)
      refine ⟨p8, [.str tCal, .str tPub], rfl, .inl (SqL.of upd_same), rfl, rfl, _, rfl, ?_⟩
      generalize upd H7 p8 (.lst [.str tCal, .str tPub]) = H8 at s8 ⊢
      cases hin : inV (.str k) [.str tCal, .str tPub] with
      | true => exact iteN rfl ⟨_, rfl, fin0 k2 hb2 s8⟩
      | false =>
        refine iteB rfl ?_
        have nk := taker_name hk (no_words hin).2
        have lz : k.length ≤ sizeLine := Nat.le_trans tk.1 (by decide)
        have lc := cut7 k
        refine ⟨_, rfl, _, rfl, p1, _, 3, .str k, rfl, rfl, SqL.of ((s8 _ _ e2)), atI_nat (j := 3) rfl, 7, rfl, k, rfl, lz, ?_⟩
        refine ⟨by show 2 ≤ sizeLine; decide, fun p9 np9 => ?_⟩
        have s9 := s8.trans (same_upd (o := .lst [.str (Str.ofString "q"), .str (Str.ofString "z")]) np9)
        have e9 : (upd H8 p9 (.lst [.str (Str.ofString "q"), .str (Str.ofString "z")])) p9 = some (.lst [.str (Str.ofString "q"), .str (Str.ofString "z")]) := upd_same
        have eh9 := same_upd (o := .lst [.str (Str.ofString "q"), .str (Str.ofString "z")]) np9 _ _ ((s8 _ _ e2))
        generalize upd H8 p9 (.lst [.str (Str.ofString "q"), .str (Str.ofString "z")]) = H9 at s9 e9 eh9 ⊢
        refine ⟨_, rfl, _, rfl, p1, _, 3, .str k, rfl, rfl, SqL.of (eh9), atI_nat (j := 3) rfl, 7, rfl, k, rfl, lz, rfl, _, _, rfl, rfl, .inr ⟨_, rfl, ?_⟩⟩
        obtain ⟨c, ec, hc⟩ := qz (Txt.endswith (cutS k none (some 7)) (Str.ofString "q"))
        obtain ⟨n2, t2⟩ := tail_name nk hc
        refine ⟨p9, _, _, .str ⟨#[c]⟩, rfl, rfl, SqL.of e9, ec, _, _, rfl, rfl, ?_, ?_⟩
        · exact Nat.le_trans (show _ ≤ 8 by rw [show (⟨#[c]⟩ : Str).length = 1 from rfl]; omega) (by decide)
        · exact ⟨_, rfl, _, rfl, p1, _, _, 3, rfl, rfl, eh9, rfl, _, rfl, fin (d' := (.take wd t (tail1 k c) g po cc)) k2 hb2 s9 ⟨tw, tt, t2, kw, nt, name_taker n2, hg⟩⟩
    · cases g with
      | none =>
        refine ⟨_, rfl, _, rfl, p1, _, 4, .non, rfl, rfl, SqL.of (e2), atI_nat (j := 4) rfl, .non, .ty "bool", .type "NoneType", .type "bool", false, rfl, .ty _, .base (.non), kit_ty k_NoneType_bool, _, rfl, ?_⟩
        refine iteF ?_
        refine ⟨_, rfl, _, rfl, r, _, rfl, .inl (SqL.of er2), 7, 1, rfl, rfl, rfl, _, rfl, ?_⟩
        refine iteN (by decide +kernel) ?_
        refine iteF ?_
        refine ⟨_, rfl, r, _, 0, .str (Str.ofString "take"), rfl, rfl, SqL.of (er2), atI_nat (j := 0) rfl, rfl, _, rfl, ?_⟩
        refine iteN (by decide +kernel) ?_
        refine ⟨_, rfl, r, _, 0, .str (Str.ofString "take"), rfl, rfl, SqL.of (er2), atI_nat (j := 0) rfl, rfl, _, rfl, ?_⟩
        refine iteB (decide_eq_true rfl) ?_
        refine ⟨_, rfl, rfl, _, rfl, ?_⟩
        refine iteB (by decide +kernel) ?_
        refine ⟨by show 2 ≤ sizeLine; decide, fun p5 np5 => ?_⟩
        have s5 := same_upd (o := .lst [.str (Str.ofString "zzzzzzzz"), .non]) np5
        have e5 : (upd H2 p5 (.lst [.str (Str.ofString "zzzzzzzz"), .non])) p5 = some (.lst [.str (Str.ofString "zzzzzzzz"), .non]) := upd_same
        generalize upd H2 p5 (.lst [.str (Str.ofString "zzzzzzzz"), .non]) = H5 at s5 e5 ⊢
        refine ⟨_, rfl, _, rfl, p1, _, 4, .non, rfl, rfl, SqL.of (s5 _ _ e2), atI_nat (j := 4) rfl, rfl, .inr ⟨_, rfl, p5, _, 0, .str (Str.ofString "zzzzzzzz"), rfl, rfl, SqL.of e5, atI_nat (j := 0) rfl, ?_⟩⟩
        exact ⟨_, rfl, _, rfl, p1, _, _, 4, rfl, rfl, s5 _ _ e2, rfl, _, rfl, fin (d' := .take wd t k (some (Str.ofString "zzzzzzzz")) po cc) k2 hb2 s5 ⟨tw, tt, tk, kw, nt, hk, fun y e => by cases e; exact ⟨z8_name.2, z8_name.1⟩⟩⟩
      | some y =>
        refine ⟨_, rfl, _, rfl, p1, _, 4, .str y, rfl, rfl, SqL.of (e2), atI_nat (j := 4) rfl, .str y, .ty "bool", .type "str", .type "bool", false, rfl, .ty _, .base (.str _), kit_ty k_str_bool, _, rfl, ?_⟩
        refine iteF ?_
        refine ⟨_, rfl, _, rfl, r, _, rfl, .inl (SqL.of er2), 7, 1, rfl, rfl, rfl, _, rfl, ?_⟩
        refine iteN (by decide +kernel) ?_
        refine iteF ?_
        refine ⟨_, rfl, r, _, 0, .str (Str.ofString "take"), rfl, rfl, SqL.of (er2), atI_nat (j := 0) rfl, rfl, _, rfl, ?_⟩
        refine iteN (by decide +kernel) ?_
        refine ⟨_, rfl, r, _, 0, .str (Str.ofString "take"), rfl, rfl, SqL.of (er2), atI_nat (j := 0) rfl, rfl, _, rfl, ?_⟩
        refine iteB (decide_eq_true rfl) ?_
        refine ⟨_, rfl, rfl, _, rfl, ?_⟩
        refine iteB (by decide +kernel) ?_
        refine ⟨by show 2 ≤ sizeLine; decide, fun p5 np5 => ?_⟩
        have s5 := same_upd (o := .lst [.str (Str.ofString "zzzzzzzz"), .non]) np5
        have e5 : (upd H2 p5 (.lst [.str (Str.ofString "zzzzzzzz"), .non])) p5 = some (.lst [.str (Str.ofString "zzzzzzzz"), .non]) := upd_same
        generalize upd H2 p5 (.lst [.str (Str.ofString "zzzzzzzz"), .non]) = H5 at s5 e5 ⊢
        refine ⟨_, rfl, _, rfl, p1, _, 4, .str y, rfl, rfl, SqL.of (s5 _ _ e2), atI_nat (j := 4) rfl, rfl, .inr ⟨_, rfl, p5, _, 1, .non, rfl, rfl, SqL.of e5, atI_nat (j := 1) rfl, ?_⟩⟩
        exact ⟨_, rfl, _, rfl, p1, _, _, 4, rfl, rfl, s5 _ _ e2, rfl, _, rfl, fin (d' := .take wd t k none po cc) k2 hb2 s5 ⟨tw, tt, tk, kw, nt, hk, fun y e => by cases e⟩⟩
    · refine ⟨_, rfl, _, rfl, p1, _, 5, .bl po, rfl, rfl, SqL.of (e2), atI_nat (j := 5) rfl, .bl po, .ty "bool", .type "bool", .type "bool", true, rfl, .ty _, .base (.bl _), kit_ty k_bool_bool, _, rfl, ?_⟩
      refine iteT ?_
      refine ⟨_, rfl, _, rfl, p1, _, 5, .bl po, rfl, rfl, SqL.of (e2), atI_nat (j := 5) rfl, _, rfl, _, rfl, ?_⟩
      cases po with
      | true => exact iteF ⟨_, rfl, _, rfl, p1, _, _, 5, rfl, rfl, e2, rfl, _, rfl, fin (d' := (.take wd t k g false cc)) k2 hb2 same_refl ⟨tw, tt, tk, kw, nt, hk, hg⟩⟩
      | false => exact iteT ⟨_, rfl, p1, _, 3, .str k, rfl, rfl, SqL.of e2, atI_nat (j := 3) rfl, rfl, _, rfl, _, rfl, p1, _, _, 5, rfl, rfl, e2, rfl, _, rfl, fin (d' := (.take wd t k g (!decide (V.str k = V.str (Str.ofString "public"))) cc)) k2 hb2 same_refl ⟨tw, tt, tk, kw, nt, hk, hg⟩⟩
    · refine ⟨_, rfl, _, rfl, p1, _, 6, .bl cc, rfl, rfl, SqL.of (e2), atI_nat (j := 6) rfl, .bl cc, .ty "bool", .type "bool", .type "bool", true, rfl, .ty _, .base (.bl _), kit_ty k_bool_bool, _, rfl, ?_⟩
      refine iteT ?_
      refine ⟨_, rfl, _, rfl, p1, _, 6, .bl cc, rfl, rfl, SqL.of (e2), atI_nat (j := 6) rfl, _, rfl, _, rfl, ?_⟩
      cases cc with
      | true => exact iteF ⟨_, rfl, _, rfl, p1, _, _, 6, rfl, rfl, e2, rfl, _, rfl, fin (d' := (.take wd t k g po false)) k2 hb2 same_refl ⟨tw, tt, tk, kw, nt, hk, hg⟩⟩
      | false => exact iteT ⟨_, rfl, p1, _, 3, .str k, rfl, rfl, SqL.of e2, atI_nat (j := 3) rfl, rfl, _, rfl, _, rfl, p1, _, _, 6, rfl, rfl, e2, rfl, _, rfl, fin (d' := (.take wd t k g po (!decide (V.str k = V.str (Str.ofString "public"))))) k2 hb2 same_refl ⟨tw, tt, tk, kw, nt, hk, hg⟩⟩
  | call n_ =>
    obtain ⟨tn, nn⟩ := ok
    refine ⟨_, rfl, _, rfl, r, _, rfl, .inl (SqL.of er1), 2, 1, rfl, rfl, b, 1, n, rfl, by decide, by decide, n0, by omega, hb1, fun d2 H2 d20 d21 k2 hb2 => ⟨1, d2, rfl, rfl, ?_⟩⟩
    have e2 := k2 _ _ n1b e1
    have er2 := k2 _ _ rne er1
    have hat : d2 = 0 := by omega
    subst hat
    · refine ⟨_, rfl, _, rfl, p1, _, 1, .str n_, rfl, rfl, SqL.of (e2), atI_nat (j := 1) rfl, .str n_, .ty "bool", .type "str", .type "bool", false, rfl, .ty _, .base (.str _), kit_ty k_str_bool, _, rfl, ?_⟩
      refine iteF ?_
      refine ⟨_, rfl, _, rfl, r, _, rfl, .inl (SqL.of er2), 2, 1, rfl, rfl, rfl, _, rfl, ?_⟩
      refine iteB (by decide +kernel) ?_
      refine ⟨_, rfl, r, _, 0, .str (Str.ofString "call"), rfl, rfl, SqL.of (er2), atI_nat (j := 0) rfl, rfl, _, rfl, ?_⟩
      refine iteN (by decide +kernel) ?_
      refine ⟨_, rfl, r, _, 0, .str (Str.ofString "call"), rfl, rfl, SqL.of (er2), atI_nat (j := 0) rfl, rfl, _, rfl, ?_⟩
      refine iteB (by decide +kernel) ?_
      have lz : n_.length ≤ sizeLine := Nat.le_trans tn.1 (by decide)
      have lc := cut7 n_
      refine ⟨_, rfl, _, rfl, p1, _, 1, .str n_, rfl, rfl, SqL.of (e2), atI_nat (j := 1) rfl, 7, rfl, n_, rfl, lz, ?_⟩
      refine ⟨by show 2 ≤ sizeLine; decide, fun p9 np9 => ?_⟩
      have s9 := Same.trans same_refl (same_upd (o := .lst [.str (Str.ofString "q"), .str (Str.ofString "z")]) np9)
      have e9 : (upd H2 p9 (.lst [.str (Str.ofString "q"), .str (Str.ofString "z")])) p9 = some (.lst [.str (Str.ofString "q"), .str (Str.ofString "z")]) := upd_same
      have eh9 := same_upd (o := .lst [.str (Str.ofString "q"), .str (Str.ofString "z")]) np9 _ _ (e2)
      generalize upd H2 p9 (.lst [.str (Str.ofString "q"), .str (Str.ofString "z")]) = H9 at s9 e9 eh9 ⊢
      refine ⟨_, rfl, _, rfl, p1, _, 1, .str n_, rfl, rfl, SqL.of (eh9), atI_nat (j := 1) rfl, 7, rfl, n_, rfl, lz, rfl, _, _, rfl, rfl, .inr ⟨_, rfl, ?_⟩⟩
      obtain ⟨c, ec, hc⟩ := qz (Txt.endswith (cutS n_ none (some 7)) (Str.ofString "q"))
      obtain ⟨n2, t2⟩ := tail_name nn hc
      refine ⟨p9, _, _, .str ⟨#[c]⟩, rfl, rfl, SqL.of e9, ec, _, _, rfl, rfl, ?_, ?_⟩
      · exact Nat.le_trans (show _ ≤ 8 by rw [show (⟨#[c]⟩ : Str).length = 1 from rfl]; omega) (by decide)
      · exact ⟨_, rfl, _, rfl, p1, _, _, 1, rfl, rfl, eh9, rfl, _, rfl, fin (d' := (.call (tail1 n_ c))) k2 hb2 s9 ⟨t2, n2⟩⟩
  | preset sd wd k o =>
    obtain ⟨ts, tw, tk, hs, hw, hk, ho⟩ := ok
    refine ⟨_, rfl, _, rfl, r, _, rfl, .inl (SqL.of er1), 5, 1, rfl, rfl, b, 4, n, rfl, by decide, by decide, n0, by omega, hb1, fun d2 H2 d20 d21 k2 hb2 => ⟨1, d2, rfl, rfl, ?_⟩⟩
    have e2 := k2 _ _ n1b e1
    have er2 := k2 _ _ rne er1
    have hat : d2 = 0 ∨ d2 = 1 ∨ d2 = 2 ∨ d2 = 3 := by omega
    rcases hat with rfl | rfl | rfl | rfl
    · refine ⟨_, rfl, _, rfl, p1, _, 1, .str sd, rfl, rfl, SqL.of (e2), atI_nat (j := 1) rfl, .str sd, .ty "bool", .type "str", .type "bool", false, rfl, .ty _, .base (.str _), kit_ty k_str_bool, _, rfl, ?_⟩
      refine iteF ?_
      refine ⟨_, rfl, _, rfl, r, _, rfl, .inl (SqL.of er2), 5, 1, rfl, rfl, rfl, _, rfl, ?_⟩
      refine iteN (by decide +kernel) ?_
      refine iteF ?_
      refine ⟨_, rfl, r, _, 0, .str (Str.ofString "preset"), rfl, rfl, SqL.of (er2), atI_nat (j := 0) rfl, rfl, _, rfl, ?_⟩
      refine iteN (by decide +kernel) ?_
      refine ⟨_, rfl, r, _, 0, .str (Str.ofString "preset"), rfl, rfl, SqL.of (er2), atI_nat (j := 0) rfl, rfl, _, rfl, ?_⟩
      refine iteN (by decide +kernel) ?_
      refine ⟨_, rfl, r, _, 0, .str (Str.ofString "preset"), rfl, rfl, SqL.of (er2), atI_nat (j := 0) rfl, by show 2 ≤ sizeLine; decide, fun p6 np6 => ?_⟩
      have s6 := same_upd (o := .lst [.str (Str.ofString "give"), .str (Str.ofString "take")]) np6
      refine ⟨p6, [.str (Str.ofString "give"), .str (Str.ofString "take")], rfl, .inl (SqL.of upd_same), rfl, rfl, _, rfl, ?_⟩
      generalize upd H2 p6 (.lst [.str (Str.ofString "give"), .str (Str.ofString "take")]) = H6 at s6 ⊢
      exact iteN (by decide +kernel) ⟨_, rfl, fin0 k2 hb2 s6⟩
    · refine ⟨_, rfl, _, rfl, p1, _, 2, .str wd, rfl, rfl, SqL.of (e2), atI_nat (j := 2) rfl, .str wd, .ty "bool", .type "str", .type "bool", false, rfl, .ty _, .base (.str _), kit_ty k_str_bool, _, rfl, ?_⟩
      refine iteF ?_
      refine ⟨_, rfl, _, rfl, r, _, rfl, .inl (SqL.of er2), 5, 1, rfl, rfl, rfl, _, rfl, ?_⟩
      refine iteN (by decide +kernel) ?_
      refine iteF ?_
      refine ⟨_, rfl, r, _, 0, .str (Str.ofString "preset"), rfl, rfl, SqL.of (er2), atI_nat (j := 0) rfl, rfl, _, rfl, ?_⟩
      refine iteN (by decide +kernel) ?_
      refine ⟨_, rfl, r, _, 0, .str (Str.ofString "preset"), rfl, rfl, SqL.of (er2), atI_nat (j := 0) rfl, rfl, _, rfl, ?_⟩
      refine iteN (by decide +kernel) ?_
      refine ⟨_, rfl, r, _, 0, .str (Str.ofString "preset"), rfl, rfl, SqL.of (er2), atI_nat (j := 0) rfl, by show 2 ≤ sizeLine; decide, fun p6 np6 => ?_⟩
      have s6 := same_upd (o := .lst [.str (Str.ofString "give"), .str (Str.ofString "take")]) np6
      refine ⟨p6, [.str (Str.ofString "give"), .str (Str.ofString "take")], rfl, .inl (SqL.of upd_same), rfl, rfl, _, rfl, ?_⟩
      generalize upd H2 p6 (.lst [.str (Str.ofString "give"), .str (Str.ofString "take")]) = H6 at s6 ⊢
      exact iteN (by decide +kernel) ⟨_, rfl, fin0 k2 hb2 s6⟩
    · refine ⟨_, rfl, _, rfl, p1, _, 3, .str k, rfl, rfl, SqL.of (e2), atI_nat (j := 3) rfl, .str k, .ty "bool", .type "str", .type "bool", false, rfl, .ty _, .base (.str _), kit_ty k_str_bool, _, rfl, ?_⟩
      refine iteF ?_
      refine ⟨_, rfl, _, rfl, r, _, rfl, .inl (SqL.of er2), 5, 1, rfl, rfl, rfl, _, rfl, ?_⟩
      refine iteN (by decide +kernel) ?_
      refine iteF ?_
      refine ⟨_, rfl, r, _, 0, .str (Str.ofString "preset"), rfl, rfl, SqL.of (er2), atI_nat (j := 0) rfl, rfl, _, rfl, ?_⟩
      refine iteN (by decide +kernel) ?_
      refine ⟨_, rfl, r, _, 0, .str (Str.ofString "preset"), rfl, rfl, SqL.of (er2), atI_nat (j := 0) rfl, rfl, _, rfl, ?_⟩
      refine iteN (by decide +kernel) ?_
      refine ⟨_, rfl, r, _, 0, .str (Str.ofString "preset"), rfl, rfl, SqL.of (er2), atI_nat (j := 0) rfl, by show 2 ≤ sizeLine; decide, fun p6 np6 => ?_⟩
      have s6 := same_upd (o := .lst [.str (Str.ofString "give"), .str (Str.ofString "take")]) np6
      refine ⟨p6, [.str (Str.ofString "give"), .str (Str.ofString "take")], rfl, .inl (SqL.of upd_same), rfl, rfl, _, rfl, ?_⟩
      generalize upd H2 p6 (.lst [.str (Str.ofString "give"), .str (Str.ofString "take")]) = H6 at s6 ⊢
      exact iteN (by decide +kernel) ⟨_, rfl, fin0 k2 hb2 s6⟩
    · refine ⟨_, rfl, _, rfl, p1, _, 4, .bl o, rfl, rfl, SqL.of (e2), atI_nat (j := 4) rfl, .bl o, .ty "bool", .type "bool", .type "bool", true, rfl, .ty _, .base (.bl _), kit_ty k_bool_bool, _, rfl, ?_⟩
      refine iteT ?_
      refine ⟨_, rfl, _, rfl, p1, _, 4, .bl o, rfl, rfl, SqL.of (e2), atI_nat (j := 4) rfl, _, rfl, _, rfl, ?_⟩
      cases o with
      | true => exact iteF ⟨_, rfl, _, rfl, p1, _, _, 4, rfl, rfl, e2, rfl, _, rfl, fin (d' := (.preset sd wd k false)) k2 hb2 same_refl ⟨ts, tw, tk, hs, hw, hk, (fun h => by cases h)⟩⟩
      | false => exact iteT ⟨_, rfl, p1, _, 3, .str k, rfl, rfl, SqL.of e2, atI_nat (j := 3) rfl, rfl, _, rfl, _, rfl, p1, _, _, 4, rfl, rfl, e2, rfl, _, rfl, fin (d' := (.preset sd wd k (!decide (V.str k = V.str (Str.ofString "public"))))) k2 hb2 same_refl ⟨ts, tw, tk, hs, hw, hk, (fun h => opt_ok (o := true) h)⟩⟩
  | use wd t =>
    obtain ⟨tw, tt, kw, nt⟩ := ok
    refine ⟨_, rfl, _, rfl, r, _, rfl, .inl (SqL.of er1), 3, 1, rfl, rfl, b, 2, n, rfl, by decide, by decide, n0, by omega, hb1, fun d2 H2 d20 d21 k2 hb2 => ⟨1, d2, rfl, rfl, ?_⟩⟩
    have e2 := k2 _ _ n1b e1
    have er2 := k2 _ _ rne er1
    have hat : d2 = 0 ∨ d2 = 1 := by omega
    rcases hat with rfl | rfl
    · refine ⟨_, rfl, _, rfl, p1, _, 1, .str wd, rfl, rfl, SqL.of (e2), atI_nat (j := 1) rfl, .str wd, .ty "bool", .type "str", .type "bool", false, rfl, .ty _, .base (.str _), kit_ty k_str_bool, _, rfl, ?_⟩
      refine iteF ?_
      refine ⟨_, rfl, _, rfl, r, _, rfl, .inl (SqL.of er2), 3, 1, rfl, rfl, rfl, _, rfl, ?_⟩
      refine iteN (by decide +kernel) ?_
      refine iteF ?_
      refine ⟨_, rfl, r, _, 0, .str (Str.ofString "use"), rfl, rfl, SqL.of (er2), atI_nat (j := 0) rfl, rfl, _, rfl, ?_⟩
      refine iteN (by decide +kernel) ?_
      refine ⟨_, rfl, r, _, 0, .str (Str.ofString "use"), rfl, rfl, SqL.of (er2), atI_nat (j := 0) rfl, rfl, _, rfl, ?_⟩
      refine iteN (by decide +kernel) ?_
      refine ⟨_, rfl, r, _, 0, .str (Str.ofString "use"), rfl, rfl, SqL.of (er2), atI_nat (j := 0) rfl, by show 2 ≤ sizeLine; decide, fun p6 np6 => ?_⟩
      have s6 := same_upd (o := .lst [.str (Str.ofString "give"), .str (Str.ofString "take")]) np6
      refine ⟨p6, [.str (Str.ofString "give"), .str (Str.ofString "take")], rfl, .inl (SqL.of upd_same), rfl, rfl, _, rfl, ?_⟩
      generalize upd H2 p6 (.lst [.str (Str.ofString "give"), .str (Str.ofString "take")]) = H6 at s6 ⊢
      exact iteN (by decide +kernel) ⟨_, rfl, fin0 k2 hb2 s6⟩
    · refine ⟨_, rfl, _, rfl, p1, _, 2, .str t, rfl, rfl, SqL.of (e2), atI_nat (j := 2) rfl, .str t, .ty "bool", .type "str", .type "bool", false, rfl, .ty _, .base (.str _), kit_ty k_str_bool, _, rfl, ?_⟩
      refine iteF ?_
      refine ⟨_, rfl, _, rfl, r, _, rfl, .inl (SqL.of er2), 3, 1, rfl, rfl, rfl, _, rfl, ?_⟩
      refine iteB (by decide +kernel) ?_
      refine ⟨_, rfl, r, _, 0, .str (Str.ofString "use"), rfl, rfl, SqL.of (er2), atI_nat (j := 0) rfl, rfl, _, rfl, ?_⟩
      refine iteB (by decide +kernel) ?_
      refine iteT ?_
      have lz : t.length ≤ sizeLine := Nat.le_trans tt.1 (by decide)
      have lc := cut7 t
      refine ⟨_, rfl, _, rfl, p1, _, 2, .str t, rfl, rfl, SqL.of (e2), atI_nat (j := 2) rfl, 7, rfl, t, rfl, lz, ?_⟩
      refine ⟨by show 2 ≤ sizeLine; decide, fun p9 np9 => ?_⟩
      have s9 := Same.trans same_refl (same_upd (o := .lst [.str (Str.ofString "q"), .str (Str.ofString "z")]) np9)
      have e9 : (upd H2 p9 (.lst [.str (Str.ofString "q"), .str (Str.ofString "z")])) p9 = some (.lst [.str (Str.ofString "q"), .str (Str.ofString "z")]) := upd_same
      have eh9 := same_upd (o := .lst [.str (Str.ofString "q"), .str (Str.ofString "z")]) np9 _ _ (e2)
      generalize upd H2 p9 (.lst [.str (Str.ofString "q"), .str (Str.ofString "z")]) = H9 at s9 e9 eh9 ⊢
      refine ⟨_, rfl, _, rfl, p1, _, 2, .str t, rfl, rfl, SqL.of (eh9), atI_nat (j := 2) rfl, 7, rfl, t, rfl, lz, rfl, _, _, rfl, rfl, .inr ⟨_, rfl, ?_⟩⟩
      obtain ⟨c, ec, hc⟩ := qz (Txt.endswith (cutS t none (some 7)) (Str.ofString "q"))
      obtain ⟨n2, t2⟩ := tail_name nt hc
      refine ⟨p9, _, _, .str ⟨#[c]⟩, rfl, rfl, SqL.of e9, ec, _, _, rfl, rfl, ?_, ?_⟩
      · exact Nat.le_trans (show _ ≤ 8 by rw [show (⟨#[c]⟩ : Str).length = 1 from rfl]; omega) (by decide)
      · exact ⟨_, rfl, _, rfl, p1, _, _, 2, rfl, rfl, eh9, rfl, _, rfl, fin (d' := (.use wd (tail1 t c))) k2 hb2 s9 ⟨tw, t2, kw, n2⟩⟩
end
end K06
set_option maxHeartbeats 4000000
namespace K06
open PySem PySem.Spec PyProof.Rows L2 RL RE RN RM TL RQ RG
/-! ### rows as data -/
def gP : Option Str → PyData
  | none => .none
  | some y => .str y
def argP : Dm → List PyData
  | .give w t k o => [.str w, .str t, .str k, .bool o]
  | .take w t k g p c => [.str w, .str t, .str k, gP g, .bool p, .bool c]
  | .call n => [.str n]
  | .preset s w k o => [.str s, .str w, .str k, .bool o]
  | .use w t => [.str w, .str t]
def rowP (d : Dm) : List PyData := .str (tagD d) :: argP d
theorem g_dp {K : PySem.W.Frag} {H : Hp} (g : Option Str) : Dp K H (gV g) (gP g) := by
  cases g with
  | none => exact .non
  | some y => exact .str y
theorem arg_dp {K : PySem.W.Frag} {H : Hp} : ∀ d : Dm, DpAll K H (argsD d) (argP d)
  | .give w t k o => .cons (.str _) (.cons (.str _) (.cons (.str _) (.cons (.bl _) .nil)))
  | .take w t k g p c => .cons (.str _) (.cons (.str _) (.cons (.str _) (.cons (g_dp g) (.cons (.bl _) (.cons (.bl _) .nil)))))
  | .call n => .cons (.str _) .nil
  | .preset s w k o => .cons (.str _) (.cons (.str _) (.cons (.str _) (.cons (.bl _) .nil)))
  | .use w t => .cons (.str _) (.cons (.str _) .nil)
theorem row_dp {K : PySem.W.Frag} {H : Hp} (d : Dm) : DpAll K H (valsD d) (rowP d) := .cons (.str _) (arg_dp d)
theorem strOk_of {z : Str} (h : txt z) : PyData.strOk z = true := by
  unfold PyData.strOk
  rw [← Array.all_toList, List.all_eq_true]
  exact fun x hx => decide_eq_true (Nat.lt_trans (h.2 x hx) (by decide))
theorem tag_ok (d : Dm) : PyData.strOk (tagD d) = true := by
  cases d <;> (show PyData.strOk (Str.ofString _) = true) <;> decide +kernel
theorem row_shaped {d : Dm} (h : okD d) : SeqAt.shaped (.list (rowP d)) = true := by
  have t := tag_ok d
  cases d with
  | give w tt k o =>
    have a1 := strOk_of h.1
    have a2 := strOk_of h.2.1
    have a3 := strOk_of h.2.2.1
    simp [SeqAt.shaped, rowP, argP, PyData.canLay0, PyData.canLayAll0, PyData.depth, PyData.depthAll, t, a1, a2, a3]
  | take w tt k g p c =>
    have a1 := strOk_of h.1
    have a2 := strOk_of h.2.1
    have a3 := strOk_of h.2.2.1
    cases g with
    | none => simp [SeqAt.shaped, rowP, argP, gP, PyData.canLay0, PyData.canLayAll0, PyData.depth, PyData.depthAll, t, a1, a2, a3]
    | some y =>
      have a4 := strOk_of (h.2.2.2.2.2.2 y rfl).1
      simp [SeqAt.shaped, rowP, argP, gP, PyData.canLay0, PyData.canLayAll0, PyData.depth, PyData.depthAll, t, a1, a2, a3, a4]
  | call n =>
    have a1 := strOk_of h.1
    simp [SeqAt.shaped, rowP, argP, PyData.canLay0, PyData.canLayAll0, PyData.depth, PyData.depthAll, t, a1]
  | preset s w k o =>
    have a1 := strOk_of h.1
    have a2 := strOk_of h.2.1
    have a3 := strOk_of h.2.2.1
    simp [SeqAt.shaped, rowP, argP, PyData.canLay0, PyData.canLayAll0, PyData.depth, PyData.depthAll, t, a1, a2, a3]
  | use w tt =>
    have a1 := strOk_of h.1
    have a2 := strOk_of h.2.1
    simp [SeqAt.shaped, rowP, argP, PyData.canLay0, PyData.canLayAll0, PyData.depth, PyData.depthAll, t, a1, a2]
theorem gP_eqv (g g' : Option Str) : PyData.eqv (gP g) (gP g') = decide (g = g') := by
  cases g <;> cases g' <;> simp [gP, PyData.eqv]
  rw [Bool.eq_iff_iff]; simp
theorem tags_ne {x y : Str} {xs ys : List PyData} (h : x ≠ y) : PyData.eqv (.list (.str x :: xs)) (.list (.str y :: ys)) = false := by
  show (PyData.eqv (.str x) (.str y) && _) = false
  have : PyData.eqv (.str x) (.str y) = (x == y) := rfl
  rw [this, beq_eq_false_iff_ne.mpr h]
  rfl
theorem tag_cl : ∀ {d d' : Dm}, clD d ≠ clD d' → tagD d ≠ tagD d' := fun {d d'} h => by
  cases d <;> cases d' <;> first | exact absurd rfl h | (show Str.ofString _ ≠ Str.ofString _; decide +kernel)
theorem rows_eqv (d d' : Dm) : PyData.eqv (.list (rowP d)) (.list (rowP d')) = decide (d = d') := by
  by_cases hc : clD d = clD d'
  · cases d <;> cases d' <;> first | (cases hc; done) | (rw [Bool.eq_iff_iff]; simp [rowP, tagD, argP, PyData.eqv, PyData.eqvAll, gP_eqv])
  · rw [decide_eq_false (fun e => hc (by rw [e]))]
    exact tags_ne (tag_cl hc)
theorem show_len {ds : List PyData} (h : ∀ d ∈ ds, (PyData.shown d).length ≤ 20000) (hl : ds.length ≤ 20) : (PyData.shown (.list ds)).length ≤ sizeLine := by
  have e : PyData.shown (.list ds) = listText (PyData.shownAll ds) := by simp [PyData.shown]
  have key : ∀ l : List PyData, (∀ d ∈ l, (PyData.shown d).length ≤ 20000) → ((PyData.shownAll l).map (·.length)).sum ≤ 20000 * l.length ∧ (PyData.shownAll l).length = l.length := fun l => by
    induction l with
    | nil => intro _; exact ⟨Nat.zero_le _, rfl⟩
    | cons a r ih =>
      intro h
      have h1 := h a (List.mem_cons_self ..)
      obtain ⟨h2, h3⟩ := ih fun y hy => h y (List.mem_cons_of_mem _ hy)
      have e : PyData.shownAll (a :: r) = PyData.shown a :: PyData.shownAll r := by simp [PyData.shownAll]
      rw [e, List.map_cons, List.sum_cons, List.length_cons, List.length_cons]
      omega
  obtain ⟨k1, k2⟩ := key ds h
  have b := listText_len_le (PyData.shownAll ds)
  rw [e]
  exact Nat.le_trans b (Nat.le_trans (show _ ≤ 500000 by omega) (by decide))
theorem txt_len {z : Str} (h : txt z) : (PyData.shown (.str z)).length ≤ 20000 := by
  have := StrLaws.reprText_len z fun c hc => Nat.lt_trans (h.2 c hc) (by decide)
  have e : PyData.shown (.str z) = reprText z := by simp [PyData.shown]
  have := h.1
  rw [e]
  omega
theorem bool_len (b : Bool) : (PyData.shown (.bool b)).length ≤ 20000 := by
  cases b <;> simp [PyData.shown] <;> decide +kernel
theorem g_len {g : Option Str} (h : ∀ y, g = some y → txt y ∧ nameT y = true) : (PyData.shown (gP g)).length ≤ 20000 := by
  cases g with
  | none => simp [gP, PyData.shown]; decide +kernel
  | some y => exact txt_len (h y rfl).1
theorem arg_show {d : Dm} (h : okD d) : PyData.showable (.list (argP d)) = true ∧ (PyData.shown (.list (argP d))).length ≤ sizeLine ∧ PyData.depth (.list (argP d)) ≤ 60 := by
  have g1 : ∀ g : Option Str, PyData.showable (gP g) = true ∧ PyData.depth (gP g) = 0 := fun g => by cases g <;> simp [gP, PyData.showable, PyData.depth]
  refine ⟨?_, show_len ?_ ?_, ?_⟩
  · cases d <;> simp [argP, PyData.showable, PyData.showableAll, g1]
  · cases d with
    | give w t k o =>
      intro x hx
      simp only [argP, List.mem_cons, List.not_mem_nil, or_false] at hx
      rcases hx with e | e | e | e <;> rw [e]
      · exact txt_len h.1
      · exact txt_len h.2.1
      · exact txt_len h.2.2.1
      · exact bool_len _
    | take w t k g p c =>
      intro x hx
      simp only [argP, List.mem_cons, List.not_mem_nil, or_false] at hx
      rcases hx with e | e | e | e | e | e <;> rw [e]
      · exact txt_len h.1
      · exact txt_len h.2.1
      · exact txt_len h.2.2.1
      · exact g_len h.2.2.2.2.2.2
      · exact bool_len _
      · exact bool_len _
    | call n =>
      intro x hx
      simp only [argP, List.mem_cons, List.not_mem_nil, or_false] at hx
      rw [hx]
      exact txt_len h.1
    | preset s w k o =>
      intro x hx
      simp only [argP, List.mem_cons, List.not_mem_nil, or_false] at hx
      rcases hx with e | e | e | e <;> rw [e]
      · exact txt_len h.1
      · exact txt_len h.2.1
      · exact txt_len h.2.2.1
      · exact bool_len _
    | use w t =>
      intro x hx
      simp only [argP, List.mem_cons, List.not_mem_nil, or_false] at hx
      rcases hx with e | e <;> rw [e]
      · exact txt_len h.1
      · exact txt_len h.2.1
  · cases d <;> simp [argP]
  · cases d <;> simp [argP, PyData.depth, PyData.depthAll, g1]
end K06
set_option maxHeartbeats 4000000
namespace K06
open PySem PySem.Spec PyProof.Rows L2 RL RE RN RM TL RQ RG RC
/-! ### == , != and str of a deed of any class -/
structure DE (P : Program) (w : World) (K : PySem.W.Frag) (mg : Str → Option Value) (base : Heap) (c : Cs) (CG CF : Addr) : Prop where
  eq : ∀ x : Cl, ∃ (f : Addr) (fd : FuncData), FnOk P w K mg base CX0 1 f fd ["self", "other"] (spEqB (RD K c x)) ∧ PySem.W.findIn K (.ref (c x)) "__eq__" = some (some (.ref f)) ∧ PySem.W.isFn K (.ref f) = true ∧ Binds K fd ["self", "other"] []
  st : ∀ x : Cl, ∃ (f : Addr) (fd : FuncData), FnOk P w K mg base CX0 1 f fd ["self"] (spStr c x) ∧ PySem.W.findIn K (.ref (c x)) "__str__" = some (some (.ref f)) ∧ PySem.W.isFn K (.ref f) = true ∧ Binds K fd ["self"] []
  ne : ∀ x : Cl, PySem.W.findIn K (.ref (c x)) "__ne__" = some (some (.builtin "object.__ne__"))
  nf : ∀ x y : Cl, PySem.W.notFirst K (c x) (.ref (c y)) = true
  nS : ∀ x : Cl, PySem.W.notFirst K (c x) (.type "str") = true
  nL : ∀ x : Cl, PySem.W.notFirst K (c x) (.type "list") = true
  nG : ∀ x : Cl, PySem.W.notFirst K (c x) (.ref CG) = true
  nF : ∀ x : Cl, PySem.W.notFirst K (c x) (.ref CF) = true
  kS : ∀ x : Cl, PySem.W.kitOne K (.type "str") (.ref (c x)) = some false
  kL : ∀ x : Cl, PySem.W.kitOne K (.type "list") (.ref (c x)) = some false
  kG : ∀ x : Cl, PySem.W.kitOne K (.ref CG) (.ref (c x)) = some false
  kF : ∀ x : Cl, PySem.W.kitOne K (.ref CF) (.ref (c x)) = some false
def DDeed (K : PySem.W.Frag) (c : Cs) : EqvB := fun x y H k => ∃ (a : Addr) (d : Dm) (t : Value), x = .ref a ∧ DeedAt c H a d ∧ TyX K H y t ∧ PySem.W.notFirst K (c (clD d)) t = true ∧ RD K c (clD d) a y H k
section
variable {X : Cx} {c : Cs} {CG CF : Addr}
theorem rcB5 (D : DE X.prog X.w X.K X.mg X.base c CG CF) : RcB X 1 (DDeed X.K c) := by
  intro A pins s σ H x y u v k sb I rx ry h
  obtain ⟨a, d, t, rfl, ⟨dx, ea⟩, ty, nf, hr⟩ := h
  obtain ⟨f, fd, F, hs, hf, hb⟩ := D.eq (clD d)
  exact rcB_any F hs hf hb pass0 A pins s σ H _ y u v k sb I rx ry ⟨a, dx, _, t, rfl, ea, ty, nf, hr⟩
theorem op_ne5 (D : DE X.prog X.w X.K X.mg X.base c CG CF) (hm : ∀ x, PySem.W.mroIn X.K (c x) (.type "object") = some true) (hr : Room 2 X.A) : OpR X (compareOp .NotEq) (rNeB (DDeed X.K c)) := by
  intro pins s σ H x y v u Q I rx ry hq
  obtain ⟨k, ⟨a, d, t, rfl, ⟨dx, ea⟩, ty, nf, hR⟩, q⟩ := hq
  obtain ⟨f, fd, F, hs, hf, hb⟩ := D.eq (clD d)
  exact op_neAny F hr (hm _) (D.ne _) hs hf hb pass0 pins s σ H _ y v u Q I rx ry ⟨k, ⟨a, dx, _, t, rfl, ea, ty, nf, hR⟩, q⟩
def rStr5 (c : Cs) : List V → Hp → VK → Prop := fun xs H Q => ∃ (a : Addr) (d : Dm), xs = [.ref a] ∧ DeedAt c H a d ∧ okD d ∧ ∀ H', Ext H H' → Q (.str (strD d)) H'
theorem call_str5 (D : DE X.prog X.w X.K X.mg X.base c CG CF) (hr : Room 3 X.A) : CallR X (.type "str") (rStr5 c) := by
  intro pins s σ H xs us Q I r h
  obtain ⟨a, d, rfl, ⟨dx, ea⟩, ok, q⟩ := h
  obtain ⟨f, fd, F, hs, hf, hb⟩ := D.st (clD d)
  exact call_strO F hr hs hf hb pass0 pins s σ H _ us Q I r ⟨a, dx, _, rfl, ea, a, d, rfl, ⟨dx, ea⟩, ok, rfl, fun H' x => ⟨_, rfl, q H' x⟩⟩
end
theorem DeedAt.same {c : Cs} {H H' : Hp} {a : Addr} {d : Dm} (h : DeedAt c H a d) (s : Same H H') : DeedAt c H' a d := by
  obtain ⟨dx, e⟩ := h
  exact ⟨dx, s _ _ e⟩
theorem DeedAt.keep {c : Cs} {H H' : Hp} {a b : Addr} {d : Dm} {n : Int} (h : DeedAt c H a d) (k : Keep b H H') (hb : Bx H b n) : DeedAt c H' a d := by
  obtain ⟨dx, e⟩ := h
  obtain ⟨g, m, cc, eb, _⟩ := hb
  exact ⟨dx, k _ _ (fun z => by rw [z, eb] at e; cases e) e⟩
theorem dd_dd {P : Program} {w : World} {K : PySem.W.Frag} {mg : Str → Option Value} {base : Heap} {c : Cs} {CG CF : Addr} {H : Hp} {a b : Addr} {d d' : Dm} (D : DE P w K mg base c CG CF) (G : DC K mg c) (ha : DeedAt c H a d) (hb : DeedAt c H b d') : DDeed K c (.ref a) (.ref b) H (decide (d = d')) := by
  obtain ⟨dy, eb⟩ := id hb
  exact ⟨a, d, _, rfl, ha, (G.t _).ty eb, D.nf _ _, d, rfl, ha, .inl ⟨d', b, rfl, hb, rfl⟩⟩
theorem dd_no {K : PySem.W.Frag} {c : Cs} {H : Hp} {a : Addr} {d : Dm} {y : V} {t : Value} (ha : DeedAt c H a d) (ty : TyX K H y t) (nf : PySem.W.notFirst K (c (clD d)) t = true) (kn : PySem.W.kitOne K t (.ref (c (clD d))) = some false) : DDeed K c (.ref a) y H false :=
  ⟨a, d, t, rfl, ha, ty, nf, d, rfl, ha, .inr ⟨t, ty, kn, rfl⟩⟩
/-- as Df, of a def that may ask for a repr -/
def DfG (P : Program) (w : World) (K : PySem.W.Frag) (mg : Str → Option Value) (base : Heap) (CX : CXT) (k : Nat) (x : Str) (ps : List Str) (sp : Sp) : Prop :=
  ∃ (f : Addr) (fd : FuncData), FnG P w K mg base CX k f fd ps sp ∧ Binds K fd ps [] ∧ PySem.W.keepIn K (.ref f) = true ∧ mg x = some (.ref f)
theorem pe_dfG {X : Cx} {k : Nat} {x : Str} {ps : List Str} {sp : Sp} {t : TA} {e : Expr} {es : List Expr} {p pos : Pos} (D : DfG X.prog X.w X.K X.mg X.base CX0 k x ps sp) (qt : Quiet X.A) (hr : Room k X.A) (hg : Gl X x) (ha : PA X (e :: es) t) (hdb : (x == ("__debug__" : Str)) = false := by decide)
    (he : starEach (e :: es) X.env = (false, eval e X.env) :: starEach es X.env := by rfl) (hpl : (backTo pos (starEach es X.env)).any (·.1) = false := by rfl) : PE X (.Call (.Name x p) (e :: es) [] pos) (tCall sp [] (fun _ _ _ => False) t) := by
  obtain ⟨f, fd, F, b, kp, g⟩ := D
  exact pe_callG F qt hr hg g kp b .nil pass0 ha hdb he hpl
/-- grants and defaults made -/
structure MkG (P : Program) (w : World) (K : PySem.W.Frag) (mg : Str → Option Value) (base : Heap) (CG CF : Addr) : Prop where
  G : ∃ (f : Addr) (fd : FuncData), Mk K CG f ∧ FnOk P w K mg base CX0 4 f fd ["self", "giver", "taker", "right", "thing", "option"] (spGrant K CG) ∧ mg "Grant" = some (.ref CG) ∧ KBn K fd ["self", "giver", "taker", "right", "thing", "option"] 5 ["option"] (fun us ws => us ++ ws) (fun vs zs => vs ++ zs)
  F : ∃ (f : Addr) (fd : FuncData), Mk K CF f ∧ FnOk P w K mg base CX0 4 f fd ["self", "maker", "kind", "right", "taker", "option"] (spDefault K CF) ∧ mg "Default" = some (.ref CF) ∧ KBn K fd ["self", "maker", "kind", "right", "taker", "option"] 5 ["option"] (fun us ws => us ++ ws) (fun vs zs => vs ++ zs)
  E : ∃ (f : Addr) (fd : FuncData), FnOk P w K mg base CX0 1 f fd ["self", "other"] (spEqB (RGo K CG)) ∧ PySem.W.findIn K (.ref CG) "__eq__" = some (some (.ref f)) ∧ PySem.W.isFn K (.ref f) = true ∧ Binds K fd ["self", "other"] []
  tG : TyC K CG
  tF : TyC K CF
section
variable {P : Program} {w : World} {K : PySem.W.Frag} {mg : Str → Option Value} {base : Heap} {f : Addr} {fd : FuncData}
def spRight (K : PySem.W.Frag) : Sp := fun vs H Q _ => ∃ (b r : Addr) (n : Int) (d : Dm), vs = [.ref b, .ref r] ∧ 0 ≤ n ∧ n ≤ 50000 ∧ Bx H b n ∧ RowAt H r d ∧ okD d ∧ sevD d ∧ ∀ H', Keep b H H' → Bx H' b (n + 1) → Q (.bl true) H'
theorem ok_right {c : Cs} {CG CF : Addr} (F : Fun K "_law_right" "_law_right" s__law_right f fd) (D : DE P w K mg base c CG CF) (G : DC K mg c) (MG : MkG P w K mg base CG CF) (nGc : ∀ x, PySem.W.notFirst K CG (.ref (c x)) = true) (kGc : ∀ x, PySem.W.kitOne K (.ref (c x)) (.ref CG) = some false)
    (GM : Df P w K mg base CX0 6 "_law_made" ["_law_row"] (spMade c)) (GO : Df P w K mg base CX0 2 "_law_otherwise" ["_law_box_here", "_law_row"] spOther) (GD : Df P w K mg base CX0 1 "_law_told" ["_law_row", "_law_deed"] (spToldD c)) (GX : Df P w K mg base CX0 1 "_law_text" ["_law_row"] spText)
    (mr : mg "range" = none) (mrp : mg "repr" = none) (ms : mg "str" = none) (mli : mg "list" = none) :
    FnG P w K mg base CX0 8 f fd ["_law_box_here", "_law_row"] (spRight K) := by
  obtain ⟨oc, od, kV, doc, pm, an, cdv, ct, osl, rfl, lk, hcd⟩ := F.ex
  obtain ⟨fg, fdg, MKG, FG, gG, kG⟩ := MG.G
  obtain ⟨ff, fdf, MKF, FF, gF, kF⟩ := MG.F
  obtain ⟨fe, fde, FE, hsE, hfE, bE⟩ := MG.E
  refine FnG.mk' lk hcd sc__law_right (fun {vs H Q E} h => by obtain ⟨b, r, n, d, rfl, _⟩ := h; rfl) (fun {A fr s H vs Q E} qt hr h => ?_)
  obtain ⟨b, r, n, d, rfl, n0, n1, hb, er, ok, sv, q⟩ := h
  have hr1 := hr.mono (show 1 ≤ 7 by decide)
  have hr2 := hr.mono (show 2 ≤ 7 by decide)
  have hr3 := hr.mono (show 3 ≤ 7 by decide)
  have hr5 := hr.mono (show 5 ≤ 7 by decide)
  have hr6 := hr.mono (show 6 ≤ 7 by decide)
  have hm : ∀ x, PySem.W.mroIn K (c x) (.type "object") = some true := fun x => (G.t x).hm
  refine ⟨_, PSs.nox (pss_cons (ps_par (i := 2) (j := 3) (by rfl) sc__law_right.nd rfl rfl (by decide) rfl rfl (pa_cons (pe_df0 GM hr6 (by rfl) (pa_cons (pv 1) pa_nil)) (pa_cons (pe_df0 GM hr6 (by rfl) (pa_cons (pe_callTy call_list_of (by rfl) mli (by decide +kernel) (pa_cons (pv 1) pa_nil)) pa_nil)) pa_nil)) (by rfl))
    (pss_cons (ps_set (i := 4) sc__law_right.nd rfl (.inl rfl) (pe_df0 GO hr2 (by rfl) (pa_cons (pv 0) (pa_cons (pv 1) pa_nil))))
    (pss_cons (ps_for PassesOwn.never rfl (pi_range1 (by rfl) mr (pa_cons pe_int pa_nil)) (pg_name (i := 5) sc__law_right.nd rfl (Or.inl rfl))
      (pss_cons (ps_if (PW.pt (pw_or (pt_cmpR op_ne (pe_callB (call_reprL qt hr) (by rfl) mrp (by decide +kernel) (pa_cons (pe_df0 GD hr1 (by rfl) (pa_cons (pv 1) (pa_cons (pv 2) pa_nil))) pa_nil)) (pe_callB (call_reprL qt hr) (by rfl) mrp (by decide +kernel) (pa_cons (pe_slice sl_list (pv 1) (po_some pe_int) po_none) pa_nil)) (by rfl))
          (pw_or1 (pt_cmpR op_ne (pe_callTy (r := rStr5 c) (call_str5 D hr3) (by rfl) ms PyProof.Rows.boot_str (pa_cons (pv 2) pa_nil)) (pe_df0 GX hr1 (by rfl) (pa_cons (pv 1) pa_nil)) (by rfl))))) (pss_one (ps_ret pe_bl)) pss_nil)
      (pss_cons (ps_if (PW.pt (pw_or (pt_cmpR (op_ne5 D hm hr2) (pv 2) (pv 3) (by rfl)) (pw_or1 (pt_cmpR op_ne (pe_cmpR (op_eqB (rcB5 D) hr1) (pv 2) (pe_df0 GM hr6 (by rfl) (pa_cons (pv 4) pa_nil)) (by rfl)) (pe_cmpR (op_eqD (hu64 hr)) (pv 4) (pv 1) (by rfl)) (by rfl))))) (pss_one (ps_ret pe_bl)) pss_nil)
      (pss_one (ps_if (pt_cmpR op_ne (pe_callTy (r := rStr5 c) (call_str5 D hr3) (by rfl) ms PyProof.Rows.boot_str (pa_cons (pe_df0 GM hr6 (by rfl) (pa_cons (pv 4) pa_nil)) pa_nil)) (pe_df0 GX hr1 (by rfl) (pa_cons (pv 4) pa_nil)) (by rfl)) (pss_one (ps_ret pe_bl)) pss_nil)))))
    (pss_cons (ps_if (PW.pt (pw_and (pt_cmpR op_eq (pe_ix ix_list (pv 1) pe_int (fun _ _ => rfl)) pe_str (nomark _)) (pw_and1 (pt_cmpR op_ne (pe_ix ix_list (pv 1) pe_int (fun _ _ => rfl)) pe_str (nomark _)))))
      (pss_cons (ps_set (i := 6) sc__law_right.nd rfl (.inl rfl) (pe_makeK (n := 4) MKG FG hr5 (by rfl) gG kG pass0 (pa_cons pe_str (pa_cons (pe_ix ix_list (pv 1) pe_int (fun _ _ => rfl)) (pa_cons (pe_ix ix_list (pv 1) pe_int (fun _ _ => rfl)) (pa_cons (pe_ix ix_list (pv 1) pe_int (fun _ _ => rfl)) pa_nil)))) (pk_cons (pe_ix ix_list (pv 1) pe_int (fun _ _ => rfl)) pk_nil)))
      (pss_one (ps_if (PW.pt (pw_or (pt_cmpR (op_eqB (rcB5 D) hr1) (pv 2) (pv 6) (by rfl)) (pw_or1 (pt_cmpR (op_eqB (rcB_any FE hsE hfE bE pass0) hr1) (pv 6) (pv 2) (by rfl))))) (pss_one (ps_ret pe_bl)) pss_nil))) pss_nil)
    (pss_cons (ps_if (PW.pt (pw_and (pt_cmpR op_eq (pe_ix ix_list (pv 1) pe_int (fun _ _ => rfl)) pe_str (nomark _)) (pw_and1 (pt_cmpR (op_eqB (rcB5 D) hr1) (pv 2) (pe_makeK (n := 4) MKF FF hr5 (by rfl) gF kF pass0 (pa_cons pe_str (pa_cons (pe_ix ix_list (pv 1) pe_int (fun _ _ => rfl)) (pa_cons (pe_ix ix_list (pv 1) pe_int (fun _ _ => rfl)) (pa_cons (pe_ix ix_list (pv 1) pe_int (fun _ _ => rfl)) pa_nil)))) (pk_cons (pe_ix ix_list (pv 1) pe_int (fun _ _ => rfl)) pk_nil)) (by rfl))))) (pss_one (ps_ret pe_bl)) pss_nil)
    (pss_one (ps_ret (pe_and (pe_cmpR (op_ne5 D hm hr2) (pv 2) (pe_df0 GX hr1 (by rfl) (pa_cons (pv 1) pa_nil)) (by rfl)) (pe_one (pe_cmpR (op_ne5 D hm hr2) (pv 2) (pv 1) (by rfl))))))))))), ?_⟩
  have hrow : SqL K H r (valsD d) := SqL.of er
  refine ⟨_, rfl, r, d, rfl, er, ok, fun a H1 s1 ha => ?_⟩
  refine ⟨_, rfl, r, _, rfl, .inl (SqL.of (s1 _ _ er)), fun p1 np1 => ?_⟩
  have s2 := s1.trans (same_upd (o := .lst (valsD d)) np1)
  have ha := ha.same (same_upd (o := .lst (valsD d)) np1)
  have e1 : RowAt (upd H1 p1 (.lst (valsD d))) p1 d := upd_same
  generalize upd H1 p1 (.lst (valsD d)) = H2 at s2 e1 ha ⊢
  refine ⟨p1, d, rfl, e1, ok, fun a2 H3 s3 ha2 => ?_⟩
  have ha := ha.same s3
  have s3 := s2.trans s3
  refine ⟨_, _, rfl, ?_⟩
  have hb3 := hb.same s3
  have er3 := er.same s3
  refine ⟨_, rfl, _, rfl, b, r, n, d, rfl, n0, by omega, hb3, er3, ok, fun po d' H4 ok' eo k4 hb4 => ?_⟩
  have ha := ha.keep k4 hb3
  have ha2 := ha2.keep k4 hb3
  have er4 := er3.keep k4 hb3
  have k4 := (Keep.of s3).trans k4
  clear s1 s2 s3 hb3 er3 e1 np1
  refine ⟨2, rfl, by decide, by decide, for_range (lo := 0) (n := 2) (fun i σ H' => ∃ y5, σ = [some (.ref b), some (.ref r), some (.ref a), some (.ref a2), some (.ref po), y5, none] ∧ Same H4 H') ⟨_, rfl, same_refl⟩ ?_ ?_⟩
  · intro i σ H5 hi h
    obtain ⟨y5, rfl, s5⟩ := h
    obtain ⟨h1, h2, h3⟩ := arg_show ok
    refine ⟨_, rfl, _, rfl, r, a, d, rfl, er4.same s5, ha.same s5, fun p6 np6 => ?_⟩
    have s6 := s5.trans (same_upd (o := .lst (argsD d)) np6)
    have e6 : (upd H5 p6 (.lst (argsD d))) p6 = some (.lst (argsD d)) := upd_same
    generalize upd H5 p6 (.lst (argsD d)) = H6 at s6 e6 ⊢
    refine ⟨p6, _, argP d, rfl, SqL.of e6, .all (arg_dp d), h1, h2, h3, ?_⟩
    refine ⟨_, rfl, 1, rfl, r, _, rfl, SqL.of (er4.same s6), fun p7 np7 => ?_⟩
    rw [show cutV (valsD d) (some 1) none = argsD d by cases d <;> rfl]
    have s7 := s6.trans (same_upd (o := .lst (argsD d)) np7)
    have e7 : (upd H6 p7 (.lst (argsD d))) p7 = some (.lst (argsD d)) := upd_same
    generalize upd H6 p7 (.lst (argsD d)) = H7 at s7 e7 ⊢
    refine ⟨p7, _, argP d, rfl, SqL.of e7, .all (arg_dp d), h1, h2, h3, rfl, _, rfl, ?_⟩
    rw [decide_eq_true rfl]
    refine iteF ?_
    refine ⟨_, rfl, a, d, rfl, ha.same s7, ok, fun H8 s8 => ?_⟩
    have s8 := s7.trans s8
    refine ⟨_, rfl, r, d, rfl, er4.same s8, ok, fun H9 s9 => ⟨rfl, _, rfl, ?_⟩⟩
    rw [decide_eq_true rfl]
    refine iteF ?_
    have s9 := s8.trans s9
    refine ⟨_, rfl, _, rfl, _, dd_dd D G (ha.same s9) (ha2.same s9), fun H10 s10 => ⟨_, rfl, ?_⟩⟩
    rw [decide_eq_true rfl]
    refine iteF ?_
    have s10 := s9.trans s10
    refine ⟨_, rfl, _, rfl, po, d', rfl, eo.same s10, ok', fun a3 H11 s11 ha3 => ?_⟩
    have s11 := s10.trans s11
    refine ⟨_, dd_dd D G (ha.same s11) ha3, fun H12 s12 => ?_⟩
    have s12 := s11.trans s12
    refine ⟨_, rfl, _, rfl, .list (rowP d'), .list (rowP d), .lst (SqL.of (eo.same s12)) (row_dp d'), .lst (SqL.of (er4.same s12)) (row_dp d), row_shaped ok', row_shaped ok, rfl, _, rfl, ?_⟩
    rw [rows_eqv, show decide (d' = d) = decide (d = d') by rw [Bool.eq_iff_iff]; simp [eq_comm], decide_eq_true rfl]
    refine iteF ?_
    refine ⟨_, rfl, po, d', rfl, eo.same s12, ok', fun a4 H13 s13 ha4 => ?_⟩
    have s13 := s12.trans s13
    refine ⟨a4, d', rfl, ha4, ok', fun H14 s14 => ?_⟩
    have s14 := s13.trans s14
    refine ⟨_, rfl, po, d', rfl, eo.same s14, ok', fun H15 s15 => ⟨rfl, _, rfl, ?_⟩⟩
    rw [decide_eq_true rfl]
    exact iteF ⟨_, rfl, s14.trans s15⟩
  intro σ H5 h
  obtain ⟨y5, rfl, s5⟩ := h
  have ha := ha.same s5
  have er5 := er4.same s5
  have k5 := k4.trans (Keep.of s5)
  have hb5 := hb4.same s5
  clear ha2 er4 k4 hb4 s5 eo er hrow
  cases d with
  | give wd t k o =>
    refine ⟨_, rfl, r, _, 0, .str (Str.ofString "give"), rfl, rfl, SqL.of (er5), atI_nat (j := 0) rfl, rfl, _, rfl, ?_⟩
    refine iteB (decide_eq_true rfl) ?_
    refine ⟨_, rfl, r, _, 3, .str k, rfl, rfl, SqL.of (er5), atI_nat (j := 3) rfl, rfl, _, rfl, ?_⟩
    obtain ⟨tw, tt, tk, kw, nt, hk, ho⟩ := id ok
    cases hc : decide (V.str k = V.str (Str.ofString "caller")) with
    | true =>
      refine iteF ?_
      refine ⟨_, rfl, r, _, 0, .str (Str.ofString "give"), rfl, rfl, SqL.of (er5), atI_nat (j := 0) rfl, rfl, _, rfl, ?_⟩
      refine iteN (by decide +kernel) ?_
      refine ⟨_, rfl, _, rfl, r, _, rfl, er5.same same_refl, ok, fun H7 s7 => ?_⟩
      have t7 := Same.trans same_refl s7
      refine ⟨false, dd_no (ha.same t7) (.base (.str _)) (D.nS _) (D.kS _), fun H8 s8 => ⟨_, rfl, ?_⟩⟩
      rw [Bool.not_false]
      refine iteT ?_
      have t8 := t7.trans s8
      refine ⟨_, rfl, _, rfl, false, dd_no (ha.same t8) (.base (.lst (er5.same t8))) (D.nL _) (D.kL _), fun H9 s9 => ?_⟩
      exact q H9 (k5.trans (Keep.of (t8.trans s9))) (hb5.same (t8.trans s9))
    | false =>
      refine iteT ?_
      have hk : isTaker (.str k) = true := hk.resolve_left (by rw [← isT_dec', show decide (V.str k = V.str tCal) = false from hc]; exact Bool.false_ne_true)
      have nz : k ≠ Str.ofString "zzzzzzzz" := fun e => by have sv : k.length ≤ 7 := sv; rw [e] at sv; revert sv; decide +kernel
      refine ⟨_, rfl, r, _, 3, .str k, rfl, rfl, SqL.of (er5), atI_nat (j := 3) rfl, _, rfl, r, _, 1, .str wd, rfl, rfl, SqL.of (er5), atI_nat (j := 1) rfl, _, rfl, r, _, 2, .str t, rfl, rfl, SqL.of (er5), atI_nat (j := 2) rfl, _, rfl, r, _, 4, .bl o, rfl, rfl, SqL.of (er5), atI_nat (j := 4) rfl, rfl, rfl, fun x dx nx nd ne => ⟨x, dx, Str.ofString "zzzzzzzz", k, wd, t, o, rfl, ⟨z8_name.2, z8_name.1, tk, hk, nz, tw, kw, tt, nt, ho⟩, upd_same, rfl, ?_⟩⟩
      have s6 := mk3_same (u := .ins CG dx []) (o := .own x) (v := .ins CG dx (fieldsG (Str.ofString "zzzzzzzz") k wd t o)) nx nd
      have eg : (upd (upd (upd H5 dx (.own x)) x (.ins CG dx [])) x (.ins CG dx (fieldsG (Str.ofString "zzzzzzzz") k wd t o))) x = some (.ins CG dx (fieldsG (Str.ofString "zzzzzzzz") k wd t o)) := upd_same
      generalize upd (upd (upd H5 dx (.own x)) x (.ins CG dx [])) x (.ins CG dx (fieldsG (Str.ofString "zzzzzzzz") k wd t o)) = H6 at s6 eg ⊢
      refine ⟨_, rfl, _, rfl, false, dd_no (ha.same s6) (MG.tG.ty eg) (D.nG _) (D.kG _), fun H61 t61 => ⟨_, rfl, ?_⟩⟩
      refine iteF ?_
      have s61 := s6.trans t61
      obtain ⟨dh, eh⟩ := ha.same s61
      refine ⟨_, rfl, _, rfl, false, ⟨x, dx, _, _, rfl, t61 _ _ eg, (G.t _).ty eh, nGc _, _, (G.t _).ty eh, kGc _, rfl⟩, fun H62 s62 => ⟨_, rfl, ?_⟩⟩
      refine iteF ?_
      have s62 := s61.trans s62
      refine ⟨_, rfl, r, _, 0, .str (Str.ofString "give"), rfl, rfl, SqL.of (er5.same s62), atI_nat (j := 0) rfl, rfl, _, rfl, ?_⟩
      refine iteN (by decide +kernel) ?_
      refine ⟨_, rfl, _, rfl, r, _, rfl, er5.same s62, ok, fun H7 s7 => ?_⟩
      have t7 := Same.trans s62 s7
      refine ⟨false, dd_no (ha.same t7) (.base (.str _)) (D.nS _) (D.kS _), fun H8 s8 => ⟨_, rfl, ?_⟩⟩
      rw [Bool.not_false]
      refine iteT ?_
      have t8 := t7.trans s8
      refine ⟨_, rfl, _, rfl, false, dd_no (ha.same t8) (.base (.lst (er5.same t8))) (D.nL _) (D.kL _), fun H9 s9 => ?_⟩
      exact q H9 (k5.trans (Keep.of (t8.trans s9))) (hb5.same (t8.trans s9))
  | take wd t k g po cc =>
    refine ⟨_, rfl, r, _, 0, .str (Str.ofString "take"), rfl, rfl, SqL.of (er5), atI_nat (j := 0) rfl, rfl, _, rfl, ?_⟩
    refine iteN (by decide +kernel) ?_
    refine ⟨_, rfl, r, _, 0, .str (Str.ofString "take"), rfl, rfl, SqL.of (er5), atI_nat (j := 0) rfl, rfl, _, rfl, ?_⟩
    refine iteN (by decide +kernel) ?_
    refine ⟨_, rfl, _, rfl, r, _, rfl, er5.same same_refl, ok, fun H7 s7 => ?_⟩
    have t7 := Same.trans same_refl s7
    refine ⟨false, dd_no (ha.same t7) (.base (.str _)) (D.nS _) (D.kS _), fun H8 s8 => ⟨_, rfl, ?_⟩⟩
    rw [Bool.not_false]
    refine iteT ?_
    have t8 := t7.trans s8
    refine ⟨_, rfl, _, rfl, false, dd_no (ha.same t8) (.base (.lst (er5.same t8))) (D.nL _) (D.kL _), fun H9 s9 => ?_⟩
    exact q H9 (k5.trans (Keep.of (t8.trans s9))) (hb5.same (t8.trans s9))
  | call nm =>
    refine ⟨_, rfl, r, _, 0, .str (Str.ofString "call"), rfl, rfl, SqL.of (er5), atI_nat (j := 0) rfl, rfl, _, rfl, ?_⟩
    refine iteN (by decide +kernel) ?_
    refine ⟨_, rfl, r, _, 0, .str (Str.ofString "call"), rfl, rfl, SqL.of (er5), atI_nat (j := 0) rfl, rfl, _, rfl, ?_⟩
    refine iteN (by decide +kernel) ?_
    refine ⟨_, rfl, _, rfl, r, _, rfl, er5.same same_refl, ok, fun H7 s7 => ?_⟩
    have t7 := Same.trans same_refl s7
    refine ⟨false, dd_no (ha.same t7) (.base (.str _)) (D.nS _) (D.kS _), fun H8 s8 => ⟨_, rfl, ?_⟩⟩
    rw [Bool.not_false]
    refine iteT ?_
    have t8 := t7.trans s8
    refine ⟨_, rfl, _, rfl, false, dd_no (ha.same t8) (.base (.lst (er5.same t8))) (D.nL _) (D.kL _), fun H9 s9 => ?_⟩
    exact q H9 (k5.trans (Keep.of (t8.trans s9))) (hb5.same (t8.trans s9))
  | use wd t =>
    refine ⟨_, rfl, r, _, 0, .str (Str.ofString "use"), rfl, rfl, SqL.of (er5), atI_nat (j := 0) rfl, rfl, _, rfl, ?_⟩
    refine iteN (by decide +kernel) ?_
    refine ⟨_, rfl, r, _, 0, .str (Str.ofString "use"), rfl, rfl, SqL.of (er5), atI_nat (j := 0) rfl, rfl, _, rfl, ?_⟩
    refine iteN (by decide +kernel) ?_
    refine ⟨_, rfl, _, rfl, r, _, rfl, er5.same same_refl, ok, fun H7 s7 => ?_⟩
    have t7 := Same.trans same_refl s7
    refine ⟨false, dd_no (ha.same t7) (.base (.str _)) (D.nS _) (D.kS _), fun H8 s8 => ⟨_, rfl, ?_⟩⟩
    rw [Bool.not_false]
    refine iteT ?_
    have t8 := t7.trans s8
    refine ⟨_, rfl, _, rfl, false, dd_no (ha.same t8) (.base (.lst (er5.same t8))) (D.nL _) (D.kL _), fun H9 s9 => ?_⟩
    exact q H9 (k5.trans (Keep.of (t8.trans s9))) (hb5.same (t8.trans s9))
  | preset sd wd k o =>
    refine ⟨_, rfl, r, _, 0, .str (Str.ofString "preset"), rfl, rfl, SqL.of (er5), atI_nat (j := 0) rfl, rfl, _, rfl, ?_⟩
    refine iteN (by decide +kernel) ?_
    refine ⟨_, rfl, r, _, 0, .str (Str.ofString "preset"), rfl, rfl, SqL.of (er5), atI_nat (j := 0) rfl, rfl, _, rfl, ?_⟩
    refine iteB (decide_eq_true rfl) ?_
    obtain ⟨ts, tw, tk, hs, hw, hk, ho⟩ := id ok
    have nz : k ≠ Str.ofString "zzzzzzzz" := fun e => by have sv : k.length ≤ 7 := sv; rw [e] at sv; revert sv; decide +kernel
    refine ⟨_, rfl, _, rfl, r, _, 1, .str sd, rfl, rfl, SqL.of (er5), atI_nat (j := 1) rfl, _, rfl, r, _, 2, .str wd, rfl, rfl, SqL.of (er5), atI_nat (j := 2) rfl, _, rfl, r, _, 3, .str k, rfl, rfl, SqL.of (er5), atI_nat (j := 3) rfl, _, rfl, r, _, 4, .bl o, rfl, rfl, SqL.of (er5), atI_nat (j := 4) rfl, rfl, rfl, fun x dx nx nd ne => ⟨x, dx, Str.ofString "zzzzzzzz", sd, wd, k, o, rfl, ⟨z8_name.2, z8_name.1, ts, hs, tw, hw, tk, hk, nz, ho⟩, upd_same, rfl, ?_⟩⟩
    have s6 := mk3_same (u := .ins CF dx []) (o := .own x) (v := .ins CF dx (fieldsF (Str.ofString "zzzzzzzz") sd wd k o)) nx nd
    refine ⟨false, dd_no (ha.same s6) (MG.tF.ty upd_same) (D.nF _) (D.kF _), fun H61 s61 => ⟨_, rfl, ?_⟩⟩
    refine iteF ?_
    have s61 := s6.trans s61
    refine ⟨_, rfl, _, rfl, r, _, rfl, er5.same s61, ok, fun H7 s7 => ?_⟩
    have t7 := Same.trans s61 s7
    refine ⟨false, dd_no (ha.same t7) (.base (.str _)) (D.nS _) (D.kS _), fun H8 s8 => ⟨_, rfl, ?_⟩⟩
    rw [Bool.not_false]
    refine iteT ?_
    have t8 := t7.trans s8
    refine ⟨_, rfl, _, rfl, false, dd_no (ha.same t8) (.base (.lst (er5.same t8))) (D.nL _) (D.kL _), fun H9 s9 => ?_⟩
    exact q H9 (k5.trans (Keep.of (t8.trans s9))) (hb5.same (t8.trans s9))
end
end K06
set_option maxHeartbeats 4000000
namespace K06
open PySem PySem.Spec PyProof.Rows L2 RL RE RN RM TL RQ RG RC
/-- lists of rows -/
def Rw (H : Hp) (rs : List V) (ds : List Dm) : Prop := rs.length = ds.length ∧ ∀ (i : Nat) x d, rs[i]? = some x → ds[i]? = some d → okD d ∧ sevD d ∧ ∃ p, x = .ref p ∧ RowAt H p d
theorem Rw.same {H H' : Hp} {rs : List V} {ds : List Dm} (h : Rw H rs ds) (s : Same H H') : Rw H' rs ds := ⟨h.1, fun i x d g1 g2 => by
  obtain ⟨o, v, p, rfl, e⟩ := h.2 i x d g1 g2
  exact ⟨o, v, p, rfl, e.same s⟩⟩
theorem Rw.keep {H H' : Hp} {b : Addr} {n : Int} {rs : List V} {ds : List Dm} (h : Rw H rs ds) (k : Keep b H H') (hb : Bx H b n) : Rw H' rs ds := ⟨h.1, fun i x d h1 h2 => by
  obtain ⟨o, v, p, rfl, e⟩ := h.2 i x d h1 h2
  exact ⟨o, v, p, rfl, e.keep k hb⟩⟩
theorem Rw.head {H : Hp} {rs : List V} {ds : List Dm} (h : Rw H rs ds) {v : V} {l : List V} (e : rs = v :: l) : ∃ p, v = .ref p := by
  subst e
  cases ds with
  | nil => exact absurd h.1 (by simp)
  | cons d ds =>
    obtain ⟨_, _, p, e, _⟩ := h.2 0 v d rfl rfl
    exact ⟨p, e⟩
theorem Rw.ne {H : Hp} {rs : List V} {ds : List Dm} (h : Rw H rs ds) {D p : Addr} {d : Dm} (eD : H D = some (.lst rs)) (ep : RowAt H p d) : p ≠ D := fun z => by
  subst z
  unfold RowAt at ep
  rw [eD] at ep
  obtain ⟨p, e⟩ := h.head (HO.lst.inj (Option.some.inj ep))
  cases e
theorem Rw.app {H : Hp} {rs : List V} {ds : List Dm} {p : Addr} {d : Dm} (h : Rw H rs ds) (o : okD d) (v : sevD d) (e : RowAt H p d) : Rw H (rs ++ [.ref p]) (ds ++ [d]) := by
  refine ⟨by rw [List.length_append, List.length_append, h.1]; rfl, fun i x d' h1 h2 => ?_⟩
  by_cases hi : i < rs.length
  · rw [List.getElem?_append_left hi] at h1
    rw [List.getElem?_append_left (by rw [← h.1]; exact hi)] at h2
    exact h.2 i x d' h1 h2
  · rw [List.getElem?_append_right (by omega)] at h1
    rw [List.getElem?_append_right (by rw [← h.1]; omega), ← h.1] at h2
    have : i - rs.length = 0 := by
      have := (List.getElem?_eq_some_iff.mp h1).1
      simp at this
      omega
    rw [this] at h1 h2
    cases h1
    cases h2
    exact ⟨o, v, p, rfl, e⟩
theorem Rw.upd {H : Hp} {D : Addr} {zs ws rs : List V} {ds ds' : List Dm} (h : Rw H rs ds) (hz : Rw H zs ds') (eD : H D = some (.lst zs)) : Rw (L2.upd H D (.lst ws)) rs ds := ⟨h.1, fun i x d h1 h2 => by
  obtain ⟨o, v, p, rfl, e⟩ := h.2 i x d h1 h2
  exact ⟨o, v, p, rfl, by unfold RowAt; rw [upd_ne (hz.ne eD e)]; exact e⟩⟩
section
variable {P : Program} {w : World} {K : PySem.W.Frag} {mg : Str → Option Value} {base : Heap} {f : Addr} {fd : FuncData}
def spLaw (K : PySem.W.Frag) : Sp := fun vs H Q _ => ∃ (a : Addr) (ns : List Int), vs = [.ref a] ∧ SqL K H a (ns.map V.int) ∧ ns.length ≤ 63 ∧ ∀ H', Q (.bl true) H'
theorem ok_law {c : Cs} {CG CF : Addr} (F : Fun K "law" "law" s_law f fd) (D : DE P w K mg base c CG CF) (G : DC K mg c) (M : MkD P w K mg base c)
    (GC : Df P w K mg base CX0 1 "_law_cell" ["_law_script", "_law_k"] (spCell K)) (GB : Df P w K mg base CX0 1 "_law_box" ["_law_cell_here"] spBox) (GW : Df P w K mg base CX0 3 "_law_rows" ["_law_box_here"] spRows) (GR : DfG P w K mg base CX0 8 "_law_right" ["_law_box_here", "_law_row"] (spRight K)) (GM : Df P w K mg base CX0 6 "_law_made" ["_law_row"] (spMade c))
    (mr : mg "range" = none) (mx : mg "max" = none) (mn : mg "min" = none) (ml : mg "len" = none) :
    FnG P w K mg base CX0 9 f fd ["_law_script"] (spLaw K) := by
  obtain ⟨oc, od, kV, doc, pm, an, cdv, ct, osl, rfl, lk, hcd⟩ := F.ex
  obtain ⟨fG, fdG, dG, MG, FG, gG, kG, bG, vG⟩ := M.G
  obtain ⟨fC, fdC, MC, FC, gC, bC⟩ := M.C
  obtain ⟨fU, fdU, MU, FU, gU, bU⟩ := M.U
  have hm : ∀ x, PySem.W.mroIn K (c x) (.type "object") = some true := fun x => (G.t x).hm
  refine FnG.mk' lk hcd sc_law (fun {vs H Q E} h => by obtain ⟨a, ns, rfl, _⟩ := h; rfl) (fun {A fr s H vs Q E} qt hr h => ?_)
  obtain ⟨a, ns, rfl, hS, hl, q⟩ := h
  have hr1 := hr.mono (show 1 ≤ 8 by decide)
  have hr2 := hr.mono (show 2 ≤ 8 by decide)
  have hr3 := hr.mono (show 3 ≤ 8 by decide)
  have hr5 := hr.mono (show 5 ≤ 8 by decide)
  have hr6 := hr.mono (show 6 ≤ 8 by decide)
  refine ⟨_, PSs.nox (pss_cons (ps_for PassesOwn.never rfl (pi_range1 (by rfl) mr (pa_cons (pe_callB (call_max2 rfl) (by rfl) mx PyProof.Rows.boot_max (pa_cons pe_int (pa_cons (pe_callB (call_min2 rfl) (by rfl) mn PyProof.Rows.boot_min (pa_cons pe_int (pa_cons (pe_callB call_len_seq (by rfl) ml PySem.boot_len (pa_cons (pv 0) pa_nil)) pa_nil))) pa_nil))) pa_nil)) (pg_name (i := 1) sc_law.nd rfl (.inl rfl))
      (pss_cons (ps_set (i := 2) sc_law.nd rfl (.inr rfl) (pe_df0 GB hr1 (by rfl) (pa_cons (pe_df0 GC hr1 (by rfl) (pa_cons (pv 0) (pa_cons (pv 1) pa_nil))) pa_nil)))
      (pss_cons (ps_setLc (i := 3) (own := [("_law_turn", 7)]) (g := gName 7) (by rfl) sc_law.nd rfl rfl (sw_true rfl rfl rfl (by decide +kernel)) (pi_range1 (by rfl) mr (pa_cons pe_int pa_nil)) (blkOk_by (own := [("_law_turn", 7)]) (N := N_law) (sc := defScope s_law) (by decide +kernel)) (fun _ _ _ _ _ => pg_name (i := 7) sc_law.nd rfl (Or.inl rfl)) (fun _ _ _ _ _ => pts_nil) (fun _ _ _ _ _ => pe_df0 GW hr3 (by rfl) (pa_cons (pv 2) pa_nil)))
      (pss_cons (ps_for PassesOwn.never rfl (pi_list (pv 3)) (pg_name (i := 4) sc_law.nd rfl (.inl rfl)) (pss_one (ps_if (pt_not (pt_val (pe_dfG GR qt hr (by rfl) (pa_cons (pv 2) (pa_cons (pv 4) pa_nil))))) (pss_one (ps_ret pe_bl)) pss_nil)))
      (pss_one (ps_for PassesOwn.never rfl (pi_list (pv 3)) (pg_name (i := 5) sc_law.nd rfl (.inl rfl)) (pss_one (ps_for PassesOwn.never rfl (pi_list (pv 3)) (pg_name (i := 6) sc_law.nd rfl (.inl rfl)) (pss_one (ps_if (pt_cmpR op_ne (pe_cmpR (op_eqB (rcB5 D) hr1) (pe_df0 GM hr6 (by rfl) (pa_cons (pv 5) pa_nil)) (pe_df0 GM hr6 (by rfl) (pa_cons (pv 6) pa_nil)) (by rfl)) (pe_cmpR (op_eqD (hu64 hr)) (pv 5) (pv 6) (by rfl)) (by rfl)) (pss_one (ps_ret pe_bl)) pss_nil))))))))))
    (pss_one (ps_ret (pe_and (pe_cmpR (op_ne5 D hm hr2) (pe_make MU FU hr5 (by rfl) gU bU .nil pass0 (pa_cons pe_str (pa_cons pe_str pa_nil))) (pe_make MC FC hr5 (by rfl) gC bC .nil pass0 (pa_cons pe_str pa_nil)) (by rfl))
      (pe_one (pe_cmpR (op_ne5 D hm hr2) (pe_make MG FG hr5 (by rfl) gG bG vG pass0 (pa_cons pe_str (pa_cons pe_str (pa_cons pe_str pa_nil)))) (pe_make MU FU hr5 (by rfl) gU bU .nil pass0 (pa_cons pe_str (pa_cons pe_str pa_nil))) (by rfl))))))), ?_⟩
  refine ⟨_, rfl, a, _, rfl, .inl hS, 8, _, rfl, 2, _, rfl, _, rfl, ?_, ?_, for_range (lo := 0) (fun k σ H' => ∃ y1 y2 y3 y4 y5 y6 y7, σ = [some (.ref a), y1, y2, y3, y4, y5, y6, y7] ∧ SqL K H' a (ns.map V.int)) ⟨_, _, _, _, _, _, _, rfl, hS⟩ ?_ ?_⟩
  · split <;> (try split) <;> omega
  · split <;> (try split) <;> omega
  · intro k σ H0 hk h0
    obtain ⟨y1, y2, y3, y4, y5, y6, y7, rfl, hS0⟩ := h0
    have hk2 : k < 1000 := by
      revert hk
      split <;> (try split) <;> omega
    refine ⟨_, rfl, _, rfl, a, ns, k, by show [V.ref a, V.int (0 + (k : Int))] = _; rw [Int.zero_add], hS0, hk2, by omega, fun v => ⟨v, rfl, fun b H1 nb s1 hb1 => ?_⟩⟩
    refine ⟨6, rfl, by decide, by decide, fun L nL => ?_⟩
    have nLb : L ≠ b := ne_box hb1 nL
    refine lc_range (lo := 0) (n := 6) (fun i H' => ∃ (rs : List V) (ds : List Dm), H' L = some (.lst rs) ∧ ds.length = i ∧ Rw H' rs ds ∧ Keep b H1 H' ∧ Bx H' b (20 * (i : Int))) ?_ ?_ ?_
    · exact ⟨[], [], upd_same, rfl, ⟨rfl, fun i x d h => by simp at h⟩, Keep.new nL, (hb1.same (same_upd nL)).mono (by omega)⟩
    · intro i H4 hi h
      obtain ⟨rs, ds, eL, el, hR, k4, hb4⟩ := h
      refine ⟨rfl, ?_⟩
      unfold tYes
      refine iteT ?_
      refine ⟨_, rfl, b, 20 * (i : Int), rfl, by omega, by omega, hb4, fun p d H5 o v ep np k5 hb5 => ?_⟩
      have eL5 := k5 _ _ nLb eL
      have hR5 := hR.keep k5 hb4
      refine ⟨rs, eL5, ?_, rs ++ [.ref p], ds ++ [d], upd_same, ?_, (hR5.app o v ep).upd hR5 eL5, ?_, ?_⟩
      · exact Nat.lt_of_lt_of_le (show _ < 1000 by rw [hR.1]; omega) (by decide)
      · rw [List.length_append, el]; rfl
      · intro u o na ea
        rw [upd_ne (fun z => by rw [z, nL] at ea; cases ea)]
        exact k5 _ _ na (k4 _ _ na ea)
      · obtain ⟨g, m, c0, e, r1, r2, r3, r4, r5⟩ := hb5
        exact ⟨g, m, c0, by rw [upd_ne nLb.symm]; exact e, r1, r2, r3, r4, by omega⟩
    intro H4 h
    obtain ⟨rs, ds, eL, el, hR, k4, hb4⟩ := h
    refine ⟨_, rfl, L, rfl, ⟨rs, SqL.of eL⟩, for_list (K := K) (xs := rs) (fun i σ H' => ∃ y4, σ = [some (.ref a), some (.int (0 + (k : Int))), some (.ref b), some (.ref L), y4, y5, y6, y7] ∧ Keep b H4 H' ∧ Bx H' b (120 + (i : Int))) ⟨_, rfl, Keep.refl, hb4.mono (by omega)⟩ (fun i σ H' _ h => by obtain ⟨_, _, k5, _⟩ := h; exact SqL.of (k5 _ _ nLb eL)) ?_ ?_⟩
    · intro i x σ H5 hx h
      obtain ⟨y4, rfl, k5, hb5⟩ := h
      have hi : i < rs.length := (List.getElem?_eq_some_iff.mp hx).1
      have hl6 : rs.length = 6 := by rw [hR.1, el]
      have hid : i < ds.length := by rw [← hR.1]; exact hi
      obtain ⟨o, v, p, rfl, ep⟩ := (hR.keep k5 hb4).2 i x _ hx (List.getElem?_eq_getElem hid)
      refine ⟨_, rfl, _, rfl, b, p, 120 + (i : Int), _, rfl, by omega, by omega, hb5, ep, o, v, fun H6 k6 hb6 => ⟨_, rfl, iteF ⟨_, rfl, k5.trans k6, hb6.mono (by omega)⟩⟩⟩
    intro σ H5 h
    obtain ⟨y4, rfl, k5, hb5⟩ := h
    have eL5 := k5 _ _ nLb eL
    have hR5 := hR.keep k5 hb4
    have hSa : SqL K H5 a (ns.map V.int) := by
      refine hS0.imp (fun h => h.imp (fun e => ?_) fun ⟨o, e⟩ => ⟨o, ?_⟩) id
      · exact k5 _ _ (fun z => by rw [z, nb] at e; cases e) (k4 _ _ (fun z => by rw [z, nb] at e; cases e) (s1 _ _ e))
      · exact k5 _ _ (fun z => by rw [z, nb] at e; cases e) (k4 _ _ (fun z => by rw [z, nb] at e; cases e) (s1 _ _ e))
    refine ⟨_, rfl, L, rfl, ⟨rs, SqL.of eL5⟩, for_list (K := K) (xs := rs) (fun i σ H' => ∃ y5 y6, σ = [some (.ref a), some (.int (0 + (k : Int))), some (.ref b), some (.ref L), y4, y5, y6, y7] ∧ Same H5 H') ⟨_, _, rfl, same_refl⟩ (fun i σ H' _ h => by obtain ⟨_, _, _, s6⟩ := h; exact SqL.of (s6 _ _ eL5)) ?_ ?_⟩
    · intro i x σ H6 hx h
      obtain ⟨y5, y6, rfl, s6⟩ := h
      have hid : i < ds.length := by rw [← hR.1]; exact (List.getElem?_eq_some_iff.mp hx).1
      obtain ⟨o1, _, p1, rfl, ep1⟩ := (hR5.same s6).2 i x _ hx (List.getElem?_eq_getElem hid)
      refine ⟨_, rfl, L, rfl, ⟨rs, SqL.of (s6 _ _ eL5)⟩, for_list (K := K) (xs := rs) (fun j σ H' => ∃ y6, σ = [some (.ref a), some (.int (0 + (k : Int))), some (.ref b), some (.ref L), y4, some (.ref p1), y6, y7] ∧ Same H6 H') ⟨_, rfl, same_refl⟩ (fun j σ H' _ h => by obtain ⟨_, _, s7⟩ := h; exact SqL.of (s7 _ _ (s6 _ _ eL5))) ?_ ?_⟩
      · intro j x2 σ H7 hx2 h
        obtain ⟨y6, rfl, s7⟩ := h
        have hjd : j < ds.length := by rw [← hR.1]; exact (List.getElem?_eq_some_iff.mp hx2).1
        obtain ⟨o2, _, p2, rfl, ep2⟩ := ((hR5.same s6).same s7).2 j x2 _ hx2 (List.getElem?_eq_getElem hjd)
        have ep1 := ep1.same s7
        refine ⟨_, rfl, p1, _, rfl, ep1, o1, fun a1 H8 s8 ha1 => ?_⟩
        refine ⟨_, rfl, p2, _, rfl, ep2.same s8, o2, fun a2 H9 s9 ha2 => ?_⟩
        refine ⟨_, dd_dd D G (ha1.same s9) ha2, fun H10 s10 => ?_⟩
        have t := (s8.trans s9).trans s10
        refine ⟨_, rfl, _, rfl, .list (rowP _), .list (rowP _), .lst (SqL.of (ep1.same t)) (row_dp _), .lst (SqL.of (ep2.same t)) (row_dp _), row_shaped o1, row_shaped o2, rfl, _, rfl, ?_⟩
        rw [rows_eqv, decide_eq_true rfl]
        exact iteF ⟨_, rfl, s7.trans t⟩
      · intro σ H7 h
        obtain ⟨y6, rfl, s7⟩ := h
        exact ⟨_, _, rfl, s6.trans s7⟩
    · intro σ H6 h
      obtain ⟨y5, y6, rfl, s6⟩ := h
      exact ⟨_, _, _, _, _, _, _, rfl, SqL.ext hSa s6⟩
  · intro σ H0 h0
    obtain ⟨y1, y2, y3, y4, y5, y6, y7, rfl, hS0⟩ := h0
    have tc : txt (Str.ofString "call") := lit_txt (by decide +kernel)
    have tr : txt (Str.ofString "read") := lit_txt (by decide +kernel)
    have to : txt (Str.ofString "option") := lit_txt (by decide +kernel)
    have okU : okD (.use (Str.ofString "call") (Str.ofString "call")) := ⟨tc, tc, by decide +kernel, by decide +kernel⟩
    have okC : okD (.call (Str.ofString "call")) := ⟨tc, by decide +kernel⟩
    have okG : okD (.give (Str.ofString "read") (Str.ofString "read") (Str.ofString "option") false) := ⟨tr, tr, to, by decide +kernel, by decide +kernel, .inr (by decide +kernel), fun h => by cases h⟩
    have okV : okD (.use (Str.ofString "read") (Str.ofString "read")) := ⟨tr, tr, by decide +kernel, by decide +kernel⟩
    refine fun x1 dx1 nx1 nd1 ne1 => made_ok (d := .use (Str.ofString "call") (Str.ofString "call")) rfl okU (fun H1 s1 h1 => ?_) nx1 nd1 ne1
    refine fun x2 dx2 nx2 nd2 ne2 => made_ok (d := .call (Str.ofString "call")) rfl okC (fun H2 s2 h2 => ?_) nx2 nd2 ne2
    refine ⟨_, dd_dd D G (h1.same s2) h2, fun H3 s3 => ⟨_, rfl, ?_⟩⟩
    rw [decide_eq_false (fun e => nomatch e), Bool.not_false]
    refine iteT ?_
    refine fun x1 dx1 nx1 nd1 ne1 => made_ok (d := .give (Str.ofString "read") (Str.ofString "read") (Str.ofString "option") false) rfl okG (fun H1 s1 h1 => ?_) nx1 nd1 ne1
    refine fun x2 dx2 nx2 nd2 ne2 => made_ok (d := .use (Str.ofString "read") (Str.ofString "read")) rfl okV (fun H2 s2 h2 => ?_) nx2 nd2 ne2
    refine ⟨_, dd_dd D G (h1.same s2) h2, fun H3 s3 => ?_⟩
    rw [decide_eq_false (fun e => nomatch e)]
    exact q H3
end
end K06
set_option maxHeartbeats 16000000
namespace K06
open PySem PySem.Spec PyProof.Rows L2 RL RE RN RM TL RQ RG RC
abbrev tRole : Str := Str.ofString "role"
theorem kr_mk {K : PySem.W.Frag} {w : World} {d : Addr} {n : Nat} {h1 h2 h3 h4 h5 : Int} {t1 t2 t3 t4 t5 u1 u2 u3 u4 u5 : Tok}
    (l : K.lookup d = some ⟨.type "dict", none, .dict #[⟨h1, .str (Str.ofString "inherit") t1, .str tRole u1⟩, ⟨h2, .str (Str.ofString "act") t2, .str tRole u2⟩, ⟨h3, .str (Str.ofString "read") t3, .str tTab u3⟩, ⟨h4, .str (Str.ofString "write") t4, .str tTab u4⟩, ⟨h5, .str (Str.ofString "call") t5, .str tFun u5⟩] n, #[]⟩)
    (k : PySem.W.KeysLit w.params [⟨h1, .str (Str.ofString "inherit") t1, .str tRole u1⟩, ⟨h2, .str (Str.ofString "act") t2, .str tRole u2⟩, ⟨h3, .str (Str.ofString "read") t3, .str tTab u3⟩, ⟨h4, .str (Str.ofString "write") t4, .str tTab u4⟩, ⟨h5, .str (Str.ofString "call") t5, .str tFun u5⟩])
    (lo : (d == sysModules) = false) : KRight K w d := by
  refine ⟨⟨_, n, l, k, lo⟩, fun z => ?_⟩
  unfold PySem.W.nsIn
  rw [l]
  show ∃ r, (match List.find? (fun e : DictEntry => e.key.isStr z) [_, _, _, _, _] with | some e => some (some e.val) | none => _) = some r ∧ _
  have e : ∀ (x : Str) (t : Tok), (Value.str x t).isStr z = (x == z) := fun x t => rfl
  unfold kindT
  simp only [List.find?_cons, List.find?_nil, e]
  by_cases g1 : z = Str.ofString "inherit"
  · subst g1; exact ⟨_, rfl, rfl, fun k e => by cases e; exact ⟨_, rfl⟩⟩
  rw [if_neg g1, beq_eq_false_iff_ne.mpr (Ne.symm g1)]
  by_cases g2 : z = Str.ofString "act"
  · subst g2; exact ⟨_, rfl, rfl, fun k e => by cases e; exact ⟨_, rfl⟩⟩
  rw [if_neg g2, beq_eq_false_iff_ne.mpr (Ne.symm g2)]
  by_cases g3 : z = Str.ofString "read"
  · subst g3; exact ⟨_, rfl, rfl, fun k e => by cases e; exact ⟨_, rfl⟩⟩
  rw [if_neg g3, beq_eq_false_iff_ne.mpr (Ne.symm g3)]
  by_cases g4 : z = Str.ofString "write"
  · subst g4; exact ⟨_, rfl, rfl, fun k e => by cases e; exact ⟨_, rfl⟩⟩
  rw [if_neg g4, beq_eq_false_iff_ne.mpr (Ne.symm g4)]
  by_cases g5 : z = Str.ofString "call"
  · subst g5; exact ⟨_, rfl, rfl, fun k e => by cases e; exact ⟨_, rfl⟩⟩
  rw [if_neg g5, beq_eq_false_iff_ne.mpr (Ne.symm g5)]
  exact ⟨none, rfl, rfl, fun k e => by cases e⟩
theorem kt_mk {K : PySem.W.Frag} {a : Addr} {od : Option Addr} {sl : Array (Option Value)} {n : Nat} {z1 z2 : Str} {t1 t2 : Tok} (l : K.lookup a = some ⟨.type "tuple", od, .seq #[.str z1 t1, .str z2 t2] n, sl⟩) : KTup K a [z1, z2] :=
  ⟨_, _, _, l, rfl, rfl, by show 2 ≤ sizeLine; decide, .cons ⟨_, rfl⟩ (.cons ⟨_, rfl⟩ .nil)⟩
theorem df_mk {P : Program} {w : World} {K : PySem.W.Frag} {mg : Str → Option Value} {base : Heap} {CX : CXT} {k : Nat} {x : Str} {ps : List Str} {sp : Sp} {f : Addr} {fd : FuncData} (F : FnOk P w K mg base CX k f fd ps sp) (b : Binds K fd ps []) (kp : PySem.W.keepIn K (.ref f) = true) (g : mg x = some (.ref f)) : Df P w K mg base CX k x ps sp := ⟨f, fd, F, b, kp, g⟩
theorem kbn_mk {K : PySem.W.Frag} {qual : Str} {params : Arguments} {body : List Stmt} {scope : Scope} {f : Addr} {fd : FuncData} {ps ks : List Str} {n : Nat} (F : FunD K "__init__" qual params body scope [] [] f fd)
    (h : ∀ (kV doc pm : Value) (an : Option Addr) (cdv ct : Value) (s : Shared) (us ws : List Value), us.length = n → ws.length = ks.length → BindsTo s (PySem.W.fnOf "__init__" qual params body scope .none kV doc pm an cdv ct) ⟨us, ks.zip ws⟩ (ps.zip (us ++ ws))) :
    KBn K fd ps n ks (fun us ws => us ++ ws) (fun vs zs => vs ++ zs) := by
  obtain ⟨oc, od, dV, kV, doc, pm, an, cdv, ct, osl, rfl, lk, hcd, hD, hK⟩ := F.ex
  rcases hD with ⟨_, rfl⟩ | ⟨e, _⟩
  · exact ⟨fun s us ws X h1 h2 => h _ _ _ _ _ _ s us ws h1 h2, fun r1 r2 => r1.append r2⟩
  · exact absurd rfl e
def clC (a b c d e : Addr) : Cs
  | .give => a | .take => b | .call => c | .preset => d | .use => e
theorem kt5_mk {K : PySem.W.Frag} {a : Addr} {od : Option Addr} {sl : Array (Option Value)} {n : Nat} {z1 z2 z3 z4 z5 : Str} {t1 t2 t3 t4 t5 : Tok} (l : K.lookup a = some ⟨.type "tuple", od, .seq #[.str z1 t1, .str z2 t2, .str z3 t3, .str z4 t4, .str z5 t5] n, sl⟩) : KTup K a [z1, z2, z3, z4, z5] :=
  ⟨_, _, _, l, rfl, rfl, by show 5 ≤ sizeLine; decide, .cons ⟨_, rfl⟩ (.cons ⟨_, rfl⟩ (.cons ⟨_, rfl⟩ (.cons ⟨_, rfl⟩ (.cons ⟨_, rfl⟩ .nil))))⟩
theorem rot_vals : ∀ {vs : List V} {us : List Value}, Vals vs us → Vals (rot vs) (rot us)
  | _, _, .cons a (.cons b (.cons c .nil)) => .cons b (.cons c (.cons a .nil))
  | _, _, .nil => .nil
  | _, _, .cons a .nil => .cons a .nil
  | _, _, .cons a (.cons b .nil) => .cons a (.cons b .nil)
  | _, _, .cons a (.cons b (.cons c (.cons d r))) => .cons a (.cons b (.cons c (.cons d r)))
theorem kbr_mk {K : PySem.W.Frag} {qual : Str} {params : Arguments} {body : List Stmt} {scope : Scope} {f : Addr} {fd : FuncData} {ps ks : List Str} {n : Nat} (F : FunD K "__init__" qual params body scope [] [] f fd)
    (h : ∀ (kV doc pm : Value) (an : Option Addr) (cdv ct : Value) (s : Shared) (us ws : List Value), us.length = n → ws.length = ks.length → BindsTo s (PySem.W.fnOf "__init__" qual params body scope .none kV doc pm an cdv ct) ⟨us, ks.zip ws⟩ (ps.zip (us ++ rot ws))) :
    KBn K fd ps n ks (fun us ws => us ++ rot ws) (fun vs zs => vs ++ rot zs) := by
  obtain ⟨oc, od, dV, kV, doc, pm, an, cdv, ct, osl, rfl, lk, hcd, hD, hK⟩ := F.ex
  rcases hD with ⟨_, rfl⟩ | ⟨e, _⟩
  · exact ⟨fun s us ws X h1 h2 => h _ _ _ _ _ _ s us ws h1 h2, fun r1 r2 => r1.append (rot_vals r2)⟩
  · exact absurd rfl e
theorem all_mk {l : PySem.W.OpenLaw} {w : World} {K : PySem.W.Frag} {h : Heap} {mg : Str → Option Value} {fa : Addr} (X : K.In h) (G : h.Ns mainGlobals mg) (hfa : mg "law" = some (.ref fa))
    {oc0 dc0 pm0 cd0 ct0 : Value} {od0 an0 : Option Addr} {sl0 : Array (Option Value)} {f0 : Addr} {kV0 : Value}
    {oc1 dc1 pm1 cd1 ct1 : Value} {od1 an1 : Option Addr} {sl1 : Array (Option Value)} {f1 : Addr} {kV1 : Value}
    {oc2 dc2 pm2 cd2 ct2 : Value} {od2 an2 : Option Addr} {sl2 : Array (Option Value)} {f2 : Addr} {kV2 : Value}
    {oc3 dc3 pm3 cd3 ct3 : Value} {od3 an3 : Option Addr} {sl3 : Array (Option Value)} {f3 : Addr} {kV3 : Value}
    {oc4 dc4 pm4 cd4 ct4 : Value} {od4 an4 : Option Addr} {sl4 : Array (Option Value)} {f4 : Addr} {kV4 : Value}
    {oc5 dc5 pm5 cd5 ct5 : Value} {od5 an5 : Option Addr} {sl5 : Array (Option Value)} {f5 : Addr} {kV5 : Value}
    {oc6 dc6 pm6 cd6 ct6 : Value} {od6 an6 : Option Addr} {sl6 : Array (Option Value)} {f6 : Addr} {kV6 : Value}
    {oc7 dc7 pm7 cd7 ct7 : Value} {od7 an7 : Option Addr} {sl7 : Array (Option Value)} {f7 : Addr} {kV7 : Value}
    {oc8 dc8 pm8 cd8 ct8 : Value} {od8 an8 : Option Addr} {sl8 : Array (Option Value)} {f8 : Addr} {kV8 : Value}
    {oc9 dc9 pm9 cd9 ct9 : Value} {od9 an9 : Option Addr} {sl9 : Array (Option Value)} {f9 : Addr} {kV9 : Value}
    {oc10 dc10 pm10 cd10 ct10 : Value} {od10 an10 : Option Addr} {sl10 : Array (Option Value)} {f10 : Addr} {kV10 : Value}
    {oc11 dc11 pm11 cd11 ct11 : Value} {od11 an11 : Option Addr} {sl11 : Array (Option Value)} {f11 : Addr} {kV11 : Value}
    {oc12 dc12 pm12 cd12 ct12 : Value} {od12 an12 : Option Addr} {sl12 : Array (Option Value)} {f12 : Addr} {kV12 : Value}
    {oc13 dc13 pm13 cd13 ct13 : Value} {od13 an13 : Option Addr} {sl13 : Array (Option Value)} {f13 : Addr} {kV13 : Value}
    {oc14 dc14 pm14 cd14 ct14 : Value} {od14 an14 : Option Addr} {sl14 : Array (Option Value)} {f14 : Addr} {kV14 : Value}
    {oc15 dc15 pm15 cd15 ct15 : Value} {od15 an15 : Option Addr} {sl15 : Array (Option Value)} {f15 : Addr} {kV15 : Value}
    {oc16 dc16 pm16 cd16 ct16 : Value} {od16 an16 : Option Addr} {sl16 : Array (Option Value)} {f16 : Addr} {kV16 : Value}
    {oc17 dc17 pm17 cd17 ct17 : Value} {od17 an17 : Option Addr} {sl17 : Array (Option Value)} {f17 : Addr} {kV17 : Value}
    {oc18 dc18 pm18 cd18 ct18 : Value} {od18 an18 : Option Addr} {sl18 : Array (Option Value)} {f18 : Addr} {kV18 : Value}
    {oc19 dc19 pm19 cd19 ct19 : Value} {od19 an19 : Option Addr} {sl19 : Array (Option Value)} {f19 : Addr} {kV19 : Value}
    {oc20 dc20 pm20 cd20 ct20 : Value} {od20 an20 : Option Addr} {sl20 : Array (Option Value)} {f20 : Addr} {kV20 : Value}
    {oc21 dc21 pm21 cd21 ct21 : Value} {od21 an21 : Option Addr} {sl21 : Array (Option Value)} {f21 : Addr} {kV21 : Value}
    {oc22 dc22 pm22 cd22 ct22 : Value} {od22 an22 : Option Addr} {sl22 : Array (Option Value)} {f22 : Addr} {kV22 : Value}
    {oc23 dc23 pm23 cd23 ct23 : Value} {od23 an23 : Option Addr} {sl23 : Array (Option Value)} {f23 : Addr} {kV23 : Value}
    {oc24 dc24 pm24 cd24 ct24 : Value} {od24 an24 : Option Addr} {sl24 : Array (Option Value)} {f24 : Addr} {kV24 : Value}
    {CGive CTake CCall CPreset CUse CGrant CDefault : Addr} {kDGive kDTake : Addr}
    {ocGiveI dcGiveI pmGiveI cdGiveI ctGiveI : Value} {odGiveI anGiveI : Option Addr} {slGiveI : Array (Option Value)} {fGiveI : Addr}
    {ocGiveE dcGiveE pmGiveE cdGiveE ctGiveE : Value} {odGiveE anGiveE : Option Addr} {slGiveE : Array (Option Value)} {fGiveE : Addr} {kVGiveE : Value}
    {ocGiveS dcGiveS pmGiveS cdGiveS ctGiveS : Value} {odGiveS anGiveS : Option Addr} {slGiveS : Array (Option Value)} {fGiveS : Addr} {kVGiveS : Value}
    {ocTakeI dcTakeI pmTakeI cdTakeI ctTakeI : Value} {odTakeI anTakeI : Option Addr} {slTakeI : Array (Option Value)} {fTakeI : Addr}
    {ocTakeE dcTakeE pmTakeE cdTakeE ctTakeE : Value} {odTakeE anTakeE : Option Addr} {slTakeE : Array (Option Value)} {fTakeE : Addr} {kVTakeE : Value}
    {ocTakeS dcTakeS pmTakeS cdTakeS ctTakeS : Value} {odTakeS anTakeS : Option Addr} {slTakeS : Array (Option Value)} {fTakeS : Addr} {kVTakeS : Value}
    {ocCallI dcCallI pmCallI cdCallI ctCallI : Value} {odCallI anCallI : Option Addr} {slCallI : Array (Option Value)} {fCallI : Addr} {kVCallI : Value}
    {ocCallE dcCallE pmCallE cdCallE ctCallE : Value} {odCallE anCallE : Option Addr} {slCallE : Array (Option Value)} {fCallE : Addr} {kVCallE : Value}
    {ocCallS dcCallS pmCallS cdCallS ctCallS : Value} {odCallS anCallS : Option Addr} {slCallS : Array (Option Value)} {fCallS : Addr} {kVCallS : Value}
    {ocPresetI dcPresetI pmPresetI cdPresetI ctPresetI : Value} {odPresetI anPresetI : Option Addr} {slPresetI : Array (Option Value)} {fPresetI : Addr} {kVPresetI : Value}
    {ocPresetE dcPresetE pmPresetE cdPresetE ctPresetE : Value} {odPresetE anPresetE : Option Addr} {slPresetE : Array (Option Value)} {fPresetE : Addr} {kVPresetE : Value}
    {ocPresetS dcPresetS pmPresetS cdPresetS ctPresetS : Value} {odPresetS anPresetS : Option Addr} {slPresetS : Array (Option Value)} {fPresetS : Addr} {kVPresetS : Value}
    {ocUseI dcUseI pmUseI cdUseI ctUseI : Value} {odUseI anUseI : Option Addr} {slUseI : Array (Option Value)} {fUseI : Addr} {kVUseI : Value}
    {ocUseE dcUseE pmUseE cdUseE ctUseE : Value} {odUseE anUseE : Option Addr} {slUseE : Array (Option Value)} {fUseE : Addr} {kVUseE : Value}
    {ocUseS dcUseS pmUseS cdUseS ctUseS : Value} {odUseS anUseS : Option Addr} {slUseS : Array (Option Value)} {fUseS : Addr} {kVUseS : Value}
    {ocGrantI dcGrantI pmGrantI cdGrantI ctGrantI : Value} {odGrantI anGrantI : Option Addr} {slGrantI : Array (Option Value)} {fGrantI : Addr} {kVGrantI : Value}
    {ocGrantE dcGrantE pmGrantE cdGrantE ctGrantE : Value} {odGrantE anGrantE : Option Addr} {slGrantE : Array (Option Value)} {fGrantE : Addr} {kVGrantE : Value}
    {ocDefaultI dcDefaultI pmDefaultI cdDefaultI ctDefaultI : Value} {odDefaultI anDefaultI : Option Addr} {slDefaultI : Array (Option Value)} {fDefaultI : Addr} {kVDefaultI : Value}
    {tL t1 t2 t3 t4 r1 r2 r3 r4 r5 : Tok} {aRs aMs aRt dK : Addr} {oy1 : Option Addr} {sy1 sy2 sy3 : Array (Option Value)} {nn1 nn2 nn3 nnK : Nat} {h1 h2 h3 h4 h5 : Int} {ta tb tc td te ua ub uc ud ue : Tok}
    (a0 : PySem.W.nsIn K mainGlobals "is_name" = some (some (.ref f0)))
    (l0 : K.lookup f0 = some ⟨oc0, od0, .func (PySem.W.fnOf "is_name" "is_name" (defArgs s_is_name) (defBody s_is_name) (defScope s_is_name) .none kV0 dc0 pm0 an0 cd0 ct0), sl0⟩)
    (c0 : PySem.W.codeIn K cd0 "is_name" = true)
    (k0 : PySem.W.keepIn K (.ref f0) = true)
    (a1 : PySem.W.nsIn K mainGlobals "is_taker" = some (some (.ref f1)))
    (l1 : K.lookup f1 = some ⟨oc1, od1, .func (PySem.W.fnOf "is_taker" "is_taker" (defArgs s_is_taker) (defBody s_is_taker) (defScope s_is_taker) .none kV1 dc1 pm1 an1 cd1 ct1), sl1⟩)
    (c1 : PySem.W.codeIn K cd1 "is_taker" = true)
    (k1 : PySem.W.keepIn K (.ref f1) = true)
    (a2 : PySem.W.nsIn K mainGlobals "is_right" = some (some (.ref f2)))
    (l2 : K.lookup f2 = some ⟨oc2, od2, .func (PySem.W.fnOf "is_right" "is_right" (defArgs s_is_right) (defBody s_is_right) (defScope s_is_right) .none kV2 dc2 pm2 an2 cd2 ct2), sl2⟩)
    (c2 : PySem.W.codeIn K cd2 "is_right" = true)
    (k2 : PySem.W.keepIn K (.ref f2) = true)
    (a3 : PySem.W.nsIn K mainGlobals "is_made_kind" = some (some (.ref f3)))
    (l3 : K.lookup f3 = some ⟨oc3, od3, .func (PySem.W.fnOf "is_made_kind" "is_made_kind" (defArgs s_is_made_kind) (defBody s_is_made_kind) (defScope s_is_made_kind) .none kV3 dc3 pm3 an3 cd3 ct3), sl3⟩)
    (c3 : PySem.W.codeIn K cd3 "is_made_kind" = true)
    (k3 : PySem.W.keepIn K (.ref f3) = true)
    (a4 : PySem.W.nsIn K mainGlobals "is_flag" = some (some (.ref f4)))
    (l4 : K.lookup f4 = some ⟨oc4, od4, .func (PySem.W.fnOf "is_flag" "is_flag" (defArgs s_is_flag) (defBody s_is_flag) (defScope s_is_flag) .none kV4 dc4 pm4 an4 cd4 ct4), sl4⟩)
    (c4 : PySem.W.codeIn K cd4 "is_flag" = true)
    (k4 : PySem.W.keepIn K (.ref f4) = true)
    (a5 : PySem.W.nsIn K mainGlobals "kind_of" = some (some (.ref f5)))
    (l5 : K.lookup f5 = some ⟨oc5, od5, .func (PySem.W.fnOf "kind_of" "kind_of" (defArgs s_kind_of) (defBody s_kind_of) (defScope s_kind_of) .none kV5 dc5 pm5 an5 cd5 ct5), sl5⟩)
    (c5 : PySem.W.codeIn K cd5 "kind_of" = true)
    (k5 : PySem.W.keepIn K (.ref f5) = true)
    (a6 : PySem.W.nsIn K mainGlobals "check_name" = some (some (.ref f6)))
    (l6 : K.lookup f6 = some ⟨oc6, od6, .func (PySem.W.fnOf "check_name" "check_name" (defArgs s_check_name) (defBody s_check_name) (defScope s_check_name) .none kV6 dc6 pm6 an6 cd6 ct6), sl6⟩)
    (c6 : PySem.W.codeIn K cd6 "check_name" = true)
    (k6 : PySem.W.keepIn K (.ref f6) = true)
    (a7 : PySem.W.nsIn K mainGlobals "check_taker" = some (some (.ref f7)))
    (l7 : K.lookup f7 = some ⟨oc7, od7, .func (PySem.W.fnOf "check_taker" "check_taker" (defArgs s_check_taker) (defBody s_check_taker) (defScope s_check_taker) .none kV7 dc7 pm7 an7 cd7 ct7), sl7⟩)
    (c7 : PySem.W.codeIn K cd7 "check_taker" = true)
    (k7 : PySem.W.keepIn K (.ref f7) = true)
    (a8 : PySem.W.nsIn K mainGlobals "check_taker_from" = some (some (.ref f8)))
    (l8 : K.lookup f8 = some ⟨oc8, od8, .func (PySem.W.fnOf "check_taker_from" "check_taker_from" (defArgs s_check_taker_from) (defBody s_check_taker_from) (defScope s_check_taker_from) .none kV8 dc8 pm8 an8 cd8 ct8), sl8⟩)
    (c8 : PySem.W.codeIn K cd8 "check_taker_from" = true)
    (k8 : PySem.W.keepIn K (.ref f8) = true)
    (a9 : PySem.W.nsIn K mainGlobals "check_right" = some (some (.ref f9)))
    (l9 : K.lookup f9 = some ⟨oc9, od9, .func (PySem.W.fnOf "check_right" "check_right" (defArgs s_check_right) (defBody s_check_right) (defScope s_check_right) .none kV9 dc9 pm9 an9 cd9 ct9), sl9⟩)
    (c9 : PySem.W.codeIn K cd9 "check_right" = true)
    (k9 : PySem.W.keepIn K (.ref f9) = true)
    (a10 : PySem.W.nsIn K mainGlobals "check_right_on" = some (some (.ref f10)))
    (l10 : K.lookup f10 = some ⟨oc10, od10, .func (PySem.W.fnOf "check_right_on" "check_right_on" (defArgs s_check_right_on) (defBody s_check_right_on) (defScope s_check_right_on) .none kV10 dc10 pm10 an10 cd10 ct10), sl10⟩)
    (c10 : PySem.W.codeIn K cd10 "check_right_on" = true)
    (k10 : PySem.W.keepIn K (.ref f10) = true)
    (a11 : PySem.W.nsIn K mainGlobals "check_made_kind" = some (some (.ref f11)))
    (l11 : K.lookup f11 = some ⟨oc11, od11, .func (PySem.W.fnOf "check_made_kind" "check_made_kind" (defArgs s_check_made_kind) (defBody s_check_made_kind) (defScope s_check_made_kind) .none kV11 dc11 pm11 an11 cd11 ct11), sl11⟩)
    (c11 : PySem.W.codeIn K cd11 "check_made_kind" = true)
    (k11 : PySem.W.keepIn K (.ref f11) = true)
    (a12 : PySem.W.nsIn K mainGlobals "check_flag" = some (some (.ref f12)))
    (l12 : K.lookup f12 = some ⟨oc12, od12, .func (PySem.W.fnOf "check_flag" "check_flag" (defArgs s_check_flag) (defBody s_check_flag) (defScope s_check_flag) .none kV12 dc12 pm12 an12 cd12 ct12), sl12⟩)
    (c12 : PySem.W.codeIn K cd12 "check_flag" = true)
    (k12 : PySem.W.keepIn K (.ref f12) = true)
    (a13 : PySem.W.nsIn K mainGlobals "check_option" = some (some (.ref f13)))
    (l13 : K.lookup f13 = some ⟨oc13, od13, .func (PySem.W.fnOf "check_option" "check_option" (defArgs s_check_option) (defBody s_check_option) (defScope s_check_option) .none kV13 dc13 pm13 an13 cd13 ct13), sl13⟩)
    (c13 : PySem.W.codeIn K cd13 "check_option" = true)
    (k13 : PySem.W.keepIn K (.ref f13) = true)
    (a14 : PySem.W.nsIn K mainGlobals "_law_cell" = some (some (.ref f14)))
    (l14 : K.lookup f14 = some ⟨oc14, od14, .func (PySem.W.fnOf "_law_cell" "_law_cell" (defArgs s__law_cell) (defBody s__law_cell) (defScope s__law_cell) .none kV14 dc14 pm14 an14 cd14 ct14), sl14⟩)
    (c14 : PySem.W.codeIn K cd14 "_law_cell" = true)
    (k14 : PySem.W.keepIn K (.ref f14) = true)
    (a15 : PySem.W.nsIn K mainGlobals "_law_box" = some (some (.ref f15)))
    (l15 : K.lookup f15 = some ⟨oc15, od15, .func (PySem.W.fnOf "_law_box" "_law_box" (defArgs s__law_box) (defBody s__law_box) (defScope s__law_box) .none kV15 dc15 pm15 an15 cd15 ct15), sl15⟩)
    (c15 : PySem.W.codeIn K cd15 "_law_box" = true)
    (k15 : PySem.W.keepIn K (.ref f15) = true)
    (a16 : PySem.W.nsIn K mainGlobals "_law_take" = some (some (.ref f16)))
    (l16 : K.lookup f16 = some ⟨oc16, od16, .func (PySem.W.fnOf "_law_take" "_law_take" (defArgs s__law_take) (defBody s__law_take) (defScope s__law_take) .none kV16 dc16 pm16 an16 cd16 ct16), sl16⟩)
    (c16 : PySem.W.codeIn K cd16 "_law_take" = true)
    (k16 : PySem.W.keepIn K (.ref f16) = true)
    (a17 : PySem.W.nsIn K mainGlobals "_law_names" = some (some (.ref f17)))
    (l17 : K.lookup f17 = some ⟨oc17, od17, .func (PySem.W.fnOf "_law_names" "_law_names" (defArgs s__law_names) (defBody s__law_names) (defScope s__law_names) .none kV17 dc17 pm17 an17 cd17 ct17), sl17⟩)
    (c17 : PySem.W.codeIn K cd17 "_law_names" = true)
    (k17 : PySem.W.keepIn K (.ref f17) = true)
    (a18 : PySem.W.nsIn K mainGlobals "_law_rows" = some (some (.ref f18)))
    (l18 : K.lookup f18 = some ⟨oc18, od18, .func (PySem.W.fnOf "_law_rows" "_law_rows" (defArgs s__law_rows) (defBody s__law_rows) (defScope s__law_rows) .none kV18 dc18 pm18 an18 cd18 ct18), sl18⟩)
    (c18 : PySem.W.codeIn K cd18 "_law_rows" = true)
    (k18 : PySem.W.keepIn K (.ref f18) = true)
    (a19 : PySem.W.nsIn K mainGlobals "_law_made" = some (some (.ref f19)))
    (l19 : K.lookup f19 = some ⟨oc19, od19, .func (PySem.W.fnOf "_law_made" "_law_made" (defArgs s__law_made) (defBody s__law_made) (defScope s__law_made) .none kV19 dc19 pm19 an19 cd19 ct19), sl19⟩)
    (c19 : PySem.W.codeIn K cd19 "_law_made" = true)
    (k19 : PySem.W.keepIn K (.ref f19) = true)
    (a20 : PySem.W.nsIn K mainGlobals "_law_told" = some (some (.ref f20)))
    (l20 : K.lookup f20 = some ⟨oc20, od20, .func (PySem.W.fnOf "_law_told" "_law_told" (defArgs s__law_told) (defBody s__law_told) (defScope s__law_told) .none kV20 dc20 pm20 an20 cd20 ct20), sl20⟩)
    (c20 : PySem.W.codeIn K cd20 "_law_told" = true)
    (k20 : PySem.W.keepIn K (.ref f20) = true)
    (a21 : PySem.W.nsIn K mainGlobals "_law_text" = some (some (.ref f21)))
    (l21 : K.lookup f21 = some ⟨oc21, od21, .func (PySem.W.fnOf "_law_text" "_law_text" (defArgs s__law_text) (defBody s__law_text) (defScope s__law_text) .none kV21 dc21 pm21 an21 cd21 ct21), sl21⟩)
    (c21 : PySem.W.codeIn K cd21 "_law_text" = true)
    (k21 : PySem.W.keepIn K (.ref f21) = true)
    (a22 : PySem.W.nsIn K mainGlobals "_law_otherwise" = some (some (.ref f22)))
    (l22 : K.lookup f22 = some ⟨oc22, od22, .func (PySem.W.fnOf "_law_otherwise" "_law_otherwise" (defArgs s__law_otherwise) (defBody s__law_otherwise) (defScope s__law_otherwise) .none kV22 dc22 pm22 an22 cd22 ct22), sl22⟩)
    (c22 : PySem.W.codeIn K cd22 "_law_otherwise" = true)
    (k22 : PySem.W.keepIn K (.ref f22) = true)
    (a23 : PySem.W.nsIn K mainGlobals "_law_right" = some (some (.ref f23)))
    (l23 : K.lookup f23 = some ⟨oc23, od23, .func (PySem.W.fnOf "_law_right" "_law_right" (defArgs s__law_right) (defBody s__law_right) (defScope s__law_right) .none kV23 dc23 pm23 an23 cd23 ct23), sl23⟩)
    (c23 : PySem.W.codeIn K cd23 "_law_right" = true)
    (k23 : PySem.W.keepIn K (.ref f23) = true)
    (a24 : PySem.W.nsIn K mainGlobals "law" = some (some (.ref f24)))
    (l24 : K.lookup f24 = some ⟨oc24, od24, .func (PySem.W.fnOf "law" "law" (defArgs s_law) (defBody s_law) (defScope s_law) .none kV24 dc24 pm24 an24 cd24 ct24), sl24⟩)
    (c24 : PySem.W.codeIn K cd24 "law" = true)
    (k24 : PySem.W.keepIn K (.ref f24) = true)
    (aGive : PySem.W.nsIn K mainGlobals "Give" = some (some (.ref CGive)))
    (aTake : PySem.W.nsIn K mainGlobals "Take" = some (some (.ref CTake)))
    (aCall : PySem.W.nsIn K mainGlobals "Call" = some (some (.ref CCall)))
    (aPreset : PySem.W.nsIn K mainGlobals "Preset" = some (some (.ref CPreset)))
    (aUse : PySem.W.nsIn K mainGlobals "Use" = some (some (.ref CUse)))
    (aGrant : PySem.W.nsIn K mainGlobals "Grant" = some (some (.ref CGrant)))
    (aDefault : PySem.W.nsIn K mainGlobals "Default" = some (some (.ref CDefault)))
    (iGiveI : PySem.W.findIn K (.ref CGive) "__init__" = some (some (.ref fGiveI)))
    (fnGiveI : PySem.W.isFn K (.ref fGiveI) = true)
    (lGiveI : K.lookup fGiveI = some ⟨ocGiveI, odGiveI, .func (PySem.W.fnOf "__init__" "Give.__init__" (defArgs s_Give_init) (defBody s_Give_init) (defScope s_Give_init) .none (.ref kDGive) dcGiveI pmGiveI anGiveI cdGiveI ctGiveI), slGiveI⟩)
    (cGiveI : PySem.W.codeIn K cdGiveI "Give.__init__" = true)
    (kGiveI : PySem.W.keepIn K (.ref fGiveI) = true)
    (iGiveE : PySem.W.findIn K (.ref CGive) "__eq__" = some (some (.ref fGiveE)))
    (fnGiveE : PySem.W.isFn K (.ref fGiveE) = true)
    (lGiveE : K.lookup fGiveE = some ⟨ocGiveE, odGiveE, .func (PySem.W.fnOf "__eq__" "Give.__eq__" (defArgs s_Give_eq) (defBody s_Give_eq) (defScope s_Give_eq) .none kVGiveE dcGiveE pmGiveE anGiveE cdGiveE ctGiveE), slGiveE⟩)
    (cGiveE : PySem.W.codeIn K cdGiveE "Give.__eq__" = true)
    (kGiveE : PySem.W.keepIn K (.ref fGiveE) = true)
    (iGiveS : PySem.W.findIn K (.ref CGive) "__str__" = some (some (.ref fGiveS)))
    (fnGiveS : PySem.W.isFn K (.ref fGiveS) = true)
    (lGiveS : K.lookup fGiveS = some ⟨ocGiveS, odGiveS, .func (PySem.W.fnOf "__str__" "Give.__str__" (defArgs s_Give_str) (defBody s_Give_str) (defScope s_Give_str) .none kVGiveS dcGiveS pmGiveS anGiveS cdGiveS ctGiveS), slGiveS⟩)
    (cGiveS : PySem.W.codeIn K cdGiveS "Give.__str__" = true)
    (kGiveS : PySem.W.keepIn K (.ref fGiveS) = true)
    (iTakeI : PySem.W.findIn K (.ref CTake) "__init__" = some (some (.ref fTakeI)))
    (fnTakeI : PySem.W.isFn K (.ref fTakeI) = true)
    (lTakeI : K.lookup fTakeI = some ⟨ocTakeI, odTakeI, .func (PySem.W.fnOf "__init__" "Take.__init__" (defArgs s_Take_init) (defBody s_Take_init) (defScope s_Take_init) .none (.ref kDTake) dcTakeI pmTakeI anTakeI cdTakeI ctTakeI), slTakeI⟩)
    (cTakeI : PySem.W.codeIn K cdTakeI "Take.__init__" = true)
    (kTakeI : PySem.W.keepIn K (.ref fTakeI) = true)
    (iTakeE : PySem.W.findIn K (.ref CTake) "__eq__" = some (some (.ref fTakeE)))
    (fnTakeE : PySem.W.isFn K (.ref fTakeE) = true)
    (lTakeE : K.lookup fTakeE = some ⟨ocTakeE, odTakeE, .func (PySem.W.fnOf "__eq__" "Take.__eq__" (defArgs s_Take_eq) (defBody s_Take_eq) (defScope s_Take_eq) .none kVTakeE dcTakeE pmTakeE anTakeE cdTakeE ctTakeE), slTakeE⟩)
    (cTakeE : PySem.W.codeIn K cdTakeE "Take.__eq__" = true)
    (kTakeE : PySem.W.keepIn K (.ref fTakeE) = true)
    (iTakeS : PySem.W.findIn K (.ref CTake) "__str__" = some (some (.ref fTakeS)))
    (fnTakeS : PySem.W.isFn K (.ref fTakeS) = true)
    (lTakeS : K.lookup fTakeS = some ⟨ocTakeS, odTakeS, .func (PySem.W.fnOf "__str__" "Take.__str__" (defArgs s_Take_str) (defBody s_Take_str) (defScope s_Take_str) .none kVTakeS dcTakeS pmTakeS anTakeS cdTakeS ctTakeS), slTakeS⟩)
    (cTakeS : PySem.W.codeIn K cdTakeS "Take.__str__" = true)
    (kTakeS : PySem.W.keepIn K (.ref fTakeS) = true)
    (iCallI : PySem.W.findIn K (.ref CCall) "__init__" = some (some (.ref fCallI)))
    (fnCallI : PySem.W.isFn K (.ref fCallI) = true)
    (lCallI : K.lookup fCallI = some ⟨ocCallI, odCallI, .func (PySem.W.fnOf "__init__" "Call.__init__" (defArgs s_Call_init) (defBody s_Call_init) (defScope s_Call_init) .none kVCallI dcCallI pmCallI anCallI cdCallI ctCallI), slCallI⟩)
    (cCallI : PySem.W.codeIn K cdCallI "Call.__init__" = true)
    (kCallI : PySem.W.keepIn K (.ref fCallI) = true)
    (iCallE : PySem.W.findIn K (.ref CCall) "__eq__" = some (some (.ref fCallE)))
    (fnCallE : PySem.W.isFn K (.ref fCallE) = true)
    (lCallE : K.lookup fCallE = some ⟨ocCallE, odCallE, .func (PySem.W.fnOf "__eq__" "Call.__eq__" (defArgs s_Call_eq) (defBody s_Call_eq) (defScope s_Call_eq) .none kVCallE dcCallE pmCallE anCallE cdCallE ctCallE), slCallE⟩)
    (cCallE : PySem.W.codeIn K cdCallE "Call.__eq__" = true)
    (kCallE : PySem.W.keepIn K (.ref fCallE) = true)
    (iCallS : PySem.W.findIn K (.ref CCall) "__str__" = some (some (.ref fCallS)))
    (fnCallS : PySem.W.isFn K (.ref fCallS) = true)
    (lCallS : K.lookup fCallS = some ⟨ocCallS, odCallS, .func (PySem.W.fnOf "__str__" "Call.__str__" (defArgs s_Call_str) (defBody s_Call_str) (defScope s_Call_str) .none kVCallS dcCallS pmCallS anCallS cdCallS ctCallS), slCallS⟩)
    (cCallS : PySem.W.codeIn K cdCallS "Call.__str__" = true)
    (kCallS : PySem.W.keepIn K (.ref fCallS) = true)
    (iPresetI : PySem.W.findIn K (.ref CPreset) "__init__" = some (some (.ref fPresetI)))
    (fnPresetI : PySem.W.isFn K (.ref fPresetI) = true)
    (lPresetI : K.lookup fPresetI = some ⟨ocPresetI, odPresetI, .func (PySem.W.fnOf "__init__" "Preset.__init__" (defArgs s_Preset_init) (defBody s_Preset_init) (defScope s_Preset_init) .none kVPresetI dcPresetI pmPresetI anPresetI cdPresetI ctPresetI), slPresetI⟩)
    (cPresetI : PySem.W.codeIn K cdPresetI "Preset.__init__" = true)
    (kPresetI : PySem.W.keepIn K (.ref fPresetI) = true)
    (iPresetE : PySem.W.findIn K (.ref CPreset) "__eq__" = some (some (.ref fPresetE)))
    (fnPresetE : PySem.W.isFn K (.ref fPresetE) = true)
    (lPresetE : K.lookup fPresetE = some ⟨ocPresetE, odPresetE, .func (PySem.W.fnOf "__eq__" "Preset.__eq__" (defArgs s_Preset_eq) (defBody s_Preset_eq) (defScope s_Preset_eq) .none kVPresetE dcPresetE pmPresetE anPresetE cdPresetE ctPresetE), slPresetE⟩)
    (cPresetE : PySem.W.codeIn K cdPresetE "Preset.__eq__" = true)
    (kPresetE : PySem.W.keepIn K (.ref fPresetE) = true)
    (iPresetS : PySem.W.findIn K (.ref CPreset) "__str__" = some (some (.ref fPresetS)))
    (fnPresetS : PySem.W.isFn K (.ref fPresetS) = true)
    (lPresetS : K.lookup fPresetS = some ⟨ocPresetS, odPresetS, .func (PySem.W.fnOf "__str__" "Preset.__str__" (defArgs s_Preset_str) (defBody s_Preset_str) (defScope s_Preset_str) .none kVPresetS dcPresetS pmPresetS anPresetS cdPresetS ctPresetS), slPresetS⟩)
    (cPresetS : PySem.W.codeIn K cdPresetS "Preset.__str__" = true)
    (kPresetS : PySem.W.keepIn K (.ref fPresetS) = true)
    (iUseI : PySem.W.findIn K (.ref CUse) "__init__" = some (some (.ref fUseI)))
    (fnUseI : PySem.W.isFn K (.ref fUseI) = true)
    (lUseI : K.lookup fUseI = some ⟨ocUseI, odUseI, .func (PySem.W.fnOf "__init__" "Use.__init__" (defArgs s_Use_init) (defBody s_Use_init) (defScope s_Use_init) .none kVUseI dcUseI pmUseI anUseI cdUseI ctUseI), slUseI⟩)
    (cUseI : PySem.W.codeIn K cdUseI "Use.__init__" = true)
    (kUseI : PySem.W.keepIn K (.ref fUseI) = true)
    (iUseE : PySem.W.findIn K (.ref CUse) "__eq__" = some (some (.ref fUseE)))
    (fnUseE : PySem.W.isFn K (.ref fUseE) = true)
    (lUseE : K.lookup fUseE = some ⟨ocUseE, odUseE, .func (PySem.W.fnOf "__eq__" "Use.__eq__" (defArgs s_Use_eq) (defBody s_Use_eq) (defScope s_Use_eq) .none kVUseE dcUseE pmUseE anUseE cdUseE ctUseE), slUseE⟩)
    (cUseE : PySem.W.codeIn K cdUseE "Use.__eq__" = true)
    (kUseE : PySem.W.keepIn K (.ref fUseE) = true)
    (iUseS : PySem.W.findIn K (.ref CUse) "__str__" = some (some (.ref fUseS)))
    (fnUseS : PySem.W.isFn K (.ref fUseS) = true)
    (lUseS : K.lookup fUseS = some ⟨ocUseS, odUseS, .func (PySem.W.fnOf "__str__" "Use.__str__" (defArgs s_Use_str) (defBody s_Use_str) (defScope s_Use_str) .none kVUseS dcUseS pmUseS anUseS cdUseS ctUseS), slUseS⟩)
    (cUseS : PySem.W.codeIn K cdUseS "Use.__str__" = true)
    (kUseS : PySem.W.keepIn K (.ref fUseS) = true)
    (iGrantI : PySem.W.findIn K (.ref CGrant) "__init__" = some (some (.ref fGrantI)))
    (fnGrantI : PySem.W.isFn K (.ref fGrantI) = true)
    (lGrantI : K.lookup fGrantI = some ⟨ocGrantI, odGrantI, .func (PySem.W.fnOf "__init__" "Grant.__init__" (defArgs s_Grant_init) (defBody s_Grant_init) (defScope s_Grant_init) .none kVGrantI dcGrantI pmGrantI anGrantI cdGrantI ctGrantI), slGrantI⟩)
    (cGrantI : PySem.W.codeIn K cdGrantI "Grant.__init__" = true)
    (kGrantI : PySem.W.keepIn K (.ref fGrantI) = true)
    (iGrantE : PySem.W.findIn K (.ref CGrant) "__eq__" = some (some (.ref fGrantE)))
    (fnGrantE : PySem.W.isFn K (.ref fGrantE) = true)
    (lGrantE : K.lookup fGrantE = some ⟨ocGrantE, odGrantE, .func (PySem.W.fnOf "__eq__" "Grant.__eq__" (defArgs s_Grant_eq) (defBody s_Grant_eq) (defScope s_Grant_eq) .none kVGrantE dcGrantE pmGrantE anGrantE cdGrantE ctGrantE), slGrantE⟩)
    (cGrantE : PySem.W.codeIn K cdGrantE "Grant.__eq__" = true)
    (kGrantE : PySem.W.keepIn K (.ref fGrantE) = true)
    (iDefaultI : PySem.W.findIn K (.ref CDefault) "__init__" = some (some (.ref fDefaultI)))
    (fnDefaultI : PySem.W.isFn K (.ref fDefaultI) = true)
    (lDefaultI : K.lookup fDefaultI = some ⟨ocDefaultI, odDefaultI, .func (PySem.W.fnOf "__init__" "Default.__init__" (defArgs s_Default_init) (defBody s_Default_init) (defScope s_Default_init) .none kVDefaultI dcDefaultI pmDefaultI anDefaultI cdDefaultI ctDefaultI), slDefaultI⟩)
    (cDefaultI : PySem.W.codeIn K cdDefaultI "Default.__init__" = true)
    (kDefaultI : PySem.W.keepIn K (.ref fDefaultI) = true)
    (dGo : PySem.W.nsIn K kDGive "option" = some (some (.bool false)))
    (dTg : PySem.W.nsIn K kDTake "giver" = some (some .none))
    (dTo : PySem.W.nsIn K kDTake "only_option" = some (some (.bool false)))
    (dTc : PySem.W.nsIn K kDTake "cascade" = some (some (.bool false)))
    (mkGive : PySem.W.makesIn K CGive = true)
    (kCGive : PySem.W.keepIn K (.ref CGive) = true)
    (pgGive : PySem.W.plainGet K CGive Str.empty = true)
    (hdGive : PySem.W.hasDictIn K CGive = true)
    (poGive : PySem.W.plainOver K CGive = true)
    (saGive : PySem.W.findIn K (.ref CGive) "__setattr__" = some (some (.builtin "object.__setattr__")))
    (haGive : PySem.W.findIn K (.ref CGive) "__class__" = some (some (.builtin "object.__class__")))
    (hmGive : PySem.W.mroIn K CGive (.type "object") = some true)
    (nGiveright : PySem.W.findIn K (.ref CGive) "right" = some none)
    (nGivething : PySem.W.findIn K (.ref CGive) "thing" = some none)
    (nGivetaker : PySem.W.findIn K (.ref CGive) "taker" = some none)
    (nGiveoption : PySem.W.findIn K (.ref CGive) "option" = some none)
    (mkTake : PySem.W.makesIn K CTake = true)
    (kCTake : PySem.W.keepIn K (.ref CTake) = true)
    (pgTake : PySem.W.plainGet K CTake Str.empty = true)
    (hdTake : PySem.W.hasDictIn K CTake = true)
    (poTake : PySem.W.plainOver K CTake = true)
    (saTake : PySem.W.findIn K (.ref CTake) "__setattr__" = some (some (.builtin "object.__setattr__")))
    (haTake : PySem.W.findIn K (.ref CTake) "__class__" = some (some (.builtin "object.__class__")))
    (hmTake : PySem.W.mroIn K CTake (.type "object") = some true)
    (nTakeright : PySem.W.findIn K (.ref CTake) "right" = some none)
    (nTakething : PySem.W.findIn K (.ref CTake) "thing" = some none)
    (nTaketaker : PySem.W.findIn K (.ref CTake) "taker" = some none)
    (nTakegiver : PySem.W.findIn K (.ref CTake) "giver" = some none)
    (nTakeonly_option : PySem.W.findIn K (.ref CTake) "only_option" = some none)
    (nTakecascade : PySem.W.findIn K (.ref CTake) "cascade" = some none)
    (mkCall : PySem.W.makesIn K CCall = true)
    (kCCall : PySem.W.keepIn K (.ref CCall) = true)
    (pgCall : PySem.W.plainGet K CCall Str.empty = true)
    (hdCall : PySem.W.hasDictIn K CCall = true)
    (poCall : PySem.W.plainOver K CCall = true)
    (saCall : PySem.W.findIn K (.ref CCall) "__setattr__" = some (some (.builtin "object.__setattr__")))
    (haCall : PySem.W.findIn K (.ref CCall) "__class__" = some (some (.builtin "object.__class__")))
    (hmCall : PySem.W.mroIn K CCall (.type "object") = some true)
    (nCallfunction : PySem.W.findIn K (.ref CCall) "function" = some none)
    (mkPreset : PySem.W.makesIn K CPreset = true)
    (kCPreset : PySem.W.keepIn K (.ref CPreset) = true)
    (pgPreset : PySem.W.plainGet K CPreset Str.empty = true)
    (hdPreset : PySem.W.hasDictIn K CPreset = true)
    (poPreset : PySem.W.plainOver K CPreset = true)
    (saPreset : PySem.W.findIn K (.ref CPreset) "__setattr__" = some (some (.builtin "object.__setattr__")))
    (haPreset : PySem.W.findIn K (.ref CPreset) "__class__" = some (some (.builtin "object.__class__")))
    (hmPreset : PySem.W.mroIn K CPreset (.type "object") = some true)
    (nPresetkind : PySem.W.findIn K (.ref CPreset) "kind" = some none)
    (nPresetright : PySem.W.findIn K (.ref CPreset) "right" = some none)
    (nPresettaker : PySem.W.findIn K (.ref CPreset) "taker" = some none)
    (nPresetoption : PySem.W.findIn K (.ref CPreset) "option" = some none)
    (mkUse : PySem.W.makesIn K CUse = true)
    (kCUse : PySem.W.keepIn K (.ref CUse) = true)
    (pgUse : PySem.W.plainGet K CUse Str.empty = true)
    (hdUse : PySem.W.hasDictIn K CUse = true)
    (poUse : PySem.W.plainOver K CUse = true)
    (saUse : PySem.W.findIn K (.ref CUse) "__setattr__" = some (some (.builtin "object.__setattr__")))
    (haUse : PySem.W.findIn K (.ref CUse) "__class__" = some (some (.builtin "object.__class__")))
    (hmUse : PySem.W.mroIn K CUse (.type "object") = some true)
    (nUseright : PySem.W.findIn K (.ref CUse) "right" = some none)
    (nUsething : PySem.W.findIn K (.ref CUse) "thing" = some none)
    (mkGrant : PySem.W.makesIn K CGrant = true)
    (kCGrant : PySem.W.keepIn K (.ref CGrant) = true)
    (pgGrant : PySem.W.plainGet K CGrant Str.empty = true)
    (hdGrant : PySem.W.hasDictIn K CGrant = true)
    (poGrant : PySem.W.plainOver K CGrant = true)
    (saGrant : PySem.W.findIn K (.ref CGrant) "__setattr__" = some (some (.builtin "object.__setattr__")))
    (haGrant : PySem.W.findIn K (.ref CGrant) "__class__" = some (some (.builtin "object.__class__")))
    (hmGrant : PySem.W.mroIn K CGrant (.type "object") = some true)
    (nGrantgiver : PySem.W.findIn K (.ref CGrant) "giver" = some none)
    (nGranttaker : PySem.W.findIn K (.ref CGrant) "taker" = some none)
    (nGrantright : PySem.W.findIn K (.ref CGrant) "right" = some none)
    (nGrantthing : PySem.W.findIn K (.ref CGrant) "thing" = some none)
    (nGrantoption : PySem.W.findIn K (.ref CGrant) "option" = some none)
    (nGrantplace : PySem.W.findIn K (.ref CGrant) "place" = some none)
    (mkDefault : PySem.W.makesIn K CDefault = true)
    (kCDefault : PySem.W.keepIn K (.ref CDefault) = true)
    (pgDefault : PySem.W.plainGet K CDefault Str.empty = true)
    (hdDefault : PySem.W.hasDictIn K CDefault = true)
    (poDefault : PySem.W.plainOver K CDefault = true)
    (saDefault : PySem.W.findIn K (.ref CDefault) "__setattr__" = some (some (.builtin "object.__setattr__")))
    (haDefault : PySem.W.findIn K (.ref CDefault) "__class__" = some (some (.builtin "object.__class__")))
    (hmDefault : PySem.W.mroIn K CDefault (.type "object") = some true)
    (nDefaultmaker : PySem.W.findIn K (.ref CDefault) "maker" = some none)
    (nDefaultkind : PySem.W.findIn K (.ref CDefault) "kind" = some none)
    (nDefaultright : PySem.W.findIn K (.ref CDefault) "right" = some none)
    (nDefaulttaker : PySem.W.findIn K (.ref CDefault) "taker" = some none)
    (nDefaultoption : PySem.W.findIn K (.ref CDefault) "option" = some none)
    (nDefaultplace : PySem.W.findIn K (.ref CDefault) "place" = some none)
    (hn : PySem.W.specialIn K (.builtin "object.__class__") "__get__" = some (some (.builtin "getset_descriptor.__get__")))
    (ht : PySem.W.takesIn K (.builtin "object.__class__") = some true)
    (oGiveGive : PySem.W.kitOne K (.ref CGive) (.ref CGive) = some true)
    (nfGiveGive : PySem.W.notFirst K CGive (.ref CGive) = true)
    (oGiveTake : PySem.W.kitOne K (.ref CGive) (.ref CTake) = some false)
    (nfGiveTake : PySem.W.notFirst K CGive (.ref CTake) = true)
    (oGiveCall : PySem.W.kitOne K (.ref CGive) (.ref CCall) = some false)
    (nfGiveCall : PySem.W.notFirst K CGive (.ref CCall) = true)
    (oGivePreset : PySem.W.kitOne K (.ref CGive) (.ref CPreset) = some false)
    (nfGivePreset : PySem.W.notFirst K CGive (.ref CPreset) = true)
    (oGiveUse : PySem.W.kitOne K (.ref CGive) (.ref CUse) = some false)
    (nfGiveUse : PySem.W.notFirst K CGive (.ref CUse) = true)
    (oTakeGive : PySem.W.kitOne K (.ref CTake) (.ref CGive) = some false)
    (nfTakeGive : PySem.W.notFirst K CTake (.ref CGive) = true)
    (oTakeTake : PySem.W.kitOne K (.ref CTake) (.ref CTake) = some true)
    (nfTakeTake : PySem.W.notFirst K CTake (.ref CTake) = true)
    (oTakeCall : PySem.W.kitOne K (.ref CTake) (.ref CCall) = some false)
    (nfTakeCall : PySem.W.notFirst K CTake (.ref CCall) = true)
    (oTakePreset : PySem.W.kitOne K (.ref CTake) (.ref CPreset) = some false)
    (nfTakePreset : PySem.W.notFirst K CTake (.ref CPreset) = true)
    (oTakeUse : PySem.W.kitOne K (.ref CTake) (.ref CUse) = some false)
    (nfTakeUse : PySem.W.notFirst K CTake (.ref CUse) = true)
    (oCallGive : PySem.W.kitOne K (.ref CCall) (.ref CGive) = some false)
    (nfCallGive : PySem.W.notFirst K CCall (.ref CGive) = true)
    (oCallTake : PySem.W.kitOne K (.ref CCall) (.ref CTake) = some false)
    (nfCallTake : PySem.W.notFirst K CCall (.ref CTake) = true)
    (oCallCall : PySem.W.kitOne K (.ref CCall) (.ref CCall) = some true)
    (nfCallCall : PySem.W.notFirst K CCall (.ref CCall) = true)
    (oCallPreset : PySem.W.kitOne K (.ref CCall) (.ref CPreset) = some false)
    (nfCallPreset : PySem.W.notFirst K CCall (.ref CPreset) = true)
    (oCallUse : PySem.W.kitOne K (.ref CCall) (.ref CUse) = some false)
    (nfCallUse : PySem.W.notFirst K CCall (.ref CUse) = true)
    (oPresetGive : PySem.W.kitOne K (.ref CPreset) (.ref CGive) = some false)
    (nfPresetGive : PySem.W.notFirst K CPreset (.ref CGive) = true)
    (oPresetTake : PySem.W.kitOne K (.ref CPreset) (.ref CTake) = some false)
    (nfPresetTake : PySem.W.notFirst K CPreset (.ref CTake) = true)
    (oPresetCall : PySem.W.kitOne K (.ref CPreset) (.ref CCall) = some false)
    (nfPresetCall : PySem.W.notFirst K CPreset (.ref CCall) = true)
    (oPresetPreset : PySem.W.kitOne K (.ref CPreset) (.ref CPreset) = some true)
    (nfPresetPreset : PySem.W.notFirst K CPreset (.ref CPreset) = true)
    (oPresetUse : PySem.W.kitOne K (.ref CPreset) (.ref CUse) = some false)
    (nfPresetUse : PySem.W.notFirst K CPreset (.ref CUse) = true)
    (oUseGive : PySem.W.kitOne K (.ref CUse) (.ref CGive) = some false)
    (nfUseGive : PySem.W.notFirst K CUse (.ref CGive) = true)
    (oUseTake : PySem.W.kitOne K (.ref CUse) (.ref CTake) = some false)
    (nfUseTake : PySem.W.notFirst K CUse (.ref CTake) = true)
    (oUseCall : PySem.W.kitOne K (.ref CUse) (.ref CCall) = some false)
    (nfUseCall : PySem.W.notFirst K CUse (.ref CCall) = true)
    (oUsePreset : PySem.W.kitOne K (.ref CUse) (.ref CPreset) = some false)
    (nfUsePreset : PySem.W.notFirst K CUse (.ref CPreset) = true)
    (oUseUse : PySem.W.kitOne K (.ref CUse) (.ref CUse) = some true)
    (nfUseUse : PySem.W.notFirst K CUse (.ref CUse) = true)
    (nfSGive : PySem.W.notFirst K CGive (.type "str") = true)
    (nfLGive : PySem.W.notFirst K CGive (.type "list") = true)
    (nfGGive : PySem.W.notFirst K CGive (.ref CGrant) = true)
    (nfFGive : PySem.W.notFirst K CGive (.ref CDefault) = true)
    (oSGive : PySem.W.kitOne K (.type "str") (.ref CGive) = some false)
    (oLGive : PySem.W.kitOne K (.type "list") (.ref CGive) = some false)
    (oGGive : PySem.W.kitOne K (.ref CGrant) (.ref CGive) = some false)
    (oFGive : PySem.W.kitOne K (.ref CDefault) (.ref CGive) = some false)
    (nfgGive : PySem.W.notFirst K CGrant (.ref CGive) = true)
    (ogGive : PySem.W.kitOne K (.ref CGive) (.ref CGrant) = some false)
    (neGive : PySem.W.findIn K (.ref CGive) "__ne__" = some (some (.builtin "object.__ne__")))
    (nfSTake : PySem.W.notFirst K CTake (.type "str") = true)
    (nfLTake : PySem.W.notFirst K CTake (.type "list") = true)
    (nfGTake : PySem.W.notFirst K CTake (.ref CGrant) = true)
    (nfFTake : PySem.W.notFirst K CTake (.ref CDefault) = true)
    (oSTake : PySem.W.kitOne K (.type "str") (.ref CTake) = some false)
    (oLTake : PySem.W.kitOne K (.type "list") (.ref CTake) = some false)
    (oGTake : PySem.W.kitOne K (.ref CGrant) (.ref CTake) = some false)
    (oFTake : PySem.W.kitOne K (.ref CDefault) (.ref CTake) = some false)
    (nfgTake : PySem.W.notFirst K CGrant (.ref CTake) = true)
    (ogTake : PySem.W.kitOne K (.ref CTake) (.ref CGrant) = some false)
    (neTake : PySem.W.findIn K (.ref CTake) "__ne__" = some (some (.builtin "object.__ne__")))
    (nfSCall : PySem.W.notFirst K CCall (.type "str") = true)
    (nfLCall : PySem.W.notFirst K CCall (.type "list") = true)
    (nfGCall : PySem.W.notFirst K CCall (.ref CGrant) = true)
    (nfFCall : PySem.W.notFirst K CCall (.ref CDefault) = true)
    (oSCall : PySem.W.kitOne K (.type "str") (.ref CCall) = some false)
    (oLCall : PySem.W.kitOne K (.type "list") (.ref CCall) = some false)
    (oGCall : PySem.W.kitOne K (.ref CGrant) (.ref CCall) = some false)
    (oFCall : PySem.W.kitOne K (.ref CDefault) (.ref CCall) = some false)
    (nfgCall : PySem.W.notFirst K CGrant (.ref CCall) = true)
    (ogCall : PySem.W.kitOne K (.ref CCall) (.ref CGrant) = some false)
    (neCall : PySem.W.findIn K (.ref CCall) "__ne__" = some (some (.builtin "object.__ne__")))
    (nfSPreset : PySem.W.notFirst K CPreset (.type "str") = true)
    (nfLPreset : PySem.W.notFirst K CPreset (.type "list") = true)
    (nfGPreset : PySem.W.notFirst K CPreset (.ref CGrant) = true)
    (nfFPreset : PySem.W.notFirst K CPreset (.ref CDefault) = true)
    (oSPreset : PySem.W.kitOne K (.type "str") (.ref CPreset) = some false)
    (oLPreset : PySem.W.kitOne K (.type "list") (.ref CPreset) = some false)
    (oGPreset : PySem.W.kitOne K (.ref CGrant) (.ref CPreset) = some false)
    (oFPreset : PySem.W.kitOne K (.ref CDefault) (.ref CPreset) = some false)
    (nfgPreset : PySem.W.notFirst K CGrant (.ref CPreset) = true)
    (ogPreset : PySem.W.kitOne K (.ref CPreset) (.ref CGrant) = some false)
    (nePreset : PySem.W.findIn K (.ref CPreset) "__ne__" = some (some (.builtin "object.__ne__")))
    (nfSUse : PySem.W.notFirst K CUse (.type "str") = true)
    (nfLUse : PySem.W.notFirst K CUse (.type "list") = true)
    (nfGUse : PySem.W.notFirst K CUse (.ref CGrant) = true)
    (nfFUse : PySem.W.notFirst K CUse (.ref CDefault) = true)
    (oSUse : PySem.W.kitOne K (.type "str") (.ref CUse) = some false)
    (oLUse : PySem.W.kitOne K (.type "list") (.ref CUse) = some false)
    (oGUse : PySem.W.kitOne K (.ref CGrant) (.ref CUse) = some false)
    (oFUse : PySem.W.kitOne K (.ref CDefault) (.ref CUse) = some false)
    (nfgUse : PySem.W.notFirst K CGrant (.ref CUse) = true)
    (ogUse : PySem.W.kitOne K (.ref CUse) (.ref CGrant) = some false)
    (neUse : PySem.W.findIn K (.ref CUse) "__ne__" = some (some (.builtin "object.__ne__")))
    (aL : PySem.W.nsIn K mainGlobals "LONGEST_NAME" = some (some (.int 8 tL)))
    (gRs : PySem.W.nsIn K mainGlobals "RESERVED" = some (some (.ref aRs)))
    (lRs : K.lookup aRs = some ⟨.type "tuple", oy1, .seq #[.str tPub t1, .str tCal t2] nn1, sy1⟩)
    (gMs : PySem.W.nsIn K mainGlobals "MADE_KINDS" = some (some (.ref aMs)))
    (lMs : K.lookup aMs = some ⟨.type "tuple", none, .seq #[.str tTab t3, .str tFun t4] nn2, sy2⟩)
    (gRt : PySem.W.nsIn K mainGlobals "RIGHTS" = some (some (.ref aRt)))
    (lRt : K.lookup aRt = some ⟨.type "tuple", none, .seq #[.str (Str.ofString "inherit") r1, .str (Str.ofString "act") r2, .str (Str.ofString "read") r3, .str (Str.ofString "write") r4, .str (Str.ofString "call") r5] nn3, sy3⟩)
    (gK : PySem.W.nsIn K mainGlobals "KIND_BY_RIGHT" = some (some (.ref dK)))
    (lK : K.lookup dK = some ⟨.type "dict", none, .dict #[⟨h1, .str (Str.ofString "inherit") ta, .str tRole ua⟩, ⟨h2, .str (Str.ofString "act") tb, .str tRole ub⟩, ⟨h3, .str (Str.ofString "read") tc, .str tTab uc⟩, ⟨h4, .str (Str.ofString "write") td, .str tTab ud⟩, ⟨h5, .str (Str.ofString "call") te, .str tFun ue⟩] nnK, #[]⟩)
    (hK : PySem.W.KeysLit w.params [⟨h1, .str (Str.ofString "inherit") ta, .str tRole ua⟩, ⟨h2, .str (Str.ofString "act") tb, .str tRole ub⟩, ⟨h3, .str (Str.ofString "read") tc, .str tTab uc⟩, ⟨h4, .str (Str.ofString "write") td, .str tTab ud⟩, ⟨h5, .str (Str.ofString "call") te, .str tFun ue⟩])
    (loK : (dK == sysModules) = false)
    (zisinstance : PySem.W.nsIn K mainGlobals "isinstance" = some none)
    (zstr : PySem.W.nsIn K mainGlobals "str" = some none)
    (zlen : PySem.W.nsIn K mainGlobals "len" = some none)
    (zrange : PySem.W.nsIn K mainGlobals "range" = some none)
    (zmax : PySem.W.nsIn K mainGlobals "max" = some none)
    (zmin : PySem.W.nsIn K mainGlobals "min" = some none)
    (zlist : PySem.W.nsIn K mainGlobals "list" = some none)
    (zint : PySem.W.nsIn K mainGlobals "int" = some none)
    (zbool : PySem.W.nsIn K mainGlobals "bool" = some none)
    (zrepr : PySem.W.nsIn K mainGlobals "repr" = some none) :
    ∃ fd : FuncData, (∀ (s : Shared) (v : Value), BindsTo s fd ⟨[v], []⟩ [("_law_script", v)]) ∧ ∀ base : Heap, K.In base → base.Ns mainGlobals mg → FnG l.prog w K mg base CX0 9 fa fd ["_law_script"] (spLaw K) := by
  have e := hfa.symm.trans (PySem.W.mg_of X G a24)
  cases e
  have F0 := fun_mk (st := s_is_name) l0 c0 k0
  have b0 := F0.binds (ps := ["value"]) fun _ _ _ _ _ _ us hl => match us, hl with | [_], _ => rfl
  have g0 := PySem.W.mg_of X G a0
  have F1 := fun_mk (st := s_is_taker) l1 c1 k1
  have b1 := F1.binds (ps := ["value"]) fun _ _ _ _ _ _ us hl => match us, hl with | [_], _ => rfl
  have g1 := PySem.W.mg_of X G a1
  have F2 := fun_mk (st := s_is_right) l2 c2 k2
  have b2 := F2.binds (ps := ["value"]) fun _ _ _ _ _ _ us hl => match us, hl with | [_], _ => rfl
  have g2 := PySem.W.mg_of X G a2
  have F3 := fun_mk (st := s_is_made_kind) l3 c3 k3
  have b3 := F3.binds (ps := ["value"]) fun _ _ _ _ _ _ us hl => match us, hl with | [_], _ => rfl
  have g3 := PySem.W.mg_of X G a3
  have F4 := fun_mk (st := s_is_flag) l4 c4 k4
  have b4 := F4.binds (ps := ["value"]) fun _ _ _ _ _ _ us hl => match us, hl with | [_], _ => rfl
  have g4 := PySem.W.mg_of X G a4
  have F5 := fun_mk (st := s_kind_of) l5 c5 k5
  have b5 := F5.binds (ps := ["right"]) fun _ _ _ _ _ _ us hl => match us, hl with | [_], _ => rfl
  have g5 := PySem.W.mg_of X G a5
  have F6 := fun_mk (st := s_check_name) l6 c6 k6
  have b6 := F6.binds (ps := ["value"]) fun _ _ _ _ _ _ us hl => match us, hl with | [_], _ => rfl
  have g6 := PySem.W.mg_of X G a6
  have F7 := fun_mk (st := s_check_taker) l7 c7 k7
  have b7 := F7.binds (ps := ["value"]) fun _ _ _ _ _ _ us hl => match us, hl with | [_], _ => rfl
  have g7 := PySem.W.mg_of X G a7
  have F8 := fun_mk (st := s_check_taker_from) l8 c8 k8
  have b8 := F8.binds (ps := ["giver", "value"]) fun _ _ _ _ _ _ us hl => match us, hl with | [_, _], _ => rfl
  have g8 := PySem.W.mg_of X G a8
  have F9 := fun_mk (st := s_check_right) l9 c9 k9
  have b9 := F9.binds (ps := ["value"]) fun _ _ _ _ _ _ us hl => match us, hl with | [_], _ => rfl
  have g9 := PySem.W.mg_of X G a9
  have F10 := fun_mk (st := s_check_right_on) l10 c10 k10
  have b10 := F10.binds (ps := ["kind", "value"]) fun _ _ _ _ _ _ us hl => match us, hl with | [_, _], _ => rfl
  have g10 := PySem.W.mg_of X G a10
  have F11 := fun_mk (st := s_check_made_kind) l11 c11 k11
  have b11 := F11.binds (ps := ["value"]) fun _ _ _ _ _ _ us hl => match us, hl with | [_], _ => rfl
  have g11 := PySem.W.mg_of X G a11
  have F12 := fun_mk (st := s_check_flag) l12 c12 k12
  have b12 := F12.binds (ps := ["value"]) fun _ _ _ _ _ _ us hl => match us, hl with | [_], _ => rfl
  have g12 := PySem.W.mg_of X G a12
  have F13 := fun_mk (st := s_check_option) l13 c13 k13
  have b13 := F13.binds (ps := ["value", "taker"]) fun _ _ _ _ _ _ us hl => match us, hl with | [_, _], _ => rfl
  have g13 := PySem.W.mg_of X G a13
  have F14 := fun_mk (st := s__law_cell) l14 c14 k14
  have b14 := F14.binds (ps := ["_law_script", "_law_k"]) fun _ _ _ _ _ _ us hl => match us, hl with | [_, _], _ => rfl
  have g14 := PySem.W.mg_of X G a14
  have F15 := fun_mk (st := s__law_box) l15 c15 k15
  have b15 := F15.binds (ps := ["_law_cell_here"]) fun _ _ _ _ _ _ us hl => match us, hl with | [_], _ => rfl
  have g15 := PySem.W.mg_of X G a15
  have F16 := fun_mk (st := s__law_take) l16 c16 k16
  have b16 := F16.binds (ps := ["_law_box_here", "_law_many"]) fun _ _ _ _ _ _ us hl => match us, hl with | [_, _], _ => rfl
  have g16 := PySem.W.mg_of X G a16
  have F17 := fun_mk (st := s__law_names) l17 c17 k17
  have b17 := F17.binds (ps := ["_law_box_here", "_law_many"]) fun _ _ _ _ _ _ us hl => match us, hl with | [_, _], _ => rfl
  have g17 := PySem.W.mg_of X G a17
  have F18 := fun_mk (st := s__law_rows) l18 c18 k18
  have b18 := F18.binds (ps := ["_law_box_here"]) fun _ _ _ _ _ _ us hl => match us, hl with | [_], _ => rfl
  have g18 := PySem.W.mg_of X G a18
  have F19 := fun_mk (st := s__law_made) l19 c19 k19
  have b19 := F19.binds (ps := ["_law_row"]) fun _ _ _ _ _ _ us hl => match us, hl with | [_], _ => rfl
  have g19 := PySem.W.mg_of X G a19
  have F20 := fun_mk (st := s__law_told) l20 c20 k20
  have b20 := F20.binds (ps := ["_law_row", "_law_deed"]) fun _ _ _ _ _ _ us hl => match us, hl with | [_, _], _ => rfl
  have g20 := PySem.W.mg_of X G a20
  have F21 := fun_mk (st := s__law_text) l21 c21 k21
  have b21 := F21.binds (ps := ["_law_row"]) fun _ _ _ _ _ _ us hl => match us, hl with | [_], _ => rfl
  have g21 := PySem.W.mg_of X G a21
  have F22 := fun_mk (st := s__law_otherwise) l22 c22 k22
  have b22 := F22.binds (ps := ["_law_box_here", "_law_row"]) fun _ _ _ _ _ _ us hl => match us, hl with | [_, _], _ => rfl
  have g22 := PySem.W.mg_of X G a22
  have F23 := fun_mk (st := s__law_right) l23 c23 k23
  have b23 := F23.binds (ps := ["_law_box_here", "_law_row"]) fun _ _ _ _ _ _ us hl => match us, hl with | [_, _], _ => rfl
  have g23 := PySem.W.mg_of X G a23
  have F24 := fun_mk (st := s_law) l24 c24 k24
  have b24 := F24.binds (ps := ["_law_script"]) fun _ _ _ _ _ _ us hl => match us, hl with | [_], _ => rfl
  have g24 := PySem.W.mg_of X G a24
  have FGiveE := fun_mk (st := s_Give_eq) lGiveE cGiveE kGiveE
  have bGiveE := FGiveE.binds (ps := ["self", "other"]) fun _ _ _ _ _ _ us hl => match us, hl with | [_, _], _ => rfl
  have FGiveS := fun_mk (st := s_Give_str) lGiveS cGiveS kGiveS
  have bGiveS := FGiveS.binds (ps := ["self"]) fun _ _ _ _ _ _ us hl => match us, hl with | [_], _ => rfl
  have FTakeE := fun_mk (st := s_Take_eq) lTakeE cTakeE kTakeE
  have bTakeE := FTakeE.binds (ps := ["self", "other"]) fun _ _ _ _ _ _ us hl => match us, hl with | [_, _], _ => rfl
  have FTakeS := fun_mk (st := s_Take_str) lTakeS cTakeS kTakeS
  have bTakeS := FTakeS.binds (ps := ["self"]) fun _ _ _ _ _ _ us hl => match us, hl with | [_], _ => rfl
  have FCallI := fun_mk (st := s_Call_init) lCallI cCallI kCallI
  have bCallI := FCallI.binds (ps := ["self", "function"]) fun _ _ _ _ _ _ us hl => match us, hl with | [_, _], _ => rfl
  have FCallE := fun_mk (st := s_Call_eq) lCallE cCallE kCallE
  have bCallE := FCallE.binds (ps := ["self", "other"]) fun _ _ _ _ _ _ us hl => match us, hl with | [_, _], _ => rfl
  have FCallS := fun_mk (st := s_Call_str) lCallS cCallS kCallS
  have bCallS := FCallS.binds (ps := ["self"]) fun _ _ _ _ _ _ us hl => match us, hl with | [_], _ => rfl
  have FPresetI : FunD K "__init__" "Preset.__init__" (defArgs s_Preset_init) (defBody s_Preset_init) (defScope s_Preset_init) [] [] fPresetI _ := ⟨⟨ocPresetI, odPresetI, .none, kVPresetI, dcPresetI, pmPresetI, anPresetI, cdPresetI, ctPresetI, slPresetI, rfl, lPresetI, cPresetI, .inl ⟨rfl, rfl⟩, .inl rfl⟩, kPresetI⟩
  have bPresetI := kbn_mk (ps := ["self", "kind", "right", "taker", "option"]) (ks := ["option"]) (n := 4) FPresetI fun _ _ _ _ _ _ s us ws h1 h2 => match us, ws, h1, h2 with | [_, _, _, _], [_], _, _ => .of_eq rfl
  have FPresetE := fun_mk (st := s_Preset_eq) lPresetE cPresetE kPresetE
  have bPresetE := FPresetE.binds (ps := ["self", "other"]) fun _ _ _ _ _ _ us hl => match us, hl with | [_, _], _ => rfl
  have FPresetS := fun_mk (st := s_Preset_str) lPresetS cPresetS kPresetS
  have bPresetS := FPresetS.binds (ps := ["self"]) fun _ _ _ _ _ _ us hl => match us, hl with | [_], _ => rfl
  have FUseI := fun_mk (st := s_Use_init) lUseI cUseI kUseI
  have bUseI := FUseI.binds (ps := ["self", "right", "thing"]) fun _ _ _ _ _ _ us hl => match us, hl with | [_, _, _], _ => rfl
  have FUseE := fun_mk (st := s_Use_eq) lUseE cUseE kUseE
  have bUseE := FUseE.binds (ps := ["self", "other"]) fun _ _ _ _ _ _ us hl => match us, hl with | [_, _], _ => rfl
  have FUseS := fun_mk (st := s_Use_str) lUseS cUseS kUseS
  have bUseS := FUseS.binds (ps := ["self"]) fun _ _ _ _ _ _ us hl => match us, hl with | [_], _ => rfl
  have FGrantI : FunD K "__init__" "Grant.__init__" (defArgs s_Grant_init) (defBody s_Grant_init) (defScope s_Grant_init) [] [] fGrantI _ := ⟨⟨ocGrantI, odGrantI, .none, kVGrantI, dcGrantI, pmGrantI, anGrantI, cdGrantI, ctGrantI, slGrantI, rfl, lGrantI, cGrantI, .inl ⟨rfl, rfl⟩, .inl rfl⟩, kGrantI⟩
  have bGrantI := kbn_mk (ps := ["self", "giver", "taker", "right", "thing", "option"]) (ks := ["option"]) (n := 5) FGrantI fun _ _ _ _ _ _ s us ws h1 h2 => match us, ws, h1, h2 with | [_, _, _, _, _], [_], _, _ => .of_eq rfl
  have FGrantE := fun_mk (st := s_Grant_eq) lGrantE cGrantE kGrantE
  have bGrantE := FGrantE.binds (ps := ["self", "other"]) fun _ _ _ _ _ _ us hl => match us, hl with | [_, _], _ => rfl
  have FDefaultI : FunD K "__init__" "Default.__init__" (defArgs s_Default_init) (defBody s_Default_init) (defScope s_Default_init) [] [] fDefaultI _ := ⟨⟨ocDefaultI, odDefaultI, .none, kVDefaultI, dcDefaultI, pmDefaultI, anDefaultI, cdDefaultI, ctDefaultI, slDefaultI, rfl, lDefaultI, cDefaultI, .inl ⟨rfl, rfl⟩, .inl rfl⟩, kDefaultI⟩
  have bDefaultI := kbn_mk (ps := ["self", "maker", "kind", "right", "taker", "option"]) (ks := ["option"]) (n := 5) FDefaultI fun _ _ _ _ _ _ s us ws h1 h2 => match us, ws, h1, h2 with | [_, _, _, _, _], [_], _, _ => .of_eq rfl
  have MGive : Mk K CGive fGiveI := ⟨mkGive, iGiveI, fnGiveI, kCGive⟩
  have c0Give : Cls K CGive := ⟨pgGive, hdGive, poGive, saGive⟩
  have TGive : TyC K CGive := ⟨c0Give, haGive, hn, ht, hmGive⟩
  have gGive := PySem.W.mg_of X G aGive
  have MTake : Mk K CTake fTakeI := ⟨mkTake, iTakeI, fnTakeI, kCTake⟩
  have c0Take : Cls K CTake := ⟨pgTake, hdTake, poTake, saTake⟩
  have TTake : TyC K CTake := ⟨c0Take, haTake, hn, ht, hmTake⟩
  have gTake := PySem.W.mg_of X G aTake
  have MCall : Mk K CCall fCallI := ⟨mkCall, iCallI, fnCallI, kCCall⟩
  have c0Call : Cls K CCall := ⟨pgCall, hdCall, poCall, saCall⟩
  have TCall : TyC K CCall := ⟨c0Call, haCall, hn, ht, hmCall⟩
  have gCall := PySem.W.mg_of X G aCall
  have MPreset : Mk K CPreset fPresetI := ⟨mkPreset, iPresetI, fnPresetI, kCPreset⟩
  have c0Preset : Cls K CPreset := ⟨pgPreset, hdPreset, poPreset, saPreset⟩
  have TPreset : TyC K CPreset := ⟨c0Preset, haPreset, hn, ht, hmPreset⟩
  have gPreset := PySem.W.mg_of X G aPreset
  have MUse : Mk K CUse fUseI := ⟨mkUse, iUseI, fnUseI, kCUse⟩
  have c0Use : Cls K CUse := ⟨pgUse, hdUse, poUse, saUse⟩
  have TUse : TyC K CUse := ⟨c0Use, haUse, hn, ht, hmUse⟩
  have gUse := PySem.W.mg_of X G aUse
  have MGrant : Mk K CGrant fGrantI := ⟨mkGrant, iGrantI, fnGrantI, kCGrant⟩
  have c0Grant : Cls K CGrant := ⟨pgGrant, hdGrant, poGrant, saGrant⟩
  have TGrant : TyC K CGrant := ⟨c0Grant, haGrant, hn, ht, hmGrant⟩
  have gGrant := PySem.W.mg_of X G aGrant
  have MDefault : Mk K CDefault fDefaultI := ⟨mkDefault, iDefaultI, fnDefaultI, kCDefault⟩
  have c0Default : Cls K CDefault := ⟨pgDefault, hdDefault, poDefault, saDefault⟩
  have TDefault : TyC K CDefault := ⟨c0Default, haDefault, hn, ht, hmDefault⟩
  have gDefault := PySem.W.mg_of X G aDefault
  have misinstance := PySem.W.mg_none_of X G zisinstance
  have mstr := PySem.W.mg_none_of X G zstr
  have mlen := PySem.W.mg_none_of X G zlen
  have mrange := PySem.W.mg_none_of X G zrange
  have mmax := PySem.W.mg_none_of X G zmax
  have mmin := PySem.W.mg_none_of X G zmin
  have mlist := PySem.W.mg_none_of X G zlist
  have mint := PySem.W.mg_none_of X G zint
  have mbool := PySem.W.mg_none_of X G zbool
  have mrepr := PySem.W.mg_none_of X G zrepr
  have mL := PySem.W.mg_of X G aL
  have mR := PySem.W.mg_of X G gRs
  have hR := kt_mk lRs
  have mM := PySem.W.mg_of X G gMs
  have hM : KTupN K aMs [tTab, tFun] := ⟨kt_mk lMs, _, lMs, rfl, rfl⟩
  have mRt := PySem.W.mg_of X G gRt
  have hRt : KTupN K aRt rightsT := ⟨kt5_mk lRt, _, lRt, rfl, rfl⟩
  have mK := PySem.W.mg_of X G gK
  have hKr := kr_mk lK hK loK
  have FGive0 : FunD K "__init__" "Give.__init__" (defArgs s_Give_init) (defBody s_Give_init) (defScope s_Give_init) [] [] fGiveI _ := ⟨⟨ocGiveI, odGiveI, .none, .ref kDGive, dcGiveI, pmGiveI, anGiveI, cdGiveI, ctGiveI, slGiveI, rfl, lGiveI, cGiveI, .inl ⟨rfl, rfl⟩, .inl rfl⟩, kGiveI⟩
  have FGiveD : FunD K "__init__" "Give.__init__" (defArgs s_Give_init) (defBody s_Give_init) (defScope s_Give_init) [] [("option", .bl false)] fGiveI _ := ⟨⟨ocGiveI, odGiveI, .none, .ref kDGive, dcGiveI, pmGiveI, anGiveI, cdGiveI, ctGiveI, slGiveI, rfl, lGiveI, cGiveI, .inl ⟨rfl, rfl⟩, .inr ⟨kDGive, rfl, fun q hq => by have e := List.mem_singleton.mp hq; subst e; exact ⟨_, dGo, rfl⟩⟩⟩, kGiveI⟩
  have bGiveK := kbn_mk (ps := ["self", "right", "thing", "taker", "option"]) (ks := ["option"]) (n := 4) FGive0 fun _ _ _ _ _ _ s us ws h1 h2 => match us, ws, h1, h2 with | [_, _, _, _], [_], _, _ => .of_eq rfl
  obtain ⟨dsG, vG, bGiveD⟩ := FGiveD.binds0 (ps := ["self", "right", "thing", "taker", "option"]) 4 (by simp) rfl fun D doc pm an cdv ct us ks h1 h2 => match us, ks, h1, h2 with
    | [_, _, _, _], [k1], _, _ => ⟨_, _, _, _, _, _, rfl, rfl, rfl⟩
  have FTake0 : FunD K "__init__" "Take.__init__" (defArgs s_Take_init) (defBody s_Take_init) (defScope s_Take_init) [] [] fTakeI _ := ⟨⟨ocTakeI, odTakeI, .none, .ref kDTake, dcTakeI, pmTakeI, anTakeI, cdTakeI, ctTakeI, slTakeI, rfl, lTakeI, cTakeI, .inl ⟨rfl, rfl⟩, .inl rfl⟩, kTakeI⟩
  have FTakeD : FunD K "__init__" "Take.__init__" (defArgs s_Take_init) (defBody s_Take_init) (defScope s_Take_init) [] [("giver", .non), ("only_option", .bl false), ("cascade", .bl false)] fTakeI _ := ⟨⟨ocTakeI, odTakeI, .none, .ref kDTake, dcTakeI, pmTakeI, anTakeI, cdTakeI, ctTakeI, slTakeI, rfl, lTakeI, cTakeI, .inl ⟨rfl, rfl⟩, .inr ⟨kDTake, rfl, fun q hq => by
    rcases List.mem_cons.mp hq with e | hq
    · subst e; exact ⟨_, dTg, rfl⟩
    rcases List.mem_cons.mp hq with e | hq
    · subst e; exact ⟨_, dTo, rfl⟩
    · have e := List.mem_singleton.mp hq
      subst e; exact ⟨_, dTc, rfl⟩⟩⟩, kTakeI⟩
  obtain ⟨mvT, bTake1⟩ := FTakeD.kbinds0 (ps := ["self", "right", "thing", "taker", "giver", "only_option", "cascade"]) 4 ["giver"] [("only_option", .bl false), ("cascade", .bl false)] (fun us mv ws => us ++ (ws ++ mv)) (by simp) (fun q hq => by
    rcases List.mem_cons.mp hq with e | hq
    · rw [e]; exact List.mem_cons_of_mem _ (List.mem_cons_self ..)
    · rw [List.mem_singleton.mp hq]; exact List.mem_cons_of_mem _ (List.mem_cons_of_mem _ (List.mem_cons_self ..))) (fun r1 r2 r3 => r1.append (r3.append r2)) fun D doc pm an cdv ct us mv ws h1 h2 h3 => match us, mv, ws, h1, h2, h3 with
    | [_, _, _, _], [k1, k2], [_], _, _, _ => ⟨_, _, _, _, _, _, rfl, rfl, _, _, _, _, _, _, rfl, rfl, rfl⟩
  have bTake3 := kbr_mk (ps := ["self", "right", "thing", "taker", "giver", "only_option", "cascade"]) (ks := ["cascade", "giver", "only_option"]) (n := 4) FTake0 fun _ _ _ _ _ _ s us ws h1 h2 => match us, ws, h1, h2 with | [_, _, _, _], [_, _, _], _, _ => .of_eq rfl
  have dc : DC K mg (clC CGive CTake CCall CPreset CUse) := ⟨fun x => match x with | .give => TGive | .take => TTake | .call => TCall | .preset => TPreset | .use => TUse,
    fun x y => match x, y with | .give, .give => oGiveGive | .give, .take => oGiveTake | .give, .call => oGiveCall | .give, .preset => oGivePreset | .give, .use => oGiveUse | .take, .give => oTakeGive | .take, .take => oTakeTake | .take, .call => oTakeCall | .take, .preset => oTakePreset | .take, .use => oTakeUse | .call, .give => oCallGive | .call, .take => oCallTake | .call, .call => oCallCall | .call, .preset => oCallPreset | .call, .use => oCallUse | .preset, .give => oPresetGive | .preset, .take => oPresetTake | .preset, .call => oPresetCall | .preset, .preset => oPresetPreset | .preset, .use => oPresetUse | .use, .give => oUseGive | .use, .take => oUseTake | .use, .call => oUseCall | .use, .preset => oUsePreset | .use, .use => oUseUse,
    gGive, nGiveright, nGivething, nGivetaker, nGiveoption, gTake, nTakeright, nTakething, nTaketaker, nTakegiver, nTakeonly_option, nTakecascade, gCall, nCallfunction, gPreset, nPresetkind, nPresetright, nPresettaker, nPresetoption, gUse, nUseright, nUsething⟩
  refine ⟨PySem.W.fnOf "law" "law" (defArgs s_law) (defBody s_law) (defScope s_law) .none kV24 dc24 pm24 an24 cd24 ct24, fun s v => .of_eq rfl, fun base _ _ => ?_⟩
  have oN : FnOk l.prog w K mg base CX0 1 f0 _ ["value"] (spP K isName) := ok_is_name F0 misinstance mstr mlen mL mR hR
  have oT : FnOk l.prog w K mg base CX0 2 f1 _ ["value"] (spP K isTaker) := ok_is_taker F1 oN b0 k0 g0
  have oR : FnOk l.prog w K mg base CX0 1 f2 _ ["value"] (spP K isRight) := ok_is_right F2 misinstance mstr mK hKr
  have oM : FnOk l.prog w K mg base CX0 1 f3 _ ["value"] (spP K isMade) := ok_is_made F3 mM hM.1
  have oF : FnOk l.prog w K mg base CX0 1 f4 _ ["value"] (spP K isFlag) := ok_is_flag F4
  have dN := df_mk (oN) b0 k0 g0
  have dT_ := df_mk (oT) b1 k1 g1
  have dR := df_mk (oR) b2 k2 g2
  have dM_ := df_mk (oM) b3 k3 g3
  have dFl := df_mk (oF) b4 k4 g4
  have dKo := df_mk (ok_kind_of F5 dR mK hKr) b5 k5 g5
  have dcN := df_mk (ok_check_name F6 dN) b6 k6 g6
  have dcT := df_mk (ok_check_taker F7 dT_) b7 k7 g7
  have dcR := df_mk (ok_check_right F9 dR) b9 k9 g9
  have dcO := df_mk (ok_check_option F13 dFl) b13 k13 g13
  have dcF := df_mk (ok_check_flag F12 dFl) b12 k12 g12
  have dcM := df_mk (ok_check_made F11 dM_) b11 k11 g11
  have dcOn := df_mk (ok_check_right_on F10 dKo) b10 k10 g10
  have dcFr := df_mk (ok_check_from F8 dT_) b8 k8 g8
  have ch : Chk l.prog w K mg base := ⟨dcR, dcN, dcT, dcO, dcF, dcM, dcOn, dcFr⟩
  have oGiveI := ok_GiveI FGive0 ch c0Give nGiveright nGivething nGivetaker nGiveoption
  have oTakeI := ok_TakeI FTake0 ch c0Take nTakeright nTakething nTaketaker nTakegiver nTakeonly_option nTakecascade
  have oCallI := ok_CallI FCallI ch c0Call nCallfunction
  have oPresetI := ok_PresetI FPresetI ch c0Preset nPresetkind nPresetright nPresettaker nPresetoption
  have oUseI := ok_UseI FUseI ch c0Use nUseright nUsething
  have mkd : MkD l.prog w K mg base (clC CGive CTake CCall CPreset CUse) := ⟨⟨fGiveI, _, dsG, MGive, oGiveI, gGive, bGiveK, bGiveD, vG⟩, ⟨fTakeI, _, _, MTake, oTakeI, gTake, bTake1, bTake3⟩, ⟨fCallI, _, MCall, oCallI, gCall, bCallI⟩, ⟨fPresetI, _, MPreset, oPresetI, gPreset, bPresetI⟩, ⟨fUseI, _, MUse, oUseI, gUse, bUseI⟩⟩
  have de : DE l.prog w K mg base (clC CGive CTake CCall CPreset CUse) CGrant CDefault := ⟨fun x => match x with | .give => ⟨fGiveE, _, ok_GiveE FGiveE dc misinstance, iGiveE, fnGiveE, bGiveE⟩ | .take => ⟨fTakeE, _, ok_TakeE FTakeE dc misinstance, iTakeE, fnTakeE, bTakeE⟩ | .call => ⟨fCallE, _, ok_CallE FCallE dc misinstance, iCallE, fnCallE, bCallE⟩ | .preset => ⟨fPresetE, _, ok_PresetE FPresetE dc misinstance, iPresetE, fnPresetE, bPresetE⟩ | .use => ⟨fUseE, _, ok_UseE FUseE dc misinstance, iUseE, fnUseE, bUseE⟩,
    fun x => match x with | .give => ⟨fGiveS, _, ok_GiveS FGiveS dc, iGiveS, fnGiveS, bGiveS⟩ | .take => ⟨fTakeS, _, ok_TakeS FTakeS dc, iTakeS, fnTakeS, bTakeS⟩ | .call => ⟨fCallS, _, ok_CallS FCallS dc, iCallS, fnCallS, bCallS⟩ | .preset => ⟨fPresetS, _, ok_PresetS FPresetS dc, iPresetS, fnPresetS, bPresetS⟩ | .use => ⟨fUseS, _, ok_UseS FUseS dc, iUseS, fnUseS, bUseS⟩, fun x => match x with | .give => neGive | .take => neTake | .call => neCall | .preset => nePreset | .use => neUse,
    fun x y => match x, y with | .give, .give => nfGiveGive | .give, .take => nfGiveTake | .give, .call => nfGiveCall | .give, .preset => nfGivePreset | .give, .use => nfGiveUse | .take, .give => nfTakeGive | .take, .take => nfTakeTake | .take, .call => nfTakeCall | .take, .preset => nfTakePreset | .take, .use => nfTakeUse | .call, .give => nfCallGive | .call, .take => nfCallTake | .call, .call => nfCallCall | .call, .preset => nfCallPreset | .call, .use => nfCallUse | .preset, .give => nfPresetGive | .preset, .take => nfPresetTake | .preset, .call => nfPresetCall | .preset, .preset => nfPresetPreset | .preset, .use => nfPresetUse | .use, .give => nfUseGive | .use, .take => nfUseTake | .use, .call => nfUseCall | .use, .preset => nfUsePreset | .use, .use => nfUseUse,
    fun x => match x with | .give => nfSGive | .take => nfSTake | .call => nfSCall | .preset => nfSPreset | .use => nfSUse, fun x => match x with | .give => nfLGive | .take => nfLTake | .call => nfLCall | .preset => nfLPreset | .use => nfLUse, fun x => match x with | .give => nfGGive | .take => nfGTake | .call => nfGCall | .preset => nfGPreset | .use => nfGUse, fun x => match x with | .give => nfFGive | .take => nfFTake | .call => nfFCall | .preset => nfFPreset | .use => nfFUse, fun x => match x with | .give => oSGive | .take => oSTake | .call => oSCall | .preset => oSPreset | .use => oSUse, fun x => match x with | .give => oLGive | .take => oLTake | .call => oLCall | .preset => oLPreset | .use => oLUse, fun x => match x with | .give => oGGive | .take => oGTake | .call => oGCall | .preset => oGPreset | .use => oGUse, fun x => match x with | .give => oFGive | .take => oFTake | .call => oFCall | .preset => oFPreset | .use => oFUse⟩
  have oGrI := ok_GrantI FGrantI ch c0Grant nGrantgiver nGranttaker nGrantright nGrantthing nGrantoption nGrantplace mRt hRt mint
  have oDeI := ok_DefaultI FDefaultI ch c0Default nDefaultmaker nDefaultkind nDefaultright nDefaulttaker nDefaultoption nDefaultplace mRt hRt mM hM mint
  have mkg : MkG l.prog w K mg base CGrant CDefault := ⟨⟨fGrantI, _, MGrant, oGrI, gGrant, bGrantI⟩, ⟨fDefaultI, _, MDefault, oDeI, gDefault, bDefaultI⟩, ⟨fGrantE, _, ok_GrantE FGrantE gGrant misinstance, iGrantE, fnGrantE, bGrantE⟩, TGrant, TDefault⟩
  have dC := df_mk (ok_cell (P := l.prog) (w := w) (base := base) F14 mlen) b14 k14 g14
  have dB := df_mk (ok_box (P := l.prog) (w := w) (base := base) F15 mmax) b15 k15 g15
  have dTk := df_mk (ok_take (P := l.prog) (w := w) (mg := mg) (base := base) F16) b16 k16 g16
  have dNm := df_mk (ok_names F17 dTk mrange) b17 k17 g17
  have dRo := df_mk (ok_rows F18 dNm dTk mint) b18 k18 g18
  have dMa := df_mk (ok_made F19 mkd) b19 k19 g19
  have dTo_ := df_mk (ok_toldD (P := l.prog) (w := w) (base := base) F20 dc) b20 k20 g20
  have dTx := df_mk (ok_text (P := l.prog) (w := w) (base := base) F21 mint) b21 k21 g21
  have dOt := df_mk (ok_other F22 dTk mlen mlist mint misinstance mbool) b22 k22 g22
  have dRi : DfG l.prog w K mg base CX0 8 "_law_right" ["_law_box_here", "_law_row"] (spRight K) := ⟨f23, _, ok_right F23 de dc mkg (fun x => match x with | .give => nfgGive | .take => nfgTake | .call => nfgCall | .preset => nfgPreset | .use => nfgUse) (fun x => match x with | .give => ogGive | .take => ogTake | .call => ogCall | .preset => ogPreset | .use => ogUse) dMa dOt dTo_ dTx mrange mrepr mstr mlist, b23, k23, g23⟩
  exact ok_law F24 de dc mkd dC dB dRo dRi dMa mrange mmax mmin mlen
end K06
open PySem PySem.W PyProof.Rows
set_option maxHeartbeats 0 in
theorem PySem.Challenge.cw_rolereach_k06_deeds_made_holds : PySem.Challenge.rw_rolereach_k06_deeds_made.Holds := by
  w_on; o_law; k_head; (case hw => w_witness2)
  k_fill
  refine RG.walk_ofG (l := PySem.Challenge.rw_rolereach_k06_deeds_made) (n := 63) (k := 9) (x := "_law_script") (CX := fun _ => L2.CX0) (sp := fun w => K06.spLaw _) rfl (by decide) rfl ⟨rfl, by decide, by decide⟩ (fun w h Y => PySem.W.kIn_of Y) ?F (fun _ _ a ns hl hO hS => ⟨a, ns, rfl, hS, hl, fun _ => rfl⟩) (fun _ _ _ _ _ h => h)
  case F =>
    intro w mg fa h KX G hmg
    refine' K06.all_mk KX G hmg ?a0 ?l0 ?c0 ?k0 ?a1 ?l1 ?c1 ?k1 ?a2 ?l2 ?c2 ?k2 ?a3 ?l3 ?c3 ?k3 ?a4 ?l4 ?c4 ?k4 ?a5 ?l5 ?c5 ?k5 ?a6 ?l6 ?c6 ?k6 ?a7 ?l7 ?c7 ?k7 ?a8 ?l8 ?c8 ?k8 ?a9 ?l9 ?c9 ?k9 ?a10 ?l10 ?c10 ?k10 ?a11 ?l11 ?c11 ?k11 ?a12 ?l12 ?c12 ?k12 ?a13 ?l13 ?c13 ?k13 ?a14 ?l14 ?c14 ?k14 ?a15 ?l15 ?c15 ?k15 ?a16 ?l16 ?c16 ?k16 ?a17 ?l17 ?c17 ?k17 ?a18 ?l18 ?c18 ?k18 ?a19 ?l19 ?c19 ?k19 ?a20 ?l20 ?c20 ?k20 ?a21 ?l21 ?c21 ?k21 ?a22 ?l22 ?c22 ?k22 ?a23 ?l23 ?c23 ?k23 ?a24 ?l24 ?c24 ?k24 ?aGive ?aTake ?aCall ?aPreset ?aUse ?aGrant ?aDefault ?iGiveI ?fnGiveI ?lGiveI ?cGiveI ?kGiveI ?iGiveE ?fnGiveE ?lGiveE ?cGiveE ?kGiveE ?iGiveS ?fnGiveS ?lGiveS ?cGiveS ?kGiveS ?iTakeI ?fnTakeI ?lTakeI ?cTakeI ?kTakeI ?iTakeE ?fnTakeE ?lTakeE ?cTakeE ?kTakeE ?iTakeS ?fnTakeS ?lTakeS ?cTakeS ?kTakeS ?iCallI ?fnCallI ?lCallI ?cCallI ?kCallI ?iCallE ?fnCallE ?lCallE ?cCallE ?kCallE ?iCallS ?fnCallS ?lCallS ?cCallS ?kCallS ?iPresetI ?fnPresetI ?lPresetI ?cPresetI ?kPresetI ?iPresetE ?fnPresetE ?lPresetE ?cPresetE ?kPresetE ?iPresetS ?fnPresetS ?lPresetS ?cPresetS ?kPresetS ?iUseI ?fnUseI ?lUseI ?cUseI ?kUseI ?iUseE ?fnUseE ?lUseE ?cUseE ?kUseE ?iUseS ?fnUseS ?lUseS ?cUseS ?kUseS ?iGrantI ?fnGrantI ?lGrantI ?cGrantI ?kGrantI ?iGrantE ?fnGrantE ?lGrantE ?cGrantE ?kGrantE ?iDefaultI ?fnDefaultI ?lDefaultI ?cDefaultI ?kDefaultI ?dGo ?dTg ?dTo ?dTc ?mkGive ?kCGive ?pgGive ?hdGive ?poGive ?saGive ?haGive ?hmGive ?nGiveright ?nGivething ?nGivetaker ?nGiveoption ?mkTake ?kCTake ?pgTake ?hdTake ?poTake ?saTake ?haTake ?hmTake ?nTakeright ?nTakething ?nTaketaker ?nTakegiver ?nTakeonly_option ?nTakecascade ?mkCall ?kCCall ?pgCall ?hdCall ?poCall ?saCall ?haCall ?hmCall ?nCallfunction ?mkPreset ?kCPreset ?pgPreset ?hdPreset ?poPreset ?saPreset ?haPreset ?hmPreset ?nPresetkind ?nPresetright ?nPresettaker ?nPresetoption ?mkUse ?kCUse ?pgUse ?hdUse ?poUse ?saUse ?haUse ?hmUse ?nUseright ?nUsething ?mkGrant ?kCGrant ?pgGrant ?hdGrant ?poGrant ?saGrant ?haGrant ?hmGrant ?nGrantgiver ?nGranttaker ?nGrantright ?nGrantthing ?nGrantoption ?nGrantplace ?mkDefault ?kCDefault ?pgDefault ?hdDefault ?poDefault ?saDefault ?haDefault ?hmDefault ?nDefaultmaker ?nDefaultkind ?nDefaultright ?nDefaulttaker ?nDefaultoption ?nDefaultplace ?hn ?ht ?oGiveGive ?nfGiveGive ?oGiveTake ?nfGiveTake ?oGiveCall ?nfGiveCall ?oGivePreset ?nfGivePreset ?oGiveUse ?nfGiveUse ?oTakeGive ?nfTakeGive ?oTakeTake ?nfTakeTake ?oTakeCall ?nfTakeCall ?oTakePreset ?nfTakePreset ?oTakeUse ?nfTakeUse ?oCallGive ?nfCallGive ?oCallTake ?nfCallTake ?oCallCall ?nfCallCall ?oCallPreset ?nfCallPreset ?oCallUse ?nfCallUse ?oPresetGive ?nfPresetGive ?oPresetTake ?nfPresetTake ?oPresetCall ?nfPresetCall ?oPresetPreset ?nfPresetPreset ?oPresetUse ?nfPresetUse ?oUseGive ?nfUseGive ?oUseTake ?nfUseTake ?oUseCall ?nfUseCall ?oUsePreset ?nfUsePreset ?oUseUse ?nfUseUse ?nfSGive ?nfLGive ?nfGGive ?nfFGive ?oSGive ?oLGive ?oGGive ?oFGive ?nfgGive ?ogGive ?neGive ?nfSTake ?nfLTake ?nfGTake ?nfFTake ?oSTake ?oLTake ?oGTake ?oFTake ?nfgTake ?ogTake ?neTake ?nfSCall ?nfLCall ?nfGCall ?nfFCall ?oSCall ?oLCall ?oGCall ?oFCall ?nfgCall ?ogCall ?neCall ?nfSPreset ?nfLPreset ?nfGPreset ?nfFPreset ?oSPreset ?oLPreset ?oGPreset ?oFPreset ?nfgPreset ?ogPreset ?nePreset ?nfSUse ?nfLUse ?nfGUse ?nfFUse ?oSUse ?oLUse ?oGUse ?oFUse ?nfgUse ?ogUse ?neUse ?aL ?gRs ?lRs ?gMs ?lMs ?gRt ?lRt ?gK ?lK ?hK ?loK ?zisinstance ?zstr ?zlen ?zrange ?zmax ?zmin ?zlist ?zint ?zbool ?zrepr
    (case a0 => k_is)
    (case l0 => k_is)
    (case c0 => k_is)
    (case k0 => k_is)
    (case a1 => k_is)
    (case l1 => k_is)
    (case c1 => k_is)
    (case k1 => k_is)
    (case a2 => k_is)
    (case l2 => k_is)
    (case c2 => k_is)
    (case k2 => k_is)
    (case a3 => k_is)
    (case l3 => k_is)
    (case c3 => k_is)
    (case k3 => k_is)
    (case a4 => k_is)
    (case l4 => k_is)
    (case c4 => k_is)
    (case k4 => k_is)
    (case a5 => k_is)
    (case l5 => k_is)
    (case c5 => k_is)
    (case k5 => k_is)
    (case a6 => k_is)
    (case l6 => k_is)
    (case c6 => k_is)
    (case k6 => k_is)
    (case a7 => k_is)
    (case l7 => k_is)
    (case c7 => k_is)
    (case k7 => k_is)
    (case a8 => k_is)
    (case l8 => k_is)
    (case c8 => k_is)
    (case k8 => k_is)
    (case a9 => k_is)
    (case l9 => k_is)
    (case c9 => k_is)
    (case k9 => k_is)
    (case a10 => k_is)
    (case l10 => k_is)
    (case c10 => k_is)
    (case k10 => k_is)
    (case a11 => k_is)
    (case l11 => k_is)
    (case c11 => k_is)
    (case k11 => k_is)
    (case a12 => k_is)
    (case l12 => k_is)
    (case c12 => k_is)
    (case k12 => k_is)
    (case a13 => k_is)
    (case l13 => k_is)
    (case c13 => k_is)
    (case k13 => k_is)
    (case a14 => k_is)
    (case l14 => k_is)
    (case c14 => k_is)
    (case k14 => k_is)
    (case a15 => k_is)
    (case l15 => k_is)
    (case c15 => k_is)
    (case k15 => k_is)
    (case a16 => k_is)
    (case l16 => k_is)
    (case c16 => k_is)
    (case k16 => k_is)
    (case a17 => k_is)
    (case l17 => k_is)
    (case c17 => k_is)
    (case k17 => k_is)
    (case a18 => k_is)
    (case l18 => k_is)
    (case c18 => k_is)
    (case k18 => k_is)
    (case a19 => k_is)
    (case l19 => k_is)
    (case c19 => k_is)
    (case k19 => k_is)
    (case a20 => k_is)
    (case l20 => k_is)
    (case c20 => k_is)
    (case k20 => k_is)
    (case a21 => k_is)
    (case l21 => k_is)
    (case c21 => k_is)
    (case k21 => k_is)
    (case a22 => k_is)
    (case l22 => k_is)
    (case c22 => k_is)
    (case k22 => k_is)
    (case a23 => k_is)
    (case l23 => k_is)
    (case c23 => k_is)
    (case k23 => k_is)
    (case a24 => k_is)
    (case l24 => k_is)
    (case c24 => k_is)
    (case k24 => k_is)
    (case aGive => k_is)
    (case aTake => k_is)
    (case aCall => k_is)
    (case aPreset => k_is)
    (case aUse => k_is)
    (case aGrant => k_is)
    (case aDefault => k_is)
    (case iGiveI => k_is)
    (case fnGiveI => k_is)
    (case lGiveI => k_is)
    (case cGiveI => k_is)
    (case kGiveI => k_is)
    (case iGiveE => k_is)
    (case fnGiveE => k_is)
    (case lGiveE => k_is)
    (case cGiveE => k_is)
    (case kGiveE => k_is)
    (case iGiveS => k_is)
    (case fnGiveS => k_is)
    (case lGiveS => k_is)
    (case cGiveS => k_is)
    (case kGiveS => k_is)
    (case iTakeI => k_is)
    (case fnTakeI => k_is)
    (case lTakeI => k_is)
    (case cTakeI => k_is)
    (case kTakeI => k_is)
    (case iTakeE => k_is)
    (case fnTakeE => k_is)
    (case lTakeE => k_is)
    (case cTakeE => k_is)
    (case kTakeE => k_is)
    (case iTakeS => k_is)
    (case fnTakeS => k_is)
    (case lTakeS => k_is)
    (case cTakeS => k_is)
    (case kTakeS => k_is)
    (case iCallI => k_is)
    (case fnCallI => k_is)
    (case lCallI => k_is)
    (case cCallI => k_is)
    (case kCallI => k_is)
    (case iCallE => k_is)
    (case fnCallE => k_is)
    (case lCallE => k_is)
    (case cCallE => k_is)
    (case kCallE => k_is)
    (case iCallS => k_is)
    (case fnCallS => k_is)
    (case lCallS => k_is)
    (case cCallS => k_is)
    (case kCallS => k_is)
    (case iPresetI => k_is)
    (case fnPresetI => k_is)
    (case lPresetI => k_is)
    (case cPresetI => k_is)
    (case kPresetI => k_is)
    (case iPresetE => k_is)
    (case fnPresetE => k_is)
    (case lPresetE => k_is)
    (case cPresetE => k_is)
    (case kPresetE => k_is)
    (case iPresetS => k_is)
    (case fnPresetS => k_is)
    (case lPresetS => k_is)
    (case cPresetS => k_is)
    (case kPresetS => k_is)
    (case iUseI => k_is)
    (case fnUseI => k_is)
    (case lUseI => k_is)
    (case cUseI => k_is)
    (case kUseI => k_is)
    (case iUseE => k_is)
    (case fnUseE => k_is)
    (case lUseE => k_is)
    (case cUseE => k_is)
    (case kUseE => k_is)
    (case iUseS => k_is)
    (case fnUseS => k_is)
    (case lUseS => k_is)
    (case cUseS => k_is)
    (case kUseS => k_is)
    (case iGrantI => k_is)
    (case fnGrantI => k_is)
    (case lGrantI => k_is)
    (case cGrantI => k_is)
    (case kGrantI => k_is)
    (case iGrantE => k_is)
    (case fnGrantE => k_is)
    (case lGrantE => k_is)
    (case cGrantE => k_is)
    (case kGrantE => k_is)
    (case iDefaultI => k_is)
    (case fnDefaultI => k_is)
    (case lDefaultI => k_is)
    (case cDefaultI => k_is)
    (case kDefaultI => k_is)
    (case dGo => k_is)
    (case dTg => k_is)
    (case dTo => k_is)
    (case dTc => k_is)
    (case mkGive => k_is)
    (case kCGive => k_is)
    (case pgGive => k_is)
    (case hdGive => k_is)
    (case poGive => k_is)
    (case saGive => k_is)
    (case haGive => k_is)
    (case hmGive => k_is)
    (case nGiveright => k_is)
    (case nGivething => k_is)
    (case nGivetaker => k_is)
    (case nGiveoption => k_is)
    (case mkTake => k_is)
    (case kCTake => k_is)
    (case pgTake => k_is)
    (case hdTake => k_is)
    (case poTake => k_is)
    (case saTake => k_is)
    (case haTake => k_is)
    (case hmTake => k_is)
    (case nTakeright => k_is)
    (case nTakething => k_is)
    (case nTaketaker => k_is)
    (case nTakegiver => k_is)
    (case nTakeonly_option => k_is)
    (case nTakecascade => k_is)
    (case mkCall => k_is)
    (case kCCall => k_is)
    (case pgCall => k_is)
    (case hdCall => k_is)
    (case poCall => k_is)
    (case saCall => k_is)
    (case haCall => k_is)
    (case hmCall => k_is)
    (case nCallfunction => k_is)
    (case mkPreset => k_is)
    (case kCPreset => k_is)
    (case pgPreset => k_is)
    (case hdPreset => k_is)
    (case poPreset => k_is)
    (case saPreset => k_is)
    (case haPreset => k_is)
    (case hmPreset => k_is)
    (case nPresetkind => k_is)
    (case nPresetright => k_is)
    (case nPresettaker => k_is)
    (case nPresetoption => k_is)
    (case mkUse => k_is)
    (case kCUse => k_is)
    (case pgUse => k_is)
    (case hdUse => k_is)
    (case poUse => k_is)
    (case saUse => k_is)
    (case haUse => k_is)
    (case hmUse => k_is)
    (case nUseright => k_is)
    (case nUsething => k_is)
    (case mkGrant => k_is)
    (case kCGrant => k_is)
    (case pgGrant => k_is)
    (case hdGrant => k_is)
    (case poGrant => k_is)
    (case saGrant => k_is)
    (case haGrant => k_is)
    (case hmGrant => k_is)
    (case nGrantgiver => k_is)
    (case nGranttaker => k_is)
    (case nGrantright => k_is)
    (case nGrantthing => k_is)
    (case nGrantoption => k_is)
    (case nGrantplace => k_is)
    (case mkDefault => k_is)
    (case kCDefault => k_is)
    (case pgDefault => k_is)
    (case hdDefault => k_is)
    (case poDefault => k_is)
    (case saDefault => k_is)
    (case haDefault => k_is)
    (case hmDefault => k_is)
    (case nDefaultmaker => k_is)
    (case nDefaultkind => k_is)
    (case nDefaultright => k_is)
    (case nDefaulttaker => k_is)
    (case nDefaultoption => k_is)
    (case nDefaultplace => k_is)
    (case hn => k_is)
    (case ht => k_is)
    (case oGiveGive => first | k_is | rfl | decide)
    (case nfGiveGive => first | k_is | rfl | decide)
    (case oGiveTake => first | k_is | rfl | decide)
    (case nfGiveTake => first | k_is | rfl | decide)
    (case oGiveCall => first | k_is | rfl | decide)
    (case nfGiveCall => first | k_is | rfl | decide)
    (case oGivePreset => first | k_is | rfl | decide)
    (case nfGivePreset => first | k_is | rfl | decide)
    (case oGiveUse => first | k_is | rfl | decide)
    (case nfGiveUse => first | k_is | rfl | decide)
    (case oTakeGive => first | k_is | rfl | decide)
    (case nfTakeGive => first | k_is | rfl | decide)
    (case oTakeTake => first | k_is | rfl | decide)
    (case nfTakeTake => first | k_is | rfl | decide)
    (case oTakeCall => first | k_is | rfl | decide)
    (case nfTakeCall => first | k_is | rfl | decide)
    (case oTakePreset => first | k_is | rfl | decide)
    (case nfTakePreset => first | k_is | rfl | decide)
    (case oTakeUse => first | k_is | rfl | decide)
    (case nfTakeUse => first | k_is | rfl | decide)
    (case oCallGive => first | k_is | rfl | decide)
    (case nfCallGive => first | k_is | rfl | decide)
    (case oCallTake => first | k_is | rfl | decide)
    (case nfCallTake => first | k_is | rfl | decide)
    (case oCallCall => first | k_is | rfl | decide)
    (case nfCallCall => first | k_is | rfl | decide)
    (case oCallPreset => first | k_is | rfl | decide)
    (case nfCallPreset => first | k_is | rfl | decide)
    (case oCallUse => first | k_is | rfl | decide)
    (case nfCallUse => first | k_is | rfl | decide)
    (case oPresetGive => first | k_is | rfl | decide)
    (case nfPresetGive => first | k_is | rfl | decide)
    (case oPresetTake => first | k_is | rfl | decide)
    (case nfPresetTake => first | k_is | rfl | decide)
    (case oPresetCall => first | k_is | rfl | decide)
    (case nfPresetCall => first | k_is | rfl | decide)
    (case oPresetPreset => first | k_is | rfl | decide)
    (case nfPresetPreset => first | k_is | rfl | decide)
    (case oPresetUse => first | k_is | rfl | decide)
    (case nfPresetUse => first | k_is | rfl | decide)
    (case oUseGive => first | k_is | rfl | decide)
    (case nfUseGive => first | k_is | rfl | decide)
    (case oUseTake => first | k_is | rfl | decide)
    (case nfUseTake => first | k_is | rfl | decide)
    (case oUseCall => first | k_is | rfl | decide)
    (case nfUseCall => first | k_is | rfl | decide)
    (case oUsePreset => first | k_is | rfl | decide)
    (case nfUsePreset => first | k_is | rfl | decide)
    (case oUseUse => first | k_is | rfl | decide)
    (case nfUseUse => first | k_is | rfl | decide)
    (case nfSGive => first | k_is | rfl | decide)
    (case nfLGive => first | k_is | rfl | decide)
    (case nfGGive => first | k_is | rfl | decide)
    (case nfFGive => first | k_is | rfl | decide)
    (case oSGive => first | k_is | rfl | decide)
    (case oLGive => first | k_is | rfl | decide)
    (case oGGive => first | k_is | rfl | decide)
    (case oFGive => first | k_is | rfl | decide)
    (case nfgGive => first | k_is | rfl | decide)
    (case ogGive => first | k_is | rfl | decide)
    (case neGive => k_is)
    (case nfSTake => first | k_is | rfl | decide)
    (case nfLTake => first | k_is | rfl | decide)
    (case nfGTake => first | k_is | rfl | decide)
    (case nfFTake => first | k_is | rfl | decide)
    (case oSTake => first | k_is | rfl | decide)
    (case oLTake => first | k_is | rfl | decide)
    (case oGTake => first | k_is | rfl | decide)
    (case oFTake => first | k_is | rfl | decide)
    (case nfgTake => first | k_is | rfl | decide)
    (case ogTake => first | k_is | rfl | decide)
    (case neTake => k_is)
    (case nfSCall => first | k_is | rfl | decide)
    (case nfLCall => first | k_is | rfl | decide)
    (case nfGCall => first | k_is | rfl | decide)
    (case nfFCall => first | k_is | rfl | decide)
    (case oSCall => first | k_is | rfl | decide)
    (case oLCall => first | k_is | rfl | decide)
    (case oGCall => first | k_is | rfl | decide)
    (case oFCall => first | k_is | rfl | decide)
    (case nfgCall => first | k_is | rfl | decide)
    (case ogCall => first | k_is | rfl | decide)
    (case neCall => k_is)
    (case nfSPreset => first | k_is | rfl | decide)
    (case nfLPreset => first | k_is | rfl | decide)
    (case nfGPreset => first | k_is | rfl | decide)
    (case nfFPreset => first | k_is | rfl | decide)
    (case oSPreset => first | k_is | rfl | decide)
    (case oLPreset => first | k_is | rfl | decide)
    (case oGPreset => first | k_is | rfl | decide)
    (case oFPreset => first | k_is | rfl | decide)
    (case nfgPreset => first | k_is | rfl | decide)
    (case ogPreset => first | k_is | rfl | decide)
    (case nePreset => k_is)
    (case nfSUse => first | k_is | rfl | decide)
    (case nfLUse => first | k_is | rfl | decide)
    (case nfGUse => first | k_is | rfl | decide)
    (case nfFUse => first | k_is | rfl | decide)
    (case oSUse => first | k_is | rfl | decide)
    (case oLUse => first | k_is | rfl | decide)
    (case oGUse => first | k_is | rfl | decide)
    (case oFUse => first | k_is | rfl | decide)
    (case nfgUse => first | k_is | rfl | decide)
    (case ogUse => first | k_is | rfl | decide)
    (case neUse => k_is)
    (case aL => k_is)
    (case gRs => k_is)
    (case lRs => k_is)
    (case gMs => k_is)
    (case lMs => k_is)
    (case gRt => k_is)
    (case lRt => k_is)
    (case gK => k_is)
    (case lK => k_is)
    (case hK => exact ⟨⟨_, _, rfl, rfl⟩, ⟨_, _, rfl, rfl⟩, ⟨_, _, rfl, rfl⟩, ⟨_, _, rfl, rfl⟩, ⟨_, _, rfl, rfl⟩, trivial⟩)
    (case loK => first | rfl | decide | k_is)
    (case zisinstance => k_is)
    (case zstr => k_is)
    (case zlen => k_is)
    (case zrange => k_is)
    (case zmax => k_is)
    (case zmin => k_is)
    (case zlist => k_is)
    (case zint => k_is)
    (case zbool => k_is)
    (case zrepr => k_is)
