import PyProof.Rows.All
import Wide.All
import OpenK.AllK
import Wide.FinOn
import KE.KStateDown
import KE.KBits
import Lean
import HandS.ForMost
import HandS.More
import HandS.Exc
import HandS.WordsExc
import HandS.Defaults
import HandS.IsInst
import HandS.Wide
import HandS.WideBits
import HandS.Evl
import HandS.Head0
import HandS.Head1
import HandS.Head2
import HandS.HeadEnd
import HandS.HeadHook1
import HandS.HeadHook2
import KE.DataCmp
import HandS.NoneIn
import HandS.HeadHook3
import HandS.HeadHook4
import HandS.Iter
import HandS.More
import HandS.Style
import PyProof.Rows.StrOr
import KE.KIntText
import KE.IntTextLaws
import HandS.Codes
import HandS.Text
import HandS.StrMore
import KE.OsScanText
import PySem.Challenge.RW_oncenear_k80_texts_of_numbers
set_option Elab.async false
set_option linter.all false
set_option maxRecDepth 100000
set_option maxHeartbeats 2000000
namespace Onc
open PySem PySem.Spec PyProof.Rows L2 Evl
/-! ### defs and calls -/
section
variable {P : Program} {w : World} {K : PySem.W.Frag} {mg : Str → Option Value} {base : Heap} {x qual : Str} {params : Arguments} {body : List Stmt} {scope : Scope} {dvs : List V} {kws : List (Str × V)} {f : Addr} {fd : FuncData}
theorem ok0 {N ps : List Str} {k : Nat} {sp : Sp} (F : FunD K x qual params body scope dvs kws f fd) (S : FnScope N ps scope) (len : ∀ vs H Q E, sp vs H Q E → vs.length = ps.length)
    (hbody : ∀ (cdv : Value) (A : Around) (outer : List Env) (s : Shared) (H : Hp) (vs : List V) (Q : VK) (E : XK), Room k (A.deeper (envOfC qual scope s.heap.objs.size f cdv)) → sp vs H Q E →
      ∃ t, PSs (cxOf CX0 P w K mg base N qual scope f cdv A outer s H E).nox body t ∧ t { nx := fun _ H' => Q .non H', rt := Q } (start N vs) H) : FnOk P w K mg base CX0 (k + 1) f fd ps sp :=
  F.ok S len fun cdv A outer s H vs Q E hr h => by
    obtain ⟨t, h1, h2⟩ := hbody cdv A outer s H vs Q E hr h
    exact ⟨t, h1.nox, h2⟩
end
structure Cal (P : Program) (w : World) (K : PySem.W.Frag) (mg : Str → Option Value) (base : Heap) (CX : CXT) (k : Nat) (x : Str) (ps : List Str) (sp : Sp) (f : Addr) (fd : FuncData) : Prop where
  ok : FnOk P w K mg base CX k f fd ps sp
  m : mg x = some (.ref f)
  kp : PySem.W.keepIn K (.ref f) = true
  b : Binds K fd ps []
section
variable {X : Cx} {CX : CXT} {k n : Nat} {f : Addr} {fd : FuncData} {ps ks : List Str} {sp : Sp} {E : XK} {x : Str} {p pos : Pos} {kws : List Keyword} {tk : TA} {g : List Value → List Value → List Value} {gV : List V → List V → List V}
/-- f(k = v, ..), no positional ones -/
theorem pe_callN0 (F : FnOk X.prog X.w X.K X.mg X.base CX k f fd ps sp) (hr : Room k X.A) (hg : Gl X x) (hm : X.mg x = some (.ref f)) (hk : PySem.W.keepIn X.K (.ref f) = true) (hb : KBn X.K fd ps 0 ks g gV) (hx : Passes CX X E)
    (hkw : PK X kws tk) (hall : (backToKw pos (keywordEach kws X.env)).all (·.1.isSome) = true := by rfl) (hks : (backToKw pos (keywordEach kws X.env)).filterMap (·.1) = ks := by rfl)
    (hdb : (x == ("__debug__" : Str)) = false := by decide)
    (hpl : ((backTo pos (starEach [] X.env)).any (·.1) || (backToKw pos (keywordEach kws X.env)).any (·.1.isNone)) = false := by rfl) :
    PE X (.Call (.Name x p) [] kws pos) (tCallN 0 ks.length sp gV E tNil tk) := by
  refine ⟨fun pins s σ H Q I h => ?_⟩
  refine wpAny_Call_Name_kw (ld_glob I hg hm ?_ hdb)
  refine PySem.W.callWith_KW0 (h₀ := X.base) I.ok.mod.kin hk hall ?_ hpl
  refine thn (hkw.run pos pins s σ H _ I h) fun ws s2 ⟨zs, H2, I2, rz, l1, l2, q2⟩ => ⟨I2.kIn, ?_⟩
  rw [hks]
  exact run_fnN (us := []) (vs := []) F hr hb hx I2 .nil rz l1 l2 q2
end
section
variable {K : PySem.W.Frag} {x qual : Str} {params : Arguments} {body : List Stmt} {scope : Scope} {dvs : List V} {kws : List (Str × V)} {f : Addr} {fd : FuncData} {ps : List Str}
/-- keywords alone, a def without defaults -/
theorem kb_plain (F : FunD K x qual params body scope [] kws f fd) (ks : List Str) (g : {α : Type} → List α → List α)
    (hrel : ∀ {zs : List V} {ws : List Value}, Vals zs ws → Vals (g zs) (g ws))
    (h : ∀ (kV doc pm : Value) (an : Option Addr) (cdv ct : Value) (ws : List Value), ws.length = ks.length → bindArgs (PySem.W.fnOf x qual params body scope .none kV doc pm an cdv ct) ⟨[], ks.zip ws⟩ = pure (ps.zip (g ws))) : KBn K fd ps 0 ks (fun _ ws => g ws) (fun _ zs => g zs) := by
  obtain ⟨oc, od, dV, kV, doc, pm, an, cdv, ct, osl, rfl, lk, hcd, hD, hK⟩ := F.ex
  rcases hD with ⟨_, rfl⟩ | ⟨e, _⟩
  · refine ⟨fun s us ws X l1 l2 => ?_, fun _ r2 => hrel r2⟩
    have e0 : us = [] := List.length_eq_zero_iff.mp l1
    subst e0
    exact .of_eq (h kV doc pm an cdv ct ws l2)
  · exact absurd rfl e
/-- keywords alone, a def with defaults -/
theorem kb_dfl (F : FunD K x qual params body scope dvs kws f fd) (hd : dvs ≠ []) (ks : List Str) (g : {α : Type} → List α → List α → List α)
    (hrel : ∀ {ds zs : List V} {its ws : List Value}, Vals ds its → Vals zs ws → Vals (g ds zs) (g its ws))
    (h : ∀ (T : Addr) (kV doc pm : Value) (an : Option Addr) (cdv ct : Value) (its ws : List Value), its.length = dvs.length → ws.length = ks.length →
      ∃ k, bindArgs (PySem.W.fnOf x qual params body scope (.ref T) kV doc pm an cdv ct) ⟨[], ks.zip ws⟩ = seqItems? (.ref T) >>= k ∧ k (some its.toArray) = pure (ps.zip (g its ws))) :
    ∃ its : List Value, KBn K fd ps 0 ks (fun _ ws => g its ws) (fun _ zs => g dvs zs) := by
  obtain ⟨oc, od, dV, kV, doc, pm, an, cdv, ct, osl, rfl, lk, hcd, hD, hK⟩ := F.ex
  rcases hD with ⟨e, _⟩ | ⟨_, T, o, its, m, rfl, lT, oT, rT⟩
  · exact absurd e hd
  · refine ⟨its, fun s us ws X l1 l2 => ?_, fun _ r2 => hrel rT r2⟩
    have e0 : us = [] := List.length_eq_zero_iff.mp l1
    subst e0
    obtain ⟨k, e1, e2⟩ := h T kV doc pm an cdv ct its ws rT.length.symm l2
    refine BindsTo.of_looks fun M => ?_
    rw [e1]
    exact looks_items X lT oT (.of_pure e2)
end
/-! ### kinds -/
section
variable {K : PySem.W.Frag} {H H' : Hp}
theorem tyX_ex {v : V} {t : Value} (e : Ex H H') (h : TyX K H v t) : TyX K H' v t := by
  cases h with
  | base b =>
    cases b with
    | non => exact .base .non
    | bl x => exact .base (.bl x)
    | int x => exact .base (.int x)
    | str x => exact .base (.str x)
    | flt x => exact .base (.flt x)
    | lst q => exact .base (.lst (e _ _ q))
    | frz q => exact .base (.frz (e _ _ q))
    | tup q => exact .base (.tup (e _ _ q))
    | dK q => exact .base (.dK (e _ _ q))
    | dT q => exact .base (.dT (e _ _ q))
    | ins q a b c d f => exact .base (.ins (e _ _ q) a b c d f)
  | byt b => exact .byt b
  | set q => exact .set (e _ _ q)
  | kList q c => exact .kList q c
  | kTuple q c => exact .kTuple q c
  | kDict q c => exact .kDict q c
  | fTuple q => exact .fTuple (e _ _ q)
  | fDict q => exact .fDict (e _ _ q)
theorem sqT_ty {a : Addr} {xs : List V} (h : SqT K H a xs) : TyX K H (.ref a) (.type "tuple") := by
  rcases h with (h | ⟨o, h⟩) | ⟨o, its, n, h1, h2, _⟩
  · exact .base (.tup h)
  · exact .fTuple h
  · exact .kTuple h1 h2
theorem sqL_ty {a : Addr} {xs : List V} (h : SqL K H a xs) : TyX K H (.ref a) (.type "list") := by
  rcases h with (h | ⟨o, h⟩) | ⟨o, its, n, h1, h2, _⟩
  · exact .base (.lst h)
  · exact .base (.frz h)
  · exact .kList h1 h2
/-- whether v is a whole number, by its kind -/
inductive WholeIs (K : PySem.W.Frag) (H : Hp) : V → Bool → Prop
  | int (i : Int) : WholeIs K H (.int i) true
  | bl (x : Bool) : WholeIs K H (.bl x) false
  | no {v : V} {t : Value} {b2 : Bool} (h : TyX K H v t) (k1 : PySem.W.kitOne K t (.type "int") = some false) (k2 : PySem.W.kitOne K t (.type "bool") = some b2) : WholeIs K H v false
theorem ty_int (i : Int) : TyX K H (.int i) (.type "int") := .base (.int i)
theorem ty_bl (x : Bool) : TyX K H (.bl x) (.type "bool") := .base (.bl x)
theorem kit_ii : PySem.W.kitOne K (.type "int") (.type "int") = some true := kit_ty (by decide +kernel : kitB "int" "int" = some true)
theorem kit_ib : PySem.W.kitOne K (.type "int") (.type "bool") = some false := kit_ty (by decide +kernel : kitB "int" "bool" = some false)
theorem kit_bi : PySem.W.kitOne K (.type "bool") (.type "int") = some true := kit_ty (by decide +kernel : kitB "bool" "int" = some true)
theorem kit_bb : PySem.W.kitOne K (.type "bool") (.type "bool") = some true := kit_ty (by decide +kernel : kitB "bool" "bool" = some true)
theorem WholeIs.kinds {v : V} {b : Bool} (h : WholeIs K H v b) : ∃ t b1 b2, TyX K H v t ∧ PySem.W.kitOne K t (.type "int") = some b1 ∧ PySem.W.kitOne K t (.type "bool") = some b2 ∧ b = (b1 && !b2) := by
  cases h with
  | int i => exact ⟨_, _, _, ty_int i, kit_ii, kit_ib, rfl⟩
  | bl x => exact ⟨_, _, _, ty_bl x, kit_bi, kit_bb, rfl⟩
  | no h k1 k2 => exact ⟨_, _, _, h, k1, k2, rfl⟩
def isNumB (m e : Int) : Bool := decide (m % 2 = 1) || (decide (m = 0) && decide (e = 0))
inductive NumIs (K : PySem.W.Frag) (H : Hp) : V → Bool → Prop
  | no {v : V} {t : Value} (h : TyX K H v t) (k : PySem.W.kitOne K t (.type "tuple") = some false) : NumIs K H v false
  | len {a : Addr} {xs : List V} (h : SqT K H a xs) (l : xs.length ≠ 2) : NumIs K H (.ref a) false
  | fst {a : Addr} {x y : V} {b : Bool} (h : SqT K H a [x, y]) (p : WholeIs K H x false) (q : WholeIs K H y b) : NumIs K H (.ref a) false
  | snd {a : Addr} {x y : V} (h : SqT K H a [x, y]) (p : WholeIs K H x true) (q : WholeIs K H y false) : NumIs K H (.ref a) false
  | num {a : Addr} {m e : Int} (h : SqT K H a [.int m, .int e]) : NumIs K H (.ref a) (isNumB m e)
theorem whole_ex {v : V} {b : Bool} (e : Ex H H') (h : WholeIs K H v b) : WholeIs K H' v b := by
  cases h with
  | int i => exact .int i
  | bl x => exact .bl x
  | no h k1 k2 => exact .no (tyX_ex e h) k1 k2
theorem whole_int (i : Int) : WholeIs K H (.int i) true := .int i
def isWholeD : PyData → Bool
  | .int _ => true
  | _ => false
theorem whole_dp {v : V} {d : PyData} (h : Dp K H v d) : WholeIs K H v (isWholeD d) := by
  cases h with
  | non => exact .no (.base .non) (kit_ty (by decide +kernel : kitB "NoneType" "int" = some false)) (kit_ty (by decide +kernel : kitB "NoneType" "bool" = some false))
  | bl b => exact .bl b
  | int i => exact .int i
  | str x => exact .no (.base (.str x)) (kit_ty (by decide +kernel : kitB "str" "int" = some false)) (kit_ty (by decide +kernel : kitB "str" "bool" = some false))
  | lst q _ => exact .no (sqL_ty q) (kit_ty (by decide +kernel : kitB "list" "int" = some false)) (kit_ty (by decide +kernel : kitB "list" "bool" = some false))
  | tup q _ => exact .no (sqT_ty q) (kit_ty (by decide +kernel : kitB "tuple" "int" = some false)) (kit_ty (by decide +kernel : kitB "tuple" "bool" = some false))
theorem num_dp {v : V} {d : PyData} (h : Dp K H v d) : ∃ b, NumIs K H v b := by
  cases h with
  | non => exact ⟨_, .no (.base .non) (kit_ty (by decide +kernel : kitB "NoneType" "tuple" = some false))⟩
  | bl b => exact ⟨_, .no (.base (.bl b)) (kit_ty (by decide +kernel : kitB "bool" "tuple" = some false))⟩
  | int i => exact ⟨_, .no (.base (.int i)) (kit_ty (by decide +kernel : kitB "int" "tuple" = some false))⟩
  | str x => exact ⟨_, .no (.base (.str x)) (kit_ty (by decide +kernel : kitB "str" "tuple" = some false))⟩
  | lst q _ => exact ⟨_, .no (sqL_ty q) (kit_ty (by decide +kernel : kitB "list" "tuple" = some false))⟩
  | @tup a xs ds q r =>
    cases r with
    | nil => exact ⟨_, .len q (by decide)⟩
    | @cons x xs' d1 ds' r1 r2 =>
      cases r2 with
      | nil => exact ⟨_, .len q (by simp)⟩
      | @cons y ys d2 ds'' r3 r4 =>
        cases r4 with
        | cons r5 r6 => exact ⟨_, .len q (by simp)⟩
        | nil =>
          have w1 := whole_dp r1
          have w2 := whole_dp r3
          cases r1 with
          | int m =>
            cases r3 with
            | int e => exact ⟨_, .num q⟩
            | _ => exact ⟨_, .snd q w1 w2⟩
          | _ => exact ⟨_, .fst q w1 w2⟩
theorem num_ex {v : V} {b : Bool} (e : Ex H H') (h : NumIs K H v b) : NumIs K H' v b := by
  cases h with
  | no h k => exact .no (tyX_ex e h) k
  | len h l => exact .len (ex_t e h) l
  | fst h p q => exact .fst (ex_t e h) (whole_ex e p) (whole_ex e q)
  | snd h p q => exact .snd (ex_t e h) (whole_ex e p) (whole_ex e q)
  | num h => exact .num (ex_t e h)
mutual
theorem dp_ex (e : Ex H H') : ∀ (d : PyData) (v : V), Dp K H v d → Dp K H' v d
  | .none, _, h => by cases h; exact .non
  | .bool b, _, h => by cases h; exact .bl b
  | .int i, _, h => by cases h; exact .int i
  | .str x, _, h => by cases h; exact .str x
  | .list ds, _, h => by
    cases h with
    | lst hs ha => exact .lst (ex_l e hs) (dpAll_ex e ds _ ha)
  | .tuple ds, _, h => by
    cases h with
    | tup hs ha => exact .tup (ex_t e hs) (dpAll_ex e ds _ ha)
  | .dict _, _, h => by cases h
theorem dpAll_ex (e : Ex H H') : ∀ (ds : List PyData) (vs : List V), DpAll K H vs ds → DpAll K H' vs ds
  | [], _, h => by cases h; exact .nil
  | d :: ds, _, h => by
    cases h with
    | cons h1 h2 => exact .cons (dp_ex e d _ h1) (dpAll_ex e ds _ h2)
end
theorem dpAll_mem {vs : List V} {ds : List PyData} (h : DpAll K H vs ds) : ∀ {i : Nat} {v : V}, vs[i]? = some v → ∃ d, Dp K H v d := by
  intro i v hv
  induction vs generalizing ds i with
  | nil => simp at hv
  | cons x xs ih =>
    cases h with
    | cons h1 h2 =>
      cases i with
      | zero =>
        have e : x = v := Option.some.inj hv
        subst e
        exact ⟨_, h1⟩
      | succ j => exact ih h2 hv
theorem dpAll_append : ∀ {xs ys : List V} {ds es : List PyData}, DpAll K H xs ds → DpAll K H ys es → DpAll K H (xs ++ ys) (ds ++ es)
  | [], _, [], _, _, h => h
  | _ :: _, _, _ :: _, _, .cons h1 h2, h => .cons h1 (dpAll_append h2 h)
/-! ### data by evaluation -/
def EvD (K : PySem.W.Frag) (te : TE) (σ : L2.St) (H : Hp) : Prop := ∀ H1, Ex H H1 → ∀ Q : VK, (∀ v H2, Ex H1 H2 → (∃ d, Dp K H2 v d) → Q v H2) → te σ H1 Q
def EvDs (K : PySem.W.Frag) (ta : TA) (σ : L2.St) (H : Hp) (n : Nat) : Prop := ∀ H1, Ex H H1 → ∀ Q : List V → Hp → Prop, (∀ vs H2, Ex H1 H2 → (∃ ds, DpAll K H2 vs ds) → vs.length = n → Q vs H2) → ta σ H1 Q
variable {σ : L2.St} {ta tb te : TE}
theorem ed_of {v : V} {d : PyData} (h : Ev te σ H v) (hd : Dp K H v d) : EvD K te σ H := fun H1 e Q q => h H1 e Q fun H2 e2 => q v H2 e2 ⟨d, dp_ex (e.trans e2) d v hd⟩
theorem ed_int {i : Int} (h : Ev te σ H (.int i)) : EvD K te σ H := ed_of h (.int i)
theorem ed_c {v : V} {d : PyData} (hd : Dp K H v d) : EvD K (tC v) σ H := ed_of ev_c hd
theorem eds_nil : EvDs K tNil σ H 0 := fun H1 _ _ q => q [] H1 (Ex.refl H1) ⟨[], .nil⟩ rfl
theorem eds_cons {tr : TA} {n : Nat} (h : EvD K ta σ H) (hr : EvDs K tr σ H n) : EvDs K (tCons ta tr) σ H (n + 1) := fun H1 e Q q =>
  h H1 e _ fun v H2 e2 ⟨d, hd⟩ => hr H2 (e.trans e2) _ fun vs H3 e3 ⟨ds, hds⟩ hl => q (v :: vs) H3 (e2.trans e3) ⟨d :: ds, .cons (dp_ex e3 d v hd) hds⟩ (congrArg Nat.succ hl)
theorem ed_tup {tr : TA} {n : Nat} (h : EvDs K tr σ H n) (hn : n ≤ 100000 := by decide) : EvD K (tTup tr) σ H := fun H1 e Q q =>
  h H1 e _ fun vs H2 e2 ⟨ds, hds⟩ hl => ⟨sz_of (by rw [hl]; exact hn), fun p hp => q (.ref p) _ (e2.trans (Ex.new hp)) ⟨.tuple ds, .tup (st_of upd_same) (dpAll_ex (Ex.new hp) ds vs hds)⟩⟩
theorem ed_lst {tr : TA} {n : Nat} (h : EvDs K tr σ H n) (hn : n ≤ 100000 := by decide) : EvD K (tLst tr) σ H := fun H1 e Q q =>
  h H1 e _ fun vs H2 e2 ⟨ds, hds⟩ hl => ⟨sz_of (by rw [hl]; exact hn), fun p hp => q (.ref p) _ (e2.trans (Ex.new hp)) ⟨.list ds, .lst (sq_of upd_same) (dpAll_ex (Ex.new hp) ds vs hds)⟩⟩
/-- a new list of data -/
def EvLD (K : PySem.W.Frag) (te : TE) (σ : L2.St) (H : Hp) (n : Nat) : Prop := ∀ H1, Ex H H1 → ∀ Q : VK, (∀ p vs H2, Ex H1 H2 → H1 p = none → H2 p = some (.lst vs) → (∃ ds, DpAll K H2 vs ds) → vs.length = n → Q (.ref p) H2) → te σ H1 Q
theorem eld_lst {tr : TA} {n : Nat} (h : EvDs K tr σ H n) (hn : n ≤ 100000 := by decide) : EvLD K (tLst tr) σ H n := fun H1 e Q q =>
  h H1 e _ fun vs H2 e2 ⟨ds, hds⟩ hl => ⟨sz_of (by rw [hl]; exact hn), fun p hp => q p vs _ (e2.trans (Ex.new hp)) (fresh_back e2 hp) upd_same ⟨ds, dpAll_ex (Ex.new hp) ds vs hds⟩ hl⟩
/-- at slot i stands a list of n data -/
def LdAt (K : PySem.W.Frag) (H : Hp) (v : V) (n : Nat) : Prop := ∃ p vs, v = .ref p ∧ H p = some (.lst vs) ∧ vs.length = n ∧ ∃ ds, DpAll K H vs ds
theorem ldAt_ex {v : V} {n : Nat} (e : Ex H H') (h : LdAt K H v n) : LdAt K H' v n := by
  obtain ⟨p, vs, e1, h1, h2, ds, h3⟩ := h
  exact ⟨p, vs, e1, e _ _ h1, h2, ds, dpAll_ex e ds vs h3⟩
theorem eld_cat {v : V} {i n m : Nat} (hv : σ[i]? = some (some v)) (hl : LdAt K H v n) (h : EvLD K tb σ H m) (hn : n + m ≤ 100000 := by decide) : EvLD K (tOp rCat (tVar i) tb) σ H (n + m) := fun H1 e Q q => by
  obtain ⟨a, us, rfl, h1, h2, ds, h3⟩ := hl
  refine ⟨.ref a, hv, h H1 e _ fun p vs H2 e2 hp hvs ⟨es, hes⟩ hlen => ?_⟩
  refine ⟨a, p, us, vs, rfl, rfl, (e.trans e2) _ _ h1, hvs, sz_of (by rw [h2, hlen]; exact hn), fun r hr => ?_⟩
  exact q r (us ++ vs) _ (e2.trans (Ex.new hr)) (fresh_back e2 hr) upd_same ⟨ds ++ es, dpAll_append (dpAll_ex ((e.trans e2).trans (Ex.new hr)) ds us h3) (dpAll_ex (Ex.new hr) es vs hes)⟩ (by rw [List.length_append, h2, hlen])
end
/-! ### isinstance by kinds -/
section
variable {K : PySem.W.Frag} {H : Hp} {v : V} {t : Value} {b : Bool} {Q : VK}
theorem isi_at {T : String} (h : TyX K H v t) (k : PySem.W.kitOne K t (.type T) = some b) (q : Q (.bl b) H) : rIsi K [v, .ty T] H Q := ⟨v, .ty T, t, .type T, b, rfl, .ty T, h, k, q⟩
theorem isi_tup {a : Addr} {xs : List V} (h : SqT K H a xs) (q : Q (.bl true) H) : rIsi K [.ref a, .ty "tuple"] H Q := isi_at (sqT_ty h) (kit_ty (by decide +kernel : kitB "tuple" "tuple" = some true)) q
theorem rd_isi {σ : L2.St} {i : Nat} {T : String} (hv : σ[i]? = some (some v)) (h : TyX K H v t) (k : PySem.W.kitOne K t (.type T) = some b) (q : Q (.bl b) H) : tCB (rIsi K) (tCons (tVar i) (tCons (tC (.ty T)) tNil)) σ H Q := ⟨v, hv, isi_at h k q⟩
theorem rd_tup {σ : L2.St} {i : Nat} {a : Addr} {xs : List V} (hv : σ[i]? = some (some (.ref a))) (h : SqT K H a xs) (q : Q (.bl true) H) : tCB (rIsi K) (tCons (tVar i) (tCons (tC (.ty "tuple")) tNil)) σ H Q := ⟨_, hv, isi_tup h q⟩
theorem rd_isiE {σ : L2.St} {ta : TE} {T : String} (hv : ∀ Q' : VK, Q' v H → ta σ H Q') (h : TyX K H v t) (k : PySem.W.kitOne K t (.type T) = some b) (q : Q (.bl b) H) : tCB (rIsi K) (tCons ta (tCons (tC (.ty T)) tNil)) σ H Q := hv _ (isi_at h k q)
theorem rd_tupC {σ : L2.St} {ta : TE} {W : V → Hp → Prop} (hv : ∀ Q' : VK, (∀ v H', W v H' → Q' v H') → ta σ H Q') (hW : ∀ v H', W v H' → ∃ a xs, v = .ref a ∧ SqT K H' a xs) (q : ∀ v H', W v H' → Q (.bl true) H') : tCB (rIsi K) (tCons ta (tCons (tC (.ty "tuple")) tNil)) σ H Q := hv _ fun v H' hw => by
  obtain ⟨a, xs, rfl, h⟩ := hW v H' hw
  exact isi_tup h (q _ H' hw)
theorem g_name {σ : L2.St} {i : Nat} {Q : L2.St → Hp → Prop} (h : Q (σ.set i (some v)) H) : gName i v σ H Q := h
section
variable {σ : L2.St} {D : Ends} {c u' : TT} {t1 t2 : TS} {te ta' tb' : TE} {B : Bool → Hp → Prop} {g : TG}
theorem o_if (h : c σ H fun b H1 => if b = true then t1 D σ H1 else t2 D σ H1) : tIfS c t1 t2 D σ H := h
theorem o_or (h : c σ H fun b H1 => if b = true then B true H1 else u' σ H1 B) : tOr c u' σ H B := h
theorem o_and (h : c σ H fun b H1 => if b = true then u' σ H1 B else B false H1) : tAnd c u' σ H B := h
theorem o_not (h : c σ H fun b H1 => B (!b) H1) : tNot c σ H B := h
theorem o_b (h : te σ H fun x H1 => ∃ b, x = .bl b ∧ B b H1) : tB te σ H B := h
theorem o_test (h : te σ H fun x H1 => ∃ b, x = .bl b ∧ B b H1) : tTest te σ H B := h
theorem o_seq (h : t1 { D with nx := t2 D } σ H) : tSeq t1 t2 D σ H := h
theorem o_asg (h : te σ H fun x H1 => g x σ H1 D.nx) : tAsg te g D σ H := h
theorem o_ret (h : te σ H D.rt) : tRet te D σ H := h
theorem o_orV (h : ta' σ H fun x H1 => ∃ b, x = .bl b ∧ if b = true then Q (.bl true) H1 else tb' σ H1 Q) : tOrV ta' tb' σ H Q := h
theorem o_andV (h : ta' σ H fun x H1 => ∃ b, x = .bl b ∧ if b = true then tb' σ H1 Q else Q (.bl false) H1) : tAndV ta' tb' σ H Q := h
end
theorem isi_noTup (h : TyX K H v t) (k : PySem.W.kitOne K t (.type "tuple") = some false) (q : Q (.bl false) H) : rIsi K [v, .ty "tuple"] H Q := isi_at h k q
end
/-! ### x is True, x & 1 of what may be a truth -/
def intOrBl : V → Bool
  | .int _ => true
  | .bl _ => true
  | _ => false
def rIsT : R2 := fun x y H Q => ∃ b, y = .bl b ∧ intOrBl x = true ∧ Q (.bl (decide (x = .bl b))) H
def rNotT : R2 := fun x y H Q => ∃ b, y = .bl b ∧ intOrBl x = true ∧ Q (.bl (!decide (x = .bl b))) H
theorem gives_int_and_bi (p : Bool) (b : Int) (u : Tok) : Gives (Builtin.«int.__and__» ⟨[.bool p, .int b u], []⟩) (.int (Builtin.bitAnd (if p = true then (1 : Int) else 0) b)) :=
  .of_wp fun M A E s Q h => by obtain ⟨hp, g, d, tk, os⟩ := s; wp_walk; exact ⟨_, rfl, h⟩
theorem gives_bool_and_bi (p : Bool) (b : Int) (u : Tok) : Gives (Builtin.«bool.__and__» ⟨[.bool p, .int b u], []⟩) (.int (Builtin.bitAnd (if p = true then (1 : Int) else 0) b)) := by
  show Gives (do rule "bool.bitwise.as-ints"; again (.builtin "int.__and__" ⟨[.bool p, .int b u], []⟩)) _
  exact .rule (.again rfl (by decide +kernel) PySem.F.entry_int_and (gives_int_and_bi p b u))
theorem and_bool_int {prog : Program} {w : World} {A : Around} {E : Value → Shared → Prop} {s : Shared} {p : Bool} {b : Int} {u : Tok} {Q : Value → Shared → Prop} (h : Q (.int (Builtin.bitAnd (if p = true then (1 : Int) else 0) b) s.toks) { s with toks := s.toks + 1 }) : wpAny (model prog w) A (binaryOp .BitAnd (.bool p) (.int b u)) Q E s :=
  binaryOp_left_gives (op := .BitAnd) (T := "bool") (U := "int") (by decide) (typeIs_bool' s p) (fun s' => typeIs_int s' b u) PySem.F.fills_bool_and PySem.F.fills_int_and isSubtype_int_bool PySem.F.slot_bool_and PySem.F.slot_int_rand PySem.F.entry_bool_and (PySem.F.args_bool_and_2 _ _) (gives_bool_and_bi p b u) trivial h
def rAnd1 : R2 := fun x y H Q => y = .int 1 ∧ ((∃ i, x = .int i ∧ Q (.int (i % 2)) H) ∨ (∃ k : Bool, x = .bl k ∧ Q (.int (if k = true then 1 else 0)) H))
section
variable {X : Cx}
theorem op_isT : OpR X (compareOp .Is) rIsT := by
  intro pins s σ H x y v u Q I rx ry h
  obtain ⟨b, rfl, hx, q⟩ := h
  cases (show u = Value.bool b from ry)
  cases x with
  | int i =>
    obtain ⟨t, rfl⟩ := rx
    refine wpAny_is_other rfl (fun z => by cases z) ⟨.bl false, H, I, rfl, ?_⟩
    rw [decide_eq_false (fun z => by cases z)] at q
    exact q
  | bl a =>
    cases (show v = Value.bool a from rx)
    by_cases e : a = b
    · subst e
      exact wpAny_is_self rfl ⟨.bl true, H, I, rfl, by simpa using q⟩
    · exact wpAny_is_other rfl (fun z => e (Value.bool.inj z)) ⟨.bl false, H, I, rfl, by simpa [e] using q⟩
  | _ => cases hx
theorem op_notT : OpR X (compareOp .IsNot) rNotT := by
  intro pins s σ H x y v u Q I rx ry h
  obtain ⟨b, rfl, hx, q⟩ := h
  cases (show u = Value.bool b from ry)
  cases x with
  | int i =>
    obtain ⟨t, rfl⟩ := rx
    refine wpAny_isNot_other rfl (fun z => by cases z) ⟨.bl true, H, I, rfl, ?_⟩
    rw [decide_eq_false (fun z => by cases z)] at q
    exact q
  | bl a =>
    cases (show v = Value.bool a from rx)
    by_cases e : a = b
    · subst e
      exact wpAny_isNot_self rfl ⟨.bl false, H, I, rfl, by simpa using q⟩
    · exact wpAny_isNot_other rfl (fun z => e (Value.bool.inj z)) ⟨.bl true, H, I, rfl, by simpa [e] using q⟩
  | _ => cases hx
theorem op_and1 : OpR X (binaryOp .BitAnd) rAnd1 := by
  intro pins s σ H x y v u Q I rx ry h
  obtain ⟨rfl, ⟨i, rfl, q⟩ | ⟨k, rfl, q⟩⟩ := h
  · obtain ⟨t, rfl⟩ := rx
    obtain ⟨t', rfl⟩ := ry
    rw [← bitAnd_m1] at q
    exact and_int ⟨.int _, H, I.tok _, ⟨_, rfl⟩, q⟩
  · obtain ⟨t', rfl⟩ := ry
    cases (show v = Value.bool k from rx)
    have e : Builtin.bitAnd (if k = true then (1 : Int) else 0) 1 = if k = true then 1 else 0 := by cases k <;> decide
    exact and_bool_int (by rw [e]; exact ⟨.int _, H, I.tok _, ⟨_, rfl⟩, q⟩)
end
/-! ### odd parts -/
theorem pow_pos2 (k : Nat) : (0 : Int) < 2 ^ k := Int.pow_pos (by decide)
theorem pow_two_cast (k : Nat) : ((2 ^ k : Nat) : Int) = 2 ^ k := by
  induction k with
  | zero => rfl
  | succ n ih => rw [Nat.pow_succ, Int.pow_succ, Int.natCast_mul, ih] <;> rfl
def tz : Nat → Nat → Nat
  | 0, _ => 0
  | f + 1, n => if n % 2 = 0 then tz f (n / 2) + 1 else 0
theorem tz_spec : ∀ (f n : Nat), 0 < n → n ≤ f → ∃ a, n = 2 ^ tz f n * (2 * a + 1)
  | 0, n, h, l => by omega
  | f + 1, n, h, l => by
    unfold tz
    by_cases e : n % 2 = 0
    · rw [if_pos e]
      obtain ⟨a, ha⟩ := tz_spec f (n / 2) (by omega) (by omega)
      refine ⟨a, ?_⟩
      rw [Nat.pow_succ, Nat.mul_comm (2 ^ tz f (n / 2)) 2, Nat.mul_assoc, ← ha]
      omega
    · rw [if_neg e]
      exact ⟨n / 2, by omega⟩
def v2 (m : Int) : Nat := tz m.natAbs m.natAbs
theorem v2_spec {m : Int} (h : m ≠ 0) : ∃ a : Int, m = 2 ^ v2 m * (2 * a + 1) := by
  obtain ⟨a, ha⟩ := tz_spec m.natAbs m.natAbs (by omega) (Nat.le_refl _)
  have hc : (m.natAbs : Int) = 2 ^ v2 m * (2 * (a : Int) + 1) := by
    have h1 : (m.natAbs : Int) = ((2 ^ v2 m * (2 * a + 1) : Nat) : Int) := congrArg Int.ofNat ha
    rw [h1, Int.natCast_mul, pow_two_cast]
    rfl
  rcases Int.natAbs_eq m with e | e
  · exact ⟨a, e.trans hc⟩
  · refine ⟨-(a : Int) - 1, ?_⟩
    have h2 : m = -(2 ^ v2 m * (2 * (a : Int) + 1)) := by rw [← hc]; exact e
    have h3 : (2 * (-(a : Int) - 1) + 1) = -(2 * (a : Int) + 1) := by omega
    rw [h3, Int.mul_neg]
    exact h2
theorem odd_unique {k j : Nat} {a b : Int} (h : (2 : Int) ^ k * (2 * a + 1) = 2 ^ j * (2 * b + 1)) : k = j ∧ a = b := by
  rcases Nat.lt_trichotomy k j with l | l | l
  · obtain ⟨i, rfl⟩ : ∃ i, j = k + (i + 1) := ⟨j - k - 1, by omega⟩
    rw [Int.pow_add, Int.mul_assoc] at h
    have h2 := Int.eq_of_mul_eq_mul_left (Int.ne_of_gt (pow_pos2 k)) h
    rw [Int.pow_succ, Int.mul_assoc, Int.mul_left_comm] at h2
    generalize (2 : Int) ^ i * (2 * b + 1) = z at h2
    omega
  · subst l
    have h2 := Int.eq_of_mul_eq_mul_left (Int.ne_of_gt (pow_pos2 k)) h
    exact ⟨rfl, by omega⟩
  · obtain ⟨i, rfl⟩ : ∃ i, k = j + (i + 1) := ⟨k - j - 1, by omega⟩
    rw [Int.pow_add, Int.mul_assoc] at h
    have h2 := Int.eq_of_mul_eq_mul_left (Int.ne_of_gt (pow_pos2 j)) h
    rw [Int.pow_succ, Int.mul_assoc, Int.mul_left_comm] at h2
    generalize (2 : Int) ^ i * (2 * a + 1) = z at h2
    omega
/-- the number m times 2 ** e, told its one way -/
def nrm (m e : Int) : Int × Int := if m = 0 then (0, 0) else (m / 2 ^ v2 m, e + v2 m)
theorem nrm_zero (e : Int) : nrm 0 e = (0, 0) := rfl
theorem nrm_of {m a : Int} {k : Nat} (e : Int) (h : m = 2 ^ k * (2 * a + 1)) : nrm m e = (2 * a + 1, e + k) := by
  have h0 : m ≠ 0 := by
    intro z
    rw [z] at h
    rcases Int.mul_eq_zero.mp h.symm with q | q
    · exact absurd q (Int.ne_of_gt (pow_pos2 k))
    · omega
  obtain ⟨b, hb⟩ := v2_spec h0
  obtain ⟨e1, e2⟩ := odd_unique (hb.symm.trans h)
  unfold nrm
  rw [if_neg h0, e1]
  have h3 : m / 2 ^ k = 2 * a + 1 := by
    rw [h]
    exact Int.mul_ediv_cancel_left _ (Int.ne_of_gt (pow_pos2 k))
  rw [h3]
theorem nrm_num (m e : Int) : isNumB (nrm m e).1 (nrm m e).2 = true := by
  by_cases h : m = 0
  · subst h
    rfl
  · obtain ⟨a, ha⟩ := v2_spec h
    rw [nrm_of e ha]
    unfold isNumB
    rw [decide_eq_true (show (2 * a + 1) % 2 = 1 by omega)]
    rfl
theorem nrm_self {m e : Int} (h : isNumB m e = true) : nrm m e = (m, e) := by
  unfold isNumB at h
  rcases Bool.or_eq_true_iff.mp h with q | q
  · have q2 : m % 2 = 1 := of_decide_eq_true q
    have e1 : m = 2 ^ 0 * (2 * (m / 2) + 1) := by
      rw [Int.pow_zero, Int.one_mul]
      omega
    rw [nrm_of e e1]
    have e2 : 2 * (m / 2) + 1 = m := by omega
    rw [e2]
    show (m, e + 0) = (m, e)
    rw [Int.add_zero]
  · obtain ⟨q1, q2⟩ := Bool.and_eq_true_iff.mp q
    have e1 : m = 0 := of_decide_eq_true q1
    have e2 : e = 0 := of_decide_eq_true q2
    subst e1 e2
    rfl
theorem nrm_abs (m e : Int) : (nrm m e).1.natAbs ≤ m.natAbs := by
  by_cases h : m = 0
  · subst h
    exact Nat.le_refl _
  · obtain ⟨a, ha⟩ := v2_spec h
    rw [nrm_of e ha]
    show (2 * a + 1).natAbs ≤ m.natAbs
    have e1 : m.natAbs = ((2 : Int) ^ v2 m).natAbs * (2 * a + 1).natAbs := by
      have := congrArg Int.natAbs ha
      rw [Int.natAbs_mul] at this
      exact this
    rw [e1]
    refine Nat.le_mul_of_pos_left _ ?_
    have := pow_pos2 (v2 m)
    omega
theorem v2_lt {m : Int} {k : Nat} (h : m.natAbs < 2 ^ k) (h0 : m ≠ 0) : v2 m < k := by
  obtain ⟨a, ha⟩ := v2_spec h0
  have e1 : m.natAbs = ((2 : Int) ^ v2 m).natAbs * (2 * a + 1).natAbs := by
    have := congrArg Int.natAbs ha
    rw [Int.natAbs_mul] at this
    exact this
  have e2 : ((2 : Int) ^ v2 m).natAbs = 2 ^ v2 m := by rw [← pow_two_cast]; rfl
  have h1 : 2 ^ v2 m ≤ m.natAbs := by
    rw [e1, e2]
    exact Nat.le_mul_of_pos_right _ (by omega)
  exact (Nat.pow_lt_pow_iff_right (by decide)).mp (Nat.lt_of_le_of_lt h1 h)
theorem nrm_exp {m e : Int} {k : Nat} (h : m.natAbs < 2 ^ k) : (nrm m e).2.natAbs ≤ e.natAbs + k := by
  by_cases h0 : m = 0
  · subst h0
    exact Nat.zero_le _
  · have := v2_lt h h0
    unfold nrm
    rw [if_neg h0]
    show (e + (v2 m : Int)).natAbs ≤ _
    omega
theorem bits_two (k : Nat) : Builtin.Int.intBits (2 ^ k) = k + 1 := by
  have h : (2 : Int) ^ k ≠ 0 := Int.ne_of_gt (pow_pos2 k)
  unfold Builtin.Int.intBits
  have e : ((2 : Int) ^ k == 0) = false := by
    rw [beq_eq_false_iff_ne]
    exact h
  rw [e]
  have e2 : ((2 : Int) ^ k).natAbs = 2 ^ k := by rw [← pow_two_cast]; rfl
  rw [e2, Nat.log2_two_pow]
  rfl
end Onc

namespace Onc
open PySem PySem.Spec PyProof.Rows L2 Evl
/-! ### numbers at a power -/
def at_ (n : Int × Int) (E : Int) : Int := n.1 * 2 ^ (n.2 - E).toNat
theorem nrm_shift (m e : Int) (k : Nat) : nrm (m * 2 ^ k) e = nrm m (e + k) := by
  by_cases h : m = 0
  · subst h
    rw [Int.zero_mul]
    rfl
  · obtain ⟨a, ha⟩ := v2_spec h
    have e1 : m * 2 ^ k = 2 ^ (v2 m + k) * (2 * a + 1) := by
      rw [Int.pow_add, Int.mul_assoc, Int.mul_comm (2 ^ k) (2 * a + 1), ← Int.mul_assoc, ← ha]
    rw [nrm_of e e1, nrm_of (e + k) ha]
    congr 1
    omega
theorem nrm_at {x E E' : Int} (h : E' ≤ E) : at_ (nrm x E) E' = x * 2 ^ (E - E').toNat := by
  by_cases h0 : x = 0
  · subst h0
    unfold at_
    rw [nrm_zero, Int.zero_mul, Int.zero_mul]
  · obtain ⟨a, ha⟩ := v2_spec h0
    rw [nrm_of E ha]
    show (2 * a + 1) * 2 ^ (E + (v2 x : Int) - E').toNat = x * 2 ^ (E - E').toNat
    have e1 : (E + (v2 x : Int) - E').toNat = v2 x + (E - E').toNat := by omega
    rw [e1, Int.pow_add, ← Int.mul_assoc, Int.mul_comm (2 * a + 1) (2 ^ v2 x), ← ha]
theorem at_same (x E : Int) : at_ (nrm x E) E = x := by
  rw [nrm_at (Int.le_refl E), show (E - E).toNat = 0 by omega, Int.pow_zero, Int.mul_one]
theorem nrm_le {x E : Int} (h : E ≤ 0) : E ≤ (nrm x E).2 := by
  unfold nrm
  by_cases h0 : x = 0
  · rw [if_pos h0]
    exact h
  · rw [if_neg h0]
    show E ≤ E + (v2 x : Int)
    omega
theorem nrm_inj {x y E : Int} (h : nrm x E = nrm y E) : x = y := by
  rw [← at_same x E, h, at_same]
theorem at_split {n : Int × Int} {E M : Int} (h : E ≤ M) (hM : M ≤ n.2) : at_ n E = at_ n M * 2 ^ (M - E).toNat := by
  unfold at_
  rw [show (n.2 - E).toNat = (n.2 - M).toNat + (M - E).toNat by omega, Int.pow_add, Int.mul_assoc]
theorem num_at {n : Int × Int} {E : Int} (hn : isNumB n.1 n.2 = true) (h : E ≤ n.2) : nrm (at_ n E) E = n := by
  unfold at_
  rw [nrm_shift, show E + ((n.2 - E).toNat : Int) = n.2 by omega, nrm_self hn]
def padd (a b : Int × Int) : Int × Int := nrm (at_ a (min a.2 b.2) + at_ b (min a.2 b.2)) (min a.2 b.2)
theorem padd_at {a b : Int × Int} {E : Int} (ha : E ≤ a.2) (hb : E ≤ b.2) : padd a b = nrm (at_ a E + at_ b E) E := by
  have hM : E ≤ min a.2 b.2 := by omega
  rw [at_split (n := a) hM (by omega), at_split (n := b) hM (by omega), ← Int.add_mul, nrm_shift, show E + ((min a.2 b.2 - E).toNat : Int) = min a.2 b.2 by omega]
  rfl
def pneg (a : Int × Int) : Int × Int := (-a.1, a.2)
theorem at_neg (a : Int × Int) (E : Int) : at_ (pneg a) E = -at_ a E := by
  unfold at_ pneg
  rw [Int.neg_mul]
def psub (a b : Int × Int) : Int × Int := padd a (pneg b)
theorem psub_at {a b : Int × Int} {E : Int} (ha : E ≤ a.2) (hb : E ≤ b.2) : psub a b = nrm (at_ a E - at_ b E) E := by
  unfold psub
  rw [padd_at ha (show E ≤ (pneg b).2 from hb), at_neg]
  rfl
def pmul (a b : Int × Int) : Int × Int := nrm (a.1 * b.1) (a.2 + b.2)
theorem pmul_at {a b : Int × Int} {E F : Int} (ha : E ≤ a.2) (hb : F ≤ b.2) : pmul a b = nrm (at_ a E * at_ b F) (E + F) := by
  unfold at_
  have e1 : a.1 * 2 ^ (a.2 - E).toNat * (b.1 * 2 ^ (b.2 - F).toNat) = a.1 * b.1 * 2 ^ ((a.2 - E).toNat + (b.2 - F).toNat) := by
    rw [Int.pow_add, Int.mul_assoc, Int.mul_assoc, Int.mul_left_comm (2 ^ (a.2 - E).toNat) b.1]
  rw [e1, nrm_shift, show E + F + (((a.2 - E).toNat + (b.2 - F).toNat : Nat) : Int) = a.2 + b.2 by omega]
  rfl
/-! ### signs -/
def sgn (x : Int) : Int := if x = 0 then 0 else if 0 < x then 1 else -1
theorem sgn_pos {x : Int} (h : 0 < x) : sgn x = 1 := by
  unfold sgn
  rw [if_neg (by omega), if_pos h]
theorem sgn_neg {x : Int} (h : x < 0) : sgn x = -1 := by
  unfold sgn
  rw [if_neg (by omega), if_neg (by omega)]
theorem sgn_zero : sgn 0 = 0 := rfl
theorem sgn_mul (x : Int) (k : Nat) : sgn (x * 2 ^ k) = sgn x := by
  have hp := pow_pos2 k
  rcases Int.lt_trichotomy x 0 with h | h | h
  · rw [sgn_neg h, sgn_neg (Int.mul_neg_of_neg_of_pos h hp)]
  · subst h
    rw [Int.zero_mul]
  · rw [sgn_pos h, sgn_pos (Int.mul_pos h hp)]
theorem sgn_nrm (x E : Int) : sgn (nrm x E).1 = sgn x := by
  have h := nrm_at (x := x) (E := E) (E' := E) (Int.le_refl E)
  unfold at_ at h
  rw [show (E - E).toNat = 0 by omega, Int.pow_zero, Int.mul_one] at h
  rw [← sgn_mul (nrm x E).1, h]
def pord (a b : Int × Int) : Int := sgn (at_ a (min a.2 b.2) - at_ b (min a.2 b.2))
theorem pord_at {a b : Int × Int} {E : Int} (ha : E ≤ a.2) (hb : E ≤ b.2) : pord a b = sgn (at_ a E - at_ b E) := by
  have hM : E ≤ min a.2 b.2 := by omega
  rw [at_split (n := a) hM (by omega), at_split (n := b) hM (by omega), ← Int.sub_mul, sgn_mul]
  rfl
theorem pord_sub (a b : Int × Int) : sgn (psub a b).1 = pord a b := by
  rw [psub_at (E := min a.2 b.2) (by omega) (by omega), sgn_nrm]
  rfl
/-! ### sizes -/
def psize (a : Int × Int) : Int := (Builtin.Int.intBits a.1 : Int) - 1 + a.2
def prank (a : Int × Int) : Int × Int := (sgn a.1, sgn a.1 * psize a)
theorem bits_of {m : Int} (h : m ≠ 0) : Builtin.Int.intBits m = m.natAbs.log2 + 1 := by
  unfold Builtin.Int.intBits
  rw [show (m == 0) = false from by rw [beq_eq_false_iff_ne]; exact h]
  rfl
theorem at_abs (a : Int × Int) (E : Int) : (at_ a E).natAbs = a.1.natAbs * 2 ^ (a.2 - E).toNat := by
  unfold at_
  rw [Int.natAbs_mul]
  have e : ((2 : Int) ^ (a.2 - E).toNat).natAbs = 2 ^ (a.2 - E).toNat := by
    rw [← pow_two_cast]
    rfl
  rw [e]
theorem size_lt {a b : Int × Int} {E : Int} (ha : a.1 ≠ 0) (hb : b.1 ≠ 0) (ea : E ≤ a.2) (eb : E ≤ b.2) (h : psize a < psize b) : (at_ a E).natAbs < (at_ b E).natAbs := by
  unfold psize at h
  rw [bits_of ha, bits_of hb] at h
  rw [at_abs, at_abs]
  have l1 : a.1.natAbs < 2 ^ (a.1.natAbs.log2 + 1) := Nat.lt_log2_self
  have l2 : 2 ^ b.1.natAbs.log2 ≤ b.1.natAbs := Nat.log2_self_le (by omega)
  have hp : ∀ k : Nat, 0 < 2 ^ k := fun k => Nat.pow_pos (by decide)
  refine Nat.lt_of_lt_of_le (Nat.mul_lt_mul_of_pos_right l1 (hp _)) (Nat.le_trans ?_ (Nat.mul_le_mul_right _ l2))
  rw [← Nat.pow_add, ← Nat.pow_add]
  exact Nat.pow_le_pow_right (by decide) (by omega)
theorem at_sgn (a : Int × Int) (E : Int) : sgn (at_ a E) = sgn a.1 := sgn_mul _ _
theorem sgn_of_pos {x : Int} (h : sgn x = 1) : 0 < x := by
  rcases Int.lt_trichotomy x 0 with q | q | q
  · rw [sgn_neg q] at h
    cases h
  · subst q
    cases h
  · exact q
theorem sgn_of_neg {x : Int} (h : sgn x = -1) : x < 0 := by
  rcases Int.lt_trichotomy x 0 with q | q | q
  · exact q
  · subst q
    cases h
  · rw [sgn_pos q] at h
    cases h
theorem sgn_of_zero {x : Int} (h : sgn x = 0) : x = 0 := by
  rcases Int.lt_trichotomy x 0 with q | q | q
  · rw [sgn_neg q] at h
    cases h
  · exact q
  · rw [sgn_pos q] at h
    cases h
theorem sgn_cases (x : Int) : sgn x = 1 ∨ sgn x = -1 ∨ sgn x = 0 := by
  rcases Int.lt_trichotomy x 0 with q | q | q
  · exact .inr (.inl (sgn_neg q))
  · subst q
    exact .inr (.inr rfl)
  · exact .inl (sgn_pos q)
/-- ranks that differ are in the order of the numbers -/
theorem rank_gt {a b : Int × Int} (h : (prank b).1 < (prank a).1 ∨ ((prank b).1 = (prank a).1 ∧ (prank b).2 < (prank a).2)) : pord a b = 1 := by
  have ea : min a.2 b.2 ≤ a.2 := by omega
  have eb : min a.2 b.2 ≤ b.2 := by omega
  refine sgn_pos ?_
  generalize min a.2 b.2 = E at *
  have sa := at_sgn a E
  have sb := at_sgn b E
  unfold prank at h
  simp only at h
  rcases sgn_cases a.1 with qa | qa | qa <;> rcases sgn_cases b.1 with qb | qb | qb <;> rw [qa] at sa h <;> rw [qb] at sb h
  · have pa := sgn_of_pos sa
    have pb := sgn_of_pos sb
    have na : a.1 ≠ 0 := fun z => by rw [z] at qa; cases qa
    have nb : b.1 ≠ 0 := fun z => by rw [z] at qb; cases qb
    have := size_lt (E := E) nb na eb ea (by omega)
    omega
  · have pa := sgn_of_pos sa
    have pb := sgn_of_neg sb
    omega
  · have pa := sgn_of_pos sa
    have pb := sgn_of_zero sb
    omega
  · omega
  · have pa := sgn_of_neg sa
    have pb := sgn_of_neg sb
    have na : a.1 ≠ 0 := fun z => by rw [z] at qa; cases qa
    have nb : b.1 ≠ 0 := fun z => by rw [z] at qb; cases qb
    have := size_lt (E := E) na nb ea eb (by omega)
    omega
  · omega
  · omega
  · have pa := sgn_of_zero sa
    have pb := sgn_of_neg sb
    omega
  · omega
theorem sgn_swap (x : Int) : sgn (-x) = -sgn x := by
  rcases Int.lt_trichotomy x 0 with q | q | q
  · rw [sgn_neg q, sgn_pos (by omega)]
    rfl
  · subst q
    rfl
  · rw [sgn_pos q, sgn_neg (by omega)]
theorem pord_swap (a b : Int × Int) : pord b a = -pord a b := by
  rw [pord_at (a := b) (b := a) (E := min a.2 b.2) (by omega) (by omega), ← Int.neg_sub, sgn_swap]
  rfl
/-! ### bounds -/
def Bd (a : Int × Int) (B : Nat) : Prop := a.1.natAbs < 2 ^ B ∧ a.2.natAbs ≤ B
theorem Bd.mono {a : Int × Int} {B C : Nat} (h : Bd a B) (l : B ≤ C) : Bd a C := ⟨Nat.lt_of_lt_of_le h.1 (Nat.pow_le_pow_right (by decide) l), Nat.le_trans h.2 l⟩
theorem bd_neg {a : Int × Int} {B : Nat} (h : Bd a B) : Bd (pneg a) B := ⟨by show (-a.1).natAbs < _; rw [Int.natAbs_neg]; exact h.1, h.2⟩
theorem bd_nrm {m e : Int} {k B : Nat} (hm : m.natAbs < 2 ^ k) (he : e.natAbs + k ≤ B) : Bd (nrm m e) B :=
  ⟨Nat.lt_of_le_of_lt (nrm_abs m e) (Nat.lt_of_lt_of_le hm (Nat.pow_le_pow_right (by decide) (by omega))), Nat.le_trans (nrm_exp hm) he⟩
theorem at_bd {a : Int × Int} {B C : Nat} {E : Int} (h : Bd a B) (hE : E.natAbs ≤ C) : (at_ a E).natAbs < 2 ^ (2 * B + C) := by
  rw [at_abs]
  have h1 : a.1.natAbs * 2 ^ (a.2 - E).toNat < 2 ^ B * 2 ^ (a.2 - E).toNat := Nat.mul_lt_mul_of_pos_right h.1 (Nat.pow_pos (by decide))
  rw [← Nat.pow_add] at h1
  have h2 := h.2
  exact Nat.lt_of_lt_of_le h1 (Nat.pow_le_pow_right (by decide) (by omega))
theorem bd_add {a b : Int × Int} {B : Nat} (ha : Bd a B) (hb : Bd b B) : Bd (padd a b) (4 * B + 1) := by
  have hE : (min a.2 b.2).natAbs ≤ B := by
    have := ha.2
    have := hb.2
    omega
  have h1 := at_bd ha hE
  have h2 := at_bd hb hE
  refine bd_nrm (k := 2 * B + B + 1) ?_ (by omega)
  have e : 2 ^ (2 * B + B + 1) = 2 ^ (2 * B + B) * 2 := Nat.pow_succ ..
  omega
theorem bd_sub {a b : Int × Int} {B : Nat} (ha : Bd a B) (hb : Bd b B) : Bd (psub a b) (4 * B + 1) := bd_add ha (bd_neg hb)
theorem bd_mul {a b : Int × Int} {B : Nat} (ha : Bd a B) (hb : Bd b B) : Bd (pmul a b) (4 * B) := by
  refine bd_nrm (k := 2 * B) ?_ ?_
  · rw [Int.natAbs_mul, Nat.two_mul, Nat.pow_add]
    exact Nat.mul_lt_mul'' ha.1 hb.1
  · have := ha.2
    have := hb.2
    omega
theorem num_neg {a : Int × Int} (h : isNumB a.1 a.2 = true) : isNumB (pneg a).1 (pneg a).2 = true := by
  unfold isNumB at *
  show (decide (-a.1 % 2 = 1) || (decide (-a.1 = 0) && decide (a.2 = 0))) = true
  rcases Bool.or_eq_true_iff.mp h with q | q
  · have q2 : a.1 % 2 = 1 := of_decide_eq_true q
    rw [decide_eq_true (show -a.1 % 2 = 1 by omega)]
    rfl
  · obtain ⟨q1, q2⟩ := Bool.and_eq_true_iff.mp q
    have e1 : a.1 = 0 := of_decide_eq_true q1
    rw [q2, decide_eq_true (show -a.1 = 0 by omega), Bool.and_true, Bool.or_true]
theorem num_add (a b : Int × Int) : isNumB (padd a b).1 (padd a b).2 = true := nrm_num _ _
theorem num_mul (a b : Int × Int) : isNumB (pmul a b).1 (pmul a b).2 = true := nrm_num _ _
/-! ### t > u of data -/
section
variable {X : Cx}
def rGtD (K : PySem.W.Frag) : R2 := fun x y H Q => ∃ d e, Dp K H x d ∧ Dp K H y e ∧ PySem.W.alike d e = true ∧ d ≠ .none ∧ d.depth ≤ 64 ∧ Q (.bl (PySem.W.dataLt e d)) H
theorem op_gtD (hu : X.A.units + 64 < cLine) : OpR X (compareOp .Gt) (rGtD X.K) := by
  intro pins s σ H x y v u Q I rx ry h
  obtain ⟨d, e, hd, he, al, nn, dp, q⟩ := h
  obtain ⟨as, r1⟩ := Dp.reads I d x v hd rx
  obtain ⟨bs, r2⟩ := Dp.reads I e y u he ry
  exact PySem.W.gt_data r1 r2 al nn (by have := Nat.min_le_left d.depth e.depth; omega) ⟨.bl _, H, I, rfl, q⟩
end
theorem lt_pairs (a b c d : Int) : PySem.W.dataLt (.tuple [.int a, .int b]) (.tuple [.int c, .int d]) = if a = c then decide (b < d) else decide (a < c) := by
  show lexLt itemOrd [.inl 1, .inl a, .inl 1, .inl b, .inl 0] [.inl 1, .inl c, .inl 1, .inl d, .inl 0] = _
  rw [lex_self (O := itemOrd)]
  by_cases h : a = c
  · subst h
    rw [if_pos rfl, lex_self (O := itemOrd), lex_self (O := itemOrd)]
    by_cases h2 : b = d
    · subst h2
      rw [lex_self (O := itemOrd), lex_self (O := itemOrd), decide_eq_false (Int.lt_irrefl b)]
      rfl
    · rw [lex_diff (O := itemOrd) (fun z => h2 (Sum.inl.inj z))]
      rfl
  · rw [if_neg h, lex_diff (O := itemOrd) (fun z => h (Sum.inl.inj z))]
    rfl
theorem alike_pairs (a b c d : Int) : PySem.W.alike (.tuple [.int a, .int b]) (.tuple [.int c, .int d]) = true := by
  simp [PySem.W.alike, PySem.W.alikeAll]
theorem depth_pair (a b : Int) : (PyData.tuple [.int a, .int b]).depth ≤ 64 := by
  simp [PyData.depth, PyData.depthAll]
theorem eqv_pairs (a b c d : Int) : PyData.eqv (.tuple [.int a, .int b]) (.tuple [.int c, .int d]) = (decide (a = c) && decide (b = d)) := by
  simp [PyData.eqv, PyData.eqvAll]
  rfl
/-! ### numbers in the heap -/
def NumAt (K : PySem.W.Frag) (H : Hp) (v : V) (n : Int × Int) : Prop := ∃ a, v = .ref a ∧ SqT K H a [.int n.1, .int n.2]
theorem numAt_ex {K : PySem.W.Frag} {H H' : Hp} {v : V} {n : Int × Int} (e : Ex H H') (h : NumAt K H v n) : NumAt K H' v n := by
  obtain ⟨a, rfl, h⟩ := h
  exact ⟨a, rfl, ex_t e h⟩
theorem numAt_of {K : PySem.W.Frag} {H : Hp} {p : Addr} {m e : Int} (h : H p = some (.tup [.int m, .int e])) : NumAt K H (.ref p) (m, e) := ⟨p, rfl, st_of h⟩
/-- a good number within bounds -/
structure Gn (K : PySem.W.Frag) (H : Hp) (v : V) (n : Int × Int) (B : Nat) : Prop where
  at_ : NumAt K H v n
  nb : isNumB n.1 n.2 = true
  bd : Bd n B
theorem Gn.ex {K : PySem.W.Frag} {H H' : Hp} {v : V} {n : Int × Int} {B : Nat} (g : Gn K H v n B) (e : Ex H H') : Gn K H' v n B := ⟨numAt_ex e g.at_, g.nb, g.bd⟩
theorem Gn.mono {K : PySem.W.Frag} {H : Hp} {v : V} {n : Int × Int} {B C : Nat} (g : Gn K H v n B) (l : B ≤ C) : Gn K H v n C := ⟨g.at_, g.nb, g.bd.mono l⟩
theorem Gn.num {K : PySem.W.Frag} {H : Hp} {v : V} {n : Int × Int} {B : Nat} (g : Gn K H v n B) : NumIs K H v true := by
  obtain ⟨a, rfl, h⟩ := g.at_
  have := NumIs.num h
  rw [g.nb] at this
  exact this
def LIM : Nat := 20000000
/-- a new pair -/
def NewP (H : Hp) (Q : VK) (n : Int × Int) : Prop := ∀ H' p, Ex H H' → H p = none → H' p = some (.tup [.int n.1, .int n.2]) → Q (.ref p) H'
def spNeed (K : PySem.W.Frag) : Sp := fun vs H Q _ => ∃ v, vs = [v] ∧ NumIs K H v true ∧ ∀ H', Ex H H' → Q .non H'
def spSign : Sp := fun vs H Q _ => ∃ x : Int, vs = [.int x] ∧ Q (.int (sgn x)) H
def spNeg (K : PySem.W.Frag) : Sp := fun vs H Q _ => ∃ v n, vs = [v] ∧ NumAt K H v n ∧ NewP H Q (pneg n)
def spSize (K : PySem.W.Frag) : Sp := fun vs H Q _ => ∃ v n, vs = [v] ∧ NumAt K H v n ∧ Q (.int (psize n)) H
def spFloor (K : PySem.W.Frag) : Sp := fun vs H Q _ => ∃ v n E, vs = [v, .int E] ∧ NumAt K H v n ∧ E ≤ n.2 ∧ Bd n LIM ∧ E.natAbs ≤ LIM ∧ Q (.int (at_ n E)) H
def spRank (K : PySem.W.Frag) : Sp := fun vs H Q _ => ∃ v n, vs = [v] ∧ NumAt K H v n ∧ NewP H Q (prank n)
def spNeed2 (K : PySem.W.Frag) : Sp := fun vs H Q _ => ∃ u v, vs = [u, v] ∧ NumIs K H u true ∧ NumIs K H v true ∧ ∀ H', Ex H H' → Q .non H'
/-- a pair, new or handed in -/
def GotP (K : PySem.W.Frag) (H : Hp) (Q : VK) (n : Int × Int) : Prop := ∀ H' v, Ex H H' → NumAt K H' v n → Q v H'
def spTwo (K : PySem.W.Frag) (g : Int × Int → Int × Int → Int × Int) : Sp := fun vs H Q _ => ∃ u v a b, vs = [u, v] ∧ Gn K H u a LIM ∧ Gn K H v b LIM ∧ GotP K H Q (g a b)
def spLes (K : PySem.W.Frag) : Sp := fun vs H Q _ => ∃ u v a b, vs = [u, v] ∧ Gn K H u a LIM ∧ Gn K H v b LIM ∧ ((pord a b ≤ 0 → ∀ H', Ex H H' → Q u H') ∧ (0 < pord a b → ∀ H', Ex H H' → Q v H'))
def spGre (K : PySem.W.Frag) : Sp := fun vs H Q _ => ∃ u v a b, vs = [u, v] ∧ Gn K H u a LIM ∧ Gn K H v b LIM ∧ ((0 ≤ pord a b → ∀ H', Ex H H' → Q u H') ∧ (pord a b < 0 → ∀ H', Ex H H' → Q v H'))
def spOrd (K : PySem.W.Frag) : Sp := fun vs H Q _ => ∃ u v a b, vs = [u, v] ∧ Gn K H u a LIM ∧ Gn K H v b LIM ∧ ∀ H', Ex H H' → Q (.int (pord a b)) H'
/-! ### evaluation to something -/
section
variable {K : PySem.W.Frag} {σ : L2.St} {H H' : Hp} {ta tb tc te : TE}
def Mono (P : Hp → V → Prop) : Prop := ∀ H H' v, Ex H H' → P H v → P H' v
def EvP (P : Hp → V → Prop) (te : TE) (σ : L2.St) (H : Hp) : Prop := ∀ H1, Ex H H1 → ∀ Q : VK, (∀ v H2, Ex H1 H2 → P H2 v → Q v H2) → te σ H1 Q
theorem EvP.mono {P : Hp → V → Prop} (h : EvP P te σ H) (e : Ex H H') : EvP P te σ H' := fun H1 e1 Q q => h H1 (e.trans e1) Q q
theorem evp_of {P : Hp → V → Prop} {v : V} (h : Ev te σ H v) (m : Mono P) (hv : P H v) : EvP P te σ H := fun H1 e Q q => h H1 e Q fun H2 e2 => q v H2 e2 (m _ _ _ (e.trans e2) hv)
theorem evp_tup2 {P1 P2 : Hp → V → Prop} (m1 : Mono P1) (m2 : Mono P2) (h1 : EvP P1 ta σ H) (h2 : EvP P2 tb σ H) :
    EvP (fun H v => ∃ p x y, v = .ref p ∧ H p = some (.tup [x, y]) ∧ P1 H x ∧ P2 H y) (tTup (tCons ta (tCons tb tNil))) σ H := fun H1 e Q q =>
  h1 H1 e _ fun x H2 e2 p1 => h2 H2 (e.trans e2) _ fun y H3 e3 p2 => ⟨by show 2 ≤ sizeLine; decide, fun p hp => q (.ref p) _ ((e2.trans e3).trans (Ex.new hp)) ⟨p, x, y, rfl, upd_same, m1 _ _ _ (e3.trans (Ex.new hp)) p1, m2 _ _ _ (Ex.new hp) p2⟩⟩
theorem evp_tup3 {P1 P2 P3 : Hp → V → Prop} (m1 : Mono P1) (m2 : Mono P2) (m3 : Mono P3) (h1 : EvP P1 ta σ H) (h2 : EvP P2 tb σ H) (h3 : EvP P3 tc σ H) :
    EvP (fun H v => ∃ p x y z, v = .ref p ∧ H p = some (.tup [x, y, z]) ∧ P1 H x ∧ P2 H y ∧ P3 H z) (tTup (tCons ta (tCons tb (tCons tc tNil)))) σ H := fun H1 e Q q =>
  h1 H1 e _ fun x H2 e2 p1 => h2 H2 (e.trans e2) _ fun y H3 e3 p2 => h3 H3 ((e.trans e2).trans e3) _ fun z H4 e4 p3 => ⟨by show 3 ≤ sizeLine; decide, fun p hp => q (.ref p) _ (((e2.trans e3).trans e4).trans (Ex.new hp)) ⟨p, x, y, z, rfl, upd_same, m1 _ _ _ ((e3.trans e4).trans (Ex.new hp)) p1, m2 _ _ _ (e4.trans (Ex.new hp)) p2, m3 _ _ _ (Ex.new hp) p3⟩⟩
def EvAll (P : Hp → V → Prop) (ta : TA) (σ : L2.St) (H : Hp) (n : Nat) : Prop := ∀ H1, Ex H H1 → ∀ Q : List V → Hp → Prop, (∀ vs H2, Ex H1 H2 → vs.length = n → (∀ v ∈ vs, P H2 v) → Q vs H2) → ta σ H1 Q
theorem eva_nil {P : Hp → V → Prop} : EvAll P tNil σ H 0 := fun H1 _ _ q => q [] H1 (Ex.refl H1) rfl (fun _ h => by cases h)
theorem eva_cons {P : Hp → V → Prop} {tr : TA} {n : Nat} (m : Mono P) (h : EvP P ta σ H) (hr : EvAll P tr σ H n) : EvAll P (tCons ta tr) σ H (n + 1) := fun H1 e Q q =>
  h H1 e _ fun v H2 e2 p => hr H2 (e.trans e2) _ fun vs H3 e3 hl hv => q (v :: vs) H3 (e2.trans e3) (congrArg Nat.succ hl) fun x hx => by
    rcases List.mem_cons.mp hx with z | z
    · rw [z]
      exact m _ _ _ e3 p
    · exact hv x z
/-- a new list, all of P -/
def EvLP (P : Hp → V → Prop) (te : TE) (σ : L2.St) (H : Hp) (n : Nat) : Prop := ∀ H1, Ex H H1 → ∀ Q : VK, (∀ p vs H2, Ex H1 H2 → H1 p = none → H2 p = some (.lst vs) → vs.length = n → (∀ v ∈ vs, P H2 v) → Q (.ref p) H2) → te σ H1 Q
theorem elp_lst {P : Hp → V → Prop} {tr : TA} {n : Nat} (m : Mono P) (h : EvAll P tr σ H n) (hn : n ≤ 100000 := by decide) : EvLP P (tLst tr) σ H n := fun H1 e Q q =>
  h H1 e _ fun vs H2 e2 hl hv => ⟨sz_of (by rw [hl]; exact hn), fun p hp => q p vs _ (e2.trans (Ex.new hp)) (fresh_back e2 hp) upd_same hl fun v hx => m _ _ _ (Ex.new hp) (hv v hx)⟩
def LpAt (P : Hp → V → Prop) (H : Hp) (v : V) (n : Nat) : Prop := ∃ p vs, v = .ref p ∧ H p = some (.lst vs) ∧ vs.length = n ∧ ∀ x ∈ vs, P H x
theorem elp_cat {P : Hp → V → Prop} {v : V} {i n k : Nat} (m : Mono P) (hv : σ[i]? = some (some v)) (hl : LpAt P H v n) (h : EvLP P tb σ H k) (hn : n + k ≤ 100000 := by decide) : EvLP P (tOp rCat (tVar i) tb) σ H (n + k) := fun H1 e Q q => by
  obtain ⟨a, us, rfl, h1, h2, h3⟩ := hl
  refine ⟨.ref a, hv, h H1 e _ fun p vs H2 e2 hp hvs hlen hall => ?_⟩
  refine ⟨a, p, us, vs, rfl, rfl, (e.trans e2) _ _ h1, hvs, sz_of (by rw [h2, hlen]; exact hn), fun r hr => ?_⟩
  refine q r (us ++ vs) _ (e2.trans (Ex.new hr)) (fresh_back e2 hr) upd_same (by rw [List.length_append, h2, hlen]) fun x hx => ?_
  rcases List.mem_append.mp hx with z | z
  · exact m _ _ _ ((e.trans e2).trans (Ex.new hr)) (h3 x z)
  · exact m _ _ _ (Ex.new hr) (hall x z)
theorem q_asgLP {P : Hp → V → Prop} {tz : TS} {D : Ends} {i n : Nat} (h : EvLP P te σ H n) (k : ∀ v H1, Ex H H1 → LpAt P H1 v n → tz D (σ.set i (some v)) H1) : tSeq (tAsg te (gName i)) tz D σ H :=
  h H (Ex.refl H) _ fun p vs H2 e2 _ hv hl hd => k (.ref p) H2 e2 ⟨p, vs, rfl, hv, hl, hd⟩
theorem q_asgP {P : Hp → V → Prop} {tz : TS} {D : Ends} {i : Nat} (h : EvP P te σ H) (k : ∀ v H1, Ex H H1 → P H1 v → tz D (σ.set i (some v)) H1) : tSeq (tAsg te (gName i)) tz D σ H :=
  h H (Ex.refl H) _ fun v H2 e2 p => k v H2 e2 p
theorem s_forLP {P : Hp → V → Prop} {n : Nat} {tl : TE} {g : TG} {tu : TS} {D : Ends} (m : Mono P) (h : EvLP P tl σ H n) (Iv : L2.St → Prop) (h0 : Iv σ)
    (hs : ∀ H2 v σ' H', Ex H H2 → Ex H2 H' → Iv σ' → P H' v → g v σ' H' fun σ2 H3 => tu { D with nx := fun σ3 H4 => Iv σ3 ∧ Ex H2 H4, ct := fun σ3 H4 => Iv σ3 ∧ Ex H2 H4, bk := D.nx } σ2 H3)
    (hd : ∀ σ' H', Ex H H' → Iv σ' → D.nx σ' H') : tFor (iList K tl) g tu D σ H :=
  h H (Ex.refl H) _ fun p vs H2 e2 _ hv _ hall => ⟨p, rfl, ⟨_, sq_of hv⟩, for_list (xs := vs) (fun _ σ' H' => Iv σ' ∧ Ex H2 H') ⟨h0, Ex.refl H2⟩ (fun _ _ _ _ hp => sq_of (hp.2 _ _ hv))
    (fun i x σ' H' hx hp => hs H2 x σ' H' e2 hp.2 hp.1 (m _ _ _ hp.2 (hall x (List.mem_of_getElem? hx)))) (fun σ' H' hp => hd σ' H' (e2.trans hp.2) hp.1)⟩
theorem s_forLA {P : Hp → V → Prop} {n i : Nat} {v : V} {g : TG} {tu : TS} {D : Ends} (m : Mono P) (hv : σ[i]? = some (some v)) (h : LpAt P H v n) (Iv : L2.St → Prop) (h0 : Iv σ)
    (hs : ∀ v σ' H', Ex H H' → Iv σ' → P H' v → g v σ' H' fun σ2 H3 => tu { D with nx := fun σ3 H4 => Iv σ3 ∧ Ex H H4, ct := fun σ3 H4 => Iv σ3 ∧ Ex H H4, bk := D.nx } σ2 H3)
    (hd : ∀ σ' H', Ex H H' → Iv σ' → D.nx σ' H') : tFor (iList K (tVar i)) g tu D σ H := by
  obtain ⟨p, vs, rfl, hp, _, hall⟩ := h
  exact ⟨.ref p, hv, p, rfl, ⟨_, sq_of hp⟩, for_list (xs := vs) (fun _ σ' H' => Iv σ' ∧ Ex H H') ⟨h0, Ex.refl H⟩ (fun _ _ _ _ hq => sq_of (hq.2 _ _ hp))
    (fun i x σ' H' hx hq => hs x σ' H' hq.2 hq.1 (m _ _ _ hq.2 (hall x (List.mem_of_getElem? hx)))) (fun σ' H' hq => hd σ' H' hq.2 hq.1)⟩
theorem o_yes {Q : Bool → Hp → Prop} (h : Q true H) : tYes σ H Q := h
/-! ### numbers by evaluation -/
abbrev EvN (K : PySem.W.Frag) (te : TE) (σ : L2.St) (H : Hp) (n : Int × Int) (B : Nat) : Prop := EvP (fun H v => Gn K H v n B) te σ H
theorem gn_mono {n : Int × Int} {B : Nat} : Mono (fun H v => Gn K H v n B) := fun _ _ _ e g => g.ex e
theorem evn_var {i : Nat} {v : V} {n : Int × Int} {B : Nat} (hv : σ[i]? = some (some v)) (g : Gn K H v n B) : EvN K (tVar i) σ H n B := evp_of (ev_var hv) gn_mono g
theorem evn_new {n : Int × Int} {B : Nat} (hn : isNumB n.1 n.2 = true) (hb : Bd n B) (h : ∀ H1, Ex H H1 → ∀ Q : VK, NewP H1 Q n → te σ H1 Q) : EvN K te σ H n B := fun H1 e Q q => h H1 e Q fun H2 p e2 _ hp => q (.ref p) H2 e2 ⟨numAt_of hp, hn, hb⟩
theorem evn_two {g : Int × Int → Int × Int → Int × Int} {a b : Int × Int} {B1 B2 C : Nat} (ha : EvN K ta σ H a B1) (hb : EvN K tb σ H b B2) (l : B1 + B2 ≤ LIM) (hn : isNumB (g a b).1 (g a b).2 = true) (hC : Bd a (B1 + B2) → Bd b (B1 + B2) → Bd (g a b) C) :
    EvN K (tCall (spTwo K g) [] E0 (tCons ta (tCons tb tNil))) σ H (g a b) C := fun H1 e Q q =>
  ha H1 e _ fun u H2 e2 gu => hb H2 (e.trans e2) _ fun v H3 e3 gv => ⟨u, v, a, b, rfl, (gu.ex e3).mono (by omega), gv.mono (by omega), fun H4 w e4 hw => q w H4 ((e2.trans e3).trans e4) ⟨hw, hn, hC (gu.bd.mono (by omega)) (gv.bd.mono (by omega))⟩⟩
theorem evn_plus {a b : Int × Int} {B1 B2 : Nat} (ha : EvN K ta σ H a B1) (hb : EvN K tb σ H b B2) (l : B1 + B2 ≤ LIM := by decide) : EvN K (tCall (spTwo K padd) [] E0 (tCons ta (tCons tb tNil))) σ H (padd a b) (4 * (B1 + B2) + 1) := evn_two ha hb l (num_add a b) bd_add
theorem evn_less {a b : Int × Int} {B1 B2 : Nat} (ha : EvN K ta σ H a B1) (hb : EvN K tb σ H b B2) (l : B1 + B2 ≤ LIM := by decide) : EvN K (tCall (spTwo K psub) [] E0 (tCons ta (tCons tb tNil))) σ H (psub a b) (4 * (B1 + B2) + 1) := evn_two ha hb l (num_add a _) bd_sub
theorem evn_times {a b : Int × Int} {B1 B2 : Nat} (ha : EvN K ta σ H a B1) (hb : EvN K tb σ H b B2) (l : B1 + B2 ≤ LIM := by decide) : EvN K (tCall (spTwo K pmul) [] E0 (tCons ta (tCons tb tNil))) σ H (pmul a b) (4 * (B1 + B2)) := evn_two ha hb l (num_mul a b) bd_mul
theorem ev_ord {a b : Int × Int} {B1 B2 : Nat} (ha : EvN K ta σ H a B1) (hb : EvN K tb σ H b B2) (l : B1 + B2 ≤ LIM := by decide) : Ev (tCall (spOrd K) [] E0 (tCons ta (tCons tb tNil))) σ H (.int (pord a b)) := fun H1 e Q q =>
  ha H1 e _ fun u H2 e2 gu => hb H2 (e.trans e2) _ fun v H3 e3 gv => ⟨u, v, a, b, rfl, (gu.ex e3).mono (by omega), gv.mono (by omega), fun H4 e4 => q H4 ((e2.trans e3).trans e4)⟩
theorem evn_lit {m e : Int} {B : Nat} (ha : Ev ta σ H (.int m)) (hb : Ev tb σ H (.int e)) (hn : isNumB m e = true) (hB : Bd (m, e) B) : EvN K (tTup (tCons ta (tCons tb tNil))) σ H (m, e) B := fun H1 e1 Q q =>
  ha H1 e1 _ fun H2 e2 => hb H2 (e1.trans e2) _ fun H3 e3 => ⟨by show 2 ≤ sizeLine; decide, fun p hp => q (.ref p) _ ((e2.trans e3).trans (Ex.new hp)) ⟨numAt_of upd_same, hn, hB⟩⟩
theorem numAt_dp {v : V} {n : Int × Int} (h : NumAt K H v n) : Dp K H v (.tuple [.int n.1, .int n.2]) := by
  obtain ⟨a, rfl, h⟩ := h
  exact .tup h (.cons (.int _) (.cons (.int _) .nil))
theorem pair_shaped (m e : Int) : SeqAt.shaped (.tuple [.int m, .int e]) = true := rfl
theorem evb_ne {a b : Int × Int} {B1 B2 : Nat} (ha : EvN K ta σ H a B1) (hb : EvN K tb σ H b B2) : Ev (tOp (rNeD K) ta tb) σ H (.bl (!decide (a = b))) := fun H1 e Q q =>
  ha H1 e _ fun u H2 e2 gu => hb H2 (e.trans e2) _ fun v H3 e3 gv => by
    refine ⟨_, _, numAt_dp (gu.ex e3).at_, numAt_dp gv.at_, pair_shaped _ _, pair_shaped _ _, ?_⟩
    rw [eqv_pairs]
    have e4 : (decide (a.1 = b.1) && decide (a.2 = b.2)) = decide (a = b) := by
      rw [← Bool.decide_and]
      exact decide_eq_decide.mpr ⟨fun z => Prod.ext z.1 z.2, fun z => by rw [z]; exact ⟨rfl, rfl⟩⟩
    rw [e4]
    exact q H3 (e2.trans e3)
theorem evb_eq {a b : Int × Int} {B1 B2 : Nat} (ha : EvN K ta σ H a B1) (hb : EvN K tb σ H b B2) : Ev (tOp (rEqD K) ta tb) σ H (.bl (decide (a = b))) := fun H1 e Q q =>
  ha H1 e _ fun u H2 e2 gu => hb H2 (e.trans e2) _ fun v H3 e3 gv => by
    refine ⟨_, _, numAt_dp (gu.ex e3).at_, numAt_dp gv.at_, pair_shaped _ _, pair_shaped _ _, ?_⟩
    rw [eqv_pairs]
    have e4 : (decide (a.1 = b.1) && decide (a.2 = b.2)) = decide (a = b) := by
      rw [← Bool.decide_and]
      exact decide_eq_decide.mpr ⟨fun z => Prod.ext z.1 z.2, fun z => by rw [z]; exact ⟨rfl, rfl⟩⟩
    rw [e4]
    exact q H3 (e2.trans e3)
/-- two ways to one number are told as no difference -/
theorem evt_same {a b : Int × Int} {B1 B2 : Nat} (ha : EvN K ta σ H a B1) (hb : EvN K tb σ H b B2) (h : a = b) : EvT (tTest (tOp (rNeD K) ta tb)) σ H false := by
  have := et_test (evb_ne ha hb)
  rw [decide_eq_true h] at this
  exact this
theorem q_pass {t : TT} {tu tz : TS} {D : Ends} (h : EvT t σ H false) (k : ∀ H1, Ex H H1 → tz D σ H1) : tSeq (tIfS t tu tNext) tz D σ H := q_when h (fun z => by cases z) (fun _ => k)
/-! ### what is kept where one list changes -/
def Keeps (p : Addr) (H H' : Hp) : Prop := ∀ b o, H b = some o → b ≠ p → H' b = some o
theorem sqT_keep {p a : Addr} {xs ys : List V} (h : SqT K H a xs) (hp : H p = some (.lst ys)) (k : Keeps p H H') : SqT K H' a xs := by
  rcases h with (h | ⟨o, h⟩) | h
  · exact .inl (.inl (k _ _ h (fun z => by rw [z, hp] at h; cases h)))
  · exact .inl (.inr ⟨o, k _ _ h (fun z => by rw [z, hp] at h; cases h)⟩)
  · exact .inr h
theorem gn_keep {p : Addr} {v : V} {n : Int × Int} {B : Nat} {ys : List V} (g : Gn K H v n B) (hp : H p = some (.lst ys)) (k : Keeps p H H') : Gn K H' v n B := by
  obtain ⟨⟨a, rfl, h⟩, h2, h3⟩ := g
  exact ⟨⟨a, rfl, sqT_keep h hp k⟩, h2, h3⟩
theorem keeps_upd {p : Addr} {o : HO} : Keeps p H (upd H p o) := fun b o' h hb => by
  rw [upd_ne hb]
  exact h
theorem Keeps.trans {p : Addr} {H1 : Hp} (a : Keeps p H H') (b : Keeps p H' H1) : Keeps p H H1 := fun c o h hc => b c o (a c o h hc) hc
theorem keeps_ex {p : Addr} (e : Ex H H') : Keeps p H H' := fun b o h _ => e b o h
end
end Onc

namespace Onc
open PySem PySem.Spec PyProof.Rows L2 Evl
/-! ### str(n) of a great int: the interpreter's own statics tell no limit of digits -/
def NoDigK (K : PySem.W.Frag) : Prop := ∀ h : Heap, K.In h → h.NoDigits
def strKeyB (e : DictEntry) : Bool := match e.key with
  | .str _ _ => true
  | _ => false
def noDigB (K : PySem.W.Frag) : Bool := match K.lookup cStatics with
  | some ⟨_, _, .dict es _, _⟩ => es.toList.all strKeyB && (nsFind es "sys.int_max_str_digits").isNone
  | _ => false
theorem noDigB_ok {K : PySem.W.Frag} (h : noDigB K = true) : NoDigK K := fun hp hK => by
  unfold noDigB at h
  split at h
  · rename_i c od es n sl q
    obtain ⟨h1, h2⟩ := Bool.and_eq_true_iff.mp h
    refine ⟨nsFind es, ⟨_, es, n, hK _ _ q, rfl, ?_, fun _ => rfl⟩, ?_⟩
    · intro e he
      have := List.all_eq_true.mp h1 e (Array.mem_toList_iff.mpr he)
      unfold strKeyB at this
      split at this
      · rename_i x t hx
        exact ⟨x, t, hx⟩
      · cases this
    · cases hf : nsFind es "sys.int_max_str_digits" with
      | none => rfl
      | some v =>
        rw [hf] at h2
        cases h2
  · cases h
theorem ten_ge : (2 : Nat) ^ 12000 ≤ 10 ^ 4300 := by decide +kernel
theorem call_strW {X : Cx} (hc : X.calm = true) (hd : NoDigK X.K) : CallR X (.type "str") (fun xs H Q => ∃ i : Int, xs = [.int i] ∧ i.natAbs < 2 ^ 12000 ∧ Q (.str (PySem.Str.ofString (toString i))) H) := by
  intro pins s σ H xs us Q I r h
  obtain ⟨i, rfl, hz, q⟩ := h
  obtain ⟨u, rfl, t, rfl⟩ := vals1 r
  have lt := Nat.lt_of_lt_of_le hz ten_ge
  exact str_of_int_or (I.ok.hd hc) (hd _ I.kIn) (fun _ => ⟨.str _, H, I.tok _, ⟨_, rfl⟩, q⟩) (fun ge => absurd (Nat.lt_of_lt_of_le lt ge) (Nat.lt_irrefl _))
/-! ### the head's Hook with the statics in its fragment -/
def asY (g : Addr → Option Obj) (n : Nat) : List Addr := He.asD g n ++ [cStatics]
def obsY (n : Nat) (fa : List He.Fa) (fn : List He.DefD) (ts : List He.Tab) (ex : PySem.W.Frag → Bool) (g : Addr → Option Obj) : He.AlX := (He.obsT fa fn ts (He.frT g (asY g n)), ex (He.frT g (asY g n)))
def hookY (n : Nat) (fa : List He.Fa) (fn : List He.DefD) (ts : List He.Tab) (ex : PySem.W.Frag → Bool) : PySem.W.Hook where
  α := He.AlX
  obs := fun s => obsY n fa fn ts ex s.heap.get?
  val := fun w => He.valX fn ts w
  says := fun w h => ∃ K : PySem.W.Frag, K.In h ∧ He.SaysX fa fn ts [] ex w h K
  of := fun _ _ e => ⟨_, He.frT_in, congrArg (fun z : He.AlX => z.1) e, congrArg (fun z : He.AlX => z.2) e, (fun p hp => by cases hp), (fun p hp => by cases hp), (fun p hp => by cases hp)⟩
  keeps := fun _ _ _ ⟨K, hK, c⟩ k => ⟨K, PySem.W.Frag.In.keeps hK k, ⟨c.t, c.more, c.hd, c.out, fun p hp => by cases hp⟩⟩
theorem obsY_eq {n : Nat} {fa : List He.Fa} {fn : List He.DefD} {ts : List He.Tab} {ex : PySem.W.Frag → Bool} {g : Addr → Option Obj} {s : Shared} (h : ∀ a, g a = s.heap.get? a) : obsY n fa fn ts ex g = (hookY n fa fn ts ex).obs s := by
  have e : g = s.heap.get? := funext h
  rw [e]
  rfl
end Onc

namespace Onc
open PySem PySem.Spec PyProof.Rows L2 Evl
/-! ### decimal figures, as lists of code points -/
def dig (n : Nat) : List Nat := (Nat.toDigits 10 n).map Char.toNat
def pad : Nat → Nat → List Nat
  | 0, _ => []
  | k + 1, n => pad k (n / 10) ++ [48 + n % 10]
def val (l : List Nat) : Nat := l.foldl (fun acc c => acc * 10 + (c - 48)) 0
def Fig (l : List Nat) : Prop := ∀ c ∈ l, 48 ≤ c ∧ c ≤ 57
theorem digc : ∀ n : Nat, n < 10 → (Nat.digitChar n).toNat = 48 + n := by decide
theorem dig_lt {n : Nat} (h : n < 10) : dig n = [48 + n] := by
  unfold dig
  rw [Nat.toDigits_of_lt_base h, List.map_cons, List.map_nil, digc n h]
theorem dig_step {n : Nat} (h : 10 ≤ n) : dig n = dig (n / 10) ++ [48 + n % 10] := by
  unfold dig
  rw [Nat.toDigits_of_base_le (by decide) h, List.map_append, List.map_cons, List.map_nil, digc _ (Nat.mod_lt n (by decide))]
theorem pad_len : ∀ k n, (pad k n).length = k
  | 0, _ => rfl
  | k + 1, n => by
    show (pad k (n / 10) ++ [48 + n % 10]).length = k + 1
    rw [List.length_append, pad_len k (n / 10)]
    rfl
theorem pad_fig : ∀ k n, Fig (pad k n)
  | 0, _ => fun c h => by cases h
  | k + 1, n => fun c h => by
    rcases List.mem_append.mp h with h | h
    · exact pad_fig k (n / 10) c h
    · have := List.mem_singleton.mp h
      omega
theorem val_snoc (l : List Nat) (c : Nat) : val (l ++ [c]) = val l * 10 + (c - 48) := by
  unfold val
  rw [List.foldl_append]
  rfl
theorem fold_acc : ∀ (b : List Nat) (x : Nat), b.foldl (fun acc c => acc * 10 + (c - 48)) x = x * 10 ^ b.length + b.foldl (fun acc c => acc * 10 + (c - 48)) 0
  | [], x => by simp
  | c :: b, x => by
    rw [List.foldl_cons, List.foldl_cons, fold_acc b (x * 10 + (c - 48)), fold_acc b (0 * 10 + (c - 48)), List.length_cons, Nat.pow_succ, Nat.zero_mul, Nat.zero_add, Nat.add_mul, Nat.mul_assoc x 10, Nat.mul_comm 10 (10 ^ b.length)]
    omega
theorem val_app (a b : List Nat) : val (a ++ b) = val a * 10 ^ b.length + val b := by
  show (a ++ b).foldl _ 0 = _
  rw [List.foldl_append, fold_acc b]
  rfl
theorem val_pad : ∀ k n, n < 10 ^ k → val (pad k n) = n
  | 0, n, h => by
    rw [Nat.pow_zero] at h
    have : n = 0 := by omega
    rw [this]
    rfl
  | k + 1, n, h => by
    rw [Nat.pow_succ] at h
    show val (pad k (n / 10) ++ [48 + n % 10]) = n
    rw [val_snoc, val_pad k (n / 10) (by omega)]
    omega
theorem dig_split : ∀ k n, 10 ^ k ≤ n → dig n = dig (n / 10 ^ k) ++ pad k (n % 10 ^ k)
  | 0, n, _ => by
    rw [Nat.pow_zero, Nat.div_one]
    show dig n = dig n ++ []
    rw [List.append_nil]
  | k + 1, n, h => by
    have p : 0 < 10 ^ k := Nat.pow_pos (by decide)
    rw [Nat.pow_succ] at h ⊢
    have h10 : 10 ≤ n := by omega
    rw [dig_step h10, dig_split k (n / 10) (by omega), Nat.div_div_eq_div_mul, Nat.mul_comm 10, List.append_assoc]
    have e1 : n % (10 ^ k * 10) / 10 = n / 10 % 10 ^ k := by
      rw [Nat.mul_comm, Nat.mod_mul_right_div_self]
    have e2 : n % (10 ^ k * 10) % 10 = n % 10 := Nat.mod_mul_left_mod n (10 ^ k) 10
    show _ = dig (n / (10 ^ k * 10)) ++ (pad k (n % (10 ^ k * 10) / 10) ++ [48 + n % (10 ^ k * 10) % 10])
    rw [e1, e2]
theorem dig_pos (n : Nat) : 0 < (dig n).length := by
  by_cases h : n < 10
  · rw [dig_lt h]
    exact Nat.one_pos
  · rw [dig_step (by omega), List.length_append]
    exact Nat.lt_of_lt_of_le Nat.one_pos (Nat.le_add_left _ _)
/-- filled with noughts on the left -/
theorem pad_zeros : ∀ k n, n < 10 ^ (k + 1) → (dig n).length ≤ k + 1 ∧ pad (k + 1) n = List.replicate (k + 1 - (dig n).length) 48 ++ dig n
  | 0, n, h => by
    have h : n < 10 := h
    rw [dig_lt h]
    refine ⟨Nat.le_refl 1, ?_⟩
    show [] ++ [48 + n % 10] = [] ++ [48 + n]
    rw [Nat.mod_eq_of_lt h]
  | k + 1, n, h => by
    by_cases h10 : n < 10
    · rw [dig_lt h10]
      refine ⟨Nat.succ_le_succ (Nat.zero_le _), ?_⟩
      have e0 : n / 10 = 0 := Nat.div_eq_of_lt h10
      have ih := (pad_zeros k 0 (Nat.pow_pos (by decide))).2
      show pad (k + 1) (n / 10) ++ [48 + n % 10] = List.replicate (k + 1) 48 ++ [48 + n]
      rw [e0, ih, dig_lt (by decide), Nat.mod_eq_of_lt h10]
      have e : List.replicate (k + 1) 48 = List.replicate k 48 ++ [48] := List.replicate_succ'
      rw [e]
      rfl
    · have hq : n / 10 < 10 ^ (k + 1) := by
        rw [Nat.pow_succ] at h
        omega
      obtain ⟨h1, h2⟩ := pad_zeros k (n / 10) hq
      rw [dig_step (by omega)]
      constructor
      · rw [List.length_append, List.length_singleton]
        omega
      · show pad (k + 1) (n / 10) ++ [48 + n % 10] = _
        rw [h2, List.length_append, List.length_singleton, ← List.append_assoc, show k + 1 + 1 - ((dig (n / 10)).length + 1) = k + 1 - (dig (n / 10)).length by omega]
theorem dig_fig (n : Nat) : Fig (dig n) := by
  induction n using Nat.strongRecOn with
  | ind n ih =>
    intro c hc
    by_cases h : n < 10
    · rw [dig_lt h] at hc
      have := List.mem_singleton.mp hc
      omega
    · rw [dig_step (by omega)] at hc
      rcases List.mem_append.mp hc with z | z
      · exact ih (n / 10) (by omega) c z
      · have := List.mem_singleton.mp z
        omega
theorem val_dig (n : Nat) : val (dig n) = n := by
  induction n using Nat.strongRecOn with
  | ind n ih =>
    by_cases h : n < 10
    · rw [dig_lt h]
      show 0 * 10 + (48 + n - 48) = n
      omega
    · rw [dig_step (by omega), val_snoc, ih (n / 10) (by omega)]
      omega
/-- no nought ahead -/
theorem dig_head {n : Nat} (h : 0 < n) : ∃ c r, dig n = c :: r ∧ 49 ≤ c ∧ c ≤ 57 := by
  induction n using Nat.strongRecOn with
  | ind n ih =>
    by_cases h10 : n < 10
    · exact ⟨48 + n, [], dig_lt h10, by omega, by omega⟩
    · obtain ⟨c, r, e, h1, h2⟩ := ih (n / 10) (by omega) (by omega)
      exact ⟨c, r ++ [48 + n % 10], by rw [dig_step (by omega), e]; rfl, h1, h2⟩
theorem dig_zero : dig 0 = [48] := dig_lt (by decide)
theorem dig_len {k n : Nat} (h : n < 10 ^ (k + 1)) : (dig n).length ≤ k + 1 := (pad_zeros k n h).1
theorem dig_len_lt {k n : Nat} (h : 10 ^ k ≤ n) : k < (dig n).length := by
  rw [dig_split k n h, List.length_append, pad_len]
  have := dig_pos (n / 10 ^ k)
  omega
/-- the text behind a dot: before and behind of N, k signs behind -/
def bef (N k : Nat) : List Nat := dig (N / 10 ^ k)
def beh (N k : Nat) : List Nat := pad k (N % 10 ^ k)
theorem fig_split (N k : Nat) : List.replicate (k + 1 - (dig N).length) 48 ++ dig N = bef N k ++ beh N k := by
  unfold bef beh
  by_cases h : 10 ^ k ≤ N
  · have := dig_len_lt h
    rw [show k + 1 - (dig N).length = 0 by omega, ← dig_split k N h]
    rfl
  · have hk : N < 10 ^ k := by omega
    have p : 10 ^ k ≤ 10 ^ (k + 1) := Nat.pow_le_pow_right (by decide) (by omega)
    rw [← (pad_zeros k N (by omega)).2, Nat.div_eq_of_lt hk, Nat.mod_eq_of_lt hk, dig_zero]
    show pad (k + 1) N = 48 :: pad k N
    have e : ∀ k N, N < 10 ^ k → pad (k + 1) N = 48 :: pad k N := by
      intro k
      induction k with
      | zero =>
        intro N h
        have : N = 0 := by simpa using h
        subst this
        rfl
      | succ k ih =>
        intro N h
        have : N / 10 < 10 ^ k := by
          rw [Nat.pow_succ] at h
          omega
        show pad (k + 1) (N / 10) ++ [48 + N % 10] = 48 :: (pad k (N / 10) ++ [48 + N % 10])
        rw [ih (N / 10) this]
        rfl
    exact e k N hk
theorem val_bb (N k : Nat) : val (bef N k ++ beh N k) = N := by
  unfold bef beh
  rw [val_app, val_dig, val_pad k _ (Nat.mod_lt _ (Nat.pow_pos (by decide))), pad_len]
  exact Nat.div_add_mod' N (10 ^ k)
/-! ### the texts of ints -/
def cod (i : Int) : List Nat := if i < 0 then 45 :: dig i.natAbs else dig i.natAbs
theorem ts_nat (m : Nat) : PySem.Str.ofString (toString (m : Int)) = SX.S (dig m) := by
  refine TL.ext_tl ?_
  exact PySem.W.KIN.signs_num m
theorem ts_cod (i : Int) : PySem.Str.ofString (toString i) = SX.S (cod i) := by
  unfold cod
  cases i with
  | ofNat m => exact ts_nat m
  | negSucc m =>
    rw [if_pos (Int.negSucc_lt_zero m)]
    refine TL.ext_tl ?_
    have h := PySem.W.KIN.signs_num (m + 1)
    show (PySem.Str.ofString (toString (Int.negSucc m))).cps.toList = 45 :: dig (m + 1)
    have e : toString (Int.negSucc m) = "-" ++ toString (((m + 1 : Nat)) : Int) := rfl
    rw [e, signs_ofString, String.toList_append, List.map_append, ← signs_ofString (toString (((m + 1 : Nat)) : Int)), h]
    rfl
theorem fig_all {l : List Nat} (h : Fig l) : l.all (fun c => decide (48 ≤ c) && decide (c ≤ 57)) = true := List.all_eq_true.mpr fun c hc => by
  obtain ⟨h1, h2⟩ := h c hc
  rw [decide_eq_true h1, decide_eq_true h2]
  rfl
/-! ### methods of texts, by lists -/
theorem zfill_S {l : List Nat} {k : Nat} (hl : Fig l) (hne : l ≠ []) : Txt.zfill (SX.S l) (k : Int) = SX.S (List.replicate (k - l.length) 48 ++ l) := by
  unfold Txt.zfill
  rw [SX.S_len]
  by_cases h : (k : Int) ≤ (l.length : Int)
  · rw [if_pos h, show k - l.length = 0 by omega]
    rfl
  · rw [if_neg h, Int.toNat_natCast]
    cases l with
    | nil => exact absurd rfl hne
    | cons c r =>
      have hc := hl c List.mem_cons_self
      have e0 : (SX.S (c :: r)).cps[0]? = some c := rfl
      have e : zfilled (SX.S (c :: r)) (k - (c :: r).length) = Builtin.Str.padded (SX.S (c :: r)) (k - (c :: r).length) 0 48 := by
        unfold zfilled
        rw [e0]
        split
        · rename_i h1
          have := Option.some.inj h1
          omega
        · rename_i h1
          have := Option.some.inj h1
          omega
        · rfl
      rw [e]
      refine TL.ext_tl ?_
      show (Array.replicate (k - (c :: r).length) 48 ++ (c :: r).toArray ++ Array.replicate 0 48).toList = List.replicate (k - (c :: r).length) 48 ++ (c :: r)
      simp
theorem isdig_u : ∀ c : Nat, 48 ≤ c ∧ c ≤ 57 → Unicode.isDigit c = true := by
  have k : ∀ n : _root_.Fin 58, 48 ≤ n.val → Unicode.isDigit n.val = true := by decide +kernel
  exact fun c h => k ⟨c, by omega⟩ h.1
theorem isdigit_S {l : List Nat} (h : Fig l) (hne : l ≠ []) : Txt.isdigit (SX.S l) = true := by
  unfold Txt.isdigit
  rw [SX.S_len]
  refine Bool.and_eq_true_iff.mpr ⟨decide_eq_true (List.length_pos_iff.mpr hne), ?_⟩
  rw [← Array.all_toList]
  exact List.all_eq_true.mpr fun c hc => isdig_u c (h c hc)
theorem isascii_S {l : List Nat} (h : Fig l) : Txt.isascii (SX.S l) = true := by
  unfold Txt.isascii
  rw [← Array.all_toList]
  exact List.all_eq_true.mpr fun c hc => decide_eq_true (by have := h c hc; omega)
theorem subAt_S (l : List Nat) (c : Nat) : Builtin.Str.subAt (SX.S l) (SX.S [c]) 0 = decide (l.head? = some c) := by
  unfold Builtin.Str.subAt
  cases l with
  | nil => rfl
  | cons d r =>
    have e : (SX.S (d :: r)).cps.extract 0 (0 + (SX.S [c]).length) = #[d] := by simp [SX.S, Str.length]
    rw [e]
    show (#[d] == #[c]) = decide (some d = some c)
    by_cases h : d = c
    · subst h
      rw [decide_eq_true rfl]
      exact beq_self_eq_true _
    · rw [decide_eq_false (fun z => h (Option.some.inj z))]
      exact beq_eq_false_iff_ne.mpr fun z => h (List.cons.inj (congrArg Array.toList z)).1
theorem starts_S (l : List Nat) (c : Nat) : Txt.startswith (SX.S l) (SX.S [c]) = decide (l.head? = some c) := by
  unfold Txt.startswith
  rw [subAt_S, SX.S_len, SX.S_len]
  cases l with
  | nil => rfl
  | cons d r =>
    have e : decide (0 + [c].length ≤ (d :: r).length) = true := decide_eq_true (by show 0 + 1 ≤ r.length + 1; omega)
    rw [e, Bool.true_and]
theorem unprefix_S (l : List Nat) (c : Nat) : Txt.removeprefix (SX.S l) (SX.S [c]) = SX.S (if l.head? = some c then l.tail else l) := by
  unfold Txt.removeprefix
  rw [subAt_S, SX.S_len, SX.S_len]
  by_cases h : l.head? = some c
  · rw [decide_eq_true h, if_pos rfl, if_pos h]
    cases l with
    | nil => cases h
    | cons d r =>
      show (if ((r.length + 1 - 1 == (SX.S (d :: r)).length) = true) then _ else _) = _
      rw [if_neg (by rw [SX.S_len]; show ¬ (r.length + 1 - 1 == r.length + 1) = true; simp)]
      refine TL.ext_tl ?_
      show ((d :: r).toArray.extract 1 (r.length + 1)).toList = r
      simp
  · rw [decide_eq_false h, if_neg (by decide), if_neg h]
    rfl
theorem rep_fold (c : Nat) : ∀ (k : Nat) (a : Array Nat), ((List.replicate k #[c]).foldl (· ++ ·) a).toList = a.toList ++ List.replicate k c
  | 0, a => by simp
  | k + 1, a => by
    rw [List.replicate_succ, List.foldl_cons, rep_fold c k, Array.toList_append, List.replicate_succ, List.append_assoc]
    rfl
/-- a text of one sign, so many times -/
def rSign : R2 := fun x y H Q => ∃ (c : Nat) (i : Int), x = .str (SX.S [c]) ∧ y = .int i ∧ i.natAbs ≤ 100000 ∧ Q (.str (SX.S (List.replicate i.toNat c))) H
theorem op_mulSign {X : Cx} : OpR X (binaryOp .Mult) rSign := by
  intro pins s σ H x y v u Q I rx ry h
  obtain ⟨c, i, rfl, rfl, hi, q⟩ := h
  obtain ⟨t, rfl⟩ := rx
  obtain ⟨t', rfl⟩ := ry
  have l1 : (SX.S [c]).length = 1 := SX.S_len [c]
  refine PySem.P.mul_str (by rw [decide_eq_false (by omega), decide_eq_false (by omega)]; rfl) (fun h1 h2 => ?_) (fun h1 h2 => ?_) ?_
  · rw [l1]
    have hi1 : 1 ≤ i := by omega
    have : (1 : Int) ≤ (2 ^ 63 - 1) / i := by
      have : (1 : Int) * i ≤ 2 ^ 63 - 1 := by omega
      exact (Int.le_ediv_iff_mul_le (by omega)).mpr this
    show ¬ ((1 : Nat) : Int) > _
    omega
  · rw [l1, Nat.one_mul]
    exact short24 (by omega)
  · by_cases h1 : i < 1
    · rw [if_pos h1]
      rw [show i.toNat = 0 by omega] at q
      exact ⟨by decide, .str _, H, I.tok _, ⟨_, rfl⟩, q⟩
    · rw [if_neg h1]
      by_cases h2 : i = 1
      · subst h2
        rw [if_pos (show (((1 : Int) == 1 || (SX.S [c]).length == 0) = true) by rw [beq_self_eq_true, Bool.true_or])]
        exact ⟨.str (SX.S [c]), H, I, ⟨_, rfl⟩, q⟩
      · have e : (i == 1 || (SX.S [c]).length == 0) = false := by
          rw [l1, beq_eq_false_iff_ne.mpr h2]
          rfl
        rw [if_neg (by rw [e]; decide)]
        have ex : (⟨(List.replicate i.toNat (SX.S [c]).cps).foldl (· ++ ·) #[]⟩ : Str) = SX.S (List.replicate i.toNat c) := TL.ext_tl (rep_fold c i.toNat #[])
        rw [ex]
        exact ⟨by rw [SX.S_len, List.length_replicate, sizeLine_eq]; omega, .str _, H, I.tok _, ⟨_, rfl⟩, q⟩
end Onc

namespace Onc
open PySem PySem.Spec PyProof.Rows L2 Evl
def topS (i : Nat) : Stmt := PySem.Challenge.pw_oncenear_k80_texts_of_numbers.main.body.getD i (.Pass ⟨0, 0, 0, 0⟩)
structure Top (mg : Str → Option Value) : Prop where
  isinstance : mg "isinstance" = none
  len : mg "len" = none
  range : mg "range" = none
  ty_int : mg "int" = none
  ty_bool : mg "bool" = none
  ty_tuple : mg "tuple" = none
  ty_str : mg "str" = none
  min : mg "min" = none
  max : mg "max" = none
  abs : mg "abs" = none
  all : mg "all" = none
abbrev FnP (K : PySem.W.Frag) (x : Str) (st : Stmt) (f : Addr) (fd : FuncData) : Prop := FunD K x x (defArgs st) (defBody st) (defScope st) [] [] f fd
/-! ### promises -/
def spWhole (K : PySem.W.Frag) : Sp := fun vs H Q _ => ∃ v b, vs = [v] ∧ WholeIs K H v b ∧ Q (.bl b) H
def spNum (K : PySem.W.Frag) : Sp := fun vs H Q _ => ∃ v b, vs = [v] ∧ NumIs K H v b ∧ ∀ H', Ex H H' → Q (.bl b) H'
def spNof : Sp := fun vs H Q _ => ∃ m e : Int, vs = [.int m, .int e] ∧ ∀ H' p, Ex H H' → H p = none → H' p = some (.tup [.int (nrm m e).1, .int (nrm m e).2]) → Q (.ref p) H'
def spTens : Sp := fun vs H Q _ => ∃ k : Int, vs = [.int k] ∧ 0 ≤ k ∧ k ≤ 10000 ∧ ∀ z : Int, Q (.int z) H
def spMix : Sp := fun vs H Q _ => ∃ a k : Int, vs = [.int a, .int k] ∧ ∀ z : Int, Q (.int z) H
def spCel (K : PySem.W.Frag) : Sp := fun vs H Q _ => ∃ (a : Addr) (ns : List Int) (k : Int), vs = [.ref a, .int k] ∧ SqL K H a (ns.map V.int) ∧ 0 ≤ k ∧ k < 1000 ∧ ∀ z : Int, Q (.int z) H
def spTake : Sp := fun vs H Q _ => ∃ (p : Addr) (x n : Int), vs = [.ref p, .int n] ∧ H p = some (.lst [.int x]) ∧ 0 < n ∧ n.natAbs.log2 < 9000 ∧ Q (.int (x % n)) (upd H p (.lst [.int (x / n)]))
def spNumber : Sp := fun vs H Q _ => ∃ (p : Addr) (x : Int), vs = [.ref p] ∧ H p = some (.lst [.int x]) ∧
  ∀ H' q (x' m e : Int), (∀ b o, H b = some o → b ≠ p → H' b = some o) → H' p = some (.lst [.int x']) → H q = none → H' q = some (.tup [.int m, .int e]) → isNumB m e = true → m.natAbs < 2 ^ 201 → e.natAbs < 2000 → Q (.ref q) H'
theorem log_small {z : Int} {k : Nat} (h0 : 0 < z) (h : z ≤ 2 ^ k) (hk : k < 9000) : z.natAbs.log2 < 9000 := by
  have h1 : z.natAbs < 2 ^ (k + 1) := by
    have e : (2 : Int) ^ (k + 1) = 2 ^ k * 2 := Int.pow_succ ..
    have e2 : ((2 ^ (k + 1) : Nat) : Int) = 2 ^ (k + 1) := pow_two_cast _
    omega
  have h2 : z.natAbs.log2 < k + 1 := PySem.Flt.log2_lt_of (Nat.succ_pos k) h1
  omega
/-! ### evaluation beside a pile: all is kept but the pile p -/
def Pl (p : Addr) (H : Hp) : Prop := ∃ x : Int, H p = some (.lst [.int x])
def EvK (p : Addr) (P : Hp → V → Prop) (te : TE) (σ : L2.St) (H : Hp) : Prop := ∀ H1, Keeps p H H1 → Pl p H1 → ∀ Q : VK, (∀ v H2, Keeps p H1 H2 → Pl p H2 → P H2 v → Q v H2) → te σ H1 Q
abbrev EvI (p : Addr) (S : Int → Prop) (te : TE) (σ : L2.St) (H : Hp) : Prop := EvK p (fun _ v => ∃ z, v = .int z ∧ S z) te σ H
section
variable {K : PySem.W.Frag} {p : Addr} {σ : L2.St} {H H' : Hp} {ta tb te : TE} {S T U : Int → Prop}
theorem Keeps.refl (p : Addr) (H : Hp) : Keeps p H H := fun _ _ h _ => h
theorem EvK.mono {P : Hp → V → Prop} (h : EvK p P te σ H) (k : Keeps p H H') : EvK p P te σ H' := fun H1 k1 l Q q => h H1 (k.trans k1) l Q q
theorem EvK.imp {P P' : Hp → V → Prop} (h : EvK p P te σ H) (i : ∀ H v, P H v → P' H v) : EvK p P' te σ H := fun H1 k l Q q => h H1 k l Q fun v H2 k2 l2 hv => q v H2 k2 l2 (i H2 v hv)
theorem evi_imp (h : EvI p S te σ H) (i : ∀ z, S z → T z) : EvI p T te σ H := h.imp fun _ _ ⟨z, e, s⟩ => ⟨z, e, i z s⟩
theorem evi_c {z : Int} (h : S z) : EvI p S (tC (.int z)) σ H := fun H1 k l Q q => q (.int z) H1 (Keeps.refl p H1) l ⟨z, rfl, h⟩
theorem evi_var {i : Nat} {z : Int} (hi : σ[i]? = some (some (.int z))) (h : S z) : EvI p S (tVar i) σ H := fun H1 k l Q q => ⟨.int z, hi, q (.int z) H1 (Keeps.refl p H1) l ⟨z, rfl, h⟩⟩
theorem evi_op {g : Int → Int → Int} (ha : EvI p S ta σ H) (hb : EvI p T tb σ H) (h : ∀ a b, S a → T b → U (g a b)) : EvI p U (tOp (rI0 fun i j => .int (g i j)) ta tb) σ H := fun H1 k l Q q =>
  ha H1 k l _ fun v H2 k2 l2 ⟨a, e, sa⟩ => hb H2 (k.trans k2) l2 _ fun w H3 k3 l3 ⟨b, e2, sb⟩ => by
    subst e e2
    exact ⟨a, b, rfl, rfl, q _ H3 (k2.trans k3) l3 ⟨_, rfl, h a b sa sb⟩⟩
theorem evi_opC {C : Int → Int → Prop} {g : Int → Int → Int} (ha : EvI p S ta σ H) (hb : EvI p T tb σ H) (hc : ∀ a b, S a → T b → C a b) (h : ∀ a b, S a → T b → U (g a b)) : EvI p U (tOp (rI C fun i j => .int (g i j)) ta tb) σ H := fun H1 k l Q q =>
  ha H1 k l _ fun v H2 k2 l2 ⟨a, e, sa⟩ => hb H2 (k.trans k2) l2 _ fun w H3 k3 l3 ⟨b, e2, sb⟩ => by
    subst e e2
    exact ⟨a, b, rfl, rfl, hc a b sa sb, q _ H3 (k2.trans k3) l3 ⟨_, rfl, h a b sa sb⟩⟩
theorem pl_upd {x : Int} : Pl p (upd H p (.lst [.int x])) := ⟨x, upd_same⟩
theorem pl_new {q : Addr} {o : HO} (l : Pl p H) (hq : H q = none) : Pl p (upd H q o) := by
  obtain ⟨x, h⟩ := l
  exact ⟨x, by rw [upd_ne (ne_of_none h hq)]; exact h⟩
theorem pl_ex (l : Pl p H) (e : Ex H H') : Pl p H' := by
  obtain ⟨x, h⟩ := l
  exact ⟨x, e _ _ h⟩
theorem evi_take {i : Nat} {N : Int → Prop} (hi : σ[i]? = some (some (.ref p))) (hn : EvI p N te σ H) (h : ∀ n, N n → 0 < n ∧ n.natAbs.log2 < 9000) (hT : ∀ n z, N n → 0 ≤ z → z < n → T z) : EvI p T (tCall spTake [] E0 (tCons (tVar i) (tCons te tNil))) σ H := fun H1 k l Q q =>
  ⟨.ref p, hi, hn H1 k l _ fun v H2 k2 l2 ⟨n, e, sn⟩ => by
    subst e
    obtain ⟨x, hx⟩ := l2
    obtain ⟨h0, h1⟩ := h n sn
    exact ⟨p, x, n, rfl, hx, h0, h1, q _ _ (k2.trans keeps_upd) pl_upd ⟨_, rfl, hT n _ sn (Int.emod_nonneg _ (by omega)) (Int.emod_lt_of_pos _ h0)⟩⟩⟩
/-- several, each of its own set -/
def All2 : List (Int → Prop) → List Int → Prop
  | [], [] => True
  | S :: Ss, z :: zs => S z ∧ All2 Ss zs
  | _, _ => False
theorem all2_len : ∀ {Ss : List (Int → Prop)} {zs : List Int}, All2 Ss zs → zs.length = Ss.length
  | [], [], _ => rfl
  | _ :: _, _ :: _, h => congrArg Nat.succ (all2_len h.2)
theorem all2_app : ∀ {Ss Ts : List (Int → Prop)} {zs ys : List Int}, All2 Ss zs → All2 Ts ys → All2 (Ss ++ Ts) (zs ++ ys)
  | [], _, [], _, _, h => h
  | _ :: _, _, _ :: _, _, h1, h => ⟨h1.1, all2_app h1.2 h⟩
theorem all2_at : ∀ {Ss : List (Int → Prop)} {zs : List Int}, All2 Ss zs → ∀ {i : Nat} {S : Int → Prop}, Ss[i]? = some S → ∃ z, (zs.map V.int)[i]? = some (.int z) ∧ S z
  | [], [], _, i, S, h => by simp at h
  | T :: _, z :: _, g, 0, S, h => by
    have e : T = S := Option.some.inj h
    subst e
    exact ⟨z, rfl, g.1⟩
  | _ :: _, _ :: _, g, i + 1, S, h => all2_at g.2 (i := i) h
def EvIs (p : Addr) (Ss : List (Int → Prop)) (ta : TA) (σ : L2.St) (H : Hp) : Prop := ∀ H1, Keeps p H H1 → Pl p H1 → ∀ Q : List V → Hp → Prop, (∀ zs H2, Keeps p H1 H2 → Pl p H2 → All2 Ss zs → Q (zs.map V.int) H2) → ta σ H1 Q
theorem evis_nil : EvIs p [] tNil σ H := fun H1 k l Q q => q [] H1 (Keeps.refl p H1) l trivial
theorem evis_cons {tr : TA} {Ss : List (Int → Prop)} (h : EvI p S ta σ H) (hr : EvIs p Ss tr σ H) : EvIs p (S :: Ss) (tCons ta tr) σ H := fun H1 k l Q q =>
  h H1 k l _ fun v H2 k2 l2 ⟨z, e, s⟩ => hr H2 (k.trans k2) l2 _ fun zs H3 k3 l3 hz => by
    subst e
    exact q (z :: zs) H3 (k2.trans k3) l3 ⟨s, hz⟩
/-- a list of ints, elsewhere than the pile -/
def LiAt (p : Addr) (Ss : List (Int → Prop)) (H : Hp) (v : V) : Prop := ∃ l zs, v = .ref l ∧ l ≠ p ∧ H l = some (.lst (zs.map V.int)) ∧ All2 Ss zs
theorem li_keep {Ss : List (Int → Prop)} {v : V} (h : LiAt p Ss H v) (k : Keeps p H H') : LiAt p Ss H' v := by
  obtain ⟨l, zs, e, ne, hl, ha⟩ := h
  exact ⟨l, zs, e, ne, k _ _ hl ne, ha⟩
theorem keeps_new {q : Addr} {o : HO} (hq : H q = none) : Keeps p H (upd H q o) := keeps_ex (Ex.new hq)
theorem evk_lst {tr : TA} {Ss : List (Int → Prop)} (h : EvIs p Ss tr σ H) (hl : Ss.length ≤ 1000 := by decide) : EvK p (LiAt p Ss) (tLst tr) σ H := fun H1 k l Q q =>
  h H1 k l _ fun zs H2 k2 l2 hz => ⟨sz_of (by rw [List.length_map, all2_len hz]; omega), fun r hr => q (.ref r) _ (k2.trans (keeps_new hr)) (pl_new l2 hr) ⟨r, zs, rfl, (fun e => by obtain ⟨x, hx⟩ := l2; rw [e, hx] at hr; cases hr), upd_same, hz⟩⟩
theorem evk_var {P : Hp → V → Prop} {i : Nat} {v : V} (hi : σ[i]? = some (some v)) (h : ∀ H1, Keeps p H H1 → Pl p H1 → P H1 v) : EvK p P (tVar i) σ H := fun H1 k l Q q => ⟨v, hi, q v H1 (Keeps.refl p H1) l (h H1 k l)⟩
theorem evk_cat {Ss Ts : List (Int → Prop)} (ha : EvK p (LiAt p Ss) ta σ H) (hb : EvK p (LiAt p Ts) tb σ H) (hl : Ss.length + Ts.length ≤ 1000 := by decide) : EvK p (LiAt p (Ss ++ Ts)) (tOp rCat ta tb) σ H := fun H1 k l Q q =>
  ha H1 k l _ fun v H2 k2 l2 hv => hb H2 (k.trans k2) l2 _ fun w H3 k3 l3 hw => by
    obtain ⟨a, zs, rfl, na, hza, aa⟩ := li_keep hv k3
    obtain ⟨b, ys, rfl, nb, hyb, ab⟩ := hw
    refine ⟨a, b, _, _, rfl, rfl, hza, hyb, sz_of (by rw [List.length_map, List.length_map, all2_len aa, all2_len ab]; omega), fun r hr => q (.ref r) _ ((k2.trans k3).trans (keeps_new hr)) (pl_new l3 hr) ⟨r, zs ++ ys, rfl, (fun e => by obtain ⟨x, hx⟩ := l3; rw [e, hx] at hr; cases hr), by rw [List.map_append]; exact upd_same, all2_app aa ab⟩⟩
/-- an item of a list of ints, by an int that is known to be one of a set -/
theorem evi_ix {Ss : List (Int → Prop)} {W : Int → Prop} (ha : EvK p (LiAt p Ss) ta σ H) (hb : EvI p W tb σ H) (h : ∀ w, W w → 0 ≤ w ∧ ∃ R, Ss[w.toNat]? = some R ∧ ∀ z, R z → U z) : EvI p U (tOp (rIxL K) ta tb) σ H := fun H1 k l Q q =>
  ha H1 k l _ fun v H2 k2 l2 hv => hb H2 (k.trans k2) l2 _ fun w H3 k3 l3 ⟨i, e, hi⟩ => by
    subst e
    obtain ⟨a, zs, rfl, na, hza, aa⟩ := li_keep hv k3
    obtain ⟨i0, R, hR, hU⟩ := h i hi
    obtain ⟨z, hz, sz⟩ := all2_at aa hR
    obtain ⟨j, rfl⟩ : ∃ j : Nat, i = (j : Int) := ⟨i.toNat, by omega⟩
    rw [Int.toNat_natCast] at hz
    exact ⟨a, _, _, _, rfl, rfl, sq_of hza, atI_nat hz, q _ H3 (k2.trans k3) l3 ⟨z, rfl, hU z sz⟩⟩
theorem k_asg {P : Hp → V → Prop} {i : Nat} {tz : TS} {D : Ends} (h : EvK p P te σ H) (l : Pl p H) (k : ∀ v H1, Keeps p H H1 → Pl p H1 → P H1 v → tz D (σ.set i (some v)) H1) : tSeq (tAsg te (gName i)) tz D σ H := h H (Keeps.refl p H) l _ fun v H2 k2 l2 hv => k v H2 k2 l2 hv
theorem k_asg1 {P : Hp → V → Prop} {i : Nat} {D : Ends} (h : EvK p P te σ H) (l : Pl p H) (k : ∀ v H1, Keeps p H H1 → Pl p H1 → P H1 v → D.nx (σ.set i (some v)) H1) : tAsg te (gName i) D σ H := h H (Keeps.refl p H) l _ fun v H2 k2 l2 hv => k v H2 k2 l2 hv
theorem k_ret {P : Hp → V → Prop} {D : Ends} (h : EvK p P te σ H) (l : Pl p H) (k : ∀ v H1, Keeps p H H1 → Pl p H1 → P H1 v → D.rt v H1) : tRet te D σ H := h H (Keeps.refl p H) l _ fun v H2 k2 l2 hv => k v H2 k2 l2 hv
theorem k_asgL {tr : TA} {Ss : List (Int → Prop)} {i : Nat} {tz : TS} {D : Ends} (h : EvIs p Ss tr σ H) (l : Pl p H) (hl : Ss.length ≤ 1000) (k : ∀ r zs H1, Keeps p H H1 → Pl p H1 → H r = none → r ≠ p → H1 r = some (.lst (zs.map V.int)) → All2 Ss zs → tz D (σ.set i (some (.ref r))) H1) : tSeq (tAsg (tLst tr) (gName i)) tz D σ H :=
  h H (Keeps.refl p H) l _ fun zs H2 k2 l2 hz => ⟨sz_of (by rw [List.length_map, all2_len hz]; omega), fun r hr => by
    have rp : r ≠ p := fun e => by
      obtain ⟨x, hx⟩ := l2
      rw [e, hx] at hr
      cases hr
    refine k r zs _ (k2.trans (keeps_new hr)) (pl_new l2 hr) ?_ rp upd_same hz
    cases hH : H r with
    | none => rfl
    | some o =>
      rw [k2 _ _ hH rp] at hr
      cases hr⟩
theorem fresh_keep {r : Addr} (k : Keeps p H H') (hr : H' r = none) (rp : r ≠ p) : H r = none := by
  cases hH : H r with
  | none => rfl
  | some o =>
    rw [k _ _ hH rp] at hr
    cases hr
theorem keeps_mut {r : Addr} {o : HO} (k : Keeps p H H') (hr : H r = none) : Keeps p H (upd H' r o) := fun b u hb hbp => by
  rw [upd_ne (ne_of_none hb hr)]
  exact k b u hb hbp
/-- a number made of two ints -/
theorem evk_nof {R : Int → Int → Prop} {B : Nat} (ha : EvI p S ta σ H) (hb : EvI p T tb σ H) (h : ∀ a b, S a → T b → R a b ∧ Bd (nrm a b) B) : EvK p (fun H v => ∃ a b, R a b ∧ Gn K H v (nrm a b) B) (tCall spNof [] E0 (tCons ta (tCons tb tNil))) σ H := fun H1 k l Q q =>
  ha H1 k l _ fun v H2 k2 l2 ⟨a, e, sa⟩ => hb H2 (k.trans k2) l2 _ fun w H3 k3 l3 ⟨b, e2, sb⟩ => by
    subst e e2
    obtain ⟨h1, h2⟩ := h a b sa sb
    exact ⟨a, b, rfl, fun H4 r e4 _ hr => q (.ref r) H4 ((k2.trans k3).trans (keeps_ex e4)) (pl_ex l3 e4) ⟨a, b, h1, numAt_of hr, nrm_num a b, h2⟩⟩
end
/-! ### texts of figures -/
open SX in
theorem joinL_nil : ∀ ys : List (List Nat), TL.joinL [] ys = ys.flatten
  | [] => rfl
  | [p] => (List.append_nil p).symm
  | p :: q :: r => by
    show p ++ ([] ++ TL.joinL [] (q :: r)) = _
    rw [joinL_nil (q :: r)]
    rfl
theorem S_length (a : List Nat) : (SX.S a).length = a.length := SX.S_len a
theorem str_nn {i : Int} (h : 0 ≤ i) : PySem.Str.ofString (toString i) = SX.S (dig i.toNat) := by
  have e : i = (i.toNat : Int) := by omega
  rw [e, ts_nat, Int.toNat_natCast]
def spFigs : Sp := fun vs H Q _ => ∃ n : Nat, vs = [.int (n : Int)] ∧ n < 2 ^ 3000 ∧ ∀ H', Ex H H' → Q (.str (SX.S (dig n))) H'
theorem ml {i j : Int} {a b : Nat} (ha : i.natAbs ≤ 2 ^ a) (hb : j.natAbs ≤ 2 ^ b) (h : a + b ≤ 100000) : CMulX i j := mulx_ok (a := a + 1) (b := b + 1) (Nat.lt_of_le_of_lt ha (Nat.pow_lt_pow_right (by decide) (Nat.lt_succ_self a))) (Nat.lt_of_le_of_lt hb (Nat.pow_lt_pow_right (by decide) (Nat.lt_succ_self b))) (by omega)
theorem pw_le {x : Int} {a : Nat} (h : x.natAbs ≤ 2 ^ a) : ∀ k : Nat, (x ^ k).natAbs ≤ 2 ^ (a * k)
  | 0 => by rw [Int.pow_zero]; exact Nat.le_refl 1
  | k + 1 => by
    rw [Int.pow_succ, Nat.mul_succ, Int.natAbs_mul, Nat.pow_add]
    exact Nat.mul_le_mul (pw_le h k) h
def spPow : Sp := fun vs H Q _ => ∃ (b : Int) (k : Nat), vs = [.int b, .int (k : Int)] ∧ b.natAbs ≤ 8 ∧ k ≤ 1000 ∧ ∀ H', Ex H H' → Q (.int (b ^ k)) H'
theorem shr_nat (k p : Nat) : (k : Int) / 2 ^ p = ((k / 2 ^ p : Nat) : Int) := by
  rw [← pow_two_cast]
  rfl
def spWt : Sp := fun vs H Q _ => ∃ i : Int, vs = [.int i] ∧ i.natAbs < 2 ^ 3000 ∧ ∀ H', Ex H H' → Q (.str (SX.S (cod i))) H'
def ntx (n : Int × Int) : List Nat := cod n.1 ++ [112] ++ cod n.2
def spNt (K : PySem.W.Frag) : Sp := fun vs H Q _ => ∃ v n, vs = [v] ∧ Gn K H v n 2000 ∧ ∀ H', Ex H H' → Q (.str (SX.S (ntx n))) H'
theorem dig_len_bd {n : Nat} (h : n < 2 ^ 3000) : (dig n).length ≤ 1000 := dig_len (k := 999) (Nat.lt_of_lt_of_le h (by
  have e : (2 : Nat) ^ 3000 = (2 ^ 3) ^ 1000 := by rw [← Nat.pow_mul]
  rw [e]
  exact Nat.pow_le_pow_left (by decide) 1000))
theorem cod_len {i : Int} (h : i.natAbs < 2 ^ 3000) : (cod i).length ≤ 1001 := by
  unfold cod
  have := dig_len_bd h
  by_cases z : i < 0
  · rw [if_pos z, List.length_cons]; omega
  · rw [if_neg z]; omega
theorem cat_ok {a b : List Nat} (h : a.length + b.length ≤ 100000) : (SX.S a).length + (SX.S b).length ≤ sizeLine := by
  rw [SX.S_len, SX.S_len, sizeLine_eq]
  omega
theorem iop_mulX {X : Cx} : OpR X (inplaceOp .Mult) (rI CMulX fun i j => .int (i * j)) := opI fun _ _ _ _ _ _ _ hc q => imul_int q hc.ok
abbrev s_is_number : Stmt := topS 7
theorem sc_is_number : FnScope ["thing", "m", "e"] ["thing"] (defScope s_is_number) := ⟨rfl, rfl, rfl, by decide +kernel, rfl, by decide +kernel, by decide +kernel⟩
abbrev s_need_number : Stmt := topS 8
theorem sc_need_number : FnScope ["thing"] ["thing"] (defScope s_need_number) := ⟨rfl, rfl, rfl, by decide +kernel, rfl, by decide +kernel, by decide +kernel⟩
abbrev s_lowered : Stmt := topS 9
theorem sc_lowered : FnScope ["m", "e", "noughts"] ["m", "e"] (defScope s_lowered) := ⟨rfl, rfl, rfl, by decide +kernel, rfl, by decide +kernel, by decide +kernel⟩
abbrev s_power_of : Stmt := topS 4
theorem sc_power_of : FnScope ["base", "k", "power", "place"] ["base", "k"] (defScope s_power_of) := ⟨rfl, rfl, rfl, by decide +kernel, rfl, by decide +kernel, by decide +kernel⟩
abbrev s_figures_of : Stmt := topS 23
theorem sc_figures_of : FnScope ["size", "parts", "part"] ["size"] (defScope s_figures_of) := ⟨rfl, rfl, rfl, by decide +kernel, rfl, by decide +kernel, by decide +kernel⟩
abbrev s_whole_text : Stmt := topS 18
theorem sc_whole_text : FnScope ["whole"] ["whole"] (defScope s_whole_text) := ⟨rfl, rfl, rfl, by decide +kernel, rfl, by decide +kernel, by decide +kernel⟩
abbrev s_number_text : Stmt := topS 14
theorem sc_number_text : FnScope ["number", "m", "e"] ["number"] (defScope s_number_text) := ⟨rfl, rfl, rfl, by decide +kernel, rfl, by decide +kernel, by decide +kernel⟩
abbrev s_is_figures : Stmt := topS 20
theorem sc_is_figures : FnScope ["text"] ["text"] (defScope s_is_figures) := ⟨rfl, rfl, rfl, by decide +kernel, rfl, by decide +kernel, by decide +kernel⟩
abbrev s_is_size : Stmt := topS 21
theorem sc_is_size : FnScope ["text"] ["text"] (defScope s_is_size) := ⟨rfl, rfl, rfl, by decide +kernel, rfl, by decide +kernel, by decide +kernel⟩
abbrev s_size_from : Stmt := topS 22
theorem sc_size_from : FnScope ["figures", "first", "size", "at"] ["figures"] (defScope s_size_from) := ⟨rfl, rfl, rfl, by decide +kernel, rfl, by decide +kernel, by decide +kernel⟩
abbrev s_whole_of : Stmt := topS 19
theorem sc_whole_of : FnScope ["text", "size"] ["text"] (defScope s_whole_of) := ⟨rfl, rfl, rfl, by decide +kernel, rfl, by decide +kernel, by decide +kernel⟩
abbrev s_read_number : Stmt := topS 15
theorem sc_read_number : FnScope ["text", "before", "dividing", "behind", "number"] ["text"] (defScope s_read_number) := ⟨rfl, rfl, rfl, by decide +kernel, rfl, by decide +kernel, by decide +kernel⟩
abbrev s_decimal_text : Stmt := topS 16
theorem sc_decimal_text : FnScope ["number", "m", "e", "sign", "figures"] ["number"] (defScope s_decimal_text) := ⟨rfl, rfl, rfl, by decide +kernel, rfl, by decide +kernel, by decide +kernel⟩
abbrev s_read_decimal : Stmt := topS 17
theorem sc_read_decimal : FnScope ["text", "before", "dot", "behind", "whole", "fives"] ["text"] (defScope s_read_decimal) := ⟨rfl, rfl, rfl, by decide +kernel, rfl, by decide +kernel, by decide +kernel⟩
abbrev s_law_fives : Stmt := topS 25
theorem sc_law_fives : FnScope ["_law_k", "_law_found", "_law_turn"] ["_law_k"] (defScope s_law_fives) := ⟨rfl, rfl, rfl, by decide +kernel, rfl, by decide +kernel, by decide +kernel⟩
abbrev s_law_mixed : Stmt := topS 26
theorem sc_law_mixed : FnScope ["_law_cell_here", "_law_k", "_law_mix"] ["_law_cell_here", "_law_k"] (defScope s_law_mixed) := ⟨rfl, rfl, rfl, by decide +kernel, rfl, by decide +kernel, by decide +kernel⟩
abbrev s_law_cell : Stmt := topS 27
theorem sc_law_cell : FnScope ["_law_script", "_law_k", "_law_cell_here", "_law_found", "_law_j"] ["_law_script", "_law_k"] (defScope s_law_cell) := ⟨rfl, rfl, rfl, by decide +kernel, rfl, by decide +kernel, by decide +kernel⟩
abbrev s_law_take : Stmt := topS 28
theorem sc_law_take : FnScope ["_law_pile", "_law_size", "_law_digit"] ["_law_pile", "_law_size"] (defScope s_law_take) := ⟨rfl, rfl, rfl, by decide +kernel, rfl, by decide +kernel, by decide +kernel⟩
abbrev s_law_odd : Stmt := topS 29
theorem sc_law_odd : FnScope ["_law_m", "_law_e"] ["_law_m", "_law_e"] (defScope s_law_odd) := ⟨rfl, rfl, rfl, by decide +kernel, rfl, by decide +kernel, by decide +kernel⟩
abbrev s_law_decimal : Stmt := topS 31
theorem sc_law_decimal : FnScope ["_law_value", "_law_m", "_law_e", "_law_sign", "_law_figures"] ["_law_value"] (defScope s_law_decimal) := ⟨rfl, rfl, rfl, by decide +kernel, rfl, by decide +kernel, by decide +kernel⟩
abbrev s_law_number : Stmt := topS 30
theorem sc_law_number : FnScope ["_law_pile", "_law_way", "_law_most", "_law_far", "_law_m"] ["_law_pile"] (defScope s_law_number) := ⟨rfl, rfl, rfl, by decide +kernel, rfl, by decide +kernel, by decide +kernel⟩
abbrev s_law_good : Stmt := topS 32
theorem sc_law_good : FnScope ["_law_value", "_law_wording", "_law_tens", "_law_more"] ["_law_value"] (defScope s_law_good) := ⟨rfl, rfl, rfl, by decide +kernel, rfl, by decide +kernel, by decide +kernel⟩
abbrev s_law : Stmt := topS 33
theorem sc_law : FnScope ["_law_script", "_law_k", "_law_pile", "_law_near", "_law_every", "_law_value"] ["_law_script"] (defScope s_law) := ⟨rfl, rfl, rfl, by decide +kernel, rfl, by decide +kernel, by decide +kernel⟩
section
variable {P : Program} {w : World} {K : PySem.W.Frag} {mg : Str → Option Value} {base : Heap}
theorem ok_is_number {f : Addr} {fd : FuncData} (T : Top mg) (F : FnP K "is_number" s_is_number f fd) : FnOk P w K mg base CX0 1 f fd ["thing"] (spNum K) := by
  have sc := sc_is_number
  refine ok0 F sc (fun vs H Q E h => ?_) (fun cdv A outer s H vs Q E hr h => ?_)
  · obtain ⟨v, b, rfl, _⟩ := h
    rfl
  · obtain ⟨v, b, rfl, hn, q0⟩ := h
    have q := q0 H (Ex.refl H)
    refine ⟨_, (pss_cons (ps_if (PW.pt (pw_or (pt_not (pt_val (pe_callB call_isi (by rfl) T.isinstance (by decide +kernel) (pa_cons (pv 0) (pa_cons (pe_bltn (v := .ty "tuple") (by rfl) T.ty_tuple (by decide +kernel) rfl) pa_nil))))) (pw_or1 (pt_cmpR op_ne (pe_callB call_len (by rfl) T.len (by decide +kernel) (pa_cons (pv 0) pa_nil)) pe_int (nomark _)))))
      (pss_one (ps_ret pe_bl)) pss_nil)
    (pss_cons (ps_asg (pv 0) (pg_tup rfl (pgs_cons (pg_name (i := 1) sc.nd rfl (.inl rfl)) (pgs_cons (pg_name (i := 2) sc.nd rfl (.inl rfl)) pgs_nil))))
    (pss_cons (ps_if (PW.pt (pw_or (pt_not (pt_val (pe_callB call_isi (by rfl) T.isinstance (by decide +kernel) (pa_cons (pv 1) (pa_cons (pe_bltn (v := .ty "int") (by rfl) T.ty_int (by decide +kernel) rfl) pa_nil))))) (pw_or (pt_not (pt_val (pe_callB call_isi (by rfl) T.isinstance (by decide +kernel) (pa_cons (pv 2) (pa_cons (pe_bltn (v := .ty "int") (by rfl) T.ty_int (by decide +kernel) rfl) pa_nil))))) (pw_or (pt_cmpR op_isT (pv 2) pe_bl (nomark _)) (pw_or1 (pt_cmpR op_isT (pv 2) pe_bl (nomark _)))))))
      (pss_one (ps_ret pe_bl)) pss_nil)
    (pss_cons (ps_if (pt_truth (pe_op op_and1 (pv 1) pe_int) (fun _ => rfl))
      (pss_one (ps_ret (pe_cmpR op_notT (pv 1) pe_bl (nomark _)))) pss_nil)
    (pss_one (ps_ret (pe_and (pe_cmpR (op_eqD hr.units) (pv 1) pe_int (nomark _)) (pe_and (pe_cmpR op_eq (pv 2) pe_int (nomark _)) (pe_one (pe_cmpR op_notT (pv 1) pe_bl (nomark _))))))))))), ?_⟩
    cases hn with
    | no ty k => exact rd_isi (i := 0) rfl ty k ⟨false, rfl, iteT (iteT q)⟩
    | @len a xs h l =>
      refine rd_tup (i := 0) rfl h ⟨true, rfl, iteF ?_⟩
      refine ⟨.ref a, rfl, .ref a, xs.length, rfl, .inr ⟨xs, h, rfl⟩, rfl, _, rfl, ite2 (fun _ => q) (fun hh => absurd ?_ hh)⟩
      have e : ¬ V.int ((xs.length : Nat) : Int) = V.int 2 := fun z => l (by have := V.int.inj z; omega)
      rw [decide_eq_false e]
      rfl
    | @fst a x y b h p1 p2 =>
      refine rd_tup (i := 0) rfl h ⟨true, rfl, iteF ?_⟩
      refine ⟨.ref a, rfl, .ref a, 2, rfl, .inr ⟨[x, y], h, rfl⟩, rfl, _, rfl, iteNS rfl ?_⟩
      refine ⟨.ref a, rfl, a, [x, y], rfl, h, rfl, x, [y], rfl, y, [], rfl, rfl, ?_⟩
      cases p1 with
      | no h1 k1 k2 => exact rd_isi (i := 1) (v := x) rfl h1 k1 ⟨false, rfl, iteT (iteT q)⟩
      | bl c =>
        refine rd_isi (i := 1) (v := .bl c) rfl (ty_bl c) kit_bi ⟨true, rfl, iteF ?_⟩
        cases p2 with
        | no h1 k1 k2 => exact rd_isi (i := 2) (v := y) rfl h1 k1 ⟨false, rfl, iteT (iteT q)⟩
        | bl d =>
          refine rd_isi (i := 2) (v := .bl d) rfl (ty_bl d) kit_bi ⟨true, rfl, iteF ?_⟩
          cases d with
          | true => exact ⟨.bl true, rfl, true, rfl, rfl, _, rfl, iteT (iteT q)⟩
          | false => exact ⟨.bl false, rfl, true, rfl, rfl, _, rfl, iteF ⟨.bl false, rfl, false, rfl, rfl, _, rfl, iteT q⟩⟩
        | int e =>
          refine rd_isi (i := 2) (v := .int e) rfl (ty_int e) kit_ii ⟨true, rfl, iteF ?_⟩
          refine ⟨.int e, rfl, true, rfl, rfl, _, rfl, iteF ⟨.int e, rfl, false, rfl, rfl, _, rfl, iteF ?_⟩⟩
          cases c with
          | true => exact ⟨.bl true, rfl, rfl, .inr ⟨true, rfl, true, rfl, iteT ⟨.bl true, rfl, true, rfl, rfl, q⟩⟩⟩
          | false => 
            refine ⟨.bl false, rfl, rfl, .inr ⟨false, rfl, false, rfl, iteF ?_⟩⟩
            refine ⟨.bl false, rfl, .bool false, .int 0, .bl false, .int 0, rfl, rfl, true, by decide +kernel, iteT ?_⟩
            refine ⟨.int e, rfl, rfl, _, rfl, ite2 (fun _ => ?_) (fun h2 => ?_)⟩
            · exact ⟨.bl false, rfl, false, rfl, rfl, q⟩
            · exact q
    | @snd a x y h p1 p2 =>
      refine rd_tup (i := 0) rfl h ⟨true, rfl, iteF ?_⟩
      refine ⟨.ref a, rfl, .ref a, 2, rfl, .inr ⟨[x, y], h, rfl⟩, rfl, _, rfl, iteNS rfl ?_⟩
      refine ⟨.ref a, rfl, a, [x, y], rfl, h, rfl, x, [y], rfl, y, [], rfl, rfl, ?_⟩
      cases p1 with
      | int m =>
        refine rd_isi (i := 1) (v := .int m) rfl (ty_int m) kit_ii ⟨true, rfl, iteF ?_⟩
        cases p2 with
        | no h1 k1 k2 => exact rd_isi (i := 2) (v := y) rfl h1 k1 ⟨false, rfl, iteT (iteT q)⟩
        | bl d =>
          refine rd_isi (i := 2) (v := .bl d) rfl (ty_bl d) kit_bi ⟨true, rfl, iteF ?_⟩
          cases d with
          | true => exact ⟨.bl true, rfl, true, rfl, rfl, _, rfl, iteT (iteT q)⟩
          | false => exact ⟨.bl false, rfl, true, rfl, rfl, _, rfl, iteF ⟨.bl false, rfl, false, rfl, rfl, _, rfl, iteT q⟩⟩
    | @num a m e h =>
      refine rd_tup (i := 0) rfl h ⟨true, rfl, iteF ?_⟩
      refine ⟨.ref a, rfl, .ref a, 2, rfl, .inr ⟨[.int m, .int e], h, rfl⟩, rfl, _, rfl, iteNS rfl ?_⟩
      refine ⟨.ref a, rfl, a, [.int m, .int e], rfl, h, rfl, .int m, [.int e], rfl, .int e, [], rfl, rfl, ?_⟩
      refine rd_isi (i := 1) (v := .int m) rfl (ty_int m) kit_ii ⟨true, rfl, iteF ?_⟩
      refine rd_isi (i := 2) (v := .int e) rfl (ty_int e) kit_ii ⟨true, rfl, iteF ?_⟩
      refine ⟨.int e, rfl, true, rfl, rfl, _, rfl, iteF ⟨.int e, rfl, false, rfl, rfl, _, rfl, iteF ?_⟩⟩
      refine ⟨.int m, rfl, rfl, .inl ⟨m, rfl, _, rfl, ite2 (fun h1 => ?_) (fun h1 => ?_)⟩⟩
      · have e1 : m % 2 = 1 := by
          have : m % 2 ≠ 0 := by simpa using h1
          omega
        have e2 : isNumB m e = true := by
          unfold isNumB
          rw [decide_eq_true e1]
          rfl
        rw [e2] at q
        exact ⟨.int m, rfl, true, rfl, rfl, q⟩
      · have e1 : ¬ m % 2 = 1 := fun z => h1 (by rw [z]; rfl)
        have e2 : isNumB m e = (decide (m = 0) && decide (e = 0)) := by
          unfold isNumB
          rw [decide_eq_false e1]
          rfl
        rw [e2] at q
        refine ⟨.int m, rfl, .int m, .int 0, .int m, .int 0, rfl, rfl, decide (m = 0), by simp [PyData.eqv]; rfl, ite2 (fun h2 => ?_) (fun h2 => ?_)⟩
        · rw [h2] at q
          refine ⟨.int e, rfl, rfl, _, rfl, ite2 (fun h3 => ?_) (fun h3 => ?_)⟩
          · have e4 : e = 0 := V.int.inj (of_decide_eq_true h3)
            rw [decide_eq_true e4] at q
            exact ⟨.int m, rfl, false, rfl, rfl, q⟩
          · have e4 : ¬ e = 0 := fun z => h3 (decide_eq_true (congrArg V.int z))
            rw [decide_eq_false e4] at q
            exact q
        · rw [Bool.eq_false_iff.mpr h2] at q
          exact q
theorem ok_need_number {f f1 : Addr} {fd fd1 : FuncData} (T : Top mg) (F : FnP K "need_number" s_need_number f fd) (c_is_number : Cal P w K mg base CX0 1 "is_number" ["thing"] (spNum K) f1 fd1) : FnOk P w K mg base CX0 2 f fd ["thing"] (spNeed K) := by
  have sc := sc_need_number
  refine ok0 F sc (fun vs H Q E h => ?_) (fun cdv A outer s H vs Q E hr h => ?_)
  · obtain ⟨v, rfl, _⟩ := h
    rfl
  · obtain ⟨v, rfl, hn, q⟩ := h
    refine ⟨_, (pss_one (ps_if (pt_not (pt_val (pe_call c_is_number.ok (hr.mono (by decide)) (by rfl) c_is_number.m c_is_number.kp c_is_number.b .nil pass0 (pa_cons (pv 0) pa_nil))))
      (pss_one ps_never) pss_nil)), ?_⟩
    exact ⟨v, rfl, v, true, rfl, hn, fun H' e => ⟨true, rfl, iteF (q H' e)⟩⟩
theorem ok_lowered {f : Addr} {fd : FuncData} (T : Top mg) (F : FnP K "lowered" s_lowered f fd) : FnOk P w K mg base CX0 1 f fd ["m", "e"] spNof := by
  have sc := sc_lowered
  refine ok0 F sc (fun vs H Q E h => ?_) (fun cdv A outer s H vs Q E hr h => ?_)
  · obtain ⟨m, e, rfl, _⟩ := h
    rfl
  · obtain ⟨m, e, rfl, q⟩ := h
    refine ⟨_, (pss_cons (ps_if (pt_truth (pe_op op_and1 (pv 0) pe_int) (fun _ => rfl))
      (pss_one (ps_ret (pe_tup (pa_cons (pv 0) (pa_cons (pv 1) pa_nil))))) pss_nil)
    (pss_cons (ps_if (pt_cmpR op_eq (pv 0) pe_int (nomark _))
      (pss_one (ps_ret (pe_tup (pa_cons pe_int (pa_cons pe_int pa_nil))))) pss_nil)
    (pss_cons (ps_set (i := 2) sc.nd rfl (.inl rfl) (pe_op op_sub (pe_bits (pe_op op_and (pv 0) (pe_un un_neg (pv 0)))) pe_int))
    (pss_one (ps_ret (pe_tup (pa_cons (pe_op op_shrN (pv 0) (pv 2)) (pa_cons (pe_op op_add (pv 1) (pv 2)) pa_nil)))))))), ?_⟩
    refine ⟨.int m, rfl, rfl, .inl ⟨m, rfl, _, rfl, ite2 (fun h1 => ?_) (fun h1 => ?_)⟩⟩
    · have e1 : m % 2 = 1 := by
        have : m % 2 ≠ 0 := by simpa using h1
        omega
      have e2 : isNumB m e = true := by
        unfold isNumB
        rw [decide_eq_true e1]
        rfl
      rw [nrm_self e2] at q
      exact ⟨.int m, rfl, .int e, rfl, by show 2 ≤ sizeLine; decide, fun p hp => q _ p (Ex.new hp) hp upd_same⟩
    · refine ⟨.int m, rfl, rfl, _, rfl, ite2 (fun h0 => ?_) (fun h0 => ?_)⟩
      · have e0 : m = 0 := V.int.inj (of_decide_eq_true h0)
        subst e0
        exact ⟨by show 2 ≤ sizeLine; decide, fun p hp => q _ p (Ex.new hp) hp upd_same⟩
      · have e0 : m ≠ 0 := fun z => h0 (decide_eq_true (congrArg V.int z))
        obtain ⟨a, ha⟩ := v2_spec e0
        have en := nrm_of e ha
        have eb : Builtin.bitAnd m (-m) = 2 ^ v2 m := by
          have h1 := PySem.W.kbt_low (v2 m) a
          rw [← ha] at h1
          exact h1
        have ev : ((Builtin.Int.intBits (Builtin.bitAnd m (-m)) : Nat) : Int) - 1 = ((v2 m : Nat) : Int) := by
          rw [eb, bits_two]
          omega
        have ed : m / 2 ^ v2 m = 2 * a + 1 := by
          have := nrm_of 0 ha
          unfold nrm at this
          rw [if_neg e0] at this
          exact (Prod.mk.inj this).1
        refine ⟨.int m, rfl, .int m, rfl, m, rfl, m, -m, rfl, rfl, _, rfl, _, 1, rfl, rfl, ?_⟩
        refine ⟨.int m, rfl, _, rfl, m, v2 m, rfl, congrArg V.int ev, .int e, rfl, _, rfl, e, _, rfl, rfl, by show 2 ≤ sizeLine; decide, fun p hp => q _ p (Ex.new hp) hp ?_⟩
        rw [upd_same, en, ed, ev]
theorem ok_power_of {f : Addr} {fd : FuncData} (T : Top mg) (F : FnP K "power_of" s_power_of f fd) : FnOk P w K mg base CX0 1 f fd ["base", "k"] spPow := by
  have sc := sc_power_of
  refine ok0 F sc (fun vs H Q E h => ?_) (fun cdv A outer s H vs Q E hr h => ?_)
  · obtain ⟨b, k, rfl, _⟩ := h
    rfl
  · obtain ⟨b, k, rfl, hb, hk, q⟩ := h
    refine ⟨_, (pss_cons (ps_set (i := 2) sc.nd rfl (.inl rfl) pe_int)
    (pss_cons (ps_for PassesOwn.never rfl (pi_range3 (by rfl) T.range (pa_cons (pe_op op_sub (pe_bits (pv 1)) pe_int) (pa_cons (pe_un un_neg pe_int) (pa_cons (pe_un un_neg pe_int) pa_nil)))) (pg_name (i := 3) sc.nd rfl (.inl rfl))
      (pss_cons (ps_aug (i := 2) sc.nd rfl (.inl rfl) (pv 2) iop_mulX)
      (pss_one (ps_if (pt_truth (pe_op op_and1 (pe_op op_shrN (pv 1) (pv 3)) pe_int) (fun _ => rfl))
        (pss_one (ps_aug (i := 2) sc.nd rfl (.inl rfl) (pv 0) iop_mulX)) pss_nil))))
    (pss_one (ps_ret (pv 2))))), ?_⟩
    obtain ⟨L, hL⟩ : ∃ L, L = Builtin.Int.intBits (k : Int) := ⟨_, rfl⟩
    have L10 : L ≤ 10 := by
      rw [hL]
      exact PyProof.Rows.intBits_le (a := (k : Int)) (k := 10) (by rw [Int.natAbs_natCast]; exact Nat.lt_of_le_of_lt hk (by decide))
    have kL : k < 2 ^ L := by
      by_cases z : k = 0
      · rw [z]; exact Nat.pow_pos (by decide)
      · rw [hL, bits_of (by omega), Int.natAbs_natCast]
        exact Nat.lt_log2_self
    refine ⟨.int (k : Int), rfl, (k : Int), rfl, _, 1, rfl, rfl, 1, rfl, 1, rfl, _, -1, -1, L, rfl, ?_, ?_⟩
    · have := RgC.neg (i := ((L : Nat) : Int) - 1) (j := -1) (by omega) (by omega) (by omega) (by omega)
      rw [show (((L : Nat) : Int) - 1 - -1).toNat = L by omega] at this
      rw [← hL]
      exact this
    refine for_rangeC (fun i σ' H' => Ex H H' ∧ i ≤ L ∧ ∃ t, σ' = [some (.int b), some (.int (k : Int)), some (.int (b ^ (k / 2 ^ (L - i)))), t]) ⟨Ex.refl H, Nat.zero_le _, none, ?_⟩ (fun i σ' H' hi hp => ?_) (fun σ' H' hp => ?_)
    · rw [Nat.sub_zero, Nat.div_eq_of_lt kL, Int.pow_zero]
      rfl
    · obtain ⟨e1, _, t, rfl⟩ := hp
      rw [← hL]
      have ei : ((L : Nat) : Int) - 1 + ((i : Nat) : Int) * -1 = ((L - 1 - i : Nat) : Int) := by omega
      rw [ei]
      refine g_name ?_
      have m1 : k / 2 ^ (L - i) ≤ 1000 := Nat.le_trans (Nat.div_le_self _ _) hk
      have b3 : b.natAbs ≤ 2 ^ 3 := hb
      have x1 := pw_le b3 (k / 2 ^ (L - i))
      have x2 : (b ^ (k / 2 ^ (L - i))).natAbs ≤ 2 ^ 3000 := Nat.le_trans x1 (Nat.pow_le_pow_right (by decide) (by omega))
      have x4 : (b ^ (k / 2 ^ (L - i)) * b ^ (k / 2 ^ (L - i))).natAbs ≤ 2 ^ 6000 := by
        rw [Int.natAbs_mul, show (2 : Nat) ^ 6000 = 2 ^ 3000 * 2 ^ 3000 from Nat.pow_add 2 3000 3000]
        exact Nat.mul_le_mul x2 x2
      refine ⟨_, rfl, _, rfl, _, _, rfl, rfl, ml x2 x2 (by decide), ?_⟩
      have eL : L - i = (L - 1 - i) + 1 := by omega
      have eh : k / 2 ^ (L - i) = k / 2 ^ (L - 1 - i) / 2 := by
        rw [eL, Nat.pow_succ, Nat.div_div_eq_div_mul]
      have eL2 : L - (i + 1) = L - 1 - i := by omega
      have sh := shr_nat k (L - 1 - i)
      have m2 : k / 2 ^ (L - 1 - i) ≤ 1000 := Nat.le_trans (Nat.div_le_self _ _) hk
      rw [eL2]
      rw [eh] at x4 ⊢
      generalize k / 2 ^ (L - 1 - i) = m at *
      refine ⟨.int (k : Int), rfl, .int ((L - 1 - i : Nat) : Int), rfl, (k : Int), L - 1 - i, rfl, rfl, rfl, .inl ⟨_, rfl, _, rfl, ?_⟩⟩
      rw [sh]
      refine ite2 (fun z => ?_) (fun z => ?_)
      · have z : m = m / 2 + m / 2 + 1 := by
          have : ((m : Int) % 2) ≠ 0 := bne_iff_ne.mp z
          omega
        refine ⟨_, rfl, .int b, rfl, _, _, rfl, rfl, ml x4 b3 (by decide), e1, hi, some (.int ((L - 1 - i : Nat) : Int)), ?_⟩
        have e : b ^ m = b ^ (m / 2) * b ^ (m / 2) * b := by
          have := congrArg (fun y => b ^ y) z
          rw [show b ^ m = b ^ (m / 2 + m / 2 + 1) from this, Int.pow_succ, Int.pow_add]
        rw [e]
        rfl
      · have z : m = m / 2 + m / 2 := by
          have : (m : Int) % 2 = 0 := by
            refine Classical.byContradiction fun y => z (bne_iff_ne.mpr y)
          omega
        refine ⟨e1, hi, some (.int ((L - 1 - i : Nat) : Int)), ?_⟩
        have e : b ^ m = b ^ (m / 2) * b ^ (m / 2) := by
          have := congrArg (fun y => b ^ y) z
          rw [show b ^ m = b ^ (m / 2 + m / 2) from this, Int.pow_add]
        rw [e]
        rfl
    · obtain ⟨e1, _, t, rfl⟩ := hp
      dsimp only
      rw [Nat.sub_self, Nat.pow_zero, Nat.div_one]
      exact ⟨_, rfl, q H' e1⟩
theorem ok_figures_of {f : Addr} {fd : FuncData} {tP tT : Tok} (T : Top mg) (T_divmod : mg "divmod" = none) (m_PART : mg "PART" = some (.int 60 tP)) (m_TEN_TO_PART : mg "TEN_TO_PART" = some (.int (10 ^ 60) tT)) (F : FnP K "figures_of" s_figures_of f fd) : FnOk P w K mg base CX0 1 f fd ["size"] spFigs := by
  have sc := sc_figures_of
  refine ok0 F sc (fun vs H Q E h => ?_) (fun cdv A outer s H vs Q E hr h => ?_)
  · obtain ⟨n, rfl, _⟩ := h
    rfl
  · obtain ⟨n, rfl, hn, q⟩ := h
    refine ⟨_, (pss_cons (ps_set (i := 1) sc.nd rfl (.inl rfl) (pe_lst pa_nil))
    (pss_cons (ps_while PassesOwn.never (pt_cmpR op_ge (pv 0) (pe_glob (v := .int (10 ^ 60)) (by rfl) m_TEN_TO_PART ⟨_, rfl⟩) (nomark _))
      (pss_cons (ps_asg (pe_callB call_divmodW (by rfl) T_divmod (by decide +kernel) (pa_cons (pv 0) (pa_cons (pe_glob (v := .int (10 ^ 60)) (by rfl) m_TEN_TO_PART ⟨_, rfl⟩) pa_nil))) (pg_tup rfl (pgs_cons (pg_name (i := 0) sc.nd rfl (.inl rfl)) (pgs_cons (pg_name (i := 2) sc.nd rfl (.inl rfl)) pgs_nil))))
      (pss_one (ps_expr (pe_bm PySem.F.plainAttrs_list PySem.F.slot_list_append PySem.F.type_list_append mt_append (pv 1) (pa_cons (pe_m1 PySem.F.slot_str_zfill PySem.F.type_str_zfill mt_zfill (pe_callTy call_str_int (by rfl) T.ty_str (by decide +kernel) (pa_cons (pv 2) pa_nil)) (pe_glob (v := .int 60) (by rfl) m_PART ⟨_, rfl⟩)) pa_nil))))))
    (pss_cons (ps_expr (pe_bm PySem.F.plainAttrs_list PySem.F.slot_list_append PySem.F.type_list_append mt_append (pv 1) (pa_cons (pe_callTy call_str_int (by rfl) T.ty_str (by decide +kernel) (pa_cons (pv 0) pa_nil)) pa_nil)))
    (pss_one (ps_ret (pe_join pe_str (pe_revL (pv 1)))))))), ?_⟩
    refine ⟨by show 0 ≤ sizeLine; decide, fun R nR => ?_⟩
    have e1 := Ex.new (o := .lst []) nR
    have hR : (upd H R (.lst [])) R = some (.lst []) := upd_same
    generalize upd H R (.lst []) = H1 at e1 hR ⊢
    have p60 : (10 : Int) ^ 60 = ((10 ^ 60 : Nat) : Int) := by decide +kernel
    have toC : ∀ {H' : Hp}, (∀ b o, H b = some o → b ≠ R → H' b = some o) → Ex H H' := fun {H'} k b o hb => k b o hb (ne_of_none hb nR)
    refine q_while (fun m σ' H' => ∃ (u : Nat) (ps : List (List Nat)) (t : Option V), σ' = [some (.int (u : Int)), some (.ref R), t] ∧ Ex H H' ∧ H' R = some (.lst (ps.map fun p => V.str (SX.S p))) ∧ dig n = dig u ++ ps.reverse.flatten ∧ (∀ p ∈ ps, p.length = 60) ∧ u * 2 ^ ps.length ≤ n ∧ m = u) n ⟨n, [], none, rfl, e1, hR, by rw [List.reverse_nil, List.flatten_nil, List.append_nil], (fun p h => by cases h), by rw [List.length_nil, Nat.pow_zero, Nat.mul_one]; exact Nat.le_refl n, rfl⟩ ?_
    rintro m σ' H2 ⟨u, ps, t, rfl, e2, hR2, hd, h60, hps, hm⟩
    have upos : 0 < 2 ^ ps.length := Nat.pow_pos (by decide)
    have un : u ≤ n := Nat.le_trans (Nat.le_mul_of_pos_right u upos) hps
    have dl := dig_len_bd hn
    have psl : ps.length ≤ 1000 := by
      have h1 := congrArg List.length hd
      rw [List.length_append] at h1
      have h2 : ∀ l : List (List Nat), (∀ p ∈ l, p.length = 60) → l.length ≤ l.reverse.flatten.length := fun l => by
        induction l with
        | nil => exact fun _ => Nat.le_refl 0
        | cons a l ih =>
          intro h
          have := ih fun p hp => h p (List.mem_cons_of_mem _ hp)
          have h3 := h a List.mem_cons_self
          rw [List.reverse_cons, List.flatten_append, List.length_append, List.length_cons]
          have h4 : [a].flatten.length = 60 := by rw [List.flatten_cons, List.flatten_nil, List.append_nil]; exact h3
          omega
      have := h2 ps h60
      omega
    have ub : u < 2 ^ 3000 := Nat.lt_of_le_of_lt un hn
    refine ⟨_, et_test (ev_op (ev_var (i := 0) rfl) ev_c rv_I0), fun hz H3 e3 => ?_, fun hz H3 e3 => ?_⟩
    · have hz : (10 : Int) ^ 60 ≤ (u : Int) := of_decide_eq_true hz
      have hz2 : 10 ^ 60 ≤ u := by rw [p60] at hz; exact Int.ofNat_le.mp hz
      refine ⟨_, fun _ _ h => h, ?_⟩
      have cd : CDivP (u : Int) (10 ^ 60) := by
        refine divp_ok (by decide +kernel) ?_
        have := PyProof.Rows.intBits_le (a := (u : Int)) (k := 3000) (by rw [Int.natAbs_natCast]; exact ub)
        omega
      refine ⟨.int (u : Int), rfl, (u : Int), 10 ^ 60, rfl, cd, fun p hp => ?_⟩
      have e4 := Ex.new (o := .tup [.int ((u : Int) / 10 ^ 60), .int ((u : Int) % 10 ^ 60)]) hp
      refine ⟨p, _, rfl, st_of upd_same, rfl, _, _, rfl, _, [], rfl, rfl, ?_⟩
      have hR4 := (e3.trans e4) _ _ hR2
      have e14 := (e2.trans e3).trans e4
      generalize upd H3 p (.tup [.int ((u : Int) / 10 ^ 60), .int ((u : Int) % 10 ^ 60)]) = H4 at hR4 e14 ⊢
      have q1 : (u : Int) / 10 ^ 60 = ((u / 10 ^ 60 : Nat) : Int) := by rw [p60]; rfl
      have q2 : (u : Int) % 10 ^ 60 = ((u % 10 ^ 60 : Nat) : Int) := by rw [p60]; rfl
      dsimp only
      rw [q1, q2]
      have r60 : u % 10 ^ 60 < 10 ^ 60 := Nat.mod_lt _ (Nat.pow_pos (by decide))
      have sds := dig_split 60 u hz2
      have ez : Txt.zfill (PySem.Str.ofString (toString ((u % 10 ^ 60 : Nat) : Int))) 60 = SX.S (pad 60 (u % 10 ^ 60)) := by
        rw [ts_nat, (pad_zeros 59 _ r60).2]
        exact zfill_S (k := 60) (dig_fig _) (List.ne_nil_of_length_pos (dig_pos _))
      have hq10 : u / 10 ^ 60 * 2 ≤ u := by
        have h1 := Nat.div_mul_le_self u (10 ^ 60)
        have h2 : u / 10 ^ 60 * 2 ≤ u / 10 ^ 60 * 10 ^ 60 := Nat.mul_le_mul_left _ (by decide +kernel)
        omega
      have hqlt : u / 10 ^ 60 < u := Nat.div_lt_self (Nat.lt_of_lt_of_le (Nat.pow_pos (by decide)) hz2) (by decide +kernel)
      generalize u % 10 ^ 60 = r at *
      generalize u / 10 ^ 60 = v at *
      refine ⟨.ref R, rfl, .inl ⟨rfl, _, sq_of hR4⟩, ?_⟩
      have rlog : ((r : Int)).natAbs.log2 < 1920 := by
        rw [Int.natAbs_natCast]
        exact PySem.Flt.log2_lt_of (by decide) (Nat.lt_trans (Nat.lt_of_lt_of_le r60 (by decide +kernel : 10 ^ 60 ≤ 2 ^ 200)) (Nat.pow_lt_pow_right (by decide) (by decide)))
      refine ⟨.int (r : Int), rfl, (r : Int), rfl, rlog, ⟨_, rfl⟩, _, _, rfl, rfl, by decide, ?_⟩
      refine ⟨R, _, _, rfl, rfl, hR4, sz_lt (by rw [List.length_map]; omega), ?_⟩
      refine ⟨v, by omega, v, ps ++ [pad 60 r], some (.int (r : Int)), rfl, e14.mut nR, ?_, ?_, fun p hp => ?_, ?_, rfl⟩
      · rw [ez, List.map_append]
        exact upd_same
      · rw [hd, sds, List.reverse_append, List.append_assoc]
        rfl
      · rcases List.mem_append.mp hp with h | h
        · exact h60 p h
        · rw [List.mem_singleton.mp h, pad_len]
      · rw [List.length_append, List.length_singleton, Nat.pow_succ, Nat.mul_comm _ 2, ← Nat.mul_assoc]
        exact Nat.le_trans (Nat.mul_le_mul_right _ hq10) hps
    · have hz : ¬ (10 : Int) ^ 60 ≤ (u : Int) := of_decide_eq_false hz
      have hz2 : u < 10 ^ 60 := by
        rw [p60] at hz
        exact Nat.lt_of_not_le fun y => hz (Int.ofNat_le.mpr y)
      have hR3 := e3 _ _ hR2
      have e13 := e2.trans e3
      refine ⟨.ref R, rfl, .inl ⟨rfl, _, sq_of hR3⟩, ?_⟩
      have ulog : ((u : Int)).natAbs.log2 < 1920 := by
        rw [Int.natAbs_natCast]
        exact PySem.Flt.log2_lt_of (by decide) (Nat.lt_trans (Nat.lt_of_lt_of_le hz2 (by decide +kernel : 10 ^ 60 ≤ 2 ^ 200)) (Nat.pow_lt_pow_right (by decide) (by decide)))
      refine ⟨.int (u : Int), rfl, (u : Int), rfl, ulog, ?_⟩
      refine ⟨R, _, _, rfl, rfl, hR3, sz_lt (by rw [List.length_map]; omega), ?_⟩
      have e4 : Ex H (upd H3 R (.lst ((ps.map fun p => V.str (SX.S p)) ++ [.str (PySem.Str.ofString (toString (u : Int)))]))) := e13.mut nR
      have hR4 : (upd H3 R (.lst ((ps.map fun p => V.str (SX.S p)) ++ [.str (PySem.Str.ofString (toString (u : Int)))]))) R = some (.lst ((ps.map fun p => V.str (SX.S p)) ++ [.str (PySem.Str.ofString (toString (u : Int)))])) := upd_same
      dsimp only
      generalize upd H3 R (.lst ((ps.map fun p => V.str (SX.S p)) ++ [.str (PySem.Str.ofString (toString (u : Int)))])) = H4 at e4 hR4 ⊢
      refine ⟨⟨_, rfl⟩, .ref R, rfl, R, _, rfl, sq_of hR4, fun p hp => ?_⟩
      have el : ((ps.map fun p => V.str (SX.S p)) ++ [V.str (PySem.Str.ofString (toString (u : Int)))]).reverse = (((dig u :: ps.reverse).map SX.S).map V.str) := by
        rw [ts_nat, List.reverse_append, List.map_map, List.map_cons, ← List.map_reverse]
        rfl
      have hjl : TL.joinL [] (dig u :: ps.reverse) = dig n := by
        rw [joinL_nil, List.flatten_cons, hd]
      rw [el]
      refine ⟨_, p, (dig u :: ps.reverse).map SX.S, rfl, rfl, .inl (sq_of upd_same), ?_, ?_⟩
      · rw [SX.lens, ← List.length_flatten, List.flatten_cons, ← hd]
        show (dig n).length + ((dig u :: ps.reverse).map SX.S).length * 0 ≤ 16777216
        omega
      · have ej : Txt.join (SX.S []) ((dig u :: ps.reverse).map SX.S) = SX.S (dig n) := by rw [SX.join_S, hjl]
        have := q (upd H4 p (.lst (((dig u :: ps.reverse).map SX.S).map V.str))) (e4.trans (Ex.new hp))
        rw [← ej] at this
        exact this
theorem ok_whole_text {f f1 : Addr} {fd fd1 : FuncData} (T : Top mg) (F : FnP K "whole_text" s_whole_text f fd) (c_figures_of : Cal P w K mg base CX0 1 "figures_of" ["size"] spFigs f1 fd1) : FnOk P w K mg base CX0 2 f fd ["whole"] spWt := by
  have sc := sc_whole_text
  refine ok0 F sc (fun vs H Q E h => ?_) (fun cdv A outer s H vs Q E hr h => ?_)
  · obtain ⟨i, rfl, _⟩ := h
    rfl
  · obtain ⟨i, rfl, hi, q⟩ := h
    refine ⟨_, (pss_one (ps_ret (pe_ifExp (pt_cmpR op_lt (pv 0) pe_int (nomark _)) (pe_op op_add_str pe_str (pe_call c_figures_of.ok (hr.mono (by decide)) (by rfl) c_figures_of.m c_figures_of.kp c_figures_of.b .nil pass0 (pa_cons (pe_un un_neg (pv 0)) pa_nil))) (pe_call c_figures_of.ok (hr.mono (by decide)) (by rfl) c_figures_of.m c_figures_of.kp c_figures_of.b .nil pass0 (pa_cons (pv 0) pa_nil))))), ?_⟩
    unfold cod at q
    have dl := dig_len_bd hi
    refine ⟨.int i, rfl, i, 0, rfl, rfl, _, rfl, ite2 (fun z => ?_) (fun z => ?_)⟩
    · have z : i < 0 := of_decide_eq_true z
      rw [if_pos z] at q
      refine ⟨.int i, rfl, i, rfl, i.natAbs, congrArg (fun y => [V.int y]) (show -i = ((i.natAbs : Nat) : Int) by omega), hi, fun H1 e1 => ⟨_, _, rfl, rfl, cat_ok (a := [45]) (by show 1 + _ ≤ 100000; omega), ?_⟩⟩
      have e : SX.S [45] ++ SX.S (dig i.natAbs) = SX.S (45 :: dig i.natAbs) := SX.S_cat [45] (dig i.natAbs)
      have := q H1 e1
      rw [← e] at this
      exact this
    · have z : ¬ i < 0 := fun y => z (decide_eq_true y)
      rw [if_neg z] at q
      exact ⟨.int i, rfl, i.natAbs, congrArg (fun y => [V.int y]) (show i = ((i.natAbs : Nat) : Int) by omega), hi, q⟩
theorem ok_number_text {f f1 f2 : Addr} {fd fd1 fd2 : FuncData} (T : Top mg) (F : FnP K "number_text" s_number_text f fd) (c_need_number : Cal P w K mg base CX0 2 "need_number" ["thing"] (spNeed K) f1 fd1) (c_whole_text : Cal P w K mg base CX0 2 "whole_text" ["whole"] spWt f2 fd2) : FnOk P w K mg base CX0 3 f fd ["number"] (spNt K) := by
  have sc := sc_number_text
  refine ok0 F sc (fun vs H Q E h => ?_) (fun cdv A outer s H vs Q E hr h => ?_)
  · obtain ⟨v, n, rfl, _⟩ := h
    rfl
  · obtain ⟨v, n, rfl, gv, q⟩ := h
    refine ⟨_, (pss_cons (ps_expr (pe_call c_need_number.ok (hr.mono (by decide)) (by rfl) c_need_number.m c_need_number.kp c_need_number.b .nil pass0 (pa_cons (pv 0) pa_nil)))
    (pss_cons (ps_asg (pv 0) (pg_tup rfl (pgs_cons (pg_name (i := 1) sc.nd rfl (.inl rfl)) (pgs_cons (pg_name (i := 2) sc.nd rfl (.inl rfl)) pgs_nil))))
    (pss_one (ps_ret (pe_op op_add_str (pe_op op_add_str (pe_call c_whole_text.ok (hr.mono (by decide)) (by rfl) c_whole_text.m c_whole_text.kp c_whole_text.b .nil pass0 (pa_cons (pv 1) pa_nil)) pe_str) (pe_call c_whole_text.ok (hr.mono (by decide)) (by rfl) c_whole_text.m c_whole_text.kp c_whole_text.b .nil pass0 (pa_cons (pv 2) pa_nil))))))), ?_⟩
    have b1 : n.1.natAbs < 2 ^ 3000 := Nat.lt_of_lt_of_le gv.bd.1 (Nat.pow_le_pow_right (by decide) (by decide))
    have b2 : n.2.natAbs < 2 ^ 3000 := Nat.lt_of_le_of_lt gv.bd.2 (Nat.lt_of_lt_of_le (by decide : 2000 < 2 ^ 11) (Nat.pow_le_pow_right (by decide) (by decide)))
    have l1 := cod_len b1
    have l2 := cod_len b2
    refine ⟨v, rfl, v, rfl, gv.num, fun H1 e1 => ?_⟩
    obtain ⟨r, rfl, hr1⟩ := (gv.ex e1).at_
    refine ⟨.ref r, rfl, r, [.int n.1, .int n.2], rfl, hr1, rfl, .int n.1, [.int n.2], rfl, .int n.2, [], rfl, rfl, ?_⟩
    refine ⟨.int n.1, rfl, n.1, rfl, b1, fun H2 e2 => ⟨_, _, rfl, rfl, cat_ok (b := [112]) (by show _ + 1 ≤ 100000; omega), .int n.2, rfl, n.2, rfl, b2, fun H3 e3 => ?_⟩⟩
    have e : SX.S (cod n.1) ++ SX.S [112] ++ SX.S (cod n.2) = SX.S (ntx n) := by
      rw [SX.S_cat, SX.S_cat]
      rfl
    have q := q H3 ((e1.trans e2).trans e3)
    rw [← e] at q
    refine ⟨_, _, rfl, rfl, ?_, q⟩
    rw [SX.S_cat]
    refine cat_ok ?_
    rw [List.length_append]
    show _ + 1 + _ ≤ 100000
    omega
def spIsF : Sp := fun vs H Q _ => ∃ l : List Nat, vs = [.str (SX.S l)] ∧ Fig l ∧ l ≠ [] ∧ Q (.bl true) H
theorem ok_is_figures {f : Addr} {fd : FuncData} (T : Top mg) (F : FnP K "is_figures" s_is_figures f fd) : FnOk P w K mg base CX0 1 f fd ["text"] spIsF := by
  have sc := sc_is_figures
  refine ok0 F sc (fun vs H Q E h => ?_) (fun cdv A outer s H vs Q E hr h => ?_)
  · obtain ⟨l, rfl, _⟩ := h
    rfl
  · obtain ⟨l, rfl, hf, hne, q⟩ := h
    refine ⟨_, (pss_one (ps_ret (pe_and (pe_m0 PySem.F.slot_str_isascii PySem.F.type_str_isascii mt_isascii (pv 0)) (pe_one (pe_m0 PySem.F.slot_str_isdigit PySem.F.type_str_isdigit mt_isdigit (pv 0)))))), ?_⟩
    refine ⟨.str (SX.S l), rfl, ⟨_, rfl⟩, SX.S l, rfl, rfl, trivial, true, by rw [isascii_S hf], iteT ⟨.str (SX.S l), rfl, ⟨_, rfl⟩, SX.S l, rfl, rfl, trivial, ?_⟩⟩
    rw [isdigit_S hf hne]
    exact q
def NoLead (l : List Nat) : Prop := l = [48] ∨ l.head? ≠ some 48
def spIsS : Sp := fun vs H Q _ => ∃ l : List Nat, vs = [.str (SX.S l)] ∧ Fig l ∧ l ≠ [] ∧ NoLead l ∧ Q (.bl true) H
theorem ok_is_size {f f1 : Addr} {fd fd1 : FuncData} (T : Top mg) (F : FnP K "is_size" s_is_size f fd) (c_is_figures : Cal P w K mg base CX0 1 "is_figures" ["text"] spIsF f1 fd1) : FnOk P w K mg base CX0 2 f fd ["text"] spIsS := by
  have sc := sc_is_size
  refine ok0 F sc (fun vs H Q E h => ?_) (fun cdv A outer s H vs Q E hr h => ?_)
  · obtain ⟨l, rfl, _⟩ := h
    rfl
  · obtain ⟨l, rfl, hf, hne, hl, q⟩ := h
    refine ⟨_, (pss_one (ps_ret (pe_and (pe_call c_is_figures.ok (hr.mono (by decide)) (by rfl) c_is_figures.m c_is_figures.kp c_is_figures.b .nil pass0 (pa_cons (pv 0) pa_nil)) (pe_one (pe_or (pe_cmpR op_eq (pv 0) pe_str (nomark _)) (pe_one (pe_not (pe_m1 PySem.F.slot_str_startswith PySem.F.type_str_startswith mt_startswith (pv 0) pe_str)))))))), ?_⟩
    refine ⟨.str (SX.S l), rfl, l, rfl, hf, hne, true, rfl, iteT ⟨.str (SX.S l), rfl, rfl, _, rfl, ?_⟩⟩
    by_cases z : l = [48]
    · rw [z, show decide (V.str (SX.S [48]) = V.str "0") = true from decide_eq_true rfl]
      exact iteT q
    · have e : decide (V.str (SX.S l) = V.str "0") = false := decide_eq_false fun y => z (SX.S_inj (V.str.inj y))
      rw [e]
      refine iteF ⟨.str (SX.S l), rfl, ⟨_, rfl⟩, SX.S l, SX.S [48], rfl, rfl, _, rfl, ?_⟩
      rw [starts_S, decide_eq_false (hl.resolve_left z)]
      exact q
theorem rg60 : ∀ f : _root_.Fin 60, ∀ n : _root_.Fin 34, Builtin.Range.small (f.val : Int) ((f.val + 60 * n.val : Nat) : Int) 60 = true ∧ Builtin.Range.rangeSize (f.val : Int) ((f.val + 60 * n.val : Nat) : Int) 60 = n.val := by decide +kernel
theorem rg_part {len : Nat} (h : len ≤ 2000) : RgC ((len % 60 : Nat) : Int) (len : Int) 60 (len / 60) := by
  have r := rg60 ⟨len % 60, Nat.mod_lt _ (by decide)⟩ ⟨len / 60, by omega⟩
  have e : len % 60 + 60 * (len / 60) = len := Nat.mod_add_div len 60
  dsimp only at r
  rw [e] at r
  exact ⟨by decide, by decide, r.1, r.2⟩
theorem slice_mid {l : List Nat} {a b : Nat} (hab : a ≤ b) (hb : b ≤ l.length) : Txt.slice (SX.S l) (some (a : Int)) (some (b : Int)) = SX.S ((l.drop a).take (b - a)) := TL.ext_tl (PySem.W.os_slice (t := SX.S l) hab (by rw [SX.S_len]; exact hb))
def spSf : Sp := fun vs H Q _ => ∃ l : List Nat, vs = [.str (SX.S l)] ∧ Fig l ∧ l.length ≤ 2000 ∧ ∀ H', Ex H H' → Q (.int (val l : Int)) H'
theorem fig_sub {l m : List Nat} (h : Fig l) (hs : ∀ c ∈ m, c ∈ l) : Fig m := fun c hc => h c (hs c hc)
theorem val_bd {l : List Nat} (h : Fig l) : val l < 10 ^ l.length := by
  induction hn : l.length generalizing l with
  | zero =>
    have : l = [] := List.length_eq_zero_iff.mp hn
    rw [this]
    decide
  | succ k ih =>
    have hne : l ≠ [] := fun z => by rw [z] at hn; cases hn
    have e := (List.dropLast_concat_getLast hne).symm
    have hf : Fig l.dropLast := fig_sub h fun c hc => List.dropLast_subset l hc
    have hl := h _ (List.getLast_mem hne)
    have i := ih hf (by rw [List.length_dropLast, hn]; rfl)
    rw [e, val_snoc, Nat.pow_succ]
    omega
theorem ok_size_from {f : Addr} {fd : FuncData} {tP tT : Tok} (T : Top mg) (m_PART : mg "PART" = some (.int 60 tP)) (m_TEN_TO_PART : mg "TEN_TO_PART" = some (.int (10 ^ 60) tT)) (F : FnP K "size_from" s_size_from f fd) : FnOk P w K mg base CX0 1 f fd ["figures"] spSf := by
  have sc := sc_size_from
  refine ok0 F sc (fun vs H Q E h => ?_) (fun cdv A outer s H vs Q E hr h => ?_)
  · obtain ⟨l, rfl, _⟩ := h
    rfl
  · obtain ⟨l, rfl, hf, hl, q⟩ := h
    refine ⟨_, (pss_cons (ps_set (i := 1) sc.nd rfl (.inl rfl) (pe_op op_mod (pe_callB call_len (by rfl) T.len (by decide +kernel) (pa_cons (pv 0) pa_nil)) (pe_glob (v := .int 60) (by rfl) m_PART ⟨_, rfl⟩)))
    (pss_cons (ps_set (i := 2) sc.nd rfl (.inl rfl) (pe_callTy call_int_str (by rfl) T.ty_int (by decide +kernel) (pa_cons (pe_op op_add_str pe_str (pe_slice C8.sl_txt (pv 0) po_none (po_some (pv 1)))) pa_nil)))
    (pss_cons (ps_for PassesOwn.never rfl (pi_range3 (by rfl) T.range (pa_cons (pv 1) (pa_cons (pe_callB call_len (by rfl) T.len (by decide +kernel) (pa_cons (pv 0) pa_nil)) (pa_cons (pe_glob (v := .int 60) (by rfl) m_PART ⟨_, rfl⟩) pa_nil)))) (pg_name (i := 3) sc.nd rfl (.inl rfl))
      (pss_one (ps_set (i := 2) sc.nd rfl (.inl rfl) (pe_op op_add (pe_op op_mulX (pv 2) (pe_glob (v := .int (10 ^ 60)) (by rfl) m_TEN_TO_PART ⟨_, rfl⟩)) (pe_callTy call_int_str (by rfl) T.ty_int (by decide +kernel) (pa_cons (pe_slice C8.sl_txt (pv 0) (po_some (pv 3)) (po_some (pe_op op_add (pv 3) (pe_glob (v := .int 60) (by rfl) m_PART ⟨_, rfl⟩)))) pa_nil))))))
    (pss_one (ps_ret (pv 2)))))), ?_⟩
    have sl : (SX.S l).length ≤ sizeLine := by rw [SX.S_len, sizeLine_eq]; omega
    have lenV : LenV K (.str (SX.S l)) H l.length := ⟨sl, (SX.S_len l).symm⟩
    have em : (l.length : Int) % 60 = ((l.length % 60 : Nat) : Int) := by omega
    refine ⟨.str (SX.S l), rfl, _, l.length, rfl, lenV, _, _, rfl, rfl, by show (0 : Int) < 60; decide, ?_⟩
    dsimp only
    rw [em]
    generalize hfst : l.length % 60 = a
    have a60 : a < 60 := by omega
    have al : a ≤ l.length := by omega
    have s1 : Txt.slice (SX.S l) none (some (a : Int)) = SX.S (l.take a) := SX.slice_to (Int.natCast_nonneg a)
    have c1 : SX.S [48] ++ SX.S (l.take a) = SX.S (48 :: l.take a) := SX.S_cat [48] (l.take a)
    have ft : Fig (48 :: l.take a) := fun c hc => by
      rcases List.mem_cons.mp hc with h | h
      · omega
      · exact hf c (List.mem_of_mem_take h)
    have i1 : PySem.intText? (SX.S (48 :: l.take a)) = some ((val (l.take a) : Nat) : Int) := by
      have e := PySem.intText_digits (x := SX.S (48 :: l.take a)) ft (List.cons_ne_nil _ _) (by rw [SX.S_len, List.length_cons, List.length_take]; omega)
      refine e.trans ?_
      show some ((val (48 :: l.take a) : Nat) : Int) = _
      rw [show 48 :: l.take a = [48] ++ l.take a from rfl, val_app]
      show some (((0 * _ + val (l.take a) : Nat)) : Int) = _
      rw [Nat.zero_mul, Nat.zero_add]
    have tl : (l.take a).length = a := by rw [List.length_take]; omega
    refine ⟨.str (SX.S l), rfl, .int (a : Int), rfl, (a : Int), rfl, SX.S l, rfl, sl, ?_⟩
    rw [s1]
    refine ⟨_, _, rfl, rfl, cat_ok (a := [48]) (by rw [tl]; show 1 + a ≤ 100000; omega), _, _, rfl, (congrArg PySem.intText? c1).trans i1, by
      show (SX.S [48] ++ SX.S (l.take a)).length ≤ 640
      rw [c1, SX.S_len, List.length_cons, tl]
      omega, ?_⟩
    refine ⟨.int (a : Int), rfl, .str (SX.S l), rfl, _, l.length, rfl, lenV, (a : Int), (l.length : Int), 60, l.length / 60, rfl, hfst ▸ rg_part hl, ?_⟩
    have am : a + 60 * (l.length / 60) = l.length := by rw [← hfst]; exact Nat.mod_add_div l.length 60
    refine for_rangeC (fun i σ' H' => H' = H ∧ i ≤ l.length / 60 ∧ ∃ t, σ' = [some (.str (SX.S l)), some (.int (a : Int)), some (.int ((val (l.take (a + 60 * i)) : Nat) : Int)), t]) ⟨rfl, Nat.zero_le _, none, rfl⟩ (fun i σ' H' hi hp => ?_) (fun σ' H' hp => ?_)
    · obtain ⟨rfl, _, t, rfl⟩ := hp
      refine g_name ?_
      rw [show (a : Int) + (i : Nat) * 60 = ((a + 60 * i : Nat) : Int) by omega]
      have b1 : a + 60 * i + 60 ≤ l.length := by omega
      have s2 : Txt.slice (SX.S l) (some ((a + 60 * i : Nat) : Int)) (some (((a + 60 * i : Nat) : Int) + 60)) = SX.S ((l.drop (a + 60 * i)).take 60) := by
        have := slice_mid (l := l) (a := a + 60 * i) (b := a + 60 * i + 60) (by omega) b1
        rw [show a + 60 * i + 60 - (a + 60 * i) = 60 by omega] at this
        exact this
      have l60 : ((l.drop (a + 60 * i)).take 60).length = 60 := by rw [List.length_take, List.length_drop]; omega
      have i2 : PySem.intText? (SX.S ((l.drop (a + 60 * i)).take 60)) = some ((val ((l.drop (a + 60 * i)).take 60) : Nat) : Int) := PySem.intText_digits (x := SX.S ((l.drop (a + 60 * i)).take 60)) (fun c hc => hf c (List.mem_of_mem_drop (List.mem_of_mem_take hc))) (fun z => by
        have z2 : ((l.drop (a + 60 * i)).take 60) = [] := z
        rw [z2] at l60
        cases l60) (by rw [SX.S_len, l60]; decide)
      have et : l.take (a + 60 * (i + 1)) = l.take (a + 60 * i) ++ (l.drop (a + 60 * i)).take 60 := by
        rw [show a + 60 * (i + 1) = a + 60 * i + 60 by omega, List.take_add]
      have ev : val (l.take (a + 60 * (i + 1))) = val (l.take (a + 60 * i)) * 10 ^ 60 + val ((l.drop (a + 60 * i)).take 60) := by rw [et, val_app, l60]
      have vb : ((val (l.take (a + 60 * i)) : Nat) : Int).natAbs ≤ 2 ^ 8000 := by
        rw [Int.natAbs_natCast]
        have h1 := val_bd (l := l.take (a + 60 * i)) (fun c hc => hf c (List.mem_of_mem_take hc))
        have h2 : (l.take (a + 60 * i)).length ≤ 2000 := by rw [List.length_take]; omega
        refine Nat.le_of_lt (Nat.lt_of_lt_of_le h1 (Nat.le_trans (Nat.pow_le_pow_right (by decide) h2) ?_))
        have e8 : (2 : Nat) ^ 8000 = (2 ^ 4) ^ 2000 := by rw [← Nat.pow_mul]
        rw [e8]
        exact Nat.pow_le_pow_left (by decide) 2000
      refine ⟨_, rfl, _, _, rfl, rfl, ml (b := 200) vb (by decide +kernel) (by decide), .str (SX.S l), rfl, _, rfl, _, rfl, _, rfl, _, 60, rfl, rfl, _, rfl, SX.S l, rfl, sl, ?_⟩
      dsimp only
      rw [s2]
      refine ⟨_, _, rfl, i2, by rw [SX.S_len, l60]; decide, _, _, rfl, rfl, rfl, hi, some (.int ((a + 60 * i : Nat) : Int)), ?_⟩
      rw [ev, Int.natCast_add, Int.natCast_mul]
      rfl
    · obtain ⟨rfl, _, t, rfl⟩ := hp
      dsimp only
      rw [am, List.take_length]
      exact ⟨_, rfl, q _ (Ex.refl _)⟩
theorem dig_nolead (n : Nat) : NoLead (dig n) := by
  by_cases h : n = 0
  · rw [h, dig_zero]
    exact .inl rfl
  · obtain ⟨c, r, e, h1, h2⟩ := dig_head (n := n) (by omega)
    rw [e]
    exact .inr fun z => by
      have := Option.some.inj z
      omega
theorem dig_ne (n : Nat) : dig n ≠ [] := List.ne_nil_of_length_pos (dig_pos n)
theorem cod_head (i : Int) : decide ((cod i).head? = some 45) = decide (i < 0) := by
  unfold cod
  by_cases h : i < 0
  · rw [if_pos h, decide_eq_true h]
    exact decide_eq_true rfl
  · rw [if_neg h, decide_eq_false h]
    refine decide_eq_false fun z => ?_
    cases e : dig i.natAbs with
    | nil => exact dig_ne _ e
    | cons c r =>
      rw [e] at z
      have h1 := Option.some.inj z
      have h2 := dig_fig i.natAbs c (by rw [e]; exact List.mem_cons_self)
      omega
def spWo : Sp := fun vs H Q _ => ∃ i : Int, vs = [.str (SX.S (cod i))] ∧ i.natAbs < 2 ^ 3000 ∧ ∀ H', Ex H H' → Q (.int i) H'
theorem ok_whole_of {f f1 f2 : Addr} {fd fd1 fd2 : FuncData} (T : Top mg) (F : FnP K "whole_of" s_whole_of f fd) (c_is_size : Cal P w K mg base CX0 2 "is_size" ["text"] spIsS f1 fd1) (c_size_from : Cal P w K mg base CX0 1 "size_from" ["figures"] spSf f2 fd2) : FnOk P w K mg base CX0 3 f fd ["text"] spWo := by
  have sc := sc_whole_of
  refine ok0 F sc (fun vs H Q E h => ?_) (fun cdv A outer s H vs Q E hr h => ?_)
  · obtain ⟨i, rfl, _⟩ := h
    rfl
  · obtain ⟨i, rfl, hi, q⟩ := h
    refine ⟨_, (pss_cons (ps_if (pt_not (pt_val (pe_m1 PySem.F.slot_str_startswith PySem.F.type_str_startswith mt_startswith (pv 0) pe_str)))
      (pss_one (ps_ret (pe_ifExp (pt_val (pe_call c_is_size.ok (hr.mono (by decide)) (by rfl) c_is_size.m c_is_size.kp c_is_size.b .nil pass0 (pa_cons (pv 0) pa_nil))) (pe_call c_size_from.ok (hr.mono (by decide)) (by rfl) c_size_from.m c_size_from.kp c_size_from.b .nil pass0 (pa_cons (pv 0) pa_nil)) pe_non))) pss_nil)
    (pss_cons (ps_set (i := 1) sc.nd rfl (.inl rfl) (pe_slice C8.sl_txt (pv 0) (po_some pe_int) po_none))
    (pss_one (ps_ret (pe_ifExp (PW.pt (pw_and (pt_val (pe_call c_is_size.ok (hr.mono (by decide)) (by rfl) c_is_size.m c_is_size.kp c_is_size.b .nil pass0 (pa_cons (pv 1) pa_nil))) (pw_and1 (pt_cmpR op_ne (pv 1) pe_str (nomark _))))) (pe_un un_neg (pe_call c_size_from.ok (hr.mono (by decide)) (by rfl) c_size_from.m c_size_from.kp c_size_from.b .nil pass0 (pa_cons (pv 1) pa_nil))) pe_non))))), ?_⟩
    have dl := dig_len_bd hi
    have cl := cod_len hi
    have e45 : Txt.startswith (SX.S (cod i)) (SX.S [45]) = decide (i < 0) := by rw [starts_S, cod_head]
    refine ⟨.str (SX.S (cod i)), rfl, ⟨_, rfl⟩, SX.S (cod i), SX.S [45], rfl, rfl, _, rfl, ?_⟩
    rw [e45]
    by_cases z : i < 0
    · have ec : cod i = 45 :: dig i.natAbs := if_pos z
      rw [decide_eq_true z]
      refine iteF ?_
      refine ⟨.str (SX.S (cod i)), rfl, 1, rfl, SX.S (cod i), rfl, by rw [SX.S_len, sizeLine_eq]; omega, ?_⟩
      have es : Txt.slice (SX.S (cod i)) (some 1) none = SX.S (dig i.natAbs) := by
        rw [ec]
        exact SX.slice_from (a := 45 :: dig i.natAbs) (i := 1) (by decide)
      dsimp only
      rw [es]
      refine ⟨.str (SX.S (dig i.natAbs)), rfl, dig i.natAbs, rfl, dig_fig _, dig_ne _, dig_nolead _, true, rfl, iteT ?_⟩
      refine ⟨.str (SX.S (dig i.natAbs)), rfl, rfl, _, rfl, ?_⟩
      have ne0 : decide (V.str (SX.S (dig i.natAbs)) = V.str "0") = false := decide_eq_false fun y => by
        have e := SX.S_inj (b := [48]) (V.str.inj y)
        obtain ⟨c, r, e2, h1, _⟩ := dig_head (n := i.natAbs) (by omega)
        rw [e2] at e
        have := (List.cons.inj e).1
        omega
      rw [ne0]
      refine iteT ⟨.str (SX.S (dig i.natAbs)), rfl, dig i.natAbs, rfl, dig_fig _, by omega, fun H1 e1 => ⟨_, rfl, ?_⟩⟩
      rw [val_dig]
      have e : -((i.natAbs : Nat) : Int) = i := by omega
      have := q H1 e1
      rw [← e] at this
      exact this
    · have ec : cod i = dig i.natAbs := if_neg z
      rw [decide_eq_false z]
      refine iteT ?_
      rw [ec]
      refine ⟨.str (SX.S (dig i.natAbs)), rfl, dig i.natAbs, rfl, dig_fig _, dig_ne _, dig_nolead _, true, rfl, iteT ⟨.str (SX.S (dig i.natAbs)), rfl, dig i.natAbs, rfl, dig_fig _, by omega, fun H1 e1 => ?_⟩⟩
      rw [val_dig]
      have e : ((i.natAbs : Nat) : Int) = i := by omega
      rw [e]
      exact q H1 e1
def NewT (H : Hp) (Q : VK) (vs : List V) : Prop := ∀ H' p, Ex H H' → H' p = some (.tup vs) → Q (.ref p) H'
theorem ty_strK {K : PySem.W.Frag} {H : Hp} (x : Str) : TyX K H (.str x) (.type "str") := .base (.str x)
theorem p_notin (i : Int) : (112 : Nat) ∉ cod i := fun h => by
  unfold cod at h
  by_cases z : i < 0
  · rw [if_pos z] at h
    rcases List.mem_cons.mp h with y | y
    · omega
    · have := dig_fig _ _ y
      omega
  · rw [if_neg z] at h
    have := dig_fig _ _ h
    omega
def spRn : Sp := fun vs H Q _ => ∃ n : Int × Int, vs = [.str (SX.S (ntx n))] ∧ isNumB n.1 n.2 = true ∧ Bd n 2000 ∧ NewT H Q [.int n.1, .int n.2]
theorem ok_read_number {f f1 f2 : Addr} {fd fd1 fd2 : FuncData} (T : Top mg) (F : FnP K "read_number" s_read_number f fd) (c_whole_of : Cal P w K mg base CX0 3 "whole_of" ["text"] spWo f1 fd1) (c_is_number : Cal P w K mg base CX0 1 "is_number" ["thing"] (spNum K) f2 fd2) : FnOk P w K mg base CX0 4 f fd ["text"] spRn := by
  have sc := sc_read_number
  refine ok0 F sc (fun vs H Q E h => ?_) (fun cdv A outer s H vs Q E hr h => ?_)
  · obtain ⟨n, rfl, _⟩ := h
    rfl
  · obtain ⟨n, rfl, hn, hb, q⟩ := h
    refine ⟨_, (pss_cons (ps_if (pt_not (pt_val (pe_callB call_isi (by rfl) T.isinstance (by decide +kernel) (pa_cons (pv 0) (pa_cons (pe_bltn (v := .ty "str") (by rfl) T.ty_str (by decide +kernel) rfl) pa_nil)))))
      (pss_one ps_never) pss_nil)
    (pss_cons (ps_asg (pe_partition (pv 0) pe_str) (pg_tup rfl (pgs_cons (pg_name (i := 1) sc.nd rfl (.inl rfl)) (pgs_cons (pg_name (i := 2) sc.nd rfl (.inl rfl)) (pgs_cons (pg_name (i := 3) sc.nd rfl (.inl rfl)) pgs_nil)))))
    (pss_cons (ps_set (i := 4) sc.nd rfl (.inl rfl) (pe_tup (pa_cons (pe_call c_whole_of.ok (hr.mono (by decide)) (by rfl) c_whole_of.m c_whole_of.kp c_whole_of.b .nil pass0 (pa_cons (pv 1) pa_nil)) (pa_cons (pe_call c_whole_of.ok (hr.mono (by decide)) (by rfl) c_whole_of.m c_whole_of.kp c_whole_of.b .nil pass0 (pa_cons (pv 3) pa_nil)) pa_nil))))
    (pss_cons (ps_if (pt_not (pt_val (pe_call c_is_number.ok (hr.mono (by decide)) (by rfl) c_is_number.m c_is_number.kp c_is_number.b .nil pass0 (pa_cons (pv 4) pa_nil))))
      (pss_one ps_never) pss_nil)
    (pss_one (ps_ret (pv 4))))))), ?_⟩
    have b1 : n.1.natAbs < 2 ^ 3000 := Nat.lt_of_lt_of_le hb.1 (Nat.pow_le_pow_right (by decide) (by decide))
    have b2 : n.2.natAbs < 2 ^ 3000 := Nat.lt_of_le_of_lt hb.2 (Nat.lt_of_lt_of_le (by decide : 2000 < 2 ^ 11) (Nat.pow_le_pow_right (by decide) (by decide)))
    have l1 := cod_len b1
    have l2 := cod_len b2
    refine rd_isi (i := 0) rfl (ty_strK _) (kit_ty (by decide +kernel : kitB "str" "str" = some true)) ⟨true, rfl, iteF ?_⟩
    have ep : Txt.partition (SX.S (ntx n)) (SX.S [112]) = (SX.S (cod n.1), SX.S [112], SX.S (cod n.2)) := by
      have e : ntx n = cod n.1 ++ ([112] ++ cod n.2) := List.append_assoc ..
      rw [e]
      exact SX.partition_some (by decide) (SX.par_head (sep := []) (cod n.2) (p_notin n.1))
    have nl : (ntx n).length ≤ 3000 := by
      unfold ntx
      rw [List.length_append, List.length_append]
      show _ + 1 + _ ≤ 3000
      omega
    refine ⟨.str (SX.S (ntx n)), rfl, ⟨_, rfl⟩, SX.S (ntx n), SX.S [112], rfl, rfl, rfl, by rw [SX.S_len, sizeLine_eq]; omega, fun p hp => ?_⟩
    rw [ep]
    have e1 := Ex.new (o := .tup [.str (SX.S (cod n.1)), .str (SX.S [112]), .str (SX.S (cod n.2))]) hp
    refine ⟨p, _, rfl, st_of upd_same, rfl, _, _, rfl, _, _, rfl, _, [], rfl, rfl, ?_⟩
    dsimp only
    generalize upd H p (.tup [.str (SX.S (cod n.1)), .str (SX.S [112]), .str (SX.S (cod n.2))]) = H1 at e1 ⊢
    refine ⟨.str (SX.S (cod n.1)), rfl, n.1, rfl, b1, fun H2 e2 => ⟨.str (SX.S (cod n.2)), rfl, n.2, rfl, b2, fun H3 e3 => ⟨by show 2 ≤ sizeLine; decide, fun p2 hp2 => ?_⟩⟩⟩
    have e4 := Ex.new (o := .tup [.int n.1, .int n.2]) hp2
    have h4 : SqT K (upd H3 p2 (.tup [.int n.1, .int n.2])) p2 [.int n.1, .int n.2] := st_of upd_same
    have h5 : (upd H3 p2 (.tup [.int n.1, .int n.2])) p2 = some (.tup [.int n.1, .int n.2]) := upd_same
    generalize upd H3 p2 (.tup [.int n.1, .int n.2]) = H4 at e4 h4 h5 ⊢
    have ni : NumIs K H4 (.ref p2) true := hn ▸ NumIs.num h4
    refine ⟨.ref p2, rfl, .ref p2, true, rfl, ni, fun H5 e5 => ⟨true, rfl, iteF ⟨.ref p2, rfl, q H5 p2 (((e1.trans e2).trans (e3.trans e4)).trans e5) (e5 _ _ h5)⟩⟩⟩
def sgnT (m : Int) : List Nat := if m < 0 then [45] else []
def dN (n : Int × Int) : Nat := n.1.natAbs * 5 ^ (-n.2).toNat
def dtx (n : Int × Int) : List Nat := if 0 ≤ n.2 then sgnT n.1 ++ dig (n.1.natAbs * 2 ^ n.2.toNat) else sgnT n.1 ++ bef (dN n) (-n.2).toNat ++ [46] ++ beh (dN n) (-n.2).toNat
theorem sgnT_len (m : Int) : (sgnT m).length ≤ 1 := by
  unfold sgnT
  split
  · exact Nat.le_refl 1
  · exact Nat.zero_le 1
theorem slice_neg_to {a b : List Nat} (h : 1 ≤ b.length) : Txt.slice (SX.S (a ++ b)) none (some (-(b.length : Int))) = SX.S a := by
  have hl : (SX.S (a ++ b)).length = a.length + b.length := by rw [SX.S_len, List.length_append]
  have e := beq_iff_eq.mp (PyProof.Rows.slice_closes_to_neg (x := SX.S (a ++ b)) (j := -(b.length : Int)) (k := (a.length : Int)) (by omega) (by rw [hl]; omega) (by rw [hl]; omega))
  refine e.trans (TL.ext_tl ?_)
  show ((a ++ b).drop (0 : Int).toNat).take ((a.length : Int) - 0).toNat = a
  rw [show (0 : Int).toNat = 0 from rfl, List.drop_zero, show ((a.length : Int) - 0).toNat = a.length by omega]
  exact List.take_left
theorem slice_neg_from {a b : List Nat} (h : 1 ≤ b.length) : Txt.slice (SX.S (a ++ b)) (some (-(b.length : Int))) none = SX.S b := by
  have hl : (SX.S (a ++ b)).length = a.length + b.length := by rw [SX.S_len, List.length_append]
  have e := beq_iff_eq.mp (PyProof.Rows.slice_closes_from_neg (x := SX.S (a ++ b)) (i := -(b.length : Int)) (a := (a.length : Int)) (b := ((a.length + b.length : Nat) : Int)) (by omega) (by rw [hl]; omega) (by rw [hl]; omega) (by rw [hl]))
  refine e.trans (TL.ext_tl ?_)
  show ((a ++ b).drop ((a.length : Int)).toNat).take (((a.length + b.length : Nat) : Int) - (a.length : Int)).toNat = b
  rw [Int.toNat_natCast, List.drop_left, show (((a.length + b.length : Nat) : Int) - (a.length : Int)).toNat = b.length by omega, List.take_length]
theorem dN_bd {n : Int × Int} (h1 : n.1.natAbs < 2 ^ 300) (h2 : n.2.natAbs ≤ 1000) : dN n < 2 ^ 3000 := by
  unfold dN
  have e5 : 5 ^ (-n.2).toNat ≤ 2 ^ 2400 := by
    have a1 : (5 : Nat) ^ (-n.2).toNat ≤ 5 ^ 1000 := Nat.pow_le_pow_right (by decide) (by omega)
    exact Nat.le_trans a1 (by decide +kernel)
  have p : 0 < 5 ^ (-n.2).toNat := Nat.pow_pos (by decide)
  have m1 : n.1.natAbs * 5 ^ (-n.2).toNat ≤ 2 ^ 300 * 2 ^ 2400 := Nat.mul_le_mul (Nat.le_of_lt h1) e5
  rw [← Nat.pow_add] at m1
  exact Nat.lt_of_le_of_lt m1 (Nat.pow_lt_pow_right (by decide) (by decide))
theorem dE_bd {n : Int × Int} (h1 : n.1.natAbs < 2 ^ 300) (h2 : n.2.natAbs ≤ 1000) : n.1.natAbs * 2 ^ n.2.toNat < 2 ^ 3000 := by
  have m1 : n.1.natAbs * 2 ^ n.2.toNat ≤ 2 ^ 300 * 2 ^ 1000 := Nat.mul_le_mul (Nat.le_of_lt h1) (Nat.pow_le_pow_right (by decide) (by omega))
  rw [← Nat.pow_add] at m1
  exact Nat.lt_of_le_of_lt m1 (Nat.pow_lt_pow_right (by decide) (by decide))
theorem bb_len {N k : Nat} (hN : N < 2 ^ 3000) (hk : k ≤ 1000) : (bef N k).length ≤ 1000 ∧ (beh N k).length = k := by
  unfold bef beh
  exact ⟨dig_len_bd (Nat.lt_of_le_of_lt (Nat.div_le_self _ _) hN), pad_len _ _⟩
theorem abs_nat (m : Int) : (if m < 0 then -m else m) = ((m.natAbs : Nat) : Int) := by
  by_cases h : m < 0
  · rw [if_pos h]; omega
  · rw [if_neg h]; omega
def spDt (K : PySem.W.Frag) : Sp := fun vs H Q _ => ∃ v n, vs = [v] ∧ Gn K H v n 2000 ∧ n.1.natAbs < 2 ^ 300 ∧ n.2.natAbs ≤ 1000 ∧ ∀ H', Ex H H' → Q (.str (SX.S (dtx n))) H'
theorem ok_decimal_text {f f1 f2 f3 : Addr} {fd fd1 fd2 fd3 : FuncData} (T : Top mg) (F : FnP K "decimal_text" s_decimal_text f fd) (c_need_number : Cal P w K mg base CX0 2 "need_number" ["thing"] (spNeed K) f1 fd1) (c_figures_of : Cal P w K mg base CX0 1 "figures_of" ["size"] spFigs f2 fd2) (c_power_of : Cal P w K mg base CX0 1 "power_of" ["base", "k"] spPow f3 fd3) : FnOk P w K mg base CX0 3 f fd ["number"] (spDt K) := by
  have sc := sc_decimal_text
  refine ok0 F sc (fun vs H Q E h => ?_) (fun cdv A outer s H vs Q E hr h => ?_)
  · obtain ⟨v, n, rfl, _⟩ := h
    rfl
  · obtain ⟨v, n, rfl, gv, h1, h2, q⟩ := h
    refine ⟨_, (pss_cons (ps_expr (pe_call c_need_number.ok (hr.mono (by decide)) (by rfl) c_need_number.m c_need_number.kp c_need_number.b .nil pass0 (pa_cons (pv 0) pa_nil)))
    (pss_cons (ps_asg (pv 0) (pg_tup rfl (pgs_cons (pg_name (i := 1) sc.nd rfl (.inl rfl)) (pgs_cons (pg_name (i := 2) sc.nd rfl (.inl rfl)) pgs_nil))))
    (pss_cons (ps_set (i := 3) sc.nd rfl (.inl rfl) (pe_ifExp (pt_cmpR op_lt (pv 1) pe_int (nomark _)) pe_str pe_str))
    (pss_cons (ps_if (pt_cmpR op_ge (pv 2) pe_int (nomark _))
      (pss_one (ps_ret (pe_op op_add_str (pv 3) (pe_call c_figures_of.ok (hr.mono (by decide)) (by rfl) c_figures_of.m c_figures_of.kp c_figures_of.b .nil pass0 (pa_cons (pe_op op_shlW (pe_callB call_abs (by rfl) T.abs (by decide +kernel) (pa_cons (pv 1) pa_nil)) (pv 2)) pa_nil))))) pss_nil)
    (pss_cons (ps_set (i := 4) sc.nd rfl (.inl rfl) (pe_m1 PySem.F.slot_str_zfill PySem.F.type_str_zfill mt_zfill (pe_call c_figures_of.ok (hr.mono (by decide)) (by rfl) c_figures_of.m c_figures_of.kp c_figures_of.b .nil pass0 (pa_cons (pe_op op_mulX (pe_callB call_abs (by rfl) T.abs (by decide +kernel) (pa_cons (pv 1) pa_nil)) (pe_call c_power_of.ok (hr.mono (by decide)) (by rfl) c_power_of.m c_power_of.kp c_power_of.b .nil pass0 (pa_cons pe_int (pa_cons (pe_un un_neg (pv 2)) pa_nil)))) pa_nil)) (pe_op op_sub pe_int (pv 2))))
    (pss_one (ps_ret (pe_op op_add_str (pe_op op_add_str (pe_op op_add_str (pv 3) (pe_slice C8.sl_txt (pv 4) po_none (po_some (pv 2)))) pe_str) (pe_slice C8.sl_txt (pv 4) (po_some (pv 2)) po_none))))))))), ?_⟩
    refine ⟨v, rfl, v, rfl, gv.num, fun H1 e1 => ?_⟩
    obtain ⟨r, rfl, hr1⟩ := (gv.ex e1).at_
    refine ⟨.ref r, rfl, r, [.int n.1, .int n.2], rfl, hr1, rfl, .int n.1, [.int n.2], rfl, .int n.2, [], rfl, rfl, ?_⟩
    dsimp only
    have sl := sgnT_len n.1
    refine q_asg (v := .str (SX.S (sgnT n.1))) (ev_if (et_test (ev_op (ev_var (i := 1) rfl) ev_c rv_I0)) (fun z => ?_) (fun z => ?_)) (fun H2 e2 => ?_)
    · have z : n.1 < 0 := of_decide_eq_true z
      have e : sgnT n.1 = [45] := if_pos z
      rw [e]
      exact ev_c
    · have z : ¬ n.1 < 0 := of_decide_eq_false z
      have e : sgnT n.1 = [] := if_neg z
      rw [e]
      exact ev_c
    have e12 := e1.trans e2
    unfold dtx at q
    refine q_when (et_test (ev_op (ev_var (i := 2) rfl) ev_c rv_I0)) (fun z H3 e3 => ?_) (fun z H3 e3 => ?_)
    · have z : 0 ≤ n.2 := of_decide_eq_true z
      rw [if_pos z] at q
      have bE := dE_bd h1 h2
      have dl := dig_len_bd bE
      have cs : CShl (n.1.natAbs : Int) n.2 := by
        rw [show n.2 = (n.2.toNat : Int) by omega]
        exact shl_ok (n := 300) (by rw [Int.natAbs_natCast]; exact h1) (by omega)
      have ev : (n.1.natAbs : Int) * 2 ^ n.2.toNat = ((n.1.natAbs * 2 ^ n.2.toNat : Nat) : Int) := by rw [Int.natCast_mul, pow_two_cast]
      refine ⟨.str (SX.S (sgnT n.1)), rfl, .int n.1, rfl, n.1, rfl, ?_⟩
      rw [abs_nat]
      refine ⟨.int n.2, rfl, _, _, rfl, rfl, cs, _, congrArg (fun y => [V.int y]) ev, bE, fun H4 e4 => ⟨_, _, rfl, rfl, cat_ok (by omega), ?_⟩⟩
      rw [SX.S_cat]
      exact q H4 ((e12.trans e3).trans e4)
    · have z : ¬ 0 ≤ n.2 := of_decide_eq_false z
      rw [if_neg z] at q
      have bN := dN_bd h1 h2
      obtain ⟨k, hk⟩ : ∃ k : Nat, k = (-n.2).toNat := ⟨_, rfl⟩
      have kp : 1 ≤ k := by omega
      have kb : k ≤ 1000 := by omega
      have nk : -n.2 = (k : Int) := by omega
      have nk2 : n.2 = -(k : Int) := by omega
      obtain ⟨bl1, bl2⟩ := bb_len bN kb
      rw [← hk] at q
      have ev : (n.1.natAbs : Int) * 5 ^ k = ((dN n : Nat) : Int) := by
        unfold dN
        rw [← hk, Int.natCast_mul, Int.natCast_pow]
        rfl
      have ef : List.replicate (k + 1 - (dig (dN n)).length) 48 ++ dig (dN n) = bef (dN n) k ++ beh (dN n) k := fig_split (dN n) k
      have ez : Txt.zfill (SX.S (dig (dN n))) (1 - n.2) = SX.S (bef (dN n) k ++ beh (dN n) k) := by
        rw [← ef, show 1 - n.2 = ((k + 1 : Nat) : Int) by omega]
        exact zfill_S (dig_fig _) (List.ne_nil_of_length_pos (dig_pos _))
      have m5 : ((5 : Int) ^ k).natAbs ≤ 2 ^ 3000 := Nat.le_trans (pw_le (a := 3) (by decide) k) (Nat.pow_le_pow_right (by decide) (by omega))
      refine ⟨.int n.1, rfl, n.1, rfl, ?_⟩
      rw [abs_nat]
      refine ⟨.int n.2, rfl, n.2, rfl, 5, k, congrArg (fun y => [V.int 5, V.int y]) nk, by decide, kb, fun H4 e4 => ?_⟩
      refine ⟨_, _, rfl, rfl, ml (a := 300) (by rw [Int.natAbs_natCast]; exact Nat.le_of_lt h1) m5 (by decide), dN n, congrArg (fun y => [V.int y]) ev, bN, fun H5 e5 => ?_⟩
      refine ⟨⟨_, rfl⟩, .int n.2, rfl, 1, n.2, rfl, rfl, SX.S (dig (dN n)), 1 - n.2, rfl, rfl, padOk_of (by omega) (by omega), ?_⟩
      rw [ez]
      have e15 := ((e12.trans e3).trans e4).trans e5
      generalize hbe : bef (dN n) k = B at *
      generalize hbh : beh (dN n) k = C at *
      have zl : (SX.S (B ++ C)).length ≤ sizeLine := by rw [SX.S_len, List.length_append, sizeLine_eq]; omega
      have s1 : Txt.slice (SX.S (B ++ C)) none (some n.2) = SX.S B := by
        rw [nk2, ← bl2]
        exact slice_neg_to (by omega)
      have s2 : Txt.slice (SX.S (B ++ C)) (some n.2) none = SX.S C := by
        rw [nk2, ← bl2]
        exact slice_neg_from (by omega)
      refine ⟨.str (SX.S (sgnT n.1)), rfl, .str (SX.S (B ++ C)), rfl, .int n.2, rfl, n.2, rfl, SX.S (B ++ C), rfl, zl, ?_⟩
      rw [s1]
      refine ⟨_, _, rfl, rfl, cat_ok (by omega), _, _, rfl, rfl, ?_, .str (SX.S (B ++ C)), rfl, .int n.2, rfl, n.2, rfl, SX.S (B ++ C), rfl, zl, ?_⟩
      · rw [SX.S_cat]
        exact cat_ok (b := [46]) (by rw [List.length_append]; show _ + 1 ≤ 100000; omega)
      · rw [s2]
        have e : SX.S (sgnT n.1) ++ SX.S B ++ SX.S [46] ++ SX.S C = SX.S (sgnT n.1 ++ B ++ [46] ++ C) := by rw [SX.S_cat, SX.S_cat, SX.S_cat]
        have q := q H5 e15
        rw [← e] at q
        refine ⟨_, _, rfl, rfl, ?_, q⟩
        rw [SX.S_cat, SX.S_cat]
        exact cat_ok (a := sgnT n.1 ++ B ++ [46]) (by rw [List.length_append, List.length_append]; show _ + _ + 1 + _ ≤ 100000; omega)
def sgB (sg : Bool) : List Nat := if sg = true then [45] else []
def dotB (dot : Bool) (C : List Nat) : List Nat := if dot = true then [46] ++ C else []
def sgI (sg : Bool) (M : Nat) : Int := if sg = true then -(M : Int) else (M : Int)
structure DecOk (sg dot : Bool) (B C : List Nat) (M : Nat) : Prop where
  fB : Fig B
  nB : B ≠ []
  lB : NoLead B
  fC : Fig C
  dC : dot = true → C ≠ []
  eC : dot = false → C = []
  len : (sgB sg ++ B ++ dotB dot C).length ≤ 300
  v : val (B ++ C) = M * 5 ^ C.length
  s : sg = true → 0 < M
theorem head_fig {B X : List Nat} (h : Fig B) (hn : B ≠ []) {c : Nat} (hc : c < 48) : (B ++ X).head? ≠ some c := by
  cases B with
  | nil => exact absurd rfl hn
  | cons d r =>
    intro z
    have := Option.some.inj z
    have := h d List.mem_cons_self
    omega
theorem DecOk.head {sg dot : Bool} {B C : List Nat} {M : Nat} (d : DecOk sg dot B C M) : decide ((sgB sg ++ B ++ dotB dot C).head? = some 45) = sg ∧ (if (sgB sg ++ B ++ dotB dot C).head? = some 45 then (sgB sg ++ B ++ dotB dot C).tail else sgB sg ++ B ++ dotB dot C) = B ++ dotB dot C := by
  cases sg with
  | true => exact ⟨decide_eq_true rfl, if_pos rfl⟩
  | false =>
    have h : ([] ++ B ++ dotB dot C).head? ≠ some 45 := head_fig (B := B) d.fB d.nB (by decide)
    exact ⟨decide_eq_false h, if_neg h⟩
theorem DecOk.part {sg dot : Bool} {B C : List Nat} {M : Nat} (d : DecOk sg dot B C M) : Txt.partition (SX.S (B ++ dotB dot C)) (SX.S [46]) = (SX.S B, SX.S (if dot = true then [46] else []), SX.S C) := by
  have hn : (46 : Nat) ∉ B := fun h => by
    have := d.fB 46 h
    omega
  cases dot with
  | true => exact SX.partition_some (by decide) (SX.par_head (sep := []) C hn)
  | false =>
    rw [d.eC rfl]
    show Txt.partition (SX.S (B ++ [])) (SX.S [46]) = (SX.S B, SX.S [], SX.S [])
    rw [List.append_nil]
    exact SX.partition_none (by decide) (SX.par_head_none hn)
def spRd : Sp := fun vs H Q _ => ∃ (sg dot : Bool) (B C : List Nat) (M : Nat), vs = [.str (SX.S (sgB sg ++ B ++ dotB dot C))] ∧ DecOk sg dot B C M ∧ NewT H Q [.int (nrm (sgI sg M) (-(C.length : Int))).1, .int (nrm (sgI sg M) (-(C.length : Int))).2]
theorem ok_read_decimal {f f1 f2 f3 f4 f5 : Addr} {fd fd1 fd2 fd3 fd4 fd5 : FuncData} {tM : Tok} (T : Top mg) (m_MOST_SIGNS : mg "MOST_SIGNS" = some (.int 300 tM)) (F : FnP K "read_decimal" s_read_decimal f fd) (c_is_size : Cal P w K mg base CX0 2 "is_size" ["text"] spIsS f1 fd1) (c_is_figures : Cal P w K mg base CX0 1 "is_figures" ["text"] spIsF f2 fd2) (c_size_from : Cal P w K mg base CX0 1 "size_from" ["figures"] spSf f3 fd3) (c_power_of : Cal P w K mg base CX0 1 "power_of" ["base", "k"] spPow f4 fd4) (c_lowered : Cal P w K mg base CX0 1 "lowered" ["m", "e"] spNof f5 fd5) : FnOk P w K mg base CX0 3 f fd ["text"] spRd := by
  have sc := sc_read_decimal
  refine ok0 F sc (fun vs H Q E h => ?_) (fun cdv A outer s H vs Q E hr h => ?_)
  · obtain ⟨sg, dot, B, C, M, rfl, _⟩ := h
    rfl
  · obtain ⟨sg, dot, B, C, M, rfl, d, q⟩ := h
    refine ⟨_, (pss_cons (ps_if (PW.pt (pw_or (pt_not (pt_val (pe_callB call_isi (by rfl) T.isinstance (by decide +kernel) (pa_cons (pv 0) (pa_cons (pe_bltn (v := .ty "str") (by rfl) T.ty_str (by decide +kernel) rfl) pa_nil))))) (pw_or1 (pt_cmpR op_gt (pe_callB call_len (by rfl) T.len (by decide +kernel) (pa_cons (pv 0) pa_nil)) (pe_glob (v := .int 300) (by rfl) m_MOST_SIGNS ⟨_, rfl⟩) (nomark _)))))
      (pss_one ps_never) pss_nil)
    (pss_cons (ps_asg (pe_partition (pe_m1 PySem.F.slot_str_removeprefix PySem.F.type_str_removeprefix mt_removeprefix (pv 0) pe_str) pe_str) (pg_tup rfl (pgs_cons (pg_name (i := 1) sc.nd rfl (.inl rfl)) (pgs_cons (pg_name (i := 2) sc.nd rfl (.inl rfl)) (pgs_cons (pg_name (i := 3) sc.nd rfl (.inl rfl)) pgs_nil)))))
    (pss_cut (ps_if (PW.pt (pw_or (pt_not (pt_val (pe_call c_is_size.ok (hr.mono (by decide)) (by rfl) c_is_size.m c_is_size.kp c_is_size.b .nil pass0 (pa_cons (pv 1) pa_nil)))) (pw_or1 (PW.pt (pw_and (pt_truth (pv 2) (fun _ => rfl)) (pw_and1 (pt_not (pt_val (pe_call c_is_figures.ok (hr.mono (by decide)) (by rfl) c_is_figures.m c_is_figures.kp c_is_figures.b .nil pass0 (pa_cons (pv 3) pa_nil))))))))))
      (pss_one ps_never) pss_nil)
    (pss_cons (ps_set (i := 4) sc.nd rfl (.inl rfl) (pe_call c_size_from.ok (hr.mono (by decide)) (by rfl) c_size_from.m c_size_from.kp c_size_from.b .nil pass0 (pa_cons (pe_op op_add_str (pv 1) (pv 3)) pa_nil)))
    (pss_cons (ps_set (i := 5) sc.nd rfl (.inl rfl) (pe_call c_power_of.ok (hr.mono (by decide)) (by rfl) c_power_of.m c_power_of.kp c_power_of.b .nil pass0 (pa_cons pe_int (pa_cons (pe_callB call_len (by rfl) T.len (by decide +kernel) (pa_cons (pv 3) pa_nil)) pa_nil))))
    (pss_cons (ps_if (pt_cmpR op_ne (pe_op op_mod (pv 4) (pv 5)) pe_int (nomark _))
      (pss_one ps_never) pss_nil)
    (pss_cons (ps_if (pt_not (pt_val (pe_m1 PySem.F.slot_str_startswith PySem.F.type_str_startswith mt_startswith (pv 0) pe_str)))
      (pss_one (ps_ret (pe_call c_lowered.ok (hr.mono (by decide)) (by rfl) c_lowered.m c_lowered.kp c_lowered.b .nil pass0 (pa_cons (pe_op op_fdivW (pv 4) (pv 5)) (pa_cons (pe_un un_neg (pe_callB call_len (by rfl) T.len (by decide +kernel) (pa_cons (pv 3) pa_nil))) pa_nil))))) pss_nil)
    (pss_cons (ps_if (pt_cmpR op_eq (pv 4) pe_int (nomark _))
      (pss_one ps_never) pss_nil)
    (pss_one (ps_ret (pe_call c_lowered.ok (hr.mono (by decide)) (by rfl) c_lowered.m c_lowered.kp c_lowered.b .nil pass0 (pa_cons (pe_op op_fdivW (pe_un un_neg (pv 4)) (pv 5)) (pa_cons (pe_un un_neg (pe_callB call_len (by rfl) T.len (by decide +kernel) (pa_cons (pv 3) pa_nil))) pa_nil))))))))))))), ?_⟩
    obtain ⟨hd1, hd2⟩ := d.head
    have hp0 := d.part
    have dl := d.len
    have lBC : B.length + C.length ≤ 300 := by
      rw [List.length_append, List.length_append] at dl
      cases dot with
      | true =>
        have : (dotB true C).length = 1 + C.length := by unfold dotB; rw [if_pos rfl, List.length_append]; rfl
        omega
      | false =>
        rw [d.eC rfl]
        show B.length + 0 ≤ 300
        omega
    have lpt : (B ++ dotB dot C).length ≤ 300 := by
      rw [List.length_append, List.length_append] at dl
      rw [List.length_append]
      omega
    have st : Txt.startswith (SX.S (sgB sg ++ B ++ dotB dot C)) (SX.S [45]) = sg := by rw [starts_S, hd1]
    have up : Txt.removeprefix (SX.S (sgB sg ++ B ++ dotB dot C)) (SX.S [45]) = SX.S (B ++ dotB dot C) := by rw [unprefix_S, hd2]
    generalize hL : sgB sg ++ B ++ dotB dot C = L at *
    have sl : (SX.S L).length ≤ sizeLine := by rw [SX.S_len, sizeLine_eq]; omega
    refine rd_isi (i := 0) rfl (ty_strK _) (kit_ty (by decide +kernel : kitB "str" "str" = some true)) ⟨true, rfl, iteF ?_⟩
    have lenL : LenV K (.str (SX.S L)) H L.length := ⟨sl, (SX.S_len L).symm⟩
    refine ⟨.str (SX.S L), rfl, _, L.length, rfl, lenL, (L.length : Int), 300, rfl, rfl, _, rfl, ite2 (fun z => absurd (of_decide_eq_true z) (by omega)) (fun _ => ?_)⟩
    refine ⟨.str (SX.S L), rfl, ⟨_, rfl⟩, SX.S L, SX.S [45], rfl, rfl, sl, ?_⟩
    rw [up]
    refine ⟨⟨_, rfl⟩, SX.S (B ++ dotB dot C), SX.S [46], rfl, rfl, rfl, by rw [SX.S_len, sizeLine_eq]; omega, fun p hp => ?_⟩
    rw [hp0]
    have e1 := Ex.new (o := .tup [.str (SX.S B), .str (SX.S (if dot = true then [46] else [])), .str (SX.S C)]) hp
    refine ⟨p, _, rfl, st_of upd_same, rfl, _, _, rfl, _, _, rfl, _, [], rfl, rfl, ?_⟩
    dsimp only
    generalize upd H p (.tup [.str (SX.S B), .str (SX.S (if dot = true then [46] else [])), .str (SX.S C)]) = H1 at e1 ⊢
    refine ⟨fun σ' H' => Ex H H' ∧ σ' = [some (.str (SX.S L)), some (.str (SX.S B)), some (.str (SX.S (if dot = true then [46] else []))), some (.str (SX.S C)), none, none], ?_, ?_⟩
    · refine ⟨.str (SX.S B), rfl, B, rfl, d.fB, d.nB, d.lB, true, rfl, iteF ?_⟩
      cases dot with
      | true =>
        refine ⟨.str (SX.S [46]), rfl, true, ⟨by show 1 ≤ sizeLine; decide, rfl⟩, iteT ⟨.str (SX.S C), rfl, C, rfl, d.fC, d.dC rfl, true, rfl, iteF ⟨e1, rfl⟩⟩⟩
      | false =>
        exact ⟨.str (SX.S []), rfl, false, ⟨by show 0 ≤ sizeLine; decide, rfl⟩, iteF (iteF ⟨e1, rfl⟩)⟩
    rintro σ' H2 ⟨e2, rfl⟩
    have fBC : Fig (B ++ C) := fun c hc => by
      rcases List.mem_append.mp hc with h | h
      · exact d.fB c h
      · exact d.fC c h
    refine ⟨.str (SX.S B), rfl, .str (SX.S C), rfl, _, _, rfl, rfl, cat_ok (by omega), B ++ C, congrArg (fun y => [V.str y]) (SX.S_cat B C), fBC, by rw [List.length_append]; omega, fun H3 e3 => ?_⟩
    dsimp only
    have lenC : ∀ {H' : Hp}, LenV K (.str (SX.S C)) H' C.length := fun {H'} => ⟨by rw [SX.S_len, sizeLine_eq]; omega, (SX.S_len C).symm⟩
    refine ⟨.str (SX.S C), rfl, _, C.length, rfl, lenC, 5, C.length, rfl, by decide, by omega, fun H4 e4 => ?_⟩
    dsimp only
    have p5 : (0 : Int) < 5 ^ C.length := Int.pow_pos (by decide)
    have hv : ((val (B ++ C) : Nat) : Int) = (M : Int) * 5 ^ C.length := by
      rw [d.v, Int.natCast_mul, Int.natCast_pow]
      rfl
    rw [hv]
    have cd : ∀ i : Int, CDivW i (5 ^ C.length) := fun i => ⟨p5, PySem.Flt.log2_lt_of (by decide) (Nat.lt_of_le_of_lt (pw_le (x := 5) (a := 3) (by decide) C.length) (Nat.pow_lt_pow_right (by decide) (by omega)))⟩
    have e04 := (e2.trans e3).trans e4
    have mz : decide (V.int ((M : Int) * 5 ^ C.length % 5 ^ C.length) = V.int 0) = true := decide_eq_true (by rw [Int.mul_emod_left])
    refine ⟨_, rfl, _, rfl, _, _, rfl, rfl, p5, rfl, _, rfl, ?_⟩
    rw [mz]
    refine iteF ?_
    refine ⟨.str (SX.S L), rfl, ⟨_, rfl⟩, SX.S L, SX.S [45], rfl, rfl, _, rfl, ?_⟩
    rw [st]
    cases sg with
    | false =>
      have dv : (M : Int) * 5 ^ C.length / 5 ^ C.length = (M : Int) := Int.mul_ediv_cancel _ (Int.ne_of_gt p5)
      refine iteT ⟨_, rfl, _, rfl, _, _, rfl, rfl, cd _, .str (SX.S C), rfl, _, C.length, rfl, lenC, (C.length : Int), rfl, (M : Int), -(C.length : Int), congrArg (fun y => [V.int y, V.int (-(C.length : Int))]) dv, fun H5 p5 e5 _ h5 => q H5 p5 (e04.trans e5) h5⟩
    | true =>
      have M0 := d.s rfl
      have dv : -((M : Int) * 5 ^ C.length) / 5 ^ C.length = -(M : Int) := by
        rw [← Int.neg_mul]
        exact Int.mul_ediv_cancel _ (Int.ne_of_gt p5)
      refine iteF ?_
      have nz : decide (V.int ((M : Int) * 5 ^ C.length) = V.int 0) = false := decide_eq_false fun y => by
        have h := V.int.inj y
        have := Int.mul_pos (show (0 : Int) < M by omega) p5
        omega
      refine ⟨_, rfl, rfl, _, rfl, ?_⟩
      rw [nz]
      refine iteF ⟨_, rfl, _, rfl, _, rfl, _, _, rfl, rfl, cd _, .str (SX.S C), rfl, _, C.length, rfl, lenC, (C.length : Int), rfl, -(M : Int), -(C.length : Int), congrArg (fun y => [V.int y, V.int (-(C.length : Int))]) dv, fun H5 p5 e5 _ h5 => q H5 p5 (e04.trans e5) h5⟩
def spFv : Sp := fun vs H Q _ => ∃ k : Nat, vs = [.int (k : Int)] ∧ k ≤ 1000 ∧ Q (.int ((5 : Int) ^ k)) H
theorem ok_law_fives {f : Addr} {fd : FuncData} (T : Top mg) (F : FnP K "_law_fives" s_law_fives f fd) : FnOk P w K mg base CX0 1 f fd ["_law_k"] spFv := by
  have sc := sc_law_fives
  refine ok0 F sc (fun vs H Q E h => ?_) (fun cdv A outer s H vs Q E hr h => ?_)
  · obtain ⟨k, rfl, _⟩ := h
    rfl
  · obtain ⟨k, rfl, hk, q⟩ := h
    refine ⟨_, (pss_cons (ps_set (i := 1) sc.nd rfl (.inl rfl) pe_int)
    (pss_cons (ps_for PassesOwn.never rfl (pi_range1 (by rfl) T.range (pa_cons (pv 0) pa_nil)) (pg_name (i := 2) sc.nd rfl (.inl rfl))
      (pss_one (ps_set (i := 1) sc.nd rfl (.inl rfl) (pe_op op_mulX (pv 1) pe_int))))
    (pss_one (ps_ret (pv 1))))), ?_⟩
    refine ⟨.int (k : Int), rfl, (k : Int), rfl, by omega, by omega, for_range (lo := 0) (n := ((k : Nat) : Int).toNat) (fun i σ' H' => H' = H ∧ ∃ t, σ' = [some (.int (k : Int)), some (.int ((5 : Int) ^ i)), t]) ⟨rfl, none, rfl⟩ (fun i σ' H' hi hp => ?_) (fun σ' H' hp => ?_)⟩
    · obtain ⟨rfl, t, rfl⟩ := hp
      have hi : i < k := hi
      refine g_name ?_
      refine ⟨_, rfl, _, 5, rfl, rfl, ml (a := 3000) (b := 3) (Nat.le_trans (pw_le (a := 3) (by decide) i) (Nat.pow_le_pow_right (by decide) (by omega))) (by decide) (by decide), rfl, some (.int (0 + (i : Int))), ?_⟩
      rw [Int.pow_succ]
      rfl
    · obtain ⟨rfl, t, rfl⟩ := hp
      exact ⟨_, rfl, q⟩
theorem ok_law_mixed {f : Addr} {fd : FuncData} (T : Top mg) (F : FnP K "_law_mixed" s_law_mixed f fd) : FnOk P w K mg base CX0 1 f fd ["_law_cell_here", "_law_k"] spMix := by
  have sc := sc_law_mixed
  refine ok0 F sc (fun vs H Q E h => ?_) (fun cdv A outer s H vs Q E hr h => ?_)
  · obtain ⟨a, k, rfl, _⟩ := h
    rfl
  · obtain ⟨a, k, rfl, q⟩ := h
    refine ⟨_, (pss_cons (ps_set (i := 2) sc.nd rfl (.inl rfl) (pe_op op_mod (pe_op op_add (pe_op op_add (pe_op op_mul (pe_op op_mod (pv 0) pe_int) pe_int) (pe_op op_mul (pv 1) pe_int)) pe_int) pe_int))
    (pss_cons (ps_set (i := 2) sc.nd rfl (.inl rfl) (pe_op op_mod (pe_op op_mul (pv 2) (pv 2)) pe_int))
    (pss_one (ps_ret (pe_op op_mod (pe_op op_mul (pv 2) (pe_op op_add (pv 2) pe_int)) pe_int))))), ?_⟩
    have b1 : ∀ z : Int, 0 ≤ z % 2147483629 ∧ z % 2147483629 < 2147483629 := fun z => ⟨Int.emod_nonneg z (by decide), Int.emod_lt_of_pos z (by decide)⟩
    have b2 : ∀ z : Int, 0 ≤ z % 2147483587 ∧ z % 2147483587 < 2147483587 := fun z => ⟨Int.emod_nonneg z (by decide), Int.emod_lt_of_pos z (by decide)⟩
    refine ⟨.int a, rfl, a, 2147483647, rfl, rfl, by show (0 : Int) < _; decide, _, 48271, rfl, rfl, .inr ⟨by decide, by decide⟩, .int k, rfl, k, 69621, rfl, rfl, .inr ⟨by decide, by decide⟩, _, _, rfl, rfl, _, 1048583, rfl, rfl, _, 2147483629, rfl, rfl, by show (0 : Int) < _; decide, ?_⟩
    refine ⟨_, rfl, _, rfl, _, _, rfl, rfl, .inl ⟨?_, ?_⟩, _, 2147483587, rfl, rfl, by show (0 : Int) < _; decide, ?_⟩
    · have := b1 (a % 2147483647 * 48271 + k * 69621 + 1048583)
      omega
    · have := b1 (a % 2147483647 * 48271 + k * 69621 + 1048583)
      omega
    · refine ⟨_, rfl, _, rfl, _, 2, rfl, rfl, _, _, rfl, rfl, .inl ⟨?_, ?_⟩, _, 2147483579, rfl, rfl, by show (0 : Int) < _; decide, q _⟩
      · have := b2 ((a % 2147483647 * 48271 + k * 69621 + 1048583) % 2147483629 * ((a % 2147483647 * 48271 + k * 69621 + 1048583) % 2147483629))
        omega
      · have := b2 ((a % 2147483647 * 48271 + k * 69621 + 1048583) % 2147483629 * ((a % 2147483647 * 48271 + k * 69621 + 1048583) % 2147483629))
        omega
theorem ok_law_cell {f f1 : Addr} {fd fd1 : FuncData} (T : Top mg) (F : FnP K "_law_cell" s_law_cell f fd) (c_law_mixed : Cal P w K mg base CX0 1 "_law_mixed" ["_law_cell_here", "_law_k"] spMix f1 fd1) : FnOk P w K mg base CX0 2 f fd ["_law_script", "_law_k"] (spCel K) := by
  have sc := sc_law_cell
  refine ok0 F sc (fun vs H Q E h => ?_) (fun cdv A outer s H vs Q E hr h => ?_)
  · obtain ⟨a, ns, k, rfl, _⟩ := h
    rfl
  · obtain ⟨a, ns, k, rfl, hS, h0, h1, q⟩ := h
    refine ⟨_, (pss_cons (ps_set (i := 2) sc.nd rfl (.inl rfl) pe_int)
    (pss_cut (ps_if (pt_cmpR op_lt (pv 1) (pe_callB call_len (by rfl) T.len (by decide +kernel) (pa_cons (pv 0) pa_nil)) (nomark _))
      (pss_one (ps_set (i := 2) sc.nd rfl (.inl rfl) (pe_ix ix_list (pv 0) (pv 1) (fun _ _ => rfl)))) pss_nil)
    (pss_cons (ps_if (pt_cmpR op_ge (pv 2) (pe_op op_pow pe_int pe_int) (nomark _))
      (pss_one (ps_ret (pe_op op_mod (pe_op op_sub (pv 2) (pe_op op_pow pe_int pe_int)) (pe_op op_mulX (pe_op op_mulX (pe_op op_mulX (pe_op op_pow pe_int pe_int) (pe_op op_pow pe_int pe_int)) (pe_op op_pow pe_int pe_int)) (pe_op op_pow pe_int pe_int))))) pss_nil)
    (pss_cons (ps_set (i := 3) sc.nd rfl (.inl rfl) pe_int)
    (pss_cons (ps_for PassesOwn.never rfl (pi_range1 (by rfl) T.range (pa_cons pe_int pa_nil)) (pg_name (i := 4) sc.nd rfl (.inl rfl))
      (pss_one (ps_set (i := 3) sc.nd rfl (.inl rfl) (pe_op op_add (pe_op op_mul (pv 3) pe_int) (pe_call c_law_mixed.ok (hr.mono (by decide)) (by rfl) c_law_mixed.m c_law_mixed.kp c_law_mixed.b .nil pass0 (pa_cons (pv 2) (pa_cons (pe_op op_add (pe_op op_add (pe_op op_mul pe_int (pv 1)) (pe_op op_mul pe_int (pv 4))) (pe_op op_mul (pv 4) (pv 4))) pa_nil)))))))
    (pss_one (ps_ret (pv 3)))))))), ?_⟩
    refine ⟨fun σ' H' => H' = H ∧ ∃ c : Int, σ' = [some (.ref a), some (.int k), some (.int c), none, none], ?_, fun σ' H' hm => ?_⟩
    · refine ⟨.int k, rfl, .ref a, rfl, _, (ns.map V.int).length, rfl, .inl ⟨_, hS, rfl⟩, k, _, rfl, rfl, _, rfl, ite2 (fun hk => ?_) (fun hk => ?_)⟩
      · have hk2 : k < ((ns.map V.int).length : Int) := of_decide_eq_true hk
        rw [List.length_map] at hk2
        obtain ⟨j, rfl⟩ : ∃ j : Nat, k = (j : Int) := ⟨k.toNat, by omega⟩
        have hj : j < ns.length := by omega
        have ha : atI (ns.map V.int) ((j : Nat) : Int) = some (.int ns[j]) := atI_nat (by rw [List.getElem?_map, List.getElem?_eq_getElem hj]; rfl)
        exact ⟨.ref a, rfl, .int (j : Nat), rfl, a, _, _, _, rfl, rfl, hS, ha, rfl, _, rfl⟩
      · exact ⟨rfl, 0, rfl⟩
    · obtain ⟨rfl, c, rfl⟩ := hm
      refine ⟨.int c, rfl, 10, 18, rfl, rfl, ⟨by decide, by decide, by decide⟩, c, _, rfl, rfl, _, rfl, ite2 (fun _ => ?_) (fun _ => ?_)⟩
      · refine ⟨.int c, rfl, 10, 18, rfl, rfl, ⟨by decide, by decide, by decide⟩, c, _, rfl, rfl, 10, 60, rfl, rfl, ⟨by decide, by decide, by decide⟩, 10, 60, rfl, rfl, ⟨by decide, by decide, by decide⟩, _, _, rfl, rfl, by show CMulX _ _; unfold CMulX; decide +kernel,
          10, 60, rfl, rfl, ⟨by decide, by decide, by decide⟩, _, _, rfl, rfl, by show CMulX _ _; unfold CMulX; decide +kernel, 10, 60, rfl, rfl, ⟨by decide, by decide, by decide⟩, _, _, rfl, rfl, by show CMulX _ _; unfold CMulX; decide +kernel, _, _, rfl, rfl, by show (0 : Int) < _; decide +kernel, q _⟩
      · refine ⟨24, rfl, by decide, by decide, for_range (lo := 0) (n := 24) (fun _ σ' H'' => H'' = H' ∧ ∃ z t, σ' = [some (.ref a), some (.int k), some (.int c), some (.int z), t]) ⟨rfl, 0, none, rfl⟩ (fun i σ' H'' hi hp => ?_) (fun σ' H'' hp => ?_)⟩
        · obtain ⟨rfl, z, t, rfl⟩ := hp
          refine ⟨.int z, rfl, z, 2147483579, rfl, rfl, .inr ⟨by decide, by decide⟩, .int c, rfl, .int k, rfl, 7, k, rfl, rfl, .inl ⟨by decide, by decide⟩, .int (0 + (i : Int)), rfl, 100, _, rfl, rfl, .inl ⟨by decide, by decide⟩, _, _, rfl, rfl, .int (0 + (i : Int)), rfl, .int (0 + (i : Int)), rfl, _, _, rfl, rfl, .inl ⟨by omega, by omega⟩, _, _, rfl, rfl, c, _, rfl, fun y => ⟨_, _, rfl, rfl, rfl, _, _, rfl⟩⟩
        · obtain ⟨rfl, z, t, rfl⟩ := hp
          exact ⟨.int z, rfl, q z⟩
theorem ok_law_take {f : Addr} {fd : FuncData} (T : Top mg) (F : FnP K "_law_take" s_law_take f fd) : FnOk P w K mg base CX0 1 f fd ["_law_pile", "_law_size"] spTake := by
  have sc := sc_law_take
  refine ok0 F sc (fun vs H Q E h => ?_) (fun cdv A outer s H vs Q E hr h => ?_)
  · obtain ⟨p, x, n, rfl, _⟩ := h
    rfl
  · obtain ⟨p, x, n, rfl, hp, h0, h1, q⟩ := h
    refine ⟨_, (pss_cons (ps_set (i := 2) sc.nd rfl (.inl rfl) (pe_op op_mod (pe_ix ix_list (pv 0) pe_int (fun _ _ => rfl)) (pv 1)))
    (pss_cons (ps_asg (pe_op op_fdivW (pe_ix ix_list (pv 0) pe_int (fun _ _ => rfl)) (pv 1)) (pg_sub (pv 0) pe_int set_list))
    (pss_one (ps_ret (pv 2))))), ?_⟩
    refine ⟨.ref p, rfl, p, [.int x], 0, .int x, rfl, rfl, sq_of hp, rfl, .int n, rfl, x, n, rfl, rfl, h0, ?_⟩
    refine ⟨.ref p, rfl, p, [.int x], 0, .int x, rfl, rfl, sq_of hp, rfl, .int n, rfl, x, n, rfl, rfl, ⟨h0, h1⟩, .ref p, rfl, p, [.int x], 0, 0, rfl, rfl, hp, rfl, ?_⟩
    exact ⟨_, rfl, q⟩
theorem ok_law_odd {f : Addr} {fd : FuncData} (T : Top mg) (F : FnP K "_law_odd" s_law_odd f fd) : FnOk P w K mg base CX0 1 f fd ["_law_m", "_law_e"] spNof := by
  have sc := sc_law_odd
  refine ok0 F sc (fun vs H Q E h => ?_) (fun cdv A outer s H vs Q E hr h => ?_)
  · obtain ⟨m, e, rfl, _⟩ := h
    rfl
  · obtain ⟨m, e, rfl, q⟩ := h
    refine ⟨_, (pss_cons (ps_if (pt_cmpR op_eq (pv 0) pe_int (nomark _))
      (pss_one (ps_ret (pe_tup (pa_cons pe_int (pa_cons pe_int pa_nil))))) pss_nil)
    (pss_cons (ps_while PassesOwn.never (pt_cmpR op_eq (pe_op op_mod (pv 0) pe_int) pe_int (nomark _))
      (pss_cons (ps_set (i := 0) sc.nd rfl (.inl rfl) (pe_op op_fdivW (pv 0) pe_int))
      (pss_one (ps_set (i := 1) sc.nd rfl (.inl rfl) (pe_op op_add (pv 1) pe_int)))))
    (pss_one (ps_ret (pe_tup (pa_cons (pv 0) (pa_cons (pv 1) pa_nil))))))), ?_⟩
    refine ⟨.int m, rfl, rfl, _, rfl, ite2 (fun h0 => ?_) (fun h0 => ?_)⟩
    · have e0 : m = 0 := V.int.inj (of_decide_eq_true h0)
      subst e0
      exact ⟨by show 2 ≤ sizeLine; decide, fun p hp => q _ p (Ex.new hp) hp upd_same⟩
    · have e0 : m ≠ 0 := fun z => h0 (decide_eq_true (congrArg V.int z))
      refine q_while (fun n σ' H' => ∃ (m' e' : Int) (j : Nat), σ' = [some (.int m'), some (.int e')] ∧ Ex H H' ∧ m' ≠ 0 ∧ m = 2 ^ j * m' ∧ e' = e + j ∧ n = m'.natAbs) m.natAbs ⟨m, e, 0, rfl, Ex.refl H, e0, by rw [Int.pow_zero, Int.one_mul], by omega, rfl⟩ ?_
      rintro n σ' H' ⟨m', e', j, rfl, ex, hm, hj, he, hn⟩
      refine ⟨_, et_test (ev_op (ev_op (ev_var rfl) ev_c (rv_I (by decide))) ev_c (rv_eq rfl)), fun hb H1 e1 => ?_, fun hb H1 e1 => ?_⟩
      · have h2 : m' % 2 = 0 := V.int.inj (of_decide_eq_true hb)
        refine ⟨_, fun _ _ h => h, ?_⟩
        refine ⟨.int m', rfl, m', 2, rfl, rfl, ⟨by decide, by decide⟩, .int e', rfl, e', 1, rfl, rfl, ?_⟩
        refine ⟨(m' / 2).natAbs, by omega, m' / 2, e' + 1, j + 1, rfl, ex.trans e1, by omega, ?_, by omega, rfl⟩
        rw [Int.pow_succ, Int.mul_assoc, show 2 * (m' / 2) = m' by omega]
        exact hj
      · have h2 : ¬ m' % 2 = 0 := fun z => by
          rw [decide_eq_true (congrArg V.int z)] at hb
          cases hb
        have hm2 : m' = 2 * (m' / 2) + 1 := by omega
        have en : nrm m e = (m', e') := by
          have h3 : m = 2 ^ j * (2 * (m' / 2) + 1) := by rw [← hm2]; exact hj
          rw [nrm_of e h3, ← hm2, he]
        refine ⟨.int m', rfl, .int e', rfl, by show 2 ≤ sizeLine; decide, fun p hp => q _ p ((ex.trans e1).trans (Ex.new hp)) (fresh_back (ex.trans e1) hp) ?_⟩
        rw [upd_same, en]
theorem cod_sgn (i : Int) : cod i = sgnT i ++ dig i.natAbs := by
  unfold cod sgnT
  by_cases h : i < 0
  · rw [if_pos h, if_pos h]
    rfl
  · rw [if_neg h, if_neg h]
    rfl
theorem sgnT_shl (m : Int) (k : Nat) : sgnT (m * 2 ^ k) = sgnT m := by
  have p := pow_pos2 k
  unfold sgnT
  by_cases h : m < 0
  · rw [if_pos h, if_pos (Int.mul_neg_of_neg_of_pos h p)]
  · have := Int.mul_nonneg (show 0 ≤ m by omega) (Int.le_of_lt p)
    rw [if_neg h, if_neg (by omega)]
def spLd (K : PySem.W.Frag) : Sp := fun vs H Q _ => ∃ v n, vs = [v] ∧ NumAt K H v n ∧ n.1.natAbs < 2 ^ 300 ∧ n.2.natAbs ≤ 1000 ∧ Q (.str (SX.S (dtx n))) H
theorem ok_law_decimal {f f1 : Addr} {fd fd1 : FuncData} (T : Top mg) (nd : NoDigK K) (F : FnP K "_law_decimal" s_law_decimal f fd) (c_law_fives : Cal P w K mg base CX0 1 "_law_fives" ["_law_k"] spFv f1 fd1) : FnOk P w K mg base CX0 2 f fd ["_law_value"] (spLd K) := by
  have sc := sc_law_decimal
  refine ok0 F sc (fun vs H Q E h => ?_) (fun cdv A outer s H vs Q E hr h => ?_)
  · obtain ⟨v, n, rfl, _⟩ := h
    rfl
  · obtain ⟨v, n, rfl, ⟨r, rfl, hr1⟩, h1, h2, q⟩ := h
    refine ⟨_, (pss_cons (ps_asg (pv 0) (pg_tup rfl (pgs_cons (pg_name (i := 1) sc.nd rfl (.inl rfl)) (pgs_cons (pg_name (i := 2) sc.nd rfl (.inl rfl)) pgs_nil))))
    (pss_cons (ps_if (pt_cmpR op_ge (pv 2) pe_int (nomark _))
      (pss_one (ps_ret (pe_callTy (call_strW (by rfl) nd) (by rfl) T.ty_str (by decide +kernel) (pa_cons (pe_op op_shlW (pv 1) (pv 2)) pa_nil)))) pss_nil)
    (pss_cons (ps_set (i := 3) sc.nd rfl (.inl rfl) (pe_op op_mulSign pe_str (pe_callTy call_int1 (by rfl) T.ty_int (by decide +kernel) (pa_cons (pe_cmpR op_lt (pv 1) pe_int (nomark _)) pa_nil))))
    (pss_cons (ps_set (i := 4) sc.nd rfl (.inl rfl) (pe_callTy (call_strW (by rfl) nd) (by rfl) T.ty_str (by decide +kernel) (pa_cons (pe_op op_mulX (pe_callB call_abs (by rfl) T.abs (by decide +kernel) (pa_cons (pv 1) pa_nil)) (pe_call c_law_fives.ok (hr.mono (by decide)) (by rfl) c_law_fives.m c_law_fives.kp c_law_fives.b .nil pass0 (pa_cons (pe_op op_sub pe_int (pv 2)) pa_nil))) pa_nil)))
    (pss_cons (ps_set (i := 4) sc.nd rfl (.inl rfl) (pe_op op_add_str (pe_op op_mulSign pe_str (pe_op op_sub (pe_op op_sub pe_int (pv 2)) (pe_callB call_len (by rfl) T.len (by decide +kernel) (pa_cons (pv 4) pa_nil)))) (pv 4)))
    (pss_one (ps_ret (pe_op op_add_str (pe_op op_add_str (pe_op op_add_str (pv 3) (pe_slice C8.sl_txt (pv 4) po_none (po_some (pe_op op_add (pe_callB call_len (by rfl) T.len (by decide +kernel) (pa_cons (pv 4) pa_nil)) (pv 2))))) pe_str) (pe_slice C8.sl_txt (pv 4) (po_some (pe_op op_add (pe_callB call_len (by rfl) T.len (by decide +kernel) (pa_cons (pv 4) pa_nil)) (pv 2))) po_none))))))))), ?_⟩
    refine ⟨.ref r, rfl, r, [.int n.1, .int n.2], rfl, hr1, rfl, .int n.1, [.int n.2], rfl, .int n.2, [], rfl, rfl, ?_⟩
    dsimp only
    have sl := sgnT_len n.1
    unfold dtx at q
    have up : (2 : Nat) ^ 3000 ≤ 2 ^ 12000 := Nat.pow_le_pow_right (by decide) (by decide)
    refine ⟨.int n.2, rfl, n.2, 0, rfl, rfl, _, rfl, ite2 (fun z => ?_) (fun z => ?_)⟩
    · have z : 0 ≤ n.2 := of_decide_eq_true z
      rw [if_pos z] at q
      have bE := dE_bd h1 h2
      have cs : CShl n.1 n.2 := by
        rw [show n.2 = (n.2.toNat : Int) by omega]
        exact shl_ok (n := 300) h1 (by omega)
      have en : (n.1 * 2 ^ n.2.toNat).natAbs = n.1.natAbs * 2 ^ n.2.toNat := by
        rw [Int.natAbs_mul, Int.natAbs_pow]
        rfl
      refine ⟨.int n.1, rfl, .int n.2, rfl, n.1, n.2, rfl, rfl, cs, n.1 * 2 ^ n.2.toNat, rfl, by rw [en]; exact Nat.lt_of_lt_of_le bE up, ?_⟩
      rw [ts_cod, cod_sgn, sgnT_shl, en]
      exact q
    · have z : ¬ 0 ≤ n.2 := fun y => z (decide_eq_true y)
      rw [if_neg z] at q
      have bN := dN_bd h1 h2
      obtain ⟨k, hk⟩ : ∃ k : Nat, k = (-n.2).toNat := ⟨_, rfl⟩
      have kp : 1 ≤ k := by omega
      have kb : k ≤ 1000 := by omega
      have nk2 : n.2 = -(k : Int) := by omega
      obtain ⟨bl1, bl2⟩ := bb_len bN kb
      rw [← hk] at q
      have ev : (n.1.natAbs : Int) * 5 ^ k = ((dN n : Nat) : Int) := by
        unfold dN
        rw [← hk, Int.natCast_mul, Int.natCast_pow]
        rfl
      have ef : List.replicate (k + 1 - (dig (dN n)).length) 48 ++ dig (dN n) = bef (dN n) k ++ beh (dN n) k := fig_split (dN n) k
      have dl := dig_len_bd bN
      have m5 : ((5 : Int) ^ k).natAbs ≤ 2 ^ 3000 := Nat.le_trans (pw_le (a := 3) (by decide) k) (Nat.pow_le_pow_right (by decide) (by omega))
      have es : SX.S (List.replicate (if decide (n.1 < 0) = true then (1 : Int) else 0).toNat 45) = SX.S (sgnT n.1) := by
        unfold sgnT
        by_cases y : n.1 < 0
        · rw [decide_eq_true y, if_pos rfl, if_pos y]
          rfl
        · rw [decide_eq_false y, if_neg (by decide), if_neg y]
          rfl
      refine ⟨.int n.1, rfl, n.1, 0, rfl, rfl, .inr ⟨_, rfl, 45, _, rfl, rfl, by split <;> decide, ?_⟩⟩
      rw [es]
      refine ⟨.int n.1, rfl, n.1, rfl, ?_⟩
      rw [abs_nat]
      refine ⟨.int n.2, rfl, 0, n.2, rfl, rfl, k, congrArg (fun y => [V.int y]) (show 0 - n.2 = (k : Int) by omega), kb, ?_⟩
      refine ⟨_, _, rfl, rfl, ml (a := 300) (by rw [Int.natAbs_natCast]; exact Nat.le_of_lt h1) m5 (by decide), ((dN n : Nat) : Int), congrArg (fun y => [V.int y]) ev, by rw [Int.natAbs_natCast]; exact Nat.lt_of_lt_of_le bN up, ?_⟩
      rw [ts_nat]
      generalize hF : dig (dN n) = G at *
      have lG : ∀ {H' : Hp}, LenV K (.str (SX.S G)) H' G.length := fun {H'} => ⟨by rw [SX.S_len, sizeLine_eq]; omega, (SX.S_len G).symm⟩
      generalize bef (dN n) k = B at *
      generalize beh (dN n) k = C at *
      have er : List.replicate (1 - n.2 - (G.length : Int)).toNat 48 ++ G = B ++ C := by
        rw [← ef, show (1 - n.2 - (G.length : Int)).toNat = k + 1 - G.length by omega]
      have lr : (List.replicate (1 - n.2 - (G.length : Int)).toNat 48).length + G.length ≤ 100000 := by rw [List.length_replicate]; omega
      refine ⟨.int n.2, rfl, 1, n.2, rfl, rfl, .str (SX.S G), rfl, _, G.length, rfl, lG, _, _, rfl, rfl, 48, 1 - n.2 - (G.length : Int), rfl, rfl, by omega, .str (SX.S G), rfl, _, _, rfl, rfl, cat_ok lr, ?_⟩
      dsimp only
      rw [SX.S_cat, er]
      have zl : (SX.S (B ++ C)).length ≤ sizeLine := by rw [SX.S_len, List.length_append, sizeLine_eq]; omega
      have lZ : ∀ {H' : Hp}, LenV K (.str (SX.S (B ++ C))) H' (B ++ C).length := fun {H'} => ⟨zl, (SX.S_len (B ++ C)).symm⟩
      have eb : ((B ++ C).length : Int) + n.2 = (B.length : Int) := by rw [List.length_append]; omega
      have s1 : Txt.slice (SX.S (B ++ C)) none (some (((B ++ C).length : Int) + n.2)) = SX.S B := by
        rw [eb, SX.slice_to (Int.natCast_nonneg _), Int.toNat_natCast, List.take_left]
      have s2 : Txt.slice (SX.S (B ++ C)) (some (((B ++ C).length : Int) + n.2)) none = SX.S C := by
        rw [eb, SX.slice_from (Int.natCast_nonneg _), Int.toNat_natCast, List.drop_left]
      refine ⟨.str (SX.S (sgnT n.1)), rfl, .str (SX.S (B ++ C)), rfl, .str (SX.S (B ++ C)), rfl, _, (B ++ C).length, rfl, lZ, .int n.2, rfl, _, _, rfl, rfl, _, rfl, SX.S (B ++ C), rfl, zl, ?_⟩
      rw [s1]
      refine ⟨_, _, rfl, rfl, cat_ok (by omega), _, _, rfl, rfl, ?_, .str (SX.S (B ++ C)), rfl, .str (SX.S (B ++ C)), rfl, _, (B ++ C).length, rfl, lZ, .int n.2, rfl, _, _, rfl, rfl, _, rfl, SX.S (B ++ C), rfl, zl, ?_⟩
      · rw [SX.S_cat]
        exact cat_ok (b := [46]) (by rw [List.length_append]; show _ + 1 ≤ 100000; omega)
      · rw [s2]
        have e : SX.S (sgnT n.1) ++ SX.S B ++ SX.S [46] ++ SX.S C = SX.S (sgnT n.1 ++ B ++ [46] ++ C) := by rw [SX.S_cat, SX.S_cat, SX.S_cat]
        rw [← e] at q
        refine ⟨_, _, rfl, rfl, ?_, q⟩
        rw [SX.S_cat, SX.S_cat]
        exact cat_ok (a := sgnT n.1 ++ B ++ [46]) (by rw [List.length_append, List.length_append]; show _ + _ + 1 + _ ≤ 100000; omega)
theorem nrm2_ge (m e : Int) : min e 0 ≤ (nrm m e).2 := by
  unfold nrm
  by_cases h : m = 0
  · rw [if_pos h]
    show min e 0 ≤ 0
    omega
  · rw [if_neg h]
    show min e 0 ≤ e + (v2 m : Int)
    omega
theorem nrm2_le {m e : Int} {k : Nat} (h : m.natAbs < 2 ^ (k + 1)) : (nrm m e).2 ≤ max (e + k) 0 := by
  unfold nrm
  by_cases h0 : m = 0
  · rw [if_pos h0]
    show (0 : Int) ≤ max (e + k) 0
    omega
  · rw [if_neg h0]
    have := v2_lt h h0
    show e + (v2 m : Int) ≤ max (e + k) 0
    omega
def mostN (w : Int) : Int := if w = 0 then 8 else if w = 1 then 64 else if w = 2 then 2 ^ 20 else if w = 3 then 2 ^ 60 else 2 ^ 200
def farN (w : Int) : Int := if w = 0 then 3 else if w = 1 then 9 else if w = 2 then 30 else if w = 3 then 100 else 800
def cutN (w : Int) : Int := if w = 4 then 1 else 0
theorem five_ways {w : Int} (h0 : 0 ≤ w) (h5 : w < 5) : w = 0 ∨ w = 1 ∨ w = 2 ∨ w = 3 ∨ w = 4 := by omega
theorem draw_bd {m e : Int} (hm : m.natAbs ≤ 2 ^ 200) (h1 : -800 ≤ e) (h2 : e ≤ 799) : (nrm m e).1.natAbs < 2 ^ 300 ∧ (nrm m e).2.natAbs ≤ 1000 ∧ Bd (nrm m e) 2000 := by
  have hm1 : m.natAbs < 2 ^ (200 + 1) := Nat.lt_of_le_of_lt hm (Nat.pow_lt_pow_right (by decide) (by decide))
  have a := nrm2_ge m e
  have b := nrm2_le (e := e) hm1
  have c := nrm_abs m e
  have c1 := Nat.le_trans c hm
  have x : (nrm m e).2.natAbs ≤ 1000 := by omega
  exact ⟨Nat.lt_of_le_of_lt c1 (Nat.pow_lt_pow_right (by decide) (by decide)), x, Nat.lt_of_le_of_lt c1 (Nat.pow_lt_pow_right (by decide) (by decide)), by omega⟩
def spLn (K : PySem.W.Frag) : Sp := fun vs H Q _ => ∃ p : Addr, vs = [.ref p] ∧ Pl p H ∧ ∀ v n H', Keeps p H H' → Pl p H' → Gn K H' v n 2000 → n.1.natAbs < 2 ^ 300 → n.2.natAbs ≤ 1000 → Q v H'
theorem ok_law_number {f f1 f2 : Addr} {fd fd1 fd2 : FuncData} (T : Top mg) (F : FnP K "_law_number" s_law_number f fd) (c_law_take : Cal P w K mg base CX0 1 "_law_take" ["_law_pile", "_law_size"] spTake f1 fd1) (c_law_odd : Cal P w K mg base CX0 1 "_law_odd" ["_law_m", "_law_e"] spNof f2 fd2) : FnOk P w K mg base CX0 2 f fd ["_law_pile"] (spLn K) := by
  have sc := sc_law_number
  refine ok0 F sc (fun vs H Q E h => ?_) (fun cdv A outer s H vs Q E hr h => ?_)
  · obtain ⟨p, rfl, _⟩ := h
    rfl
  · obtain ⟨p, rfl, l0, q⟩ := h
    refine ⟨_, (pss_cons (ps_set (i := 1) sc.nd rfl (.inl rfl) (pe_call c_law_take.ok (hr.mono (by decide)) (by rfl) c_law_take.m c_law_take.kp c_law_take.b .nil pass0 (pa_cons (pv 0) (pa_cons pe_int pa_nil))))
    (pss_cons (ps_set (i := 2) sc.nd rfl (.inl rfl) (pe_ix ix_list (pe_lst (pa_cons pe_int (pa_cons pe_int (pa_cons (pe_op op_pow pe_int pe_int) (pa_cons (pe_op op_pow pe_int pe_int) (pa_cons (pe_op op_shlW pe_int pe_int) pa_nil)))))) (pv 1) (fun _ _ => rfl)))
    (pss_cons (ps_set (i := 3) sc.nd rfl (.inl rfl) (pe_ix ix_list (pe_lst (pa_cons pe_int (pa_cons pe_int (pa_cons pe_int (pa_cons pe_int (pa_cons pe_int pa_nil)))))) (pv 1) (fun _ _ => rfl)))
    (pss_cons (ps_set (i := 4) sc.nd rfl (.inl rfl) (pe_op op_add (pe_op op_sub (pe_call c_law_take.ok (hr.mono (by decide)) (by rfl) c_law_take.m c_law_take.kp c_law_take.b .nil pass0 (pa_cons (pv 0) (pa_cons (pe_op op_mulX pe_int (pv 2)) pa_nil))) (pv 2)) pe_int))
    (pss_one (ps_ret (pe_call c_law_odd.ok (hr.mono (by decide)) (by rfl) c_law_odd.m c_law_odd.kp c_law_odd.b .nil pass0 (pa_cons (pv 4) (pa_cons (pe_op op_sub (pe_call c_law_take.ok (hr.mono (by decide)) (by rfl) c_law_take.m c_law_take.kp c_law_take.b .nil pass0 (pa_cons (pv 0) (pa_cons (pe_op op_sub (pe_op op_mulX pe_int (pv 3)) (pe_op op_mulX pe_int (pe_callTy call_int1 (by rfl) T.ty_int (by decide +kernel) (pa_cons (pe_cmpR op_eq (pv 1) pe_int (nomark _)) pa_nil)))) pa_nil))) (pv 3)) pa_nil))))))))), ?_⟩
    have p200 : (2 : Int) ^ 200 = ((2 ^ 200 : Nat) : Int) := by decide +kernel
    refine k_asg (P := fun _ v => ∃ z, v = .int z ∧ 0 ≤ z ∧ z < 5) (evi_take (N := fun z => z = 5) (T := fun z => 0 ≤ z ∧ z < 5) rfl (evi_c rfl) (fun m hm => by subst hm; exact ⟨by decide, by decide⟩) (fun m z hm a b => by subst hm; exact ⟨a, b⟩)) l0 fun v1 H1 k1 l1 ⟨way, e1, w0, w5⟩ => ?_
    subst e1
    refine k_asg (P := fun _ v => ∃ z, v = .int z ∧ z = mostN way) (evi_ix (U := fun z => z = mostN way) (W := fun z => z = way) (evk_lst
      (evis_cons (S := fun z => z = mostN 0) (evi_c rfl)
      (evis_cons (S := fun z => z = mostN 1) (evi_c rfl)
      (evis_cons (S := fun z => z = mostN 2) (evi_opC (S := fun z => z = 2) (T := fun z => z = 20) (evi_c rfl) (evi_c rfl) (fun a b ha hb => by subst ha hb; exact ⟨by decide, by decide, by decide⟩) (fun a b ha hb => by subst ha hb; decide +kernel))
      (evis_cons (S := fun z => z = mostN 3) (evi_opC (S := fun z => z = 2) (T := fun z => z = 60) (evi_c rfl) (evi_c rfl) (fun a b ha hb => by subst ha hb; exact ⟨by decide, by decide, by decide⟩) (fun a b ha hb => by subst ha hb; decide +kernel))
      (evis_cons (S := fun z => z = mostN 4) (evi_opC (S := fun z => z = 1) (T := fun z => z = 200) (evi_c rfl) (evi_c rfl) (fun a b ha hb => by subst ha hb; exact shl_ok (i := 1) (n := 1) (j := 200) (by decide) (by decide)) (fun a b ha hb => by subst ha hb; decide +kernel)) evis_nil)))))) (evi_var rfl rfl)
      (fun z hz => by subst hz; refine ⟨w0, ?_⟩; rcases five_ways w0 w5 with rfl | rfl | rfl | rfl | rfl <;> exact ⟨_, rfl, fun z h => h⟩)) l1 fun v2 H2 k2 l2 ⟨most, e2, hmo⟩ => ?_
    subst e2
    have mb : 8 ≤ most ∧ most ≤ 2 ^ 200 := by
      rw [hmo]
      rcases five_ways w0 w5 with rfl | rfl | rfl | rfl | rfl <;> decide +kernel
    refine k_asg (P := fun _ v => ∃ z, v = .int z ∧ z = farN way) (evi_ix (U := fun z => z = farN way) (W := fun z => z = way) (evk_lst
      (evis_cons (S := fun z => z = farN 0) (evi_c rfl)
      (evis_cons (S := fun z => z = farN 1) (evi_c rfl)
      (evis_cons (S := fun z => z = farN 2) (evi_c rfl)
      (evis_cons (S := fun z => z = farN 3) (evi_c rfl)
      (evis_cons (S := fun z => z = farN 4) (evi_c rfl) evis_nil)))))) (evi_var rfl rfl)
      (fun z hz => by subst hz; refine ⟨w0, ?_⟩; rcases five_ways w0 w5 with rfl | rfl | rfl | rfl | rfl <;> exact ⟨_, rfl, fun z h => h⟩)) l2 fun v3 H3 k3 l3 ⟨far, e3, hfa⟩ => ?_
    subst e3
    have p202 : 2 * most ≤ 2 ^ 202 := by
      have e : (2 : Int) ^ 202 = 2 ^ 200 * 4 := by decide +kernel
      omega
    have m2 : ∀ a b : Int, a = 2 → b = most → CMulX a b := fun a b ha hb => by
      subst ha hb
      exact ml (a := 2) (b := 200) (by decide) (by omega) (by decide)
    refine k_asg (P := fun _ v => ∃ z : Int, v = .int z ∧ z.natAbs ≤ 2 ^ 200) (evi_op (U := fun z => z.natAbs ≤ 2 ^ 200) (S := fun z => -most ≤ z ∧ z < most) (T := fun z => z = 1) (evi_op (U := fun z => -most ≤ z ∧ z < most) (S := fun z => 0 ≤ z ∧ z < 2 * most) (T := fun z => z = most) (evi_take (N := fun z => z = 2 * most) rfl (evi_opC (S := fun z => z = 2) (T := fun z => z = most) (evi_c rfl) (evi_var rfl rfl) m2 (fun a b ha hb => by subst ha hb; rfl)) (fun n hn => by subst hn; exact ⟨by omega, log_small (k := 202) (by omega) p202 (by decide)⟩) (fun n z hn a b => by subst hn; exact ⟨a, b⟩)) (evi_var rfl rfl) (fun a b ha hb => by subst hb; omega)) (evi_c rfl) (fun a b ha hb => by subst hb; omega)) l3 fun v4 H4 k4 l4 ⟨m, e4, hm⟩ => ?_
    subst e4
    have k04 := ((k1.trans k2).trans k3).trans k4
    have fb : 3 ≤ far ∧ far ≤ 800 ∧ 0 < 2 * far - 200 * cutN way ∧ 2 * far - 200 * cutN way ≤ 1400 ∧ 0 ≤ cutN way := by
      rw [hfa]
      rcases five_ways w0 w5 with rfl | rfl | rfl | rfl | rfl <;> decide
    refine k_ret (P := fun H v => ∃ a b : Int, (a = m ∧ -800 ≤ b ∧ b ≤ 799) ∧ Gn K H v (nrm a b) 2000) (evk_nof (S := fun z => z = m) (T := fun z => -800 ≤ z ∧ z ≤ 799) (R := fun a b => a = m ∧ -800 ≤ b ∧ b ≤ 799) (evi_var rfl rfl) (evi_op (S := fun z => 0 ≤ z ∧ z < 2 * far - 200 * cutN way) (T := fun z => z = far) (evi_take (N := fun z => z = 2 * far - 200 * cutN way) rfl (evi_op (S := fun z => z = 2 * far) (T := fun z => z = 200 * cutN way) (evi_opC (S := fun z => z = 2) (T := fun z => z = far) (evi_c rfl) (evi_var rfl rfl) (fun a b ha hb => by subst ha hb; exact ml (a := 2) (b := 10) (by decide) (by show b.natAbs ≤ 1024; omega) (by decide)) (fun a b ha hb => by subst ha hb; rfl)) (evi_opC (S := fun z => z = 200) (T := fun z => z = cutN way) (evi_c rfl) (fun H1 k l Q q => ⟨.int way, rfl, rfl, .inr ⟨_, rfl, q _ H1 (Keeps.refl p H1) l ⟨_, rfl, by
        unfold cutN
        by_cases y : way = 4
        · rw [if_pos y, decide_eq_true (congrArg V.int y), if_pos rfl]
        · rw [if_neg y, decide_eq_false (fun z => y (V.int.inj z)), if_neg (by decide)]⟩⟩⟩) (fun a b ha hb => by subst ha hb; exact ml (a := 8) (b := 1) (by decide) (by unfold cutN; split <;> decide) (by decide)) (fun a b ha hb => by subst ha hb; rfl)) (fun a b ha hb => by subst ha hb; rfl)) (fun n hn => by subst hn; exact ⟨fb.2.2.1, log_small (k := 12) fb.2.2.1 (by omega) (by decide)⟩) (fun n z hn a b => by subst hn; exact ⟨a, b⟩)) (evi_var rfl rfl) (fun a b ha hb => by subst hb; omega)) (fun a b ha hb => by subst ha; exact ⟨⟨rfl, hb⟩, (draw_bd hm hb.1 hb.2).2.2⟩)) l4 fun v H5 k5 l5 ⟨a, b, ⟨ha, hb1, hb2⟩, g⟩ => ?_
    subst ha
    obtain ⟨d1, d2, _⟩ := draw_bd hm hb1 hb2
    exact q v _ H5 (k04.trans k5) l5 g d1 d2
/-! ### the decimal texts of a number, with noughts behind -/
def dA (n : Int × Int) : Nat := n.1.natAbs * 2 ^ n.2.toNat
def dK0 (n : Int × Int) : Nat := (-n.2).toNat
def dB (n : Int × Int) : List Nat := bef (dA n * 5 ^ dK0 n) (dK0 n)
def dC (n : Int × Int) (j : Nat) : List Nat := beh (dA n * 5 ^ dK0 n) (dK0 n) ++ List.replicate j 48
theorem val_zeros : ∀ j, val (List.replicate j 48) = 0
  | 0 => rfl
  | j + 1 => by
    rw [List.replicate_succ', val_snoc, val_zeros j]
theorem dC_len (n : Int × Int) (j : Nat) : (dC n j).length = dK0 n + j := by
  unfold dC beh
  rw [List.length_append, pad_len, List.length_replicate]
theorem dec_val (n : Int × Int) (j : Nat) : val (dB n ++ dC n j) = dA n * 2 ^ j * 5 ^ (dC n j).length := by
  rw [dC_len]
  unfold dB dC
  rw [← List.append_assoc, val_app, val_bb, val_zeros, List.length_replicate, Nat.add_zero, Nat.pow_add, show (10 : Nat) = 2 * 5 from rfl, Nat.mul_pow]
  generalize 5 ^ dK0 n = a
  generalize 5 ^ j = b
  generalize 2 ^ j = c
  generalize dA n = d
  grind
theorem dec_ok {n : Int × Int} {j : Nat} {dot : Bool} (h1 : dot = true → 1 ≤ dK0 n + j) (h2 : dot = false → dK0 n + j = 0) (hl : (sgB (decide (n.1 < 0)) ++ dB n ++ dotB dot (dC n j)).length ≤ 300) : DecOk (decide (n.1 < 0)) dot (dB n) (dC n j) (dA n * 2 ^ j) := by
  refine ⟨dig_fig _, dig_ne _, dig_nolead _, fun c hc => ?_, fun z y => ?_, fun z => ?_, hl, dec_val n j, fun z => ?_⟩
  · rcases List.mem_append.mp hc with h | h
    · exact pad_fig _ _ c h
    · have := (List.mem_replicate.mp h).2
      omega
  · have := congrArg List.length y
    rw [dC_len] at this
    have := h1 z
    simp at *
    omega
  · exact List.length_eq_zero_iff.mp ((dC_len n j).trans (h2 z))
  · have z : n.1 < 0 := of_decide_eq_true z
    exact Nat.mul_pos (Nat.mul_pos (by omega) (Nat.pow_pos (by decide))) (Nat.pow_pos (by decide))
theorem dec_back {n : Int × Int} (hn : isNumB n.1 n.2 = true) (j : Nat) : nrm (sgI (decide (n.1 < 0)) (dA n * 2 ^ j)) (-((dC n j).length : Int)) = n := by
  have e : sgI (decide (n.1 < 0)) (dA n * 2 ^ j) = n.1 * 2 ^ (n.2.toNat + j) := by
    unfold sgI dA
    rw [Int.natCast_mul, Int.natCast_mul, pow_two_cast, pow_two_cast, Int.pow_add]
    by_cases z : n.1 < 0
    · rw [decide_eq_true z, if_pos rfl, ← Int.neg_mul, ← Int.neg_mul, show -((n.1.natAbs : Nat) : Int) = n.1 by omega, Int.mul_assoc]
    · rw [decide_eq_false z, if_neg (by decide), show ((n.1.natAbs : Nat) : Int) = n.1 by omega, Int.mul_assoc]
  rw [e, nrm_shift, dC_len, show -((dK0 n + j : Nat) : Int) + ((n.2.toNat + j : Nat) : Int) = n.2 by unfold dK0; omega]
  exact nrm_self hn
theorem dtx_parts (n : Int × Int) : dtx n = sgB (decide (n.1 < 0)) ++ dB n ++ dotB (decide (n.2 < 0)) (dC n 0) := by
  unfold dtx sgnT sgB dotB dB dC dA dK0 dN
  by_cases z : 0 ≤ n.2
  · rw [if_pos z, decide_eq_false (show ¬ n.2 < 0 by omega), show (-n.2).toNat = 0 by omega]
    by_cases y : n.1 < 0
    · rw [if_pos y, decide_eq_true y]
      simp [bef]
    · rw [if_neg y, decide_eq_false y]
      simp [bef]
  · rw [if_neg z, decide_eq_true (show n.2 < 0 by omega), show n.2.toNat = 0 by omega, Nat.pow_zero, Nat.mul_one]
    by_cases y : n.1 < 0
    · rw [if_pos y, decide_eq_true y]
      simp
    · rw [if_neg y, decide_eq_false y]
      simp
theorem eq_same (n : Int × Int) : PyData.eqv (.tuple [.int n.1, .int n.2]) (.tuple [.int n.1, .int n.2]) = true := by
  rw [eqv_pairs, decide_eq_true rfl, decide_eq_true rfl]
  rfl
theorem dot_in (n : Int × Int) : (46 ∈ dtx n) ↔ n.2 < 0 := by
  have hs : (46 : Nat) ∉ sgnT n.1 := fun h => by
    unfold sgnT at h
    split at h
    · have := List.mem_singleton.mp h
      omega
    · cases h
  unfold dtx
  by_cases z : 0 ≤ n.2
  · rw [if_pos z]
    refine ⟨fun h => ?_, fun h => absurd h (by omega)⟩
    rcases List.mem_append.mp h with y | y
    · exact absurd y hs
    · have := dig_fig _ _ y
      omega
  · rw [if_neg z]
    refine ⟨fun _ => by omega, fun _ => ?_⟩
    exact List.mem_append.mpr (.inl (List.mem_append.mpr (.inr List.mem_cons_self)))
def dmo (n : Int × Int) : List Nat := dtx n ++ (if n.2 < 0 then [] else [46])
theorem dmo_parts (n : Int × Int) (j : Nat) : dmo n ++ List.replicate j 48 = sgB (decide (n.1 < 0)) ++ dB n ++ dotB true (dC n j) := by
  unfold dmo
  rw [dtx_parts]
  by_cases z : n.2 < 0
  · rw [decide_eq_true z, if_pos z, List.append_nil]
    unfold dotB dC
    simp [List.append_assoc]
  · have k0 : dK0 n = 0 := by
      unfold dK0
      omega
    rw [decide_eq_false z, if_neg z]
    have ec : dC n j = List.replicate j 48 := by
      unfold dC
      rw [k0]
      rfl
    rw [ec]
    unfold dotB
    simp [List.append_assoc]
theorem dtx_len {n : Int × Int} (h1 : n.1.natAbs < 2 ^ 300) (h2 : n.2.natAbs ≤ 1000) : (dtx n).length ≤ 3000 := by
  have l1 := sgnT_len n.1
  unfold dtx
  by_cases z : 0 ≤ n.2
  · rw [if_pos z, List.length_append]
    have := dig_len_bd (dE_bd h1 h2)
    omega
  · rw [if_neg z]
    obtain ⟨a, b⟩ := bb_len (N := dN n) (k := (-n.2).toNat) (dN_bd h1 h2) (by omega)
    rw [List.length_append, List.length_append, List.length_append]
    show _ + _ + 1 + _ ≤ 3000
    omega
theorem rd_dec {n : Int × Int} {s : Str} {H : Hp} {Q : VK} {E : XK} (hn : isNumB n.1 n.2 = true) (j : Nat) (dot : Bool) (h1 : dot = true → 1 ≤ dK0 n + j) (h2 : dot = false → dK0 n + j = 0) (hT : s = SX.S (sgB (decide (n.1 < 0)) ++ dB n ++ dotB dot (dC n j))) (hl : (sgB (decide (n.1 < 0)) ++ dB n ++ dotB dot (dC n j)).length ≤ 300) (q : NewT H Q [.int n.1, .int n.2]) : spRd [.str s] H Q E := by
  refine ⟨_, _, _, _, _, congrArg (fun y => [V.str y]) hT, dec_ok h1 h2 hl, ?_⟩
  rw [dec_back hn]
  exact q
def spGood80 (K : PySem.W.Frag) : Sp := fun vs H Q _ => ∃ v n, vs = [v] ∧ Gn K H v n 2000 ∧ n.1.natAbs < 2 ^ 300 ∧ n.2.natAbs ≤ 1000 ∧ ∀ H', Ex H H' → Q (.bl true) H'
theorem ok_law_good {f f1 f2 f3 f4 f5 : Addr} {fd fd1 fd2 fd3 fd4 fd5 : FuncData} (T : Top mg) (F : FnP K "_law_good" s_law_good f fd) (c_number_text : Cal P w K mg base CX0 3 "number_text" ["number"] (spNt K) f1 fd1) (c_read_number : Cal P w K mg base CX0 4 "read_number" ["text"] spRn f2 fd2) (c_law_decimal : Cal P w K mg base CX0 2 "_law_decimal" ["_law_value"] (spLd K) f3 fd3) (c_decimal_text : Cal P w K mg base CX0 3 "decimal_text" ["number"] (spDt K) f4 fd4) (c_read_decimal : Cal P w K mg base CX0 3 "read_decimal" ["text"] spRd f5 fd5)
    (c_number_text_kb_number : KBn K fd1 ["number"] 0 ["number"] (fun _ ws => ws) (fun _ zs => zs)) (c_read_number_kb_text : KBn K fd2 ["text"] 0 ["text"] (fun _ ws => ws) (fun _ zs => zs)) (c_decimal_text_kb_number : KBn K fd4 ["number"] 0 ["number"] (fun _ ws => ws) (fun _ zs => zs)) (c_read_decimal_kb_text : KBn K fd5 ["text"] 0 ["text"] (fun _ ws => ws) (fun _ zs => zs)) : FnOk P w K mg base CX0 5 f fd ["_law_value"] (spGood80 K) := by
  have sc := sc_law_good
  refine ok0 F sc (fun vs H Q E h => ?_) (fun cdv A outer s H vs Q E hr h => ?_)
  · obtain ⟨v, n, rfl, _⟩ := h
    rfl
  · obtain ⟨v, n, rfl, gv, h1, h2, q⟩ := h
    refine ⟨_, (pss_cons (ps_set (i := 1) sc.nd rfl (.inl rfl) (pe_op op_add_str (pe_op op_add_str (pe_callTy call_str_int (by rfl) T.ty_str (by decide +kernel) (pa_cons (pe_ix ix_tup (pv 0) pe_int (fun _ _ => rfl)) pa_nil)) pe_str) (pe_callTy call_str_int (by rfl) T.ty_str (by decide +kernel) (pa_cons (pe_ix ix_tup (pv 0) pe_int (fun _ _ => rfl)) pa_nil))))
    (pss_cons (ps_if (pt_cmpR op_ne (pe_call c_number_text.ok (hr.mono (by decide)) (by rfl) c_number_text.m c_number_text.kp c_number_text.b .nil pass0 (pa_cons (pv 0) pa_nil)) (pv 1) (nomark _))
      (pss_one (ps_ret pe_bl)) pss_nil)
    (pss_cons (ps_if (pt_cmpR (op_neD hr.units) (pe_call c_read_number.ok (hr.mono (by decide)) (by rfl) c_read_number.m c_read_number.kp c_read_number.b .nil pass0 (pa_cons (pv 1) pa_nil)) (pv 0) (nomark _))
      (pss_one (ps_ret pe_bl)) pss_nil)
    (pss_cons (ps_if (pt_cmpR (op_neD hr.units) (pe_callN0 c_read_number.ok (hr.mono (by decide)) (by rfl) c_read_number.m c_read_number.kp c_read_number_kb_text pass0 (pk_cons (pe_callN0 c_number_text.ok (hr.mono (by decide)) (by rfl) c_number_text.m c_number_text.kp c_number_text_kb_number pass0 (pk_cons (pv 0) pk_nil)) pk_nil)) (pv 0) (nomark _))
      (pss_one (ps_ret pe_bl)) pss_nil)
    (pss_cons (ps_set (i := 2) sc.nd rfl (.inl rfl) (pe_call c_law_decimal.ok (hr.mono (by decide)) (by rfl) c_law_decimal.m c_law_decimal.kp c_law_decimal.b .nil pass0 (pa_cons (pv 0) pa_nil)))
    (pss_cons (ps_if (PW.pt (pw_or (pt_cmpR op_ne (pe_call c_decimal_text.ok (hr.mono (by decide)) (by rfl) c_decimal_text.m c_decimal_text.kp c_decimal_text.b .nil pass0 (pa_cons (pv 0) pa_nil)) (pv 2) (nomark _)) (pw_or1 (pt_cmpR op_ne (pe_callN0 c_decimal_text.ok (hr.mono (by decide)) (by rfl) c_decimal_text.m c_decimal_text.kp c_decimal_text_kb_number pass0 (pk_cons (pv 0) pk_nil)) (pv 2) (nomark _)))))
      (pss_one (ps_ret pe_bl)) pss_nil)
    (pss_cut (ps_if (PW.pt (pw_and (pt_cmpR op_lt (pe_callB call_len (by rfl) T.len (by decide +kernel) (pa_cons (pv 2) pa_nil)) pe_int (nomark _)) (pw_and1 (pt_cmpR (op_neD hr.units) (pe_call c_read_decimal.ok (hr.mono (by decide)) (by rfl) c_read_decimal.m c_read_decimal.kp c_read_decimal.b .nil pass0 (pa_cons (pv 2) pa_nil)) (pv 0) (nomark _)))))
      (pss_one (ps_ret pe_bl)) pss_nil)
    (pss_cons (ps_if (pt_cmpR op_lt (pe_callB call_len (by rfl) T.len (by decide +kernel) (pa_cons (pv 2) pa_nil)) pe_int (nomark _))
      (pss_cons (ps_set (i := 3) sc.nd rfl (.inl rfl) (pe_op op_add_str (pv 2) (pe_ix ix_list (pe_lst (pa_cons pe_str (pa_cons pe_str pa_nil))) (pe_callTy call_int1 (by rfl) T.ty_int (by decide +kernel) (pa_cons (pe_cmpR op_in_sign pe_str (pv 2) (by with_unfolding_all rfl)) pa_nil)) (fun _ _ => rfl))))
      (pss_one (ps_ret (pe_and (pe_cmpR (op_eqD hr.units) (pe_callN0 c_read_decimal.ok (hr.mono (by decide)) (by rfl) c_read_decimal.m c_read_decimal.kp c_read_decimal_kb_text pass0 (pk_cons (pe_op op_add_str (pv 3) pe_str) pk_nil)) (pv 0) (nomark _)) (pe_one (pe_cmpR (op_eqD hr.units) (pe_call c_read_decimal.ok (hr.mono (by decide)) (by rfl) c_read_decimal.m c_read_decimal.kp c_read_decimal.b .nil pass0 (pa_cons (pe_op op_add_str (pv 3) pe_str) pa_nil)) (pv 0) (nomark _))))))) pss_nil)
    (pss_one (ps_ret pe_bl)))))))))), ?_⟩
    obtain ⟨r, rfl, tp⟩ := gv.at_
    have g1 : n.1.natAbs.log2 < 1920 := PySem.Flt.log2_lt_of (by decide) (Nat.lt_of_lt_of_le h1 (Nat.pow_le_pow_right (by decide) (by decide)))
    have g2 : n.2.natAbs.log2 < 1920 := PySem.Flt.log2_lt_of (by decide) (Nat.lt_of_le_of_lt h2 (Nat.lt_of_lt_of_le (by decide : 1000 < 2 ^ 11) (Nat.pow_le_pow_right (by decide) (by decide))))
    have b1 : n.1.natAbs < 2 ^ 3000 := Nat.lt_of_lt_of_le h1 (Nat.pow_le_pow_right (by decide) (by decide))
    have b2 : n.2.natAbs < 2 ^ 3000 := Nat.lt_of_le_of_lt h2 (Nat.lt_of_lt_of_le (by decide : 1000 < 2 ^ 11) (Nat.pow_le_pow_right (by decide) (by decide)))
    have l1 := cod_len b1
    have l2 := cod_len b2
    have dl := dtx_len h1 h2
    refine ⟨.ref r, rfl, r, [.int n.1, .int n.2], 0, .int n.1, rfl, rfl, tp, rfl, n.1, rfl, g1, ?_⟩
    rw [ts_cod]
    refine ⟨_, _, rfl, rfl, cat_ok (b := [112]) (by show _ + 1 ≤ 100000; omega), .ref r, rfl, r, [.int n.1, .int n.2], 1, .int n.2, rfl, rfl, tp, rfl, n.2, rfl, g2, ?_⟩
    rw [ts_cod]
    have e : SX.S (cod n.1) ++ SX.S [112] ++ SX.S (cod n.2) = SX.S (ntx n) := by
      rw [SX.S_cat, SX.S_cat]
      rfl
    refine ⟨SX.S (cod n.1) ++ SX.S [112], _, rfl, rfl, ?_, ?_⟩
    · rw [SX.S_cat]
      refine cat_ok ?_
      rw [List.length_append]
      show _ + 1 + _ ≤ 100000
      omega
    rw [e]
    refine g_name ?_
    dsimp only
    have gx := fun (H' : Hp) (x : Ex H H') => gv.ex x
    refine ⟨.ref r, rfl, .ref r, n, rfl, gv, fun H1 x1 => ⟨.str (SX.S (ntx n)), rfl, rfl, _, rfl, iteNS rfl ?_⟩⟩
    refine ⟨.str (SX.S (ntx n)), rfl, n, rfl, gv.nb, gv.bd, fun H2 p2 x2 hp2 => ⟨.ref r, rfl, _, _, numAt_dp (n := n) ⟨p2, rfl, st_of hp2⟩, numAt_dp (gx _ (x1.trans x2)).at_, pair_shaped _ _, pair_shaped _ _, false, by rw [eq_same]; rfl, iteF ?_⟩⟩
    have x12 := x1.trans x2
    refine ⟨.ref r, rfl, rfl, rfl, .ref r, n, rfl, gx _ x12, fun H3 x3 => ⟨rfl, rfl, n, rfl, gv.nb, gv.bd, fun H4 p4 x4 hp4 => ⟨.ref r, rfl, _, _, numAt_dp (n := n) ⟨p4, rfl, st_of hp4⟩, numAt_dp (gx _ (x12.trans (x3.trans x4))).at_, pair_shaped _ _, pair_shaped _ _, false, by rw [eq_same]; rfl, iteF ?_⟩⟩⟩
    have x14 := x12.trans (x3.trans x4)
    refine ⟨.ref r, rfl, .ref r, n, rfl, (gx _ x14).at_, h1, h2, ?_⟩
    refine g_name ?_
    dsimp only
    refine ⟨.ref r, rfl, .ref r, n, rfl, gx _ x14, h1, h2, fun H5 x5 => ⟨.str (SX.S (dtx n)), rfl, rfl, _, rfl, iteNS rfl ⟨.ref r, rfl, rfl, rfl, .ref r, n, rfl, gx _ (x14.trans x5), h1, h2, fun H6 x6 => ⟨.str (SX.S (dtx n)), rfl, rfl, _, rfl, iteNS rfl ?_⟩⟩⟩⟩
    have x16 := (x14.trans x5).trans x6
    have lenT : ∀ {H' : Hp}, LenV K (.str (SX.S (dtx n))) H' (dtx n).length := fun {H'} => ⟨by rw [SX.S_len, sizeLine_eq]; omega, (SX.S_len _).symm⟩
    refine q_cut (M := fun σ' H' => σ' = [some (.ref r), some (.str (SX.S (ntx n))), some (.str (SX.S (dtx n))), none] ∧ Ex H6 H') ?_ ?_
    · refine ⟨.str (SX.S (dtx n)), rfl, _, (dtx n).length, rfl, lenT, _, 290, rfl, rfl, _, rfl, ite2 (fun z => ?_) (fun _ => iteF ⟨rfl, Ex.refl H6⟩)⟩
      have z : ((dtx n).length : Int) < 290 := of_decide_eq_true z
      refine ⟨.str (SX.S (dtx n)), rfl, ?_⟩
      refine rd_dec (E := E) (n := n) gv.nb 0 (decide (n.2 < 0)) (fun y => ?_) (fun y => ?_) (congrArg SX.S (dtx_parts n)) (by rw [← dtx_parts]; omega) (fun H7 p7 x7 hp7 => ⟨.ref r, rfl, _, _, numAt_dp (n := n) ⟨p7, rfl, st_of hp7⟩, numAt_dp (gx _ (x16.trans x7)).at_, pair_shaped _ _, pair_shaped _ _, false, by rw [eq_same]; rfl, iteF ⟨rfl, x7⟩⟩)
      · have y : n.2 < 0 := of_decide_eq_true y
        unfold dK0
        omega
      · have y : ¬ n.2 < 0 := of_decide_eq_false y
        unfold dK0
        omega
    rintro σ' H7 ⟨rfl, x7⟩
    have x17 := x16.trans x7
    refine ⟨.str (SX.S (dtx n)), rfl, _, (dtx n).length, rfl, lenT, _, 200, rfl, rfl, _, rfl, ite2 (fun z => ?_) (fun _ => q H7 x17)⟩
    have z : ((dtx n).length : Int) < 200 := of_decide_eq_true z
    refine ⟨.str (SX.S (dtx n)), rfl, by show 2 ≤ sizeLine; decide, fun p8 hp8 => ?_⟩
    have x8 := Ex.new (o := .lst [.str (SX.S [46]), .str (SX.S [])]) hp8
    have hl8 : (upd H7 p8 (.lst [.str (SX.S [46]), .str (SX.S [])])) p8 = some (.lst [.str (SX.S [46]), .str (SX.S [])]) := upd_same
    refine ⟨.str (SX.S (dtx n)), rfl, 46, SX.S (dtx n), rfl, rfl, .inr ⟨_, rfl, ?_⟩⟩
    have sq8 := sq_of (K := K) hl8
    have ml8 : (dmo n).length ≤ 201 := by
      unfold dmo
      rw [List.length_append]
      split
      · show _ + 0 ≤ 201
        omega
      · show _ + 1 ≤ 201
        omega
    have key : ∀ {Q' : VK}, Q' (.str (SX.S (dmo n))) (upd H7 p8 (.lst [.str (SX.S [46]), .str (SX.S [])])) → rIxL K (.ref p8) (.int (if decide (46 ∈ (SX.S (dtx n)).cps.toList) = true then 1 else 0)) (upd H7 p8 (.lst [.str (SX.S [46]), .str (SX.S [])])) (fun y H' => ∃ i j, V.str (SX.S (dtx n)) = .str i ∧ y = .str j ∧ i.length + j.length ≤ sizeLine ∧ Q' (.str (i ++ j)) H') := fun q' => by
      unfold dmo at q'
      by_cases y : n.2 < 0
      · rw [if_pos y] at q'
        rw [show decide (46 ∈ (SX.S (dtx n)).cps.toList) = true from decide_eq_true ((dot_in n).mpr y)]
        refine ⟨p8, _, 1, .str (SX.S []), rfl, rfl, sq8, rfl, SX.S (dtx n), SX.S [], rfl, rfl, cat_ok (by show _ + 0 ≤ 100000; omega), ?_⟩
        rw [SX.S_cat]
        exact q'
      · rw [if_neg y] at q'
        rw [show decide (46 ∈ (SX.S (dtx n)).cps.toList) = false from decide_eq_false (fun z => y ((dot_in n).mp z))]
        refine ⟨p8, _, 0, .str (SX.S [46]), rfl, rfl, sq8, rfl, SX.S (dtx n), SX.S [46], rfl, rfl, cat_ok (by show _ + 1 ≤ 100000; omega), ?_⟩
        rw [SX.S_cat]
        exact q'
    dsimp only
    refine key (Q' := fun x H1 => gName 3 x [some (.ref r), some (.str (SX.S (ntx n))), some (.str (SX.S (dtx n))), none] H1 _) ?_
    refine g_name ?_
    have x18 := x17.trans x8
    generalize upd H7 p8 (.lst [.str (SX.S [46]), .str (SX.S [])]) = H8 at *
    have c1 : SX.S (dmo n) ++ SX.S [48] = SX.S (sgB (decide (n.1 < 0)) ++ dB n ++ dotB true (dC n 1)) := by
      rw [SX.S_cat, ← dmo_parts]
      rfl
    have c6 : SX.S (dmo n) ++ SX.S [48, 48, 48, 48, 48, 48] = SX.S (sgB (decide (n.1 < 0)) ++ dB n ++ dotB true (dC n 6)) := by
      rw [SX.S_cat, ← dmo_parts]
      rfl
    refine ⟨.str (SX.S (dmo n)), rfl, _, _, rfl, rfl, cat_ok (b := [48]) (by show _ + 1 ≤ 100000; omega), rfl, rfl, ?_⟩
    refine rd_dec (E := E) (n := n) gv.nb 1 true (fun _ => by omega) (fun y => by cases y) c1 (by rw [← dmo_parts, List.length_append, List.length_replicate]; omega) (fun H9 p9 x9 hp9 => ⟨.ref r, rfl, _, _, numAt_dp (n := n) ⟨p9, rfl, st_of hp9⟩, numAt_dp (gx _ (x18.trans x9)).at_, pair_shaped _ _, pair_shaped _ _, true, by rw [eq_same], iteT ?_⟩)
    refine ⟨.str (SX.S (dmo n)), rfl, _, _, rfl, rfl, cat_ok (b := [48, 48, 48, 48, 48, 48]) (by show _ + 6 ≤ 100000; omega), ?_⟩
    refine rd_dec (E := E) (n := n) gv.nb 6 true (fun _ => by omega) (fun y => by cases y) c6 (by rw [← dmo_parts, List.length_append, List.length_replicate]; omega) (fun H10 p10 x10 hp10 => ⟨.ref r, rfl, _, _, numAt_dp (n := n) ⟨p10, rfl, st_of hp10⟩, numAt_dp (gx _ (x18.trans (x9.trans x10))).at_, pair_shaped _ _, pair_shaped _ _, ?_⟩)
    rw [eq_same]
    exact q H10 (x18.trans (x9.trans x10))
def spLaw (K : PySem.W.Frag) : Sp := fun vs H Q _ => ∃ (a : Addr) (ns : List Int), vs = [.ref a] ∧ SqL K H a (ns.map V.int) ∧ ∀ H', Q (.bl true) H'
section
variable {K : PySem.W.Frag} {σ : L2.St} {H : Hp} {ta tb te : TE} {m e : Int} {n : Int × Int}
theorem ev_nt0 (h : EvN K te σ H n 2000) : Ev (tCall (spNt K) [] E0 (tCons te tNil)) σ H (.str (SX.S (ntx n))) := fun H1 e1 Q q =>
  h H1 e1 _ fun v H2 e2 g => ⟨v, n, rfl, g, fun H3 e3 => q H3 (e2.trans e3)⟩
theorem ev_dt0 (h : EvN K te σ H n 2000) (h1 : n.1.natAbs < 2 ^ 300) (h2 : n.2.natAbs ≤ 1000) : Ev (tCall (spDt K) [] E0 (tCons te tNil)) σ H (.str (SX.S (dtx n))) := fun H1 e1 Q q =>
  h H1 e1 _ fun v H2 e2 g => ⟨v, n, rfl, g, h1, h2, fun H3 e3 => q H3 (e2.trans e3)⟩
theorem ev_gd0 (h : EvN K te σ H n 2000) (h1 : n.1.natAbs < 2 ^ 300) (h2 : n.2.natAbs ≤ 1000) : Ev (tCall (spGood80 K) [] E0 (tCons te tNil)) σ H (.bl true) := fun H1 e1 Q q =>
  h H1 e1 _ fun v H2 e2 g => ⟨v, n, rfl, g, h1, h2, fun H3 e3 => q H3 (e2.trans e3)⟩
theorem ev_nt (ha : Ev ta σ H (.int m)) (hb : Ev tb σ H (.int e)) (hn : isNumB m e = true) (hB : Bd (m, e) 2000) : Ev (tCall (spNt K) [] E0 (tCons (tTup (tCons ta (tCons tb tNil))) tNil)) σ H (.str (SX.S (ntx (m, e)))) := ev_nt0 (evn_lit (K := K) ha hb hn hB)
theorem ev_dt (ha : Ev ta σ H (.int m)) (hb : Ev tb σ H (.int e)) (hn : isNumB m e = true) (hB : Bd (m, e) 2000) (h1 : m.natAbs < 2 ^ 300) (h2 : e.natAbs ≤ 1000) : Ev (tCall (spDt K) [] E0 (tCons (tTup (tCons ta (tCons tb tNil))) tNil)) σ H (.str (SX.S (dtx (m, e)))) := ev_dt0 (evn_lit (K := K) ha hb hn hB) h1 h2
theorem ev_gd (ha : Ev ta σ H (.int m)) (hb : Ev tb σ H (.int e)) (hn : isNumB m e = true) (hB : Bd (m, e) 2000) (h1 : m.natAbs < 2 ^ 300) (h2 : e.natAbs ≤ 1000) : Ev (tCall (spGood80 K) [] E0 (tCons (tTup (tCons ta (tCons tb tNil))) tNil)) σ H (.bl true) := ev_gd0 (evn_lit (K := K) ha hb hn hB) h1 h2
theorem evn_rd {s : Str} (sg dot : Bool) (B C : List Nat) (M : Nat) (n : Int × Int) (hs : s = SX.S (sgB sg ++ B ++ dotB dot C)) (d : DecOk sg dot B C M) (hn : nrm (sgI sg M) (-(C.length : Int)) = n) (hb : isNumB n.1 n.2 = true) (hB : Bd n 2000) : EvN K (tCall spRd [] E0 (tCons (tC (.str s)) tNil)) σ H n 2000 := fun H1 e1 Q q =>
  ⟨sg, dot, B, C, M, congrArg (fun y => [V.str y]) hs, d, by rw [hn]; exact fun H2 p e2 hp => q (.ref p) H2 e2 ⟨⟨p, rfl, st_of hp⟩, hb, hB⟩⟩
theorem ett_same {a b : Str} (ha : Ev ta σ H (.str a)) (hb : Ev tb σ H (.str b)) (h : a = b) : EvT (tTest (tOp rNe ta tb)) σ H false := et_is (et_test (ev_op ha hb (rv_ne rfl))) (by rw [h, decide_eq_true rfl]; rfl)
end
theorem gn_keepP {K : PySem.W.Frag} {v : V} {n : Int × Int} {B : Nat} {p : Addr} {H H' : Hp} (g : Gn K H v n B) (l : Pl p H) (k : Keeps p H H') : Gn K H' v n B := by
  obtain ⟨x, hx⟩ := l
  exact gn_keep g hx k
/-- a pair that is good where its first part is odd -/
def P80 (K : PySem.W.Frag) (H : Hp) (v : V) : Prop := ∃ a b : Int, NumAt K H v (a, b) ∧ a.natAbs < 2 ^ 300 ∧ b.natAbs ≤ 1000
theorem p80_mono : Mono (P80 K) := fun _ _ _ x ⟨a, b, h, h1⟩ => ⟨a, b, numAt_ex x h, h1⟩
theorem p80_lit {σ : L2.St} {H : Hp} {ta tb : TE} {a b : Int} (ha : Ev ta σ H (.int a)) (hb : Ev tb σ H (.int b)) (h1 : a.natAbs < 2 ^ 300) (h2 : b.natAbs ≤ 1000) : EvP (P80 K) (tTup (tCons ta (tCons tb tNil))) σ H := fun H1 e1 Q q =>
  ha H1 e1 _ fun H2 e2 => hb H2 (e1.trans e2) _ fun H3 e3 => ⟨by show 2 ≤ sizeLine; decide, fun p hp => q (.ref p) _ ((e2.trans e3).trans (Ex.new hp)) ⟨a, b, numAt_of upd_same, h1, h2⟩⟩
theorem lit_bd {a b : Int} (h1 : a.natAbs < 2 ^ 300) (h2 : b.natAbs ≤ 1000) : Bd (a, b) 2000 := ⟨Nat.lt_of_lt_of_le h1 (Nat.pow_le_pow_right (by decide) (by decide)), Nat.le_trans h2 (by decide)⟩
theorem ok_law {f fc f1 f2 f3 f4 f5 f6 f7 : Addr} {fd fdc fd1 fd2 fd3 fd4 fd5 fd6 fd7 : FuncData} (T : Top mg) (F : FnP K "law" s_law f fd)
    (c_law_cell : Cal P w K mg base CX0 2 "_law_cell" ["_law_script", "_law_k"] (spCel K) fc fdc) (c_number_text : Cal P w K mg base CX0 3 "number_text" ["number"] (spNt K) f1 fd1) (c_decimal_text : Cal P w K mg base CX0 3 "decimal_text" ["number"] (spDt K) f2 fd2) (c_read_decimal : Cal P w K mg base CX0 3 "read_decimal" ["text"] spRd f3 fd3) (c_law_take : Cal P w K mg base CX0 1 "_law_take" ["_law_pile", "_law_size"] spTake f4 fd4) (c_law_odd : Cal P w K mg base CX0 1 "_law_odd" ["_law_m", "_law_e"] spNof f5 fd5) (c_law_number : Cal P w K mg base CX0 2 "_law_number" ["_law_pile"] (spLn K) f6 fd6) (c_law_good : Cal P w K mg base CX0 5 "_law_good" ["_law_value"] (spGood80 K) f7 fd7) : FnOk P w K mg base CX0 6 f fd ["_law_script"] (spLaw K) := by
  have sc := sc_law
  refine ok0 F sc (fun vs H Q E h => ?_) (fun cdv A outer s H vs Q E hr h => ?_)
  · obtain ⟨a, ns, rfl, _⟩ := h
    rfl
  · obtain ⟨a, ns, rfl, hS, q⟩ := h
    refine ⟨_, (pss_cons (ps_if (PW.pt (pw_or (pt_cmpR op_ne (pe_call c_number_text.ok (hr.mono (by decide)) (by rfl) c_number_text.m c_number_text.kp c_number_text.b .nil pass0 (pa_cons (pe_tup (pa_cons pe_int (pa_cons (pe_un un_neg pe_int) pa_nil))) pa_nil)) pe_str (nomark _)) (pw_or (pt_cmpR op_ne (pe_call c_number_text.ok (hr.mono (by decide)) (by rfl) c_number_text.m c_number_text.kp c_number_text.b .nil pass0 (pa_cons (pe_tup (pa_cons (pe_un un_neg pe_int) (pa_cons pe_int pa_nil))) pa_nil)) pe_str (nomark _)) (pw_or1 (pt_cmpR op_ne (pe_call c_number_text.ok (hr.mono (by decide)) (by rfl) c_number_text.m c_number_text.kp c_number_text.b .nil pass0 (pa_cons (pe_tup (pa_cons pe_int (pa_cons pe_int pa_nil))) pa_nil)) pe_str (nomark _))))))
      (pss_one (ps_ret pe_bl)) pss_nil)
    (pss_cons (ps_if (pt_cmpR op_ne (pe_call c_decimal_text.ok (hr.mono (by decide)) (by rfl) c_decimal_text.m c_decimal_text.kp c_decimal_text.b .nil pass0 (pa_cons (pe_tup (pa_cons pe_int (pa_cons (pe_un un_neg pe_int) pa_nil))) pa_nil)) pe_str (nomark _))
      (pss_one (ps_ret pe_bl)) pss_nil)
    (pss_cons (ps_if (pt_cmpR op_ne (pe_call c_decimal_text.ok (hr.mono (by decide)) (by rfl) c_decimal_text.m c_decimal_text.kp c_decimal_text.b .nil pass0 (pa_cons (pe_tup (pa_cons (pe_un un_neg pe_int) (pa_cons pe_int pa_nil))) pa_nil)) pe_str (nomark _))
      (pss_one (ps_ret pe_bl)) pss_nil)
    (pss_cons (ps_if (pt_cmpR op_ne (pe_call c_decimal_text.ok (hr.mono (by decide)) (by rfl) c_decimal_text.m c_decimal_text.kp c_decimal_text.b .nil pass0 (pa_cons (pe_tup (pa_cons pe_int (pa_cons pe_int pa_nil))) pa_nil)) pe_str (nomark _))
      (pss_one (ps_ret pe_bl)) pss_nil)
    (pss_cons (ps_if (pt_cmpR (op_neD hr.units) (pe_call c_read_decimal.ok (hr.mono (by decide)) (by rfl) c_read_decimal.m c_read_decimal.kp c_read_decimal.b .nil pass0 (pa_cons pe_str pa_nil)) (pe_tup (pa_cons pe_int (pa_cons pe_int pa_nil))) (nomark _))
      (pss_one (ps_ret pe_bl)) pss_nil)
    (pss_cons (ps_if (PW.pt (pw_or (pt_cmpR (op_neD hr.units) (pe_call c_read_decimal.ok (hr.mono (by decide)) (by rfl) c_read_decimal.m c_read_decimal.kp c_read_decimal.b .nil pass0 (pa_cons pe_str pa_nil)) (pe_tup (pa_cons pe_int (pa_cons pe_int pa_nil))) (nomark _)) (pw_or (pt_cmpR (op_neD hr.units) (pe_call c_read_decimal.ok (hr.mono (by decide)) (by rfl) c_read_decimal.m c_read_decimal.kp c_read_decimal.b .nil pass0 (pa_cons pe_str pa_nil)) (pe_tup (pa_cons (pe_un un_neg pe_int) (pa_cons (pe_un un_neg pe_int) pa_nil))) (nomark _)) (pw_or1 (pt_cmpR (op_neD hr.units) (pe_call c_read_decimal.ok (hr.mono (by decide)) (by rfl) c_read_decimal.m c_read_decimal.kp c_read_decimal.b .nil pass0 (pa_cons pe_str pa_nil)) (pe_tup (pa_cons pe_int (pa_cons (pe_un un_neg pe_int) pa_nil))) (nomark _))))))
      (pss_one (ps_ret pe_bl)) pss_nil)
    (pss_cons (ps_for PassesOwn.never rfl (pi_range1 (by rfl) T.range (pa_cons pe_int pa_nil)) (pg_name (i := 1) sc.nd rfl (.inl rfl))
      (pss_cons (ps_set (i := 2) sc.nd rfl (.inl rfl) (pe_lst (pa_cons (pe_call c_law_cell.ok (hr.mono (by decide)) (by rfl) c_law_cell.m c_law_cell.kp c_law_cell.b .nil pass0 (pa_cons (pv 0) (pa_cons (pv 1) pa_nil))) pa_nil)))
      (pss_cons (ps_set (i := 3) sc.nd rfl (.inl rfl) (pe_call c_law_odd.ok (hr.mono (by decide)) (by rfl) c_law_odd.m c_law_odd.kp c_law_odd.b .nil pass0 (pa_cons (pe_op op_sub (pe_call c_law_take.ok (hr.mono (by decide)) (by rfl) c_law_take.m c_law_take.kp c_law_take.b .nil pass0 (pa_cons (pv 2) (pa_cons (pe_op op_pow pe_int pe_int) pa_nil))) (pe_op op_pow pe_int pe_int)) (pa_cons (pe_op op_sub (pe_call c_law_take.ok (hr.mono (by decide)) (by rfl) c_law_take.m c_law_take.kp c_law_take.b .nil pass0 (pa_cons (pv 2) (pa_cons pe_int pa_nil))) pe_int) pa_nil))))
      (pss_cons (ps_set (i := 4) sc.nd rfl (.inl rfl) (pe_lst (pa_cons (pe_call c_law_number.ok (hr.mono (by decide)) (by rfl) c_law_number.m c_law_number.kp c_law_number.b .nil pass0 (pa_cons (pv 2) pa_nil)) (pa_cons (pv 3) (pa_cons (pe_tup (pa_cons (pe_ix ix_tup (pv 3) pe_int (fun _ _ => rfl)) (pa_cons (pe_op op_sub (pe_ix ix_tup (pv 3) pe_int (fun _ _ => rfl)) pe_int) pa_nil))) pa_nil)))))
      (pss_cons (ps_set (i := 4) sc.nd rfl (.inl rfl) (pe_op op_cat (pv 4) (pe_lst (pa_cons (pe_tup (pa_cons (pe_op op_sub pe_int (pe_callB call_abs (by rfl) T.abs (by decide +kernel) (pa_cons (pe_ix ix_tup (pv 3) pe_int (fun _ _ => rfl)) pa_nil))) (pa_cons (pe_op op_add (pe_ix ix_tup (pv 3) pe_int (fun _ _ => rfl)) pe_int) pa_nil))) (pa_cons (pe_tup (pa_cons pe_int (pa_cons pe_int pa_nil))) pa_nil)))))
      (pss_one (ps_for PassesOwn.never rfl (pi_list (pv 4)) (pg_name (i := 5) sc.nd rfl (.inl rfl))
        (pss_one (ps_if (PW.pt (pw_and (pt_cmpR op_eq (pe_op op_mod (pe_ix ix_tup (pv 5) pe_int (fun _ _ => rfl)) pe_int) pe_int (nomark _)) (pw_and1 (pt_not (pt_val (pe_call c_law_good.ok (hr.mono (by decide)) (by rfl) c_law_good.m c_law_good.kp c_law_good.b .nil pass0 (pa_cons (pv 5) pa_nil)))))))
          (pss_one (ps_ret pe_bl)) pss_nil)))))))))
    (pss_one (ps_ret (pe_and (pe_call c_law_good.ok (hr.mono (by decide)) (by rfl) c_law_good.m c_law_good.kp c_law_good.b .nil pass0 (pa_cons (pe_tup (pa_cons pe_int (pa_cons pe_int pa_nil))) pa_nil)) (pe_and (pe_call c_law_good.ok (hr.mono (by decide)) (by rfl) c_law_good.m c_law_good.kp c_law_good.b .nil pass0 (pa_cons (pe_tup (pa_cons pe_int (pa_cons (pe_un un_neg pe_int) pa_nil))) pa_nil)) (pe_and (pe_call c_law_good.ok (hr.mono (by decide)) (by rfl) c_law_good.m c_law_good.kp c_law_good.b .nil pass0 (pa_cons (pe_tup (pa_cons (pe_un un_neg pe_int) (pa_cons pe_int pa_nil))) pa_nil)) (pe_one (pe_call c_law_good.ok (hr.mono (by decide)) (by rfl) c_law_good.m c_law_good.kp c_law_good.b .nil pass0 (pa_cons (pe_tup (pa_cons (pe_op op_add (pe_op op_shlW pe_int pe_int) pe_int) (pa_cons (pe_un un_neg pe_int) pa_nil))) pa_nil))))))))))))))), ?_⟩
    have ng : ∀ {σ' : L2.St} {H' : Hp} {i : Int}, Ev (tUn (rU fun i => .int (-i)) (tC (.int i))) σ' H' (.int (-i)) := ev_un ev_c ru_neg
    refine q_pass (et_or (ett_same (ev_nt ev_c ng (by decide) ⟨by decide +kernel, by decide⟩) ev_c (by decide +kernel)) (fun _ => et_or (ett_same (ev_nt ng ev_c (by decide) ⟨by decide +kernel, by decide⟩) ev_c (by decide +kernel)) (fun _ => ett_same (ev_nt ev_c ev_c (by decide) ⟨by decide +kernel, by decide⟩) ev_c (by decide +kernel)))) (fun H1 x1 => ?_)
    refine q_pass (ett_same (ev_dt ev_c ng (by decide) ⟨by decide +kernel, by decide⟩ (by decide +kernel) (by decide)) ev_c (by decide +kernel)) (fun H2 x2 => ?_)
    refine q_pass (ett_same (ev_dt ng ev_c (by decide) ⟨by decide +kernel, by decide⟩ (by decide +kernel) (by decide)) ev_c (by decide +kernel)) (fun H3 x3 => ?_)
    refine q_pass (ett_same (ev_dt ev_c ev_c (by decide) ⟨by decide +kernel, by decide⟩ (by decide +kernel) (by decide)) ev_c (by decide +kernel)) (fun H4 x4 => ?_)
    have fg : ∀ {l : List Nat}, l.all (fun c => decide (48 ≤ c ∧ c ≤ 57)) = true → Fig l := fun h c hc => of_decide_eq_true (List.all_eq_true.mp h c hc)
    have d1 : DecOk false true [48] [48] 0 := ⟨fg rfl, by decide, .inl rfl, fg rfl, fun _ => by decide, (fun z => by cases z), by decide, by decide, fun z => by cases z⟩
    have d2 : DecOk false false [48] [] 0 := ⟨fg rfl, by decide, .inl rfl, fg rfl, (fun z => by cases z), fun _ => rfl, by decide, by decide, fun z => by cases z⟩
    have d3 : DecOk true true [48] [53] 1 := ⟨fg rfl, by decide, .inl rfl, fg rfl, fun _ => by decide, (fun z => by cases z), by decide, by decide, fun _ => by decide⟩
    have d4 : DecOk false true [49, 48] [53, 48, 48] 84 := ⟨fg rfl, by decide, .inr (by decide), fg rfl, fun _ => by decide, (fun z => by cases z), by decide, by decide, fun z => by cases z⟩
    refine q_pass (evt_same (evn_rd false true [48] [48] 0 (0, 0) (by decide +kernel) d1 (by decide +kernel) (by decide) ⟨by decide +kernel, by decide⟩) (evn_lit (B := 2000) ev_c ev_c (by decide) ⟨by decide +kernel, by decide⟩) rfl) (fun H5 x5 => ?_)
    refine q_pass (et_or (evt_same (evn_rd false false [48] [] 0 (0, 0) (by decide +kernel) d2 (by decide +kernel) (by decide) ⟨by decide +kernel, by decide⟩) (evn_lit (B := 2000) ev_c ev_c (by decide) ⟨by decide +kernel, by decide⟩) rfl) (fun _ => et_or (evt_same (evn_rd true true [48] [53] 1 (-1, -1) (by decide +kernel) d3 (by decide +kernel) (by decide) ⟨by decide +kernel, by decide⟩) (evn_lit (B := 2000) ng ng (by decide) ⟨by decide +kernel, by decide⟩) rfl) (fun _ => evt_same (evn_rd false true [49, 48] [53, 48, 48] 84 (21, -1) (by decide +kernel) d4 (by decide +kernel) (by decide) ⟨by decide +kernel, by decide⟩) (evn_lit (B := 2000) ev_c ng (by decide) ⟨by decide +kernel, by decide⟩) rfl))) (fun H6 x6 => ?_)
    have hS6 : SqL K H6 a (ns.map V.int) := ex_l ((((x1.trans x2).trans x3).trans x4).trans (x5.trans x6)) hS
    refine ⟨4, rfl, by decide, by decide, for_range (lo := 0) (n := 4) (fun _ σ' H' => SqL K H' a (ns.map V.int) ∧ ∃ t1 t2 t3 t4 t5, σ' = [some (.ref a), t1, t2, t3, t4, t5]) ⟨hS6, none, none, none, none, none, rfl⟩ (fun i σ' H7 hi hp => ?_) (fun σ' H7 hp => ?_)⟩
    · obtain ⟨hS1, t1, t2, t3, t4, t5, rfl⟩ := hp
      refine g_name ?_
      refine ⟨.ref a, rfl, .int (0 + (i : Int)), rfl, a, ns, _, rfl, hS1, by omega, by omega, fun z => ⟨by show 1 ≤ sizeLine; decide, fun p hp => ?_⟩⟩
      have x2 := Ex.new (o := .lst [.int z]) hp
      have l2 : Pl p (upd H7 p (.lst [.int z])) := pl_upd
      have fp : H7 p = none := hp
      generalize upd H7 p (.lst [.int z]) = H8 at *
      refine g_name ?_
      dsimp only
      refine k_asg (P := fun H v => ∃ a b : Int, (a.natAbs ≤ 2 ^ 200 ∧ -800 ≤ b ∧ b ≤ 799 ∧ (a.natAbs < 2 ^ 30 ∧ -30 ≤ b ∧ b < 10)) ∧ Gn K H v (nrm a b) 2000) (evk_nof (S := fun z => -2 ^ 29 ≤ z ∧ z < 2 ^ 29) (T := fun z => -30 ≤ z ∧ z < 10) (R := fun a b => a.natAbs ≤ 2 ^ 200 ∧ -800 ≤ b ∧ b ≤ 799 ∧ (a.natAbs < 2 ^ 30 ∧ -30 ≤ b ∧ b < 10))
        (evi_op (S := fun z => 0 ≤ z ∧ z < 2 ^ 30) (T := fun z => z = 2 ^ 29) (evi_take (N := fun z => z = 2 ^ 30) rfl (evi_opC (S := fun z => z = 2) (T := fun z => z = 30) (evi_c rfl) (evi_c rfl) (fun a b ha hb => by subst ha hb; exact ⟨by decide, by decide, by decide⟩) (fun a b ha hb => by subst ha hb; decide +kernel)) (fun n hn => by subst hn; exact ⟨by decide, log_small (k := 30) (by decide) (Int.le_refl _) (by decide)⟩) (fun n z hn a b => by subst hn; exact ⟨a, b⟩))
          (evi_opC (S := fun z => z = 2) (T := fun z => z = 29) (evi_c rfl) (evi_c rfl) (fun a b ha hb => by subst ha hb; exact ⟨by decide, by decide, by decide⟩) (fun a b ha hb => by subst ha hb; decide +kernel)) (fun a b ha hb => by subst hb; omega))
        (evi_op (S := fun z => 0 ≤ z ∧ z < 40) (T := fun z => z = 30) (evi_take (N := fun z => z = 40) rfl (evi_c rfl) (fun n hn => by subst hn; exact ⟨by decide, by decide⟩) (fun n z hn a b => by subst hn; exact ⟨a, b⟩)) (evi_c rfl) (fun a b ha hb => by subst hb; omega))
        (fun a b ha hb => by
          have h200 : (2 : Nat) ^ 30 ≤ 2 ^ 200 := Nat.pow_le_pow_right (by decide) (by decide)
          have h1 : a.natAbs ≤ 2 ^ 200 := by omega
          exact ⟨⟨h1, by omega, by omega, by omega, hb.1, hb.2⟩, (draw_bd h1 (by omega) (by omega)).2.2⟩)) l2 fun v3 H9 k9 l9 ⟨na, nb, ⟨h200, hb1, hb2, hna, hnb⟩, gn⟩ => ?_
      obtain ⟨rn, rfl, tn⟩ := gn.at_
      have na1 := nrm_abs na nb
      have ne1 := nrm2_ge na nb
      have ne2 := nrm2_le (m := na) (e := nb) (k := 29) hna
      have p30 : (2 : Nat) ^ 30 < 2 ^ 300 := Nat.pow_lt_pow_right (by decide) (by decide)
      have hn1 : (nrm na nb).1.natAbs < 2 ^ 300 := by omega
      have hn2 : -30 ≤ (nrm na nb).2 ∧ (nrm na nb).2 ≤ 38 := by omega
      generalize hN : nrm na nb = N at *
      refine ⟨.ref p, rfl, p, rfl, l9, fun v m10 H10 k10 l10 g10 b10 c10 => ?_⟩
      have gn10 := gn_keepP gn l9 k10
      obtain ⟨rn', e', tn10⟩ := gn10.at_
      cases e'
      refine ⟨.ref rn, rfl, .ref rn, rfl, rn, [.int N.1, .int N.2], 0, .int N.1, rfl, rfl, tn10, rfl, .ref rn, rfl, rn, [.int N.1, .int N.2], 1, .int N.2, rfl, rfl, tn10, rfl, N.2, 20, rfl, rfl, by show 2 ≤ sizeLine; decide, fun t ht => ⟨by show 3 ≤ sizeLine; decide, fun L hL => ?_⟩⟩
      have y1 := Ex.new (o := .tup [.int N.1, .int (N.2 - 20)]) ht
      have hT : NumAt K (upd H10 t (.tup [.int N.1, .int (N.2 - 20)])) (.ref t) (N.1, N.2 - 20) := numAt_of upd_same
      generalize upd H10 t (.tup [.int N.1, .int (N.2 - 20)]) = H11 at *
      have y2 := Ex.new (o := .lst [v, .ref rn, .ref t]) hL
      have hLL : (upd H11 L (.lst [v, .ref rn, .ref t])) L = some (.lst [v, .ref rn, .ref t]) := upd_same
      generalize upd H11 L (.lst [v, .ref rn, .ref t]) = H12 at *
      have x12 := y1.trans y2
      have gn12 : P80 K H12 (.ref rn) := ⟨N.1, N.2, numAt_ex x12 gn10.at_, hn1, by omega⟩
      have LL : LpAt (P80 K) H12 (.ref L) 3 := ⟨L, _, rfl, hLL, rfl, fun u hu => by
        rcases List.mem_cons.mp hu with rfl | hu
        · exact ⟨_, _, numAt_ex x12 g10.at_, b10, c10⟩
        rcases List.mem_cons.mp hu with rfl | hu
        · exact gn12
        rcases List.mem_cons.mp hu with rfl | hu
        · exact ⟨_, _, numAt_ex y2 hT, hn1, by show (N.2 - 20).natAbs ≤ 1000; omega⟩
        · cases hu⟩
      have tn12 : SqT K H12 rn [.int N.1, .int N.2] := ex_t x12 tn10
      refine g_name ?_
      dsimp only
      refine q_asgLP (n := 3 + 2) (elp_cat (i := 4) p80_mono rfl LL (elp_lst p80_mono
        (eva_cons p80_mono (p80_lit (a := 0 - (if N.1 < 0 then -N.1 else N.1)) (b := N.2 + 30) (ev_op ev_c (ev_cb (ea_cons (ev_op (ev_var rfl) ev_c (rv_ixT tn12 rfl)) ea_nil) (fun H' x' Q' q' => ⟨N.1, rfl, q' H' (Ex.refl H')⟩)) rv_I0) (ev_op (ev_op (ev_var rfl) ev_c (rv_ixT tn12 rfl)) ev_c rv_I0) (by rw [abs_nat]; omega) (by omega))
        (eva_cons p80_mono (p80_lit (a := 0) (b := 0) ev_c ev_c (by decide +kernel) (by decide)) eva_nil)))) fun v4 H13 x13 hv4 => ?_
      have k813 : Keeps p H8 H13 := ((k9.trans k10).trans (keeps_ex x12)).trans (keeps_ex x13)
      refine s_forLA (i := 4) p80_mono rfl hv4 (fun σ' => ∃ t', σ' = [some (.ref a), some (.int (0 + (i : Int))), some (.ref p), some (.ref rn), some v4, t']) ⟨_, rfl⟩ (fun u σ' H14 x14 hs hu => ?_) (fun σ' H14 x14 hs => ?_)
      · obtain ⟨t', rfl⟩ := hs
        obtain ⟨ua, ub, ⟨ur, rfl, tu⟩, u1, u2⟩ := hu
        refine g_name ?_
        refine ⟨.ref ur, rfl, ur, [.int ua, .int ub], 0, .int ua, rfl, rfl, tu, rfl, ua, 2, rfl, rfl, by show (0 : Int) < 2; decide, rfl, _, rfl, ite2 (fun z => ?_) (fun _ => iteF ⟨⟨_, rfl⟩, x14⟩)⟩
        have z : ua % 2 = 1 := V.int.inj (of_decide_eq_true z)
        have un : isNumB ua ub = true := by
          unfold isNumB
          rw [decide_eq_true z]
          rfl
        exact ⟨.ref ur, rfl, .ref ur, (ua, ub), rfl, ⟨⟨ur, rfl, tu⟩, un, lit_bd u1 u2⟩, u1, u2, fun H15 x15 => ⟨true, rfl, iteF ⟨⟨_, rfl⟩, x14.trans x15⟩⟩⟩
      · obtain ⟨t', rfl⟩ := hs
        have k814 := k813.trans (keeps_ex x14)
        have x7 : Ex H7 H14 := fun b o hb => k814 b o (x2 b o hb) (ne_of_none hb fp)
        exact ⟨ex_l x7 hS1, _, _, _, _, _, rfl⟩
    · obtain ⟨hS1, t1, t2, t3, t4, t5, rfl⟩ := hp
      exact o_ret ((ev_andV (ev_gd ev_c ev_c (by decide) ⟨by decide +kernel, by decide⟩ (by decide +kernel) (by decide)) (fun _ => ev_andV (ev_gd ev_c ng (by decide) ⟨by decide +kernel, by decide⟩ (by decide +kernel) (by decide)) (fun _ => ev_andV (ev_gd ng ev_c (by decide) ⟨by decide +kernel, by decide⟩ (by decide +kernel) (by decide)) (fun _ => ev_gd (ev_op (ev_op ev_c ev_c (rv_I (shl_ok (i := 1) (n := 1) (j := 200) (by decide) (by decide)))) ev_c rv_I0) ng (by decide +kernel) ⟨by decide +kernel, by decide⟩ (by decide +kernel) (by decide))))) H7 (Ex.refl H7) _ fun H8 x8 => q H8)
end
/-! ### the head -/
abbrev dP (x : Str) (s : Stmt) (ds : List He.Dv) : He.DefD := ⟨(x, none), x, x, defArgs s, defBody s, defScope s, ds, []⟩
abbrev dK (x : Str) (s : Stmt) (ds : List He.Dv) (kw : List (Str × He.Dv)) : He.DefD := ⟨(x, none), x, x, defArgs s, defBody s, defScope s, ds, kw⟩
abbrev dM (c m x : Str) (s : Stmt) : He.DefD := ⟨(c, some m), m, x, defArgs s, defBody s, defScope s, [], []⟩
def fn : List He.DefD := [dP "is_number" s_is_number [], dP "need_number" s_need_number [], dP "lowered" s_lowered [], dP "power_of" s_power_of [], dP "figures_of" s_figures_of [], dP "whole_text" s_whole_text [], dP "number_text" s_number_text [], dP "is_figures" s_is_figures [], dP "is_size" s_is_size [], dP "size_from" s_size_from [], dP "whole_of" s_whole_of [], dP "read_number" s_read_number [], dP "decimal_text" s_decimal_text [], dP "read_decimal" s_read_decimal [], dP "_law_fives" s_law_fives [], dP "_law_mixed" s_law_mixed [], dP "_law_cell" s_law_cell [], dP "_law_take" s_law_take [], dP "_law_odd" s_law_odd [], dP "_law_decimal" s_law_decimal [], dP "_law_number" s_law_number [], dP "_law_good" s_law_good [], dP "law" s_law []]
def fa : List He.Fa := [.glo "is_number", .glo "need_number", .glo "lowered", .glo "power_of", .glo "figures_of", .glo "whole_text", .glo "number_text", .glo "is_figures", .glo "is_size", .glo "size_from", .glo "whole_of", .glo "read_number", .glo "decimal_text", .glo "read_decimal", .glo "_law_fives", .glo "_law_mixed", .glo "_law_cell", .glo "_law_take", .glo "_law_odd", .glo "_law_decimal", .glo "_law_number", .glo "_law_good", .glo "law", .free "isinstance", .free "len", .free "range", .free "int", .free "bool", .free "tuple", .free "str", .free "min", .free "max", .free "abs", .free "all", .free "divmod", .int "PART" 60, .int "TEN_TO_PART" (10 ^ 60), .int "MOST_SIGNS" 300]
def ex (K : PySem.W.Frag) : Bool := (noDigB K && true)
abbrev R : PySem.W.OpenRow := PySem.W.OpenLaw.row PySem.Challenge.rw_oncenear_k80_texts_of_numbers
abbrev hk : PySem.W.Hook := hookY 5 fa fn [] ex
def ob (s : PySem.W.SharedT) : He.AlX := obsY 5 fa fn [] ex (HandSHeadRun.getT s)
theorem ob_eq (s : PySem.W.SharedT) : ob s = hk.obs s.abs := obsY_eq (HandSHeadRun.getT_eq s)
set_option maxHeartbeats 0 in
theorem run (w : World) : HandSHeadRun.RunEq R (PySem.W.view R.prog [33]) hk ob 4000 ((["NoNumber", "NoText", "power_of", "is_number", "need_number", "lowered", "number_text", "read_number", "decimal_text", "read_decimal", "whole_text", "whole_of", "is_figures", "is_size", "size_from", "figures_of", "_law_fives", "_law_mixed", "_law_cell", "_law_take"] : List PySem.Str) ++ (["_law_odd", "_law_number", "_law_decimal", "_law_good", "NUMBER_NEEDED", "MOST_SIGNS", "PART", "TEN_TO_PART"] : List PySem.Str)) w := by
  intro os
  kernel_rfl
theorem facts {P : Program} {w : World} {K : PySem.W.Frag} {h : Heap} {mg : Str → Option Value} {f : Addr} (X : K.In h) (G : h.Ns mainGlobals mg) (hfa : mg ("law" : Str) = some (.ref f)) (c : He.SaysX fa fn [] [] ex w h K) :
    ∃ fd : FuncData, (∀ (s : Shared) (v : Value), BindsTo s fd ⟨[v], []⟩ [("_law_script", v)]) ∧ ∀ base : Heap, K.In base → base.Ns mainGlobals mg → FnOk P w K mg base CX0 6 f fd ["_law_script"] (spLaw K) := by
  have cd := c.t.d
  have cm := c.more
  have T : Top mg := ⟨He.free_ok X G (cd.fact 23 (f := .free "isinstance") rfl), He.free_ok X G (cd.fact 24 (f := .free "len") rfl), He.free_ok X G (cd.fact 25 (f := .free "range") rfl), He.free_ok X G (cd.fact 26 (f := .free "int") rfl), He.free_ok X G (cd.fact 27 (f := .free "bool") rfl), He.free_ok X G (cd.fact 28 (f := .free "tuple") rfl), He.free_ok X G (cd.fact 29 (f := .free "str") rfl), He.free_ok X G (cd.fact 30 (f := .free "min") rfl), He.free_ok X G (cd.fact 31 (f := .free "max") rfl), He.free_ok X G (cd.fact 32 (f := .free "abs") rfl), He.free_ok X G (cd.fact 33 (f := .free "all") rfl)⟩
  unfold ex at cm
  obtain ⟨m0, cm⟩ := He.ba cm
  obtain ⟨fd0, F0⟩ := cd.def_ 0 (d := dP "is_number" s_is_number []) rfl
  obtain ⟨fd1, F1⟩ := cd.def_ 1 (d := dP "need_number" s_need_number []) rfl
  obtain ⟨fd2, F2⟩ := cd.def_ 2 (d := dP "lowered" s_lowered []) rfl
  obtain ⟨fd3, F3⟩ := cd.def_ 3 (d := dP "power_of" s_power_of []) rfl
  obtain ⟨fd4, F4⟩ := cd.def_ 4 (d := dP "figures_of" s_figures_of []) rfl
  obtain ⟨fd5, F5⟩ := cd.def_ 5 (d := dP "whole_text" s_whole_text []) rfl
  obtain ⟨fd6, F6⟩ := cd.def_ 6 (d := dP "number_text" s_number_text []) rfl
  obtain ⟨fd7, F7⟩ := cd.def_ 7 (d := dP "is_figures" s_is_figures []) rfl
  obtain ⟨fd8, F8⟩ := cd.def_ 8 (d := dP "is_size" s_is_size []) rfl
  obtain ⟨fd9, F9⟩ := cd.def_ 9 (d := dP "size_from" s_size_from []) rfl
  obtain ⟨fd10, F10⟩ := cd.def_ 10 (d := dP "whole_of" s_whole_of []) rfl
  obtain ⟨fd11, F11⟩ := cd.def_ 11 (d := dP "read_number" s_read_number []) rfl
  obtain ⟨fd12, F12⟩ := cd.def_ 12 (d := dP "decimal_text" s_decimal_text []) rfl
  obtain ⟨fd13, F13⟩ := cd.def_ 13 (d := dP "read_decimal" s_read_decimal []) rfl
  obtain ⟨fd14, F14⟩ := cd.def_ 14 (d := dP "_law_fives" s_law_fives []) rfl
  obtain ⟨fd15, F15⟩ := cd.def_ 15 (d := dP "_law_mixed" s_law_mixed []) rfl
  obtain ⟨fd16, F16⟩ := cd.def_ 16 (d := dP "_law_cell" s_law_cell []) rfl
  obtain ⟨fd17, F17⟩ := cd.def_ 17 (d := dP "_law_take" s_law_take []) rfl
  obtain ⟨fd18, F18⟩ := cd.def_ 18 (d := dP "_law_odd" s_law_odd []) rfl
  obtain ⟨fd19, F19⟩ := cd.def_ 19 (d := dP "_law_decimal" s_law_decimal []) rfl
  obtain ⟨fd20, F20⟩ := cd.def_ 20 (d := dP "_law_number" s_law_number []) rfl
  obtain ⟨fd21, F21⟩ := cd.def_ 21 (d := dP "_law_good" s_law_good []) rfl
  obtain ⟨fd22, F22⟩ := cd.def_ 22 (d := dP "law" s_law []) rfl
  have e := hfa.symm.trans (He.glo_ok X G (cd.fact 22 (f := .glo "law") rfl))
  cases e
  have b := FunD.bindsA (ps := ["_law_script"]) F22 fun _ _ _ _ _ _ us hl => match us, hl with | [_], _ => rfl
  have nd := noDigB_ok m0
  have T_divmod := He.free_ok X G (cd.fact 34 (f := .free "divmod") rfl)
  obtain ⟨tP, m_PART⟩ := He.int_ok X G (cd.fact 35 (f := .int "PART" 60) rfl)
  obtain ⟨tT, m_TEN⟩ := He.int_ok X G (cd.fact 36 (f := .int "TEN_TO_PART" (10 ^ 60)) rfl)
  obtain ⟨tM, m_SIGNS⟩ := He.int_ok X G (cd.fact 37 (f := .int "MOST_SIGNS" 300) rfl)
  have kb_number_text := kb_plain (ps := ["number"]) F6 ["number"] (fun zs => zs) (fun r => r) (fun _ _ _ _ _ _ ws hl => match ws, hl with | [_], _ => rfl)
  have kb_read_number := kb_plain (ps := ["text"]) F11 ["text"] (fun zs => zs) (fun r => r) (fun _ _ _ _ _ _ ws hl => match ws, hl with | [_], _ => rfl)
  have kb_decimal_text := kb_plain (ps := ["number"]) F12 ["number"] (fun zs => zs) (fun r => r) (fun _ _ _ _ _ _ ws hl => match ws, hl with | [_], _ => rfl)
  have kb_read_decimal := kb_plain (ps := ["text"]) F13 ["text"] (fun zs => zs) (fun r => r) (fun _ _ _ _ _ _ ws hl => match ws, hl with | [_], _ => rfl)
  refine ⟨fd22, fun s v => b s [v] rfl, fun base _ _ => ?_⟩
  have c0 : Cal P w K mg base CX0 1 "is_number" ["thing"] (spNum K) _ fd0 := ⟨ok_is_number T F0, He.glo_ok X G (cd.fact 0 (f := .glo "is_number") rfl), F0.kp, F0.bindsN fun _ _ _ _ _ _ us hl => match us, hl with | [_], _ => rfl⟩
  have c1 : Cal P w K mg base CX0 2 "need_number" ["thing"] (spNeed K) _ fd1 := ⟨ok_need_number T F1 c0, He.glo_ok X G (cd.fact 1 (f := .glo "need_number") rfl), F1.kp, F1.bindsN fun _ _ _ _ _ _ us hl => match us, hl with | [_], _ => rfl⟩
  have c2 : Cal P w K mg base CX0 1 "lowered" ["m", "e"] spNof _ fd2 := ⟨ok_lowered T F2, He.glo_ok X G (cd.fact 2 (f := .glo "lowered") rfl), F2.kp, F2.bindsN fun _ _ _ _ _ _ us hl => match us, hl with | [_, _], _ => rfl⟩
  have c3 : Cal P w K mg base CX0 1 "power_of" ["base", "k"] spPow _ fd3 := ⟨ok_power_of T F3, He.glo_ok X G (cd.fact 3 (f := .glo "power_of") rfl), F3.kp, F3.bindsN fun _ _ _ _ _ _ us hl => match us, hl with | [_, _], _ => rfl⟩
  have c4 : Cal P w K mg base CX0 1 "figures_of" ["size"] spFigs _ fd4 := ⟨ok_figures_of T T_divmod m_PART m_TEN F4, He.glo_ok X G (cd.fact 4 (f := .glo "figures_of") rfl), F4.kp, F4.bindsN fun _ _ _ _ _ _ us hl => match us, hl with | [_], _ => rfl⟩
  have c5 : Cal P w K mg base CX0 2 "whole_text" ["whole"] spWt _ fd5 := ⟨ok_whole_text T F5 c4, He.glo_ok X G (cd.fact 5 (f := .glo "whole_text") rfl), F5.kp, F5.bindsN fun _ _ _ _ _ _ us hl => match us, hl with | [_], _ => rfl⟩
  have c6 : Cal P w K mg base CX0 3 "number_text" ["number"] (spNt K) _ fd6 := ⟨ok_number_text T F6 c1 c5, He.glo_ok X G (cd.fact 6 (f := .glo "number_text") rfl), F6.kp, F6.bindsN fun _ _ _ _ _ _ us hl => match us, hl with | [_], _ => rfl⟩
  have c7 : Cal P w K mg base CX0 1 "is_figures" ["text"] spIsF _ fd7 := ⟨ok_is_figures T F7, He.glo_ok X G (cd.fact 7 (f := .glo "is_figures") rfl), F7.kp, F7.bindsN fun _ _ _ _ _ _ us hl => match us, hl with | [_], _ => rfl⟩
  have c8 : Cal P w K mg base CX0 2 "is_size" ["text"] spIsS _ fd8 := ⟨ok_is_size T F8 c7, He.glo_ok X G (cd.fact 8 (f := .glo "is_size") rfl), F8.kp, F8.bindsN fun _ _ _ _ _ _ us hl => match us, hl with | [_], _ => rfl⟩
  have c9 : Cal P w K mg base CX0 1 "size_from" ["figures"] spSf _ fd9 := ⟨ok_size_from T m_PART m_TEN F9, He.glo_ok X G (cd.fact 9 (f := .glo "size_from") rfl), F9.kp, F9.bindsN fun _ _ _ _ _ _ us hl => match us, hl with | [_], _ => rfl⟩
  have c10 : Cal P w K mg base CX0 3 "whole_of" ["text"] spWo _ fd10 := ⟨ok_whole_of T F10 c8 c9, He.glo_ok X G (cd.fact 10 (f := .glo "whole_of") rfl), F10.kp, F10.bindsN fun _ _ _ _ _ _ us hl => match us, hl with | [_], _ => rfl⟩
  have c11 : Cal P w K mg base CX0 4 "read_number" ["text"] spRn _ fd11 := ⟨ok_read_number T F11 c10 c0, He.glo_ok X G (cd.fact 11 (f := .glo "read_number") rfl), F11.kp, F11.bindsN fun _ _ _ _ _ _ us hl => match us, hl with | [_], _ => rfl⟩
  have c12 : Cal P w K mg base CX0 3 "decimal_text" ["number"] (spDt K) _ fd12 := ⟨ok_decimal_text T F12 c1 c4 c3, He.glo_ok X G (cd.fact 12 (f := .glo "decimal_text") rfl), F12.kp, F12.bindsN fun _ _ _ _ _ _ us hl => match us, hl with | [_], _ => rfl⟩
  have c13 : Cal P w K mg base CX0 3 "read_decimal" ["text"] spRd _ fd13 := ⟨ok_read_decimal T m_SIGNS F13 c8 c7 c9 c3 c2, He.glo_ok X G (cd.fact 13 (f := .glo "read_decimal") rfl), F13.kp, F13.bindsN fun _ _ _ _ _ _ us hl => match us, hl with | [_], _ => rfl⟩
  have c14 : Cal P w K mg base CX0 1 "_law_fives" ["_law_k"] spFv _ fd14 := ⟨ok_law_fives T F14, He.glo_ok X G (cd.fact 14 (f := .glo "_law_fives") rfl), F14.kp, F14.bindsN fun _ _ _ _ _ _ us hl => match us, hl with | [_], _ => rfl⟩
  have c15 : Cal P w K mg base CX0 1 "_law_mixed" ["_law_cell_here", "_law_k"] spMix _ fd15 := ⟨ok_law_mixed T F15, He.glo_ok X G (cd.fact 15 (f := .glo "_law_mixed") rfl), F15.kp, F15.bindsN fun _ _ _ _ _ _ us hl => match us, hl with | [_, _], _ => rfl⟩
  have c16 : Cal P w K mg base CX0 2 "_law_cell" ["_law_script", "_law_k"] (spCel K) _ fd16 := ⟨ok_law_cell T F16 c15, He.glo_ok X G (cd.fact 16 (f := .glo "_law_cell") rfl), F16.kp, F16.bindsN fun _ _ _ _ _ _ us hl => match us, hl with | [_, _], _ => rfl⟩
  have c17 : Cal P w K mg base CX0 1 "_law_take" ["_law_pile", "_law_size"] spTake _ fd17 := ⟨ok_law_take T F17, He.glo_ok X G (cd.fact 17 (f := .glo "_law_take") rfl), F17.kp, F17.bindsN fun _ _ _ _ _ _ us hl => match us, hl with | [_, _], _ => rfl⟩
  have c18 : Cal P w K mg base CX0 1 "_law_odd" ["_law_m", "_law_e"] spNof _ fd18 := ⟨ok_law_odd T F18, He.glo_ok X G (cd.fact 18 (f := .glo "_law_odd") rfl), F18.kp, F18.bindsN fun _ _ _ _ _ _ us hl => match us, hl with | [_, _], _ => rfl⟩
  have c19 : Cal P w K mg base CX0 2 "_law_decimal" ["_law_value"] (spLd K) _ fd19 := ⟨ok_law_decimal T nd F19 c14, He.glo_ok X G (cd.fact 19 (f := .glo "_law_decimal") rfl), F19.kp, F19.bindsN fun _ _ _ _ _ _ us hl => match us, hl with | [_], _ => rfl⟩
  have c20 : Cal P w K mg base CX0 2 "_law_number" ["_law_pile"] (spLn K) _ fd20 := ⟨ok_law_number T F20 c17 c18, He.glo_ok X G (cd.fact 20 (f := .glo "_law_number") rfl), F20.kp, F20.bindsN fun _ _ _ _ _ _ us hl => match us, hl with | [_], _ => rfl⟩
  have c21 : Cal P w K mg base CX0 5 "_law_good" ["_law_value"] (spGood80 K) _ fd21 := ⟨ok_law_good T F21 c6 c11 c19 c12 c13 kb_number_text kb_read_number kb_decimal_text kb_read_decimal, He.glo_ok X G (cd.fact 21 (f := .glo "_law_good") rfl), F21.kp, F21.bindsN fun _ _ _ _ _ _ us hl => match us, hl with | [_], _ => rfl⟩
  exact ok_law T F22 c16 c6 c12 c13 c17 c18 c20 c21
end Onc
open PySem PySem.W PySem.Calls PyProof.Rows
set_option maxRecDepth 100000 in
set_option maxHeartbeats 0 in
theorem PySem.Challenge.cw_oncenear_k80_texts_of_numbers_holds : PySem.Challenge.rw_oncenear_k80_texts_of_numbers.Holds := by
  w_on; o_law
  refine HandSHeadRun.head_any (r := OpenLaw.row PySem.Challenge.rw_oncenear_k80_texts_of_numbers) (q := view (OpenLaw.row PySem.Challenge.rw_oncenear_k80_texts_of_numbers).prog [33]) (H := Onc.hk) (ob := Onc.ob) (M := 4000) (loose := ((["NoNumber", "NoText", "power_of", "is_number", "need_number", "lowered", "number_text", "read_number", "decimal_text", "read_decimal", "whole_text", "whole_of", "is_figures", "is_size", "size_from", "figures_of", "_law_fives", "_law_mixed", "_law_cell", "_law_take"] : List PySem.Str) ++ (["_law_odd", "_law_number", "_law_decimal", "_law_good", "NUMBER_NEEDED", "MOST_SIGNS", "PART", "TEN_TO_PART"] : List PySem.Str))) (d := HandSHeadRun.topDef (OpenLaw.row PySem.Challenge.rw_oncenear_k80_texts_of_numbers).prog 33) (kwd := []) Onc.ob_eq
    (by kernel_rfl) (fun s => by kernel_rfl) Onc.run (by kernel_rfl) (by kernel_rfl) (by kernel_rfl) (by rfl) (by first | assumption | decide +kernel) (by decide +kernel) ⟨rfl, rfl, rfl, rfl, rfl, by decide +kernel⟩ ?hw ?hc
  case hw => w_witness2
  case hc =>
    refine L2.walk_ofE (l := PySem.Challenge.rw_oncenear_k80_texts_of_numbers) (n := 63) (k := 6) (x := "_law_script") (CX := L2.CX0) rfl (by decide) (by kernel_rfl) ⟨rfl, by decide, by decide⟩ ?F (fun _ _ _ _ z => z)
    intro w mg fa h Y G hmg0
    obtain ⟨K, KX, c⟩ := Y
    have hmg : mg ("law" : PySem.Str) = some (.ref fa) := by
      have e : (HandSHeadRun.topDef (OpenLaw.row PySem.Challenge.rw_oncenear_k80_texts_of_numbers).prog 33).name = ("law" : PySem.Str) := by kernel_rfl
      rw [← e]
      exact hmg0
    obtain ⟨fd, hb, hF⟩ := Onc.facts (P := (PySem.Challenge.rw_oncenear_k80_texts_of_numbers).prog) (w := w) KX G hmg c
    exact ⟨K, fd, Onc.spLaw K, KX, hb, fun H a ns hl _ hS => ⟨a, ns, rfl, hS, fun _ => rfl⟩, hF⟩
